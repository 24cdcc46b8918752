import PyProof.Rows.All
import HandS.ForMost
import HandS.ForExc
import HandS.ExcInit
import HandS.Rev
import HandS.EndBits
import Wide.All
import OpenK.AllK
import Wide.FinOn
import HandS.Head0
import HandS.Head1
import HandS.Head2
import HandS.HeadEnd
import HandS.HeadHook1
import HandS.HeadHook2
import PyProof.ReprRoads
import PyProof.ReprLen
import PyProof.Rows.SeqMore
import HandS.Iter
import HandS.Text
import HandS.TupMul
import HandS.Conv
import HandS.Style
import HandS.SetBool
import HandS.More
import HandS.Strs
import HandS.Comp
import HandS.TupAny
import HandS.Deep
import PyProof.Rows.BitMore
import HandS.Zip
import HandS.SortInts
import HandS.IsInst
import HandS.Small
import KE.SortUse
import HandS.SortKw
import HandS.SortOrd
import HandS.Sort
import HandS.Property
import HandS.MakeKw
import KE.KOpsOwn
import KE.KFmtOwn
import KE.KOwn
import KE.KAnyBase
import KE.KCallOwn
import HandS.OwnEq
import PyProof.InstNe
import PyProof.Conv_bool
import PyProof.CallType
import HandS.ClsMeth
import HandS.List
import HandS.FStr
import PyProof.SumWalkG
import HandS.SetFor
import OpenK.KOwn
import HandS.Defaults
import KE.GoesMore
import KE.KExcIs
import HandS.ExcField
import PyProof.ExcBaseAll.LookupError
import HandS.ExcValue
import HandS.ExcOwn
import HandS.WordsExc
import HandS.CallSlots
import HandS.TryMany
import HandS.Star
import HandS.Steps
import KE.KTupSum
import HandS.ExcIs
import PySem.Challenge.RW_nestprops_k19_whole_the_rest_is_the_grea
import HandS.WideBits
import HandS.GenList
import HandS.Dict
import HandS.MakeKwOnly
import KE.GoesZip
import KE.GoesEnum
import KE.SortData
import KE.DatumOrd
import PyProof.Rows.StrSplitJoin
import PyProof.Claim2
import PyProof.StrLawsRepr
set_option Elab.async false
set_option linter.all false
set_option maxRecDepth 100000
set_option autoImplicit false
/-! Dw1: data over the hand layer: values as trees, what represents them, frames, states of slots. -/
namespace Dw
open PySem PySem.Spec PyProof.Rows L2

/-- a value as a tree -/
inductive D where
  | non
  | bl (b : Bool)
  | int (i : Int)
  | str (s : Str)
  | ref (a : Addr)
  | lst (xs : List D)
  | tup (xs : List D)
  | ins (C : Addr) (ns : List Str) (ds : List D)
  | exc (C : Addr) (ns : List Str) (ds : List D)

abbrev No := Addr → Prop
/-- the read part alone -/
def H00 : Hp := fun _ => none
def LAt (K : PySem.W.Frag) (N : No) (H : Hp) (a : Addr) (vs : List V) : Prop := (¬ N a ∧ Rd H a (.lst vs)) ∨ SqL K H00 a vs
def TAt (K : PySem.W.Frag) (N : No) (H : Hp) (a : Addr) (vs : List V) : Prop := (¬ N a ∧ Rd H a (.tup vs)) ∨ SqT K H00 a vs
theorem no_rd {a : Addr} {u : HO} : ¬ Rd H00 a u := by
  rintro (h | ⟨o, h⟩)
  · exact nomatch h
  · exact nomatch h
theorem sqL_up {K : PySem.W.Frag} {H : Hp} {a : Addr} {vs : List V} (h : SqL K H00 a vs) : SqL K H a vs := by
  rcases h with h | h
  · exact (no_rd h).elim
  · exact .inr h
theorem sqT_up {K : PySem.W.Frag} {H : Hp} {a : Addr} {vs : List V} (h : SqT K H00 a vs) : SqT K H a vs := by
  rcases h with h | h
  · exact (no_rd h).elim
  · exact .inr h
theorem LAt.sq {K : PySem.W.Frag} {N : No} {H : Hp} {a : Addr} {vs : List V} (h : LAt K N H a vs) : SqL K H a vs := by
  rcases h with h | h
  · exact .inl h.2
  · exact sqL_up h
theorem TAt.sq {K : PySem.W.Frag} {N : No} {H : Hp} {a : Addr} {vs : List V} (h : TAt K N H a vs) : SqT K H a vs := by
  rcases h with h | h
  · exact .inl h.2
  · exact sqT_up h
/-- what stands outside of N stays -/
def Sm (N : No) (H H' : Hp) : Prop := ∀ a o, ¬ N a → H a = some o → H' a = some o
theorem Sm.refl {N : No} {H : Hp} : Sm N H H := fun _ _ _ h => h
theorem Sm.trans {N : No} {H H1 H2 : Hp} (a : Sm N H H1) (b : Sm N H1 H2) : Sm N H H2 := fun x o n h => b x o n (a x o n h)
theorem Sm.wide {N M : No} {H H1 : Hp} (a : Sm N H H1) (h : ∀ x, N x → M x) : Sm M H H1 := fun x o n e => a x o (fun z => n (h x z)) e
theorem Sm.new {N : No} {H : Hp} {p : Addr} {o : HO} (h : H p = none) : Sm N H (upd H p o) := fun a u _ e => by
  rw [upd_ne (ne_of_none e h)]
  exact e
theorem Sm.rd {N : No} {H H' : Hp} {a : Addr} {u : HO} (e : Sm N H H') (n : ¬ N a) (h : Rd H a u) : Rd H' a u := by
  rcases h with h | ⟨o, h⟩
  · exact .inl (e a _ n h)
  · exact .inr ⟨o, e a _ n h⟩
theorem LAt.mono {K : PySem.W.Frag} {N : No} {H H' : Hp} {a : Addr} {vs : List V} (e : Sm N H H') (h : LAt K N H a vs) : LAt K N H' a vs := by
  rcases h with ⟨n, h⟩ | h
  · exact .inl ⟨n, e.rd n h⟩
  · exact .inr h
theorem TAt.mono {K : PySem.W.Frag} {N : No} {H H' : Hp} {a : Addr} {vs : List V} (e : Sm N H H') (h : TAt K N H a vs) : TAt K N H' a vs := by
  rcases h with ⟨n, h⟩ | h
  · exact .inl ⟨n, e.rd n h⟩
  · exact .inr h
theorem rd_tracked {H : Hp} {a p : Addr} {u : HO} (h : Rd H a u) (n : H p = none) : a ≠ p := by
  rcases h with h | ⟨o, h⟩
  · exact ne_of_none h n
  · exact ne_of_none h n

mutual
/-- the value v stands for the tree, by objects outside of N -/
def Rep (K : PySem.W.Frag) (N : No) (H : Hp) : D → V → Prop
  | .non, v => v = .non
  | .bl b, v => v = .bl b
  | .int i, v => v = .int i
  | .str s, v => v = .str s
  | .ref a, v => v = .ref a
  | .lst ds, v => ∃ a vs, v = .ref a ∧ LAt K N H a vs ∧ RepL K N H ds vs
  | .tup ds, v => ∃ a vs, v = .ref a ∧ TAt K N H a vs ∧ RepL K N H ds vs
  | .ins C ns ds, v => ∃ a dx vs, v = .ref a ∧ ¬ N a ∧ ¬ N dx ∧ H a = some (.ins C dx (ns.zip vs)) ∧ H dx = some (.own a) ∧ ns.length = ds.length ∧ RepL K N H ds vs
  | .exc C ns ds, v => ∃ a o vs, v = .ref a ∧ ¬ N a ∧ H a = some (exo a C o) ∧ ((o = none ∧ ns = []) ∨ ∃ dx, o = some dx ∧ ¬ N dx ∧ H dx = some (exd dx (ns.zip vs))) ∧ ns.length = ds.length ∧ RepL K N H ds vs
def RepL (K : PySem.W.Frag) (N : No) (H : Hp) : List D → List V → Prop
  | [], vs => vs = []
  | d :: ds, vs => ∃ v r, vs = v :: r ∧ Rep K N H d v ∧ RepL K N H ds r
end

mutual
theorem Rep.mono {K : PySem.W.Frag} {N : No} {H H' : Hp} (e : Sm N H H') : ∀ {d : D} {v : V}, Rep K N H d v → Rep K N H' d v
  | .non, _, h => h
  | .bl _, _, h => h
  | .int _, _, h => h
  | .str _, _, h => h
  | .ref _, _, h => h
  | .lst ds, v, h => by
    obtain ⟨a, vs, e1, h1, h2⟩ := h
    exact ⟨a, vs, e1, h1.mono e, RepL.mono e h2⟩
  | .tup ds, v, h => by
    obtain ⟨a, vs, e1, h1, h2⟩ := h
    exact ⟨a, vs, e1, h1.mono e, RepL.mono e h2⟩
  | .ins C ns ds, v, h => by
    obtain ⟨a, dx, vs, e1, n1, n2, h1, h2, hl, h3⟩ := h
    exact ⟨a, dx, vs, e1, n1, n2, e a _ n1 h1, e dx _ n2 h2, hl, RepL.mono e h3⟩
  | .exc C ns ds, v, h => by
    obtain ⟨a, o, vs, e1, n1, h1, h2, hl, h3⟩ := h
    exact ⟨a, o, vs, e1, n1, e a _ n1 h1, h2.imp id (fun ⟨dx, e2, n2, q⟩ => ⟨dx, e2, n2, e dx _ n2 q⟩), hl, RepL.mono e h3⟩
theorem RepL.mono {K : PySem.W.Frag} {N : No} {H H' : Hp} (e : Sm N H H') : ∀ {ds : List D} {vs : List V}, RepL K N H ds vs → RepL K N H' ds vs
  | [], _, h => h
  | d :: ds, vs, h => by
    obtain ⟨v, r, e1, h1, h2⟩ := h
    exact ⟨v, r, e1, Rep.mono e h1, RepL.mono e h2⟩
end
theorem LAt.gen {K : PySem.W.Frag} {N M : No} {H : Hp} {a : Addr} {vs : List V} (e : ∀ a, M a → N a ∨ H a = none) (h : LAt K N H a vs) : LAt K M H a vs := by
  rcases h with ⟨n, h⟩ | h
  · exact .inl ⟨fun q => (e a q).elim n fun z => rd_tracked h z rfl, h⟩
  · exact .inr h
theorem TAt.gen {K : PySem.W.Frag} {N M : No} {H : Hp} {a : Addr} {vs : List V} (e : ∀ a, M a → N a ∨ H a = none) (h : TAt K N H a vs) : TAt K M H a vs := by
  rcases h with ⟨n, h⟩ | h
  · exact .inl ⟨fun q => (e a q).elim n fun z => rd_tracked h z rfl, h⟩
  · exact .inr h
mutual
/-- another set is forbidden: of the first one, or where nothing stands -/
theorem Rep.gen {K : PySem.W.Frag} {N M : No} {H : Hp} (e : ∀ a, M a → N a ∨ H a = none) : ∀ {d : D} {v : V}, Rep K N H d v → Rep K M H d v
  | .non, _, h => h
  | .bl _, _, h => h
  | .int _, _, h => h
  | .str _, _, h => h
  | .ref _, _, h => h
  | .lst ds, v, h => by
    obtain ⟨a, vs, e1, h1, h2⟩ := h
    exact ⟨a, vs, e1, h1.gen e, RepL.gen e h2⟩
  | .tup ds, v, h => by
    obtain ⟨a, vs, e1, h1, h2⟩ := h
    exact ⟨a, vs, e1, h1.gen e, RepL.gen e h2⟩
  | .ins C ns ds, v, h => by
    obtain ⟨a, dx, vs, e1, n1, n2, h1, h2, hl, h3⟩ := h
    refine ⟨a, dx, vs, e1, fun z => (e a z).elim n1 fun q => ?_, fun z => (e dx z).elim n2 fun q => ?_, h1, h2, hl, RepL.gen e h3⟩
    · rw [h1] at q
      cases q
    · rw [h2] at q
      cases q
  | .exc C ns ds, v, h => by
    obtain ⟨a, o, vs, e1, n1, h1, h2, hl, h3⟩ := h
    refine ⟨a, o, vs, e1, fun z => (e a z).elim n1 fun q => ?_, h1, h2.imp id (fun ⟨dx, e2, n2, q⟩ => ⟨dx, e2, fun z => (e dx z).elim n2 fun y => ?_, q⟩), hl, RepL.gen e h3⟩
    · rw [h1] at q
      cases q
    · rw [q] at y
      cases y
theorem RepL.gen {K : PySem.W.Frag} {N M : No} {H : Hp} (e : ∀ a, M a → N a ∨ H a = none) : ∀ {ds : List D} {vs : List V}, RepL K N H ds vs → RepL K M H ds vs
  | [], _, h => h
  | d :: ds, vs, h => by
    obtain ⟨v, r, e1, h1, h2⟩ := h
    exact ⟨v, r, e1, Rep.gen e h1, RepL.gen e h2⟩
end
theorem Rep.less {K : PySem.W.Frag} {N M : No} {H : Hp} {d : D} {v : V} (e : ∀ a, M a → N a) (h : Rep K N H d v) : Rep K M H d v := h.gen fun a q => .inl (e a q)
theorem RepL.less {K : PySem.W.Frag} {N M : No} {H : Hp} {d : List D} {v : List V} (e : ∀ a, M a → N a) (h : RepL K N H d v) : RepL K M H d v := h.gen fun a q => .inl (e a q)
/-- N and one more -/
def plus (N : No) (p : Addr) : No := fun a => N a ∨ a = p
theorem Rep.more {K : PySem.W.Frag} {N : No} {H : Hp} {p : Addr} {d : D} {v : V} (n : H p = none) (h : Rep K N H d v) : Rep K (plus N p) H d v := h.gen fun a q => q.imp id fun z => by rw [z]; exact n
theorem RepL.more {K : PySem.W.Frag} {N : No} {H : Hp} {p : Addr} {d : List D} {v : List V} (n : H p = none) (h : RepL K N H d v) : RepL K (plus N p) H d v := h.gen fun a q => q.imp id fun z => by rw [z]; exact n

section
variable {K : PySem.W.Frag} {N : No} {H : Hp}
theorem RepL.length : ∀ {ds : List D} {vs : List V}, RepL K N H ds vs → ds.length = vs.length
  | [], _, h => by
    have e : _ = [] := h
    rw [e]
    rfl
  | d :: ds, vs, h => by
    obtain ⟨v, r, e1, h1, h2⟩ := h
    rw [e1, List.length_cons, List.length_cons, RepL.length h2]
theorem RepL.nil : RepL K N H [] [] := rfl
theorem RepL.cons {d : D} {ds : List D} {v : V} {vs : List V} (h : Rep K N H d v) (t : RepL K N H ds vs) : RepL K N H (d :: ds) (v :: vs) := ⟨v, vs, rfl, h, t⟩
theorem RepL.one {d : D} {v : V} (h : Rep K N H d v) : RepL K N H [d] [v] := .cons h .nil
theorem RepL.append : ∀ {ds es : List D} {vs ws : List V}, RepL K N H ds vs → RepL K N H es ws → RepL K N H (ds ++ es) (vs ++ ws)
  | [], es, vs, ws, h, g => by
    have e : vs = [] := h
    rw [e]
    exact g
  | d :: ds, es, vs, ws, h, g => by
    obtain ⟨v, r, e1, h1, h2⟩ := h
    subst e1
    exact ⟨v, r ++ ws, rfl, h1, RepL.append h2 g⟩
theorem RepL.get : ∀ {ds : List D} {vs : List V} {i : Nat} {d : D}, RepL K N H ds vs → ds[i]? = some d → ∃ v, vs[i]? = some v ∧ Rep K N H d v
  | [], _, i, d, _, g => by simp at g
  | e :: ds, vs, 0, d, h, g => by
    obtain ⟨v, r, e1, h1, h2⟩ := h
    subst e1
    have q : e = d := by simpa using g
    subst q
    exact ⟨v, rfl, h1⟩
  | e :: ds, vs, i + 1, d, h, g => by
    obtain ⟨v, r, e1, h1, h2⟩ := h
    subst e1
    obtain ⟨u, q1, q2⟩ := RepL.get (i := i) (d := d) h2 (by simpa using g)
    exact ⟨u, by simpa using q1, q2⟩
theorem RepL.getV {ds : List D} {vs : List V} {i : Nat} {v : V} (h : RepL K N H ds vs) (g : vs[i]? = some v) : ∃ d, ds[i]? = some d ∧ Rep K N H d v := by
  have hi : i < vs.length := (List.getElem?_eq_some_iff.mp g).1
  have hj : i < ds.length := by rw [h.length]; exact hi
  obtain ⟨u, q1, q2⟩ := h.get (List.getElem?_eq_getElem hj)
  rw [g] at q1
  cases q1
  exact ⟨_, List.getElem?_eq_getElem hj, q2⟩
theorem RepL.take : ∀ {ds : List D} {vs : List V} (n : Nat), RepL K N H ds vs → RepL K N H (ds.take n) (vs.take n)
  | ds, vs, 0, h => by
    rw [List.take_zero, List.take_zero]
    exact .nil
  | [], vs, n + 1, h => by
    have e : vs = [] := h
    rw [e]
    exact .nil
  | d :: ds, vs, n + 1, h => by
    obtain ⟨v, r, e1, h1, h2⟩ := h
    subst e1
    exact .cons h1 (RepL.take n h2)
theorem RepL.drop : ∀ {ds : List D} {vs : List V} (n : Nat), RepL K N H ds vs → RepL K N H (ds.drop n) (vs.drop n)
  | ds, vs, 0, h => h
  | [], vs, n + 1, h => by
    have e : vs = [] := h
    rw [e]
    exact .nil
  | d :: ds, vs, n + 1, h => by
    obtain ⟨v, r, e1, h1, h2⟩ := h
    subst e1
    exact RepL.drop n h2
theorem RepL.erase : ∀ {ds : List D} {vs : List V} (n : Nat), RepL K N H ds vs → RepL K N H (ds.eraseIdx n) (vs.eraseIdx n)
  | [], vs, n, h => by
    have e : vs = [] := h
    rw [e]
    exact .nil
  | d :: ds, vs, 0, h => by
    obtain ⟨v, r, e1, h1, h2⟩ := h
    subst e1
    exact h2
  | d :: ds, vs, n + 1, h => by
    obtain ⟨v, r, e1, h1, h2⟩ := h
    subst e1
    exact .cons h1 (RepL.erase n h2)
theorem RepL.reverse : ∀ {ds : List D} {vs : List V}, RepL K N H ds vs → RepL K N H ds.reverse vs.reverse
  | [], vs, h => by
    have e : vs = [] := h
    rw [e]
    exact .nil
  | d :: ds, vs, h => by
    obtain ⟨v, r, e1, h1, h2⟩ := h
    subst e1
    rw [List.reverse_cons, List.reverse_cons]
    exact (RepL.reverse h2).append (.one h1)
theorem repL_ints : ∀ {ns : List Int} {vs : List V}, RepL K N H (ns.map D.int) vs → vs = ns.map V.int
  | [], vs, h => h
  | n :: ns, vs, h => by
    obtain ⟨v, r, e1, h1, h2⟩ := h
    have e2 : v = .int n := h1
    rw [e1, e2, repL_ints h2]
    rfl
theorem repL_of_ints : ∀ (ns : List Int), RepL K N H (ns.map D.int) (ns.map V.int)
  | [] => rfl
  | n :: ns => ⟨.int n, ns.map V.int, rfl, rfl, repL_of_ints ns⟩
theorem repL_strs : ∀ {ns : List Str} {vs : List V}, RepL K N H (ns.map D.str) vs → vs = ns.map V.str
  | [], vs, h => h
  | n :: ns, vs, h => by
    obtain ⟨v, r, e1, h1, h2⟩ := h
    have e2 : v = .str n := h1
    rw [e1, e2, repL_strs h2]
    rfl
theorem repL_of_strs : ∀ (ns : List Str), RepL K N H (ns.map D.str) (ns.map V.str)
  | [] => rfl
  | n :: ns => ⟨.str n, ns.map V.str, rfl, rfl, repL_of_strs ns⟩
theorem repL_bls : ∀ {ns : List Bool} {vs : List V}, RepL K N H (ns.map D.bl) vs → vs = ns.map V.bl
  | [], vs, h => h
  | n :: ns, vs, h => by
    obtain ⟨v, r, e1, h1, h2⟩ := h
    have e2 : v = .bl n := h1
    rw [e1, e2, repL_bls h2]
    rfl
end
end Dw

namespace Dw
open PySem PySem.Spec PyProof.Rows L2

/-- what is fixed through a def: the read part, the heap at the entry, what the def may turn (F0, kept by I), what its results must not hold (F) -/
structure Md where
  K : PySem.W.Frag
  H0 : Hp
  F0 : No
  F : No
  I : Hp → Prop
  f0 : ∀ a, F0 a → F a
  tr : ∀ a, F a → H0 a ≠ none
  st : ∀ H H', I H → (∀ a o, F0 a → H a = some o → H' a = some o) → I H'
  tk : ∀ H a, I H → F0 a → H a ≠ none

/-- a slot: unknown, data, a list of one's own at p -/
inductive Sl where
  | un
  | d (x : D)
  | mu (p : Addr) (xs : List D)

/-- forbidden: F and one's own lists -/
def nf (M : Md) (O : List Addr) : No := fun a => M.F a ∨ a ∈ O
def SlR (M : Md) (O : List Addr) (H : Hp) (v : Option (Option V)) : Sl → Prop
  | .un => True
  | .d x => ∃ u, v = some (some u) ∧ Rep M.K (nf M O) H x u
  | .mu p xs => v = some (some (.ref p)) ∧ p ∈ O ∧ ∃ vs, H p = some (.lst vs) ∧ RepL M.K (nf M O) H xs vs

structure Rp (M : Md) (O : List Addr) (r : List Sl) (σ : L2.St) (H : Hp) : Prop where
  sm : Sm M.F0 M.H0 H
  inv : M.I H
  own : ∀ p ∈ O, M.H0 p = none ∧ H p ≠ none
  nod : O.Nodup
  len : σ.length = r.length
  slot : ∀ (i : Nat) (s : Sl), r[i]? = some s → SlR M O H σ[i]? s
  one : ∀ (i j : Nat) (p : Addr) (xs ys : List D), r[i]? = some (.mu p xs) → r[j]? = some (.mu p ys) → i = j

theorem nf0 {M : Md} {O : List Addr} : ∀ a, M.F0 a → nf M O a := fun a h => .inl (M.f0 a h)
theorem Rep.step {M : Md} {O : List Addr} {H H' : Hp} {d : D} {v : V} (e : Sm M.F0 H H') (h : Rep M.K (nf M O) H d v) : Rep M.K (nf M O) H' d v := h.mono (e.wide nf0)
theorem RepL.step {M : Md} {O : List Addr} {H H' : Hp} {d : List D} {v : List V} (e : Sm M.F0 H H') (h : RepL M.K (nf M O) H d v) : RepL M.K (nf M O) H' d v := h.mono (e.wide nf0)

/-- an expression gives data of which k holds; slots and own lists stay -/
def De (M : Md) (te : TE) (O : List Addr) (r : List Sl) (k : D → Prop) : Prop :=
  ∀ σ H (Q : VK), Rp M O r σ H → (∀ v H' d, Rp M O r σ H' → Sm M.F0 H H' → Rep M.K (nf M O) H' d v → k d → Q v H') → te σ H Q
def DT (M : Md) (tt : TT) (O : List Addr) (r : List Sl) (k : Bool → Prop) : Prop :=
  ∀ σ H (Q : Bool → Hp → Prop), Rp M O r σ H → (∀ b H', Rp M O r σ H' → Sm M.F0 H H' → k b → Q b H') → tt σ H Q
def DA (M : Md) (ta : TA) (O : List Addr) (r : List Sl) (k : List D → Prop) : Prop :=
  ∀ σ H (Q : List V → Hp → Prop), Rp M O r σ H → (∀ vs H' ds, Rp M O r σ H' → Sm M.F0 H H' → RepL M.K (nf M O) H' ds vs → k ds → Q vs H') → ta σ H Q
/-- what is wanted behind a statement -/
structure Kn where
  nx : List Addr → List Sl → Prop
  rt : D → Prop
  bk : List Addr → List Sl → Prop := fun _ _ => False
  ct : List Addr → List Sl → Prop := fun _ _ => False
/-- what a block may turn: the footprint, own lists -/
def st (M : Md) (O : List Addr) : No := fun a => M.F0 a ∨ a ∈ O
/-- .. and it may have new ones -/
def Stp (M : Md) (O : List Addr) (H : Hp) (O' : List Addr) (H' : Hp) : Prop := Sm (st M O) H H' ∧ (∀ p ∈ O', p ∈ O ∨ H p = none) ∧ ∀ a, H a ≠ none → H' a ≠ none
structure EndsOk (M : Md) (O : List Addr) (H : Hp) (E : Kn) (Z : Ends) : Prop where
  nx : ∀ O1 r σ H1, Rp M O1 r σ H1 → Stp M O H O1 H1 → E.nx O1 r → Z.nx σ H1
  rt : ∀ v H d, Sm M.F0 M.H0 H → M.I H → Rep M.K M.F H d v → E.rt d → Z.rt v H
  bk : ∀ O1 r σ H1, Rp M O1 r σ H1 → Stp M O H O1 H1 → E.bk O1 r → Z.bk σ H1
  ct : ∀ O1 r σ H1, Rp M O1 r σ H1 → Stp M O H O1 H1 → E.ct O1 r → Z.ct σ H1
def DS (M : Md) (ts : TS) (O : List Addr) (r : List Sl) (E : Kn) : Prop :=
  ∀ σ H Z, Rp M O r σ H → EndsOk M O H E Z → ts Z σ H

section
variable {M : Md} {O : List Addr} {r : List Sl} {σ : L2.St} {H H' : Hp}
theorem new_no (R : Rp M O r σ H) {p : Addr} (n : H p = none) : ¬ nf M O p := by
  rintro (h | h)
  · by_cases q : M.F0 p
    · exact M.tk H p R.inv q n
    · cases e : M.H0 p with
      | none => exact M.tr p h e
      | some o =>
        have := R.sm p o q e
        rw [n] at this
        cases this
  · exact (R.own p h).2 n
theorem nf_tr (R : Rp M O r σ H) : ∀ a, nf M O a → H a ≠ none := fun a h n => new_no R n h
/-- the heap grows or the def's own footprint turns; own lists stay -/
theorem Rp.step (R : Rp M O r σ H) (e : Sm M.F0 H H') (i : M.I H') : Rp M O r σ H' := by
  have nO : ∀ p ∈ O, ¬ M.F0 p := fun p hp z => M.tr p (M.f0 p z) (R.own p hp).1
  refine ⟨R.sm.trans e, i, fun p hp => ⟨(R.own p hp).1, ?_⟩, R.nod, R.len, fun j s hs => ?_, R.one⟩
  · cases q : H p with
    | none => exact absurd q (R.own p hp).2
    | some o =>
      rw [e p o (nO p hp) q]
      exact fun z => nomatch z
  · have h := R.slot j s hs
    cases s with
    | un => trivial
    | d x =>
      obtain ⟨u, e1, h1⟩ := h
      exact ⟨u, e1, h1.mono (e.wide fun a z => .inl (M.f0 a z))⟩
    | mu p xs =>
      obtain ⟨e1, hp, vs, h1, h2⟩ := h
      exact ⟨e1, hp, vs, e p _ (nO p hp) h1, h2.mono (e.wide fun a z => .inl (M.f0 a z))⟩
theorem Rp.grow (R : Rp M O r σ H) (e : Sm (fun _ => False) H H') : Rp M O r σ H' :=
  R.step (e.wide fun _ z => z.elim) (M.st H H' R.inv fun a o _ h => e a o (fun z => z) h)
theorem sm_0 {N : No} (e : Sm (fun _ => False) H H') : Sm N H H' := e.wide fun _ z => z.elim
theorem sm_new {p : Addr} {o : HO} (n : H p = none) : Sm (fun _ => False) H (upd H p o) := Sm.new n
theorem sm_st (e : Sm M.F0 H H') : Sm (st M O) H H' := e.wide fun _ z => .inl z

/-! ### expressions -/
variable {k : D → Prop} {ta tb te : TE} {tt : TT} {tl : TA}
theorem De.imp {k' : D → Prop} (h : De M te O r k) (i : ∀ d, k d → k' d) : De M te O r k' := fun σ H Q R z => h σ H Q R fun v H1 d R1 e1 p1 q1 => z v H1 d R1 e1 p1 (i d q1)
theorem DT.imp {k k' : Bool → Prop} (h : DT M tt O r k) (i : ∀ d, k d → k' d) : DT M tt O r k' := fun σ H Q R z => h σ H Q R fun b H1 R1 e1 q1 => z b H1 R1 e1 (i b q1)
theorem DA.imp {k k' : List D → Prop} (h : DA M tl O r k) (i : ∀ d, k d → k' d) : DA M tl O r k' := fun σ H Q R z => h σ H Q R fun v H1 d R1 e1 p1 q1 => z v H1 d R1 e1 p1 (i d q1)
theorem de_var {i : Nat} {x : D} (h : r[i]? = some (.d x)) (q : k x) : De M (tVar i) O r k := fun σ H Q R z => by
  obtain ⟨u, e, h1⟩ := R.slot i _ h
  exact ⟨u, e, z u H x R .refl h1 q⟩
theorem de_int {i : Int} (q : k (.int i)) : De M (tC (.int i)) O r k := fun σ H Q R z => z (.int i) H (.int i) R .refl rfl q
theorem de_bl {i : Bool} (q : k (.bl i)) : De M (tC (.bl i)) O r k := fun σ H Q R z => z (.bl i) H (.bl i) R .refl rfl q
theorem de_str {i : Str} (q : k (.str i)) : De M (tC (.str i)) O r k := fun σ H Q R z => z (.str i) H (.str i) R .refl rfl q
theorem de_non (q : k .non) : De M (tC .non) O r k := fun σ H Q R z => z .non H .non R .refl rfl q
/-- a constant of the module -/
theorem de_c {v : V} (d : D) (h : ∀ N H, Rep M.K N H d v) (q : k d) : De M (tC v) O r k := fun σ H Q R z => z v H d R .refl (h _ _) q
/-- two operands, then what the operator asks of the values -/
theorem de_op {f : R2} (h : De M ta O r fun x => De M tb O r fun y => ∀ σ H v u (Q : VK), Rp M O r σ H → Rep M.K (nf M O) H x v → Rep M.K (nf M O) H y u →
    (∀ w H' d, Rp M O r σ H' → Sm M.F0 H H' → Rep M.K (nf M O) H' d w → k d → Q w H') → f v u H Q) : De M (tOp f ta tb) O r k := fun σ H Q R z => by
  refine h σ H _ R fun v H1 x R1 e1 p1 h1 => ?_
  refine h1 σ H1 _ R1 fun u H2 y R2 e2 p2 h2 => ?_
  exact h2 σ H2 v u Q R2 (p1.step e2) p2 fun w H3 d R3 e3 p3 q3 => z w H3 d R3 ((e1.trans e2).trans e3) p3 q3
theorem de_op2 {f : R2} {C : D → D → Prop} (h : De M ta O r fun x => De M tb O r fun y => C x y) (hc : ∀ x y, C x y → ∀ σ H v u (Q : VK), Rp M O r σ H → Rep M.K (nf M O) H x v → Rep M.K (nf M O) H y u →
    (∀ w H' d, Rp M O r σ H' → Sm M.F0 H H' → Rep M.K (nf M O) H' d w → k d → Q w H') → f v u H Q) : De M (tOp f ta tb) O r k :=
  de_op (h.imp fun x h1 => h1.imp fun y h2 => hc x y h2)
theorem de_rI0 {g : Int → Int → V} (G : Int → Int → D) (hg : ∀ i j N H, Rep M.K N H (G i j) (g i j)) (h : De M ta O r fun x => De M tb O r fun y => ∃ i j, x = .int i ∧ y = .int j ∧ k (G i j)) : De M (tOp (rI0 g) ta tb) O r k := de_op2 h fun x y c σ H v u Q R pv pu z => by
  obtain ⟨i, j, rfl, rfl, q⟩ := c
  exact ⟨i, j, pv, pu, z _ H _ R .refl (hg i j _ _) q⟩
theorem de_rI {C : Int → Int → Prop} {g : Int → Int → V} (G : Int → Int → D) (hg : ∀ i j N H, Rep M.K N H (G i j) (g i j)) (h : De M ta O r fun x => De M tb O r fun y => ∃ i j, x = .int i ∧ y = .int j ∧ C i j ∧ k (G i j)) : De M (tOp (rI C g) ta tb) O r k := de_op2 h fun x y c σ H v u Q R pv pu z => by
  obtain ⟨i, j, rfl, rfl, c, q⟩ := c
  exact ⟨i, j, pv, pu, c, z _ H _ R .refl (hg i j _ _) q⟩
theorem de_intI {g : Int → Int → Int} (h : De M ta O r fun x => De M tb O r fun y => ∃ i j, x = .int i ∧ y = .int j ∧ k (.int (g i j))) : De M (tOp (rI0 fun i j => .int (g i j)) ta tb) O r k := de_rI0 (fun i j => .int (g i j)) (fun _ _ _ _ => rfl) h
theorem de_intB {g : Int → Int → Bool} (h : De M ta O r fun x => De M tb O r fun y => ∃ i j, x = .int i ∧ y = .int j ∧ k (.bl (g i j))) : De M (tOp (rI0 fun i j => .bl (g i j)) ta tb) O r k := de_rI0 (fun i j => .bl (g i j)) (fun _ _ _ _ => rfl) h
theorem de_intC {C : Int → Int → Prop} {g : Int → Int → Int} (h : De M ta O r fun x => De M tb O r fun y => ∃ i j, x = .int i ∧ y = .int j ∧ C i j ∧ k (.int (g i j))) : De M (tOp (rI C fun i j => .int (g i j)) ta tb) O r k := de_rI (fun i j => .int (g i j)) (fun _ _ _ _ => rfl) h
/-- scalars compared -/
def D.v : D → Option V
  | .non => some .non
  | .bl b => some (.bl b)
  | .int i => some (.int i)
  | .str s => some (.str s)
  | _ => none
theorem D.v_rep {K : PySem.W.Frag} {N : No} {H : Hp} {d : D} {x v : V} (h : d.v = some x) (p : Rep K N H d v) : v = x := by
  cases d <;> first
    | (cases h; exact p)
    | cases h
theorem de_eq (h : De M ta O r fun x => De M tb O r fun y => ∃ a b, x.v = some a ∧ y.v = some b ∧ scal a b = true ∧ k (.bl (decide (a = b)))) : De M (tOp rEq ta tb) O r k := de_op2 h fun x y c σ H v u Q R pv pu z => by
  obtain ⟨a, b, ha, hb, hs, q⟩ := c
  rw [D.v_rep ha pv, D.v_rep hb pu]
  exact ⟨hs, z _ H (.bl (decide (a = b))) R .refl rfl q⟩
theorem de_ne (h : De M ta O r fun x => De M tb O r fun y => ∃ a b, x.v = some a ∧ y.v = some b ∧ scal a b = true ∧ k (.bl (!decide (a = b)))) : De M (tOp rNe ta tb) O r k := de_op2 h fun x y c σ H v u Q R pv pu z => by
  obtain ⟨a, b, ha, hb, hs, q⟩ := c
  rw [D.v_rep ha pv, D.v_rep hb pu]
  exact ⟨hs, z _ H (.bl (!decide (a = b))) R .refl rfl q⟩
/-! ### arguments, displays -/
theorem da_nil {k : List D → Prop} (q : k []) : DA M tNil O r k := fun σ H Q R z => z [] H [] R .refl .nil q
theorem da_cons {k : List D → Prop} (h : De M te O r fun x => DA M tl O r fun xs => k (x :: xs)) : DA M (tCons te tl) O r k := fun σ H Q R z => by
  refine h σ H _ R fun v H1 x R1 e1 p1 h1 => ?_
  exact h1 σ H1 _ R1 fun vs H2 xs R2 e2 p2 q2 => z (v :: vs) H2 (x :: xs) R2 (e1.trans e2) (.cons (p1.step e2) p2) q2
theorem rep_lst (R : Rp M O r σ H) {p : Addr} {ds : List D} {vs : List V} (hp : H p = none) (h : RepL M.K (nf M O) H ds vs) : Rep M.K (nf M O) (upd H p (.lst vs)) (.lst ds) (.ref p) :=
  ⟨p, vs, rfl, .inl ⟨new_no R hp, .inl upd_same⟩, h.step (sm_0 (sm_new hp))⟩
theorem rep_tup (R : Rp M O r σ H) {p : Addr} {ds : List D} {vs : List V} (hp : H p = none) (h : RepL M.K (nf M O) H ds vs) : Rep M.K (nf M O) (upd H p (.tup vs)) (.tup ds) (.ref p) :=
  ⟨p, vs, rfl, .inl ⟨new_no R hp, .inl upd_same⟩, h.step (sm_0 (sm_new hp))⟩
theorem de_lst (h : DA M tl O r fun ds => ds.length ≤ sizeLine ∧ k (.lst ds)) : De M (tLst tl) O r k := fun σ H Q R z => by
  refine h σ H _ R fun vs H1 ds R1 e1 p1 q => ⟨by rw [← p1.length]; exact q.1, fun p hp => ?_⟩
  exact z _ _ (.lst ds) (R1.grow (sm_new hp)) (e1.trans (sm_0 (sm_new hp))) (rep_lst R1 hp p1) q.2
theorem de_tup (h : DA M tl O r fun ds => ds.length ≤ sizeLine ∧ k (.tup ds)) : De M (tTup tl) O r k := fun σ H Q R z => by
  refine h σ H _ R fun vs H1 ds R1 e1 p1 q => ⟨by rw [← p1.length]; exact q.1, fun p hp => ?_⟩
  exact z _ _ (.tup ds) (R1.grow (sm_new hp)) (e1.trans (sm_0 (sm_new hp))) (rep_tup R1 hp p1) q.2

/-! ### tests -/
variable {kt : Bool → Prop} {tu : TT}
theorem dt_test (h : De M te O r fun x => ∃ b, x = .bl b ∧ kt b) : DT M (tTest te) O r kt := fun σ H Q R z => h σ H _ R fun v H1 x R1 e1 p1 h1 => by
  obtain ⟨b, rfl, q⟩ := h1
  exact ⟨b, p1, z b H1 R1 e1 q⟩
theorem dt_B (h : De M te O r fun x => ∃ b, x = .bl b ∧ kt b) : DT M (tB te) O r kt := fun σ H Q R z => h σ H _ R fun v H1 x R1 e1 p1 h1 => by
  obtain ⟨b, rfl, q⟩ := h1
  exact ⟨b, p1, z b H1 R1 e1 q⟩
theorem dt_and (h : DT M tt O r fun b => if b = true then DT M tu O r kt else kt false) : DT M (tAnd tt tu) O r kt := fun σ H Q R z => h σ H _ R fun b H1 R1 e1 q1 => by
  cases b with
  | true =>
    show tu σ H1 Q
    exact q1 σ H1 Q R1 fun b H2 R2 e2 q2 => z b H2 R2 (e1.trans e2) q2
  | false =>
    show Q false H1
    exact z false H1 R1 e1 q1
theorem dt_or (h : DT M tt O r fun b => if b = true then kt true else DT M tu O r kt) : DT M (tOr tt tu) O r kt := fun σ H Q R z => h σ H _ R fun b H1 R1 e1 q1 => by
  cases b with
  | false =>
    show tu σ H1 Q
    exact q1 σ H1 Q R1 fun b H2 R2 e2 q2 => z b H2 R2 (e1.trans e2) q2
  | true =>
    show Q true H1
    exact z true H1 R1 e1 q1
theorem dt_not (h : DT M tt O r fun b => kt (!b)) : DT M (tNot tt) O r kt := fun σ H Q R z => h σ H _ R fun b H1 R1 e1 q1 => z _ H1 R1 e1 q1
theorem de_if (h : DT M tt O r fun b => if b = true then De M ta O r k else De M tb O r k) : De M (tIf tt ta tb) O r k := fun σ H Q R z => h σ H _ R fun b H1 R1 e1 q1 => by
  cases b with
  | true =>
    show ta σ H1 Q
    exact q1 σ H1 Q R1 fun v H2 d R2 e2 p2 q2 => z v H2 d R2 (e1.trans e2) p2 q2
  | false =>
    show tb σ H1 Q
    exact q1 σ H1 Q R1 fun v H2 d R2 e2 p2 q2 => z v H2 d R2 (e1.trans e2) p2 q2
theorem de_andV (h : De M ta O r fun x => ∃ b, x = .bl b ∧ if b = true then De M tb O r k else k (.bl false)) : De M (tAndV ta tb) O r k := fun σ H Q R z => h σ H _ R fun v H1 x R1 e1 p1 h1 => by
  obtain ⟨b, rfl, q⟩ := h1
  refine ⟨b, p1, ?_⟩
  cases b with
  | true => exact q σ H1 Q R1 fun v H2 d R2 e2 p2 q2 => z v H2 d R2 (e1.trans e2) p2 q2
  | false => exact z (.bl false) H1 (.bl false) R1 e1 rfl q
/-! ### statements -/
theorem Stp.refl : Stp M O H O H := ⟨.refl, fun _ h => .inl h, fun _ h => h⟩
theorem Rp.stays (R' : Rp M O r σ H') (e : Sm (st M O) H H') : ∀ a, H a ≠ none → H' a ≠ none := fun a h => by
  by_cases q : st M O a
  · rcases q with q | q
    · exact M.tk H' a R'.inv q
    · exact (R'.own a q).2
  · cases e1 : H a with
    | none => exact absurd e1 h
    | some o =>
      rw [e a o q e1]
      exact fun z => nomatch z
theorem Rp.stp (R' : Rp M O r σ H') (e : Sm M.F0 H H') : Stp M O H O H' := ⟨sm_st e, fun _ h => .inl h, R'.stays (sm_st e)⟩
theorem Stp.trans {O1 O2 : List Addr} {H1 H2 : Hp} (i : M.I H1) (a : Stp M O H O1 H1) (b : Stp M O1 H1 O2 H2) : Stp M O H O2 H2 := by
  refine ⟨fun x o n e => b.1 x o (fun z => ?_) (a.1 x o n e), fun p hp => ?_, fun x h => b.2.2 x (a.2.2 x h)⟩
  · rcases z with z | z
    · exact n (.inl z)
    · rcases a.2.1 x z with q | q
      · exact n (.inr q)
      · rw [e] at q
        cases q
  · rcases b.2.1 p hp with q | q
    · exact a.2.1 p q
    · right
      cases e : H p with
      | none => rfl
      | some o => exact absurd q (a.2.2 p (by rw [e]; exact fun z => nomatch z))
variable {E : Kn} {ts tz : TS}
/-- the ends, told from a later state -/
theorem EndsOk.later {Z : Ends} {O1 : List Addr} {H1 : Hp} (i : M.I H1) (z : EndsOk M O H E Z) (a : Stp M O H O1 H1) : EndsOk M O1 H1 E Z :=
  ⟨fun O2 r σ H2 R b q => z.nx O2 r σ H2 R (a.trans i b) q, z.rt, fun O2 r σ H2 R b q => z.bk O2 r σ H2 R (a.trans i b) q, fun O2 r σ H2 R b q => z.ct O2 r σ H2 R (a.trans i b) q⟩
theorem ds_seq (h : DS M ts O r { E with nx := fun O1 r1 => DS M tz O1 r1 E }) : DS M (tSeq ts tz) O r E := fun σ H Z R z =>
  h σ H _ R ⟨fun O1 r1 σ1 H1 R1 a q => q σ1 H1 Z R1 (z.later R1.inv a), z.rt, z.bk, z.ct⟩
theorem ds_next (h : E.nx O r) : DS M tNext O r E := fun σ H Z R z => z.nx O r σ H R .refl h
theorem ds_ret (h : De M te O r E.rt) : DS M (tRet te) O r E := fun σ H Z R z =>
  h σ H _ R fun v H1 d R1 e1 p1 q => z.rt v H1 d R1.sm R1.inv (p1.less fun a h => .inl h) q
theorem ds_if (h : DT M tt O r fun b => if b = true then DS M ts O r E else DS M tz O r E) : DS M (tIfS tt ts tz) O r E := fun σ H Z R z => h σ H _ R fun b H1 R1 e1 q1 => by
  cases b with
  | true =>
    show ts Z σ H1
    exact q1 σ H1 Z R1 (z.later R1.inv (R1.stp e1))
  | false =>
    show tz Z σ H1
    exact q1 σ H1 Z R1 (z.later R1.inv (R1.stp e1))
theorem ds_drop (h : De M te O r fun _ => E.nx O r) : DS M (tDrop te) O r E := fun σ H Z R z => h σ H _ R fun v H1 d R1 e1 p1 q => z.nx O r σ H1 R1 (R1.stp e1) q
/-- a slot told anew -/
theorem Rp.set {i : Nat} {v : V} {s : Sl} (R : Rp M O r σ H) (hs : SlR M O H (some (some v)) s) (hm : ∀ p xs, s = .mu p xs → ∀ (j : Nat) (ys : List D), j ≠ i → r[j]? ≠ some (.mu p ys)) : Rp M O (r.set i s) (σ.set i (some v)) H := by
  refine ⟨R.sm, R.inv, R.own, R.nod, by rw [List.length_set, List.length_set]; exact R.len, fun j t ht => ?_, fun j l p xs ys h1 h2 => ?_⟩
  · by_cases e : i = j
    · subst e
      by_cases hi : i < r.length
      · rw [List.getElem?_set_self hi] at ht
        cases ht
        rw [List.getElem?_set_self (by rw [R.len]; exact hi)]
        exact hs
      · rw [List.getElem?_eq_none (by rw [List.length_set]; omega)] at ht
        cases ht
    · rw [List.getElem?_set_ne e] at ht
      rw [List.getElem?_set_ne e]
      exact R.slot j t ht
  · by_cases e1 : i = j
    · subst e1
      by_cases e2 : i = l
      · exact e2
      · rw [List.getElem?_set_ne e2] at h2
        have hi : i < r.length := by
          refine Nat.lt_of_not_le fun q => ?_
          rw [List.getElem?_eq_none (by rw [List.length_set]; exact q)] at h1
          cases h1
        rw [List.getElem?_set_self hi] at h1
        cases h1
        exact absurd h2 (hm p xs rfl l ys fun z => e2 z.symm)
    · rw [List.getElem?_set_ne e1] at h1
      by_cases e2 : i = l
      · subst e2
        have hi : i < r.length := by
          refine Nat.lt_of_not_le fun q => ?_
          rw [List.getElem?_eq_none (by rw [List.length_set]; exact q)] at h2
          cases h2
        rw [List.getElem?_set_self hi] at h2
        cases h2
        exact absurd h1 (hm p ys rfl j xs fun z => e1 z.symm)
      · rw [List.getElem?_set_ne e2] at h2
        exact R.one j l p xs ys h1 h2
theorem ds_asg {i : Nat} (h : De M te O r fun d => E.nx O (r.set i (.d d))) : DS M (tAsg te (gName i)) O r E := fun σ H Z R z =>
  h σ H _ R fun v H1 d R1 e1 p1 q => z.nx O _ _ H1 (R1.set (s := .d d) ⟨v, rfl, p1⟩ (fun p xs e => nomatch e)) (R1.stp e1) q
theorem plus_of {p : Addr} : ∀ a, nf M (p :: O) a → plus (nf M O) p a := fun a ha => by
  rcases ha with ha | ha
  · exact .inl (.inl ha)
  · rcases List.mem_cons.mp ha with rfl | ha
    · exact .inr rfl
    · exact .inl (.inr ha)
theorem RepL.own1 {p : Addr} {o : HO} {ds : List D} {vs : List V} (hp : H p = none) (h : RepL M.K (nf M O) H ds vs) : RepL M.K (nf M (p :: O)) (upd H p o) ds vs := ((h.more hp).less plus_of).mono ((sm_new hp).wide fun _ z => z.elim)
theorem Rep.own1 {p : Addr} {o : HO} {d : D} {v : V} (hp : H p = none) (h : Rep M.K (nf M O) H d v) : Rep M.K (nf M (p :: O)) (upd H p o) d v := ((h.more hp).less plus_of).mono ((sm_new hp).wide fun _ z => z.elim)
theorem free0 (R : Rp M O r σ H) {p : Addr} (hp : H p = none) : M.H0 p = none := by
  cases e : M.H0 p with
  | none => rfl
  | some o =>
    by_cases q : M.F0 p
    · exact absurd hp (M.tk H p R.inv q)
    · have := R.sm p o q e
      rw [hp] at this
      cases this
/-- a new address, one's own -/
theorem Rp.own1 {p : Addr} {o : HO} (R : Rp M O r σ H) (hp : H p = none) : Rp M (p :: O) r σ (upd H p o) := by
  have g : Sm (fun _ => False) H (upd H p o) := sm_new hp
  have R2 := R.grow g
  have nO : p ∉ O := fun z => (R.own p z).2 hp
  refine ⟨R2.sm, R2.inv, fun a ha => ?_, List.nodup_cons.mpr ⟨nO, R2.nod⟩, R2.len, fun j t ht => ?_, R2.one⟩
  · rcases List.mem_cons.mp ha with rfl | ha
    · exact ⟨free0 R hp, by rw [upd_same]; exact fun z => nomatch z⟩
    · exact R2.own a ha
  · have h1 := R.slot j t ht
    cases t with
    | un => trivial
    | d x =>
      obtain ⟨u, e2, h2⟩ := h1
      exact ⟨u, e2, h2.own1 hp⟩
    | mu l xs =>
      obtain ⟨e2, hl, ws, h2, h3⟩ := h1
      exact ⟨e2, List.mem_cons_of_mem _ hl, ws, g l _ (fun z => z) h2, h3.own1 hp⟩
theorem stp_new {H1 : Hp} (R1 : Rp M O r σ H1) (e1 : Sm M.F0 H H1) {p : Addr} {o : HO} (hp : H1 p = none) : Stp M O H (p :: O) (upd H1 p o) := by
  have i := R1.inv
  refine ⟨(sm_st e1).trans (sm_0 (sm_new hp)), fun a ha => ?_, fun a h => ?_⟩
  rcases List.mem_cons.mp ha with rfl | ha
  · right
    cases e : H a with
    | none => rfl
    | some o =>
      by_cases q : M.F0 a
      · exact absurd hp (M.tk H1 a i q)
      · rw [e1 a o q e] at hp
        cases hp
  · exact .inl ha
  · have h2 := R1.stays (sm_st e1) a h
    by_cases q : a = p
    · rw [q, upd_same]
      exact fun z => nomatch z
    · rw [upd_ne q]
      exact h2
/-- a new list of one's own: name = [..] -/
theorem ds_own {i : Nat} (h : DA M tl O r fun ds => ds.length ≤ sizeLine ∧ ∀ p, p ∉ O → E.nx (p :: O) (r.set i (.mu p ds))) : DS M (tAsg (tLst tl) (gName i)) O r E := fun σ H Z R z =>
  h σ H _ R fun vs H1 ds R1 e1 p1 q => ⟨by rw [← p1.length]; exact q.1, fun p hp => by
    have nO : p ∉ O := fun z => (R1.own p z).2 hp
    refine z.nx _ _ _ _ ((R1.own1 hp).set (i := i) (v := .ref p) (s := .mu p ds) ⟨rfl, List.mem_cons_self, vs, upd_same, p1.own1 hp⟩ fun l xs e j ys hj hy => ?_) (stp_new R1 e1 hp) (q.2 p nO)
    cases e
    exact nO (R1.slot j _ hy).2.1⟩
/-- an own list becomes data -/
theorem Rp.freeze {i : Nat} {p : Addr} {xs : List D} (R : Rp M O r σ H) (h : r[i]? = some (.mu p xs)) : Rp M (O.erase p) (r.set i (.d (.lst xs))) σ H := by
  obtain ⟨e1, hp, vs, h1, h2⟩ := R.slot i _ h
  have hi : i < r.length := (List.getElem?_eq_some_iff.mp h).1
  have w : ∀ a, nf M (O.erase p) a → nf M O a := fun a ha => ha.imp id List.mem_of_mem_erase
  have np : ¬ nf M (O.erase p) p := by
    rintro (q | q)
    · exact M.tr p q (R.own p hp).1
    · exact (R.nod.mem_erase_iff.mp q).1 rfl
  refine ⟨R.sm, R.inv, fun a ha => R.own a (List.mem_of_mem_erase ha), R.nod.erase p, by rw [List.length_set]; exact R.len, fun j t ht => ?_, fun j l q ys zs a1 a2 => ?_⟩
  · by_cases e : i = j
    · subst e
      rw [List.getElem?_set_self hi] at ht
      cases ht
      exact ⟨.ref p, e1, p, vs, rfl, .inl ⟨np, .inl h1⟩, h2.less w⟩
    · rw [List.getElem?_set_ne e] at ht
      have q := R.slot j t ht
      cases t with
      | un => trivial
      | d x =>
        obtain ⟨u, e2, q2⟩ := q
        exact ⟨u, e2, q2.less w⟩
      | mu l ys =>
        obtain ⟨e2, hl, ws, q2, q3⟩ := q
        refine ⟨e2, R.nod.mem_erase_iff.mpr ⟨fun z => ?_, hl⟩, ws, q2, q3.less w⟩
        subst z
        exact e (R.one i j l xs ys h ht)
  · have a1' : i ≠ j := fun z => by
      subst z
      rw [List.getElem?_set_self hi] at a1
      cases a1
    have a2' : i ≠ l := fun z => by
      subst z
      rw [List.getElem?_set_self hi] at a2
      cases a2
    rw [List.getElem?_set_ne a1'] at a1
    rw [List.getElem?_set_ne a2'] at a2
    exact R.one j l q ys zs a1 a2
theorem ds_freeze (i : Nat) {p : Addr} {xs : List D} (h : r[i]? = some (.mu p xs)) (q : DS M ts (O.erase p) (r.set i (.d (.lst xs))) E) : DS M ts O r E := fun σ H Z R z => q σ H Z (R.freeze h) (z.later R.inv ⟨.refl, fun a ha => .inl (List.mem_of_mem_erase ha), fun _ h => h⟩)
/-- flat data: no object -/
def D.flat : D → Bool
  | .lst _ => false
  | .tup _ => false
  | .ins _ _ _ => false
  | .exc _ _ _ => false
  | _ => true
theorem flat_rep {K : PySem.W.Frag} {N N' : No} {H H' : Hp} {d : D} {v : V} (f : d.flat = true) (h : Rep K N H d v) : Rep K N' H' d v := by
  cases d <;> first
    | exact h
    | cases f
/-- an own list read as data, for an answer that holds no object -/
theorem de_borrow (i : Nat) {p : Addr} {xs : List D} (h : r[i]? = some (.mu p xs)) (q : De M te (O.erase p) (r.set i (.d (.lst xs))) fun d => d.flat = true ∧ k d) : De M te O r k := fun σ H Q R z => by
  refine q σ H Q (R.freeze h) fun v H1 d R1 e1 p1 q1 => ?_
  exact z v H1 d (R.step e1 R1.inv) e1 (flat_rep q1.1 p1) q1.2
theorem DS.imp {E' : Kn} (h : DS M ts O r E) (i : ∀ O r, E.nx O r → E'.nx O r) (j : ∀ d, E.rt d → E'.rt d) (b : ∀ O r, E.bk O r → E'.bk O r) (c : ∀ O r, E.ct O r → E'.ct O r) : DS M ts O r E' := fun σ H Z R z =>
  h σ H Z R ⟨fun O1 r1 σ1 H1 R1 a q => z.nx O1 r1 σ1 H1 R1 a (i _ _ q), fun v H1 d s1 i1 p1 q => z.rt v H1 d s1 i1 p1 (j _ q), fun O1 r1 σ1 H1 R1 a q => z.bk O1 r1 σ1 H1 R1 a (b _ _ q), fun O1 r1 σ1 H1 R1 a q => z.ct O1 r1 σ1 H1 R1 a (c _ _ q)⟩
/-- an own list written -/
theorem Rp.write {i : Nat} {p : Addr} {xs ys : List D} {ws : List V} (R : Rp M O r σ H) (h : r[i]? = some (.mu p xs)) (hw : RepL M.K (nf M O) H ys ws) : Rp M O (r.set i (.mu p ys)) σ (upd H p (.lst ws)) := by
  obtain ⟨e1, hp, vs, h1, h2⟩ := R.slot i _ h
  have hi : i < r.length := (List.getElem?_eq_some_iff.mp h).1
  have fp : M.H0 p = none := (R.own p hp).1
  have e : Sm (nf M O) H (upd H p (.lst ws)) := fun a o n e => by
    rw [upd_ne fun z => n (.inr (by rw [z]; exact hp))]
    exact e
  have at' : ∀ {m : Nat} {q : Addr} {zs : List D}, (r.set i (.mu p ys))[m]? = some (.mu q zs) → (m = i ∧ q = p) ∨ (m ≠ i ∧ r[m]? = some (.mu q zs)) := fun {m q zs} a => by
    by_cases em : i = m
    · subst em
      rw [List.getElem?_set_self hi] at a
      cases a
      exact .inl ⟨rfl, rfl⟩
    · rw [List.getElem?_set_ne em] at a
      exact .inr ⟨fun z => em z.symm, a⟩
  refine ⟨fun a o n e => ?_, M.st H _ R.inv fun a o f e => ?_, fun a ha => ⟨(R.own a ha).1, ?_⟩, R.nod, by rw [List.length_set]; exact R.len, fun j t ht => ?_, fun j l q zs us a1 a2 => ?_⟩
  · rw [upd_ne (ne_of_none e fp)]
    exact R.sm a o n e
  · rw [upd_ne fun z => M.tr a (M.f0 a f) (by rw [z]; exact fp)]
    exact e
  · by_cases q : a = p
    · rw [q, upd_same]
      exact fun z => nomatch z
    · rw [upd_ne q]
      exact (R.own a ha).2
  · by_cases ej : i = j
    · subst ej
      rw [List.getElem?_set_self hi] at ht
      cases ht
      exact ⟨e1, hp, ws, upd_same, hw.mono e⟩
    · rw [List.getElem?_set_ne ej] at ht
      have h1 := R.slot j t ht
      cases t with
      | un => trivial
      | d x =>
        obtain ⟨u, e2, h2⟩ := h1
        exact ⟨u, e2, h2.mono e⟩
      | mu l zs =>
        obtain ⟨e2, hl, us, h2, h3⟩ := h1
        refine ⟨e2, hl, us, ?_, h3.mono e⟩
        rw [upd_ne fun z => by
          subst z
          exact ej (R.one i j l xs zs h ht)]
        exact h2
  · rcases at' a1 with ⟨rfl, rfl⟩ | ⟨n1, b1⟩
    · rcases at' a2 with ⟨rfl, _⟩ | ⟨n2, b2⟩
      · rfl
      · exact absurd (R.one _ _ _ _ _ h b2) fun z => n2 z.symm
    · rcases at' a2 with ⟨rfl, rfl⟩ | ⟨n2, b2⟩
      · exact absurd (R.one _ _ _ _ _ h b1) fun z => n1 z.symm
      · exact R.one j l q zs us b1 b2
theorem stp_write {i : Nat} {p : Addr} {xs : List D} {ws : List V} {H1 : Hp} (R : Rp M O r σ H1) (h : r[i]? = some (.mu p xs)) (e1 : Sm M.F0 H H1) : Stp M O H O (upd H1 p (.lst ws)) := by
  have hp := (R.slot i _ h).2.1
  refine ⟨fun a o n e => ?_, fun _ h => .inl h, fun a h => ?_⟩
  · rw [upd_ne fun z => n (.inr (by rw [z]; exact hp))]
    exact e1 a o (fun z => n (.inl z)) e
  · have h2 := R.stays (sm_st e1) a h
    by_cases q : a = p
    · rw [q, upd_same]
      exact fun z => nomatch z
    · rw [upd_ne q]
      exact h2
/-- xs.append(e) -/
theorem ds_append {i : Nat} {p : Addr} {xs : List D} (h : r[i]? = some (.mu p xs)) (hz : xs.length < sizeLine) (q : De M te O r fun d => E.nx O (r.set i (.mu p (xs ++ [d])))) :
    DS M (tDrop (tBM M.K "list" rAppend (tVar i) (tCons te tNil))) O r E := fun σ H Z R z => by
  obtain ⟨e1, hp, vs, h1, h2⟩ := R.slot i _ h
  refine ⟨.ref p, e1, .inl ⟨rfl, vs, .inl (.inl h1)⟩, ?_⟩
  refine q σ H _ R fun v H1 d R1 e2 p1 q1 => ?_
  obtain ⟨_, _, vs', h1', h2'⟩ := R1.slot i _ h
  refine ⟨p, vs', v, rfl, rfl, h1', by rw [← h2'.length]; exact hz, ?_⟩
  exact z.nx O _ σ _ (R1.write h (h2'.append (.one p1))) (stp_write R1 h e2) q1
end
end Dw

namespace Dw
open PySem PySem.Spec PyProof.Rows L2

/-! ### promises over data -/
/-- what a def may turn, told by a ghost -/
structure Sg where
  G : Type
  F0 : G → No
  I : G → Hp → Prop
  st : ∀ g H H', I g H → (∀ a o, F0 g a → H a = some o → H' a = some o) → I g H'
  tk : ∀ g H a, I g H → F0 g a → H a ≠ none
def pure0 : Sg := ⟨Unit, fun _ _ => False, fun _ _ => True, fun _ _ _ _ _ => trivial, fun _ _ _ _ h => h.elim⟩
def SpD (K : PySem.W.Frag) (S : Sg) (pre : S.G → List D → Prop) (post : S.G → List D → D → Prop) : Sp := fun vs H Q _ =>
  ∃ (g : S.G) (ds : List D) (F : No), RepL K F H ds vs ∧ (∀ a, S.F0 g a → F a) ∧ (∀ a, F a → H a ≠ none) ∧ S.I g H ∧ pre g ds ∧
    ∀ v H' d, Sm (S.F0 g) H H' → S.I g H' → Rep K F H' d v → post g ds d → Q v H'
/-- a pure def's promise -/
abbrev SpP (K : PySem.W.Frag) (pre : List D → Prop) (post : List D → D → Prop) : Sp := SpD K pure0 (fun _ => pre) (fun _ => post)

/-- the mode of a def's body -/
abbrev mdOf (K : PySem.W.Frag) (S : Sg) (g : S.G) (H : Hp) (F : No) (f0 : ∀ a, S.F0 g a → F a) (tr : ∀ a, F a → H a ≠ none) : Md :=
  ⟨K, H, S.F0 g, F, S.I g, f0, tr, S.st g, S.tk g⟩

/-- the slots at the entry -/
def startR (n : Nat) (ds : List D) : List Sl := ds.map Sl.d ++ List.replicate (n - ds.length) .un
theorem start_rp {M : Md} {N : List Str} {ds : List D} {vs : List V} (p : RepL M.K M.F M.H0 ds vs) (i : M.I M.H0) : Rp M [] (startR N.length ds) (start N vs) M.H0 := by
  have hl := p.length
  refine ⟨Sm.refl, i, (fun _ h => nomatch h), List.nodup_nil, ?_, (fun j s h => ?_), (fun j l q xs ys h _ => ?_)⟩
  · unfold L2.start startR
    rw [List.length_append, List.length_append, List.length_map, List.length_map, List.length_replicate, List.length_replicate, hl]
  · unfold startR at h
    by_cases hj : j < ds.length
    · rw [List.getElem?_append_left (by rw [List.length_map]; exact hj), List.getElem?_map, List.getElem?_eq_getElem hj] at h
      have h : some (Sl.d ds[j]) = some s := h
      cases h
      obtain ⟨v, q1, q2⟩ := p.get (List.getElem?_eq_getElem hj)
      refine ⟨v, ?_, q2.less fun a z => z.elim id (fun q => nomatch q)⟩
      unfold L2.start
      rw [List.getElem?_append_left (by rw [List.length_map, ← hl]; exact hj), List.getElem?_map, q1]
      rfl
    · rw [List.getElem?_append_right (by rw [List.length_map]; omega)] at h
      have h2 := List.eq_of_mem_replicate (List.mem_of_getElem? h)
      subst h2
      trivial
  · unfold startR at h
    by_cases hj : j < ds.length
    · rw [List.getElem?_append_left (by rw [List.length_map]; exact hj), List.getElem?_map, List.getElem?_eq_getElem hj] at h
      cases h
    · rw [List.getElem?_append_right (by rw [List.length_map]; omega)] at h
      have h2 := List.eq_of_mem_replicate (List.mem_of_getElem? h)
      cases h2
section
variable {P : Program} {w : World} {K : PySem.W.Frag} {mg : Str → Option Value} {base : Heap}
/-- a def by its body, over data -/
theorem fn_dw {x qual : Str} {st : Stmt} {f : Addr} {fd : FuncData} {N ps : List Str} {k : Nat} {S : Sg} {pre : S.G → List D → Prop} {post : S.G → List D → D → Prop} (F : Fun K x qual st f fd) (T : FnScope N ps (defScope st))
    (len : ∀ g ds, pre g ds → ds.length = ps.length)
    (body : ∀ (cdv : Value) (A : Around) (outer : List Env) (s : Shared) (H : Hp) (E : XK) (g : S.G) (ds : List D) (F1 : No) (f0 : ∀ a, S.F0 g a → F1 a) (tr : ∀ a, F1 a → H a ≠ none), Room k (A.deeper (envOfC qual (defScope st) s.heap.objs.size f cdv)) → pre g ds →
      ∃ t, PSs (cxOf CX0 P w K mg base N qual (defScope st) f cdv A outer s H E).nox (defBody st) t ∧ DS (mdOf K S g H F1 f0 tr) t [] (startR N.length ds) { nx := fun _ _ => post g ds .non, rt := post g ds }) : FnOk P w K mg base CX0 (k + 1) f fd ps (SpD K S pre post) := by
  refine F.ok T (fun vs H Q E h => ?_) (fun cdv A outer s H vs Q E hr h => ?_)
  · obtain ⟨g, ds, F1, p, _, _, _, q, _⟩ := h
    rw [← p.length, len g ds q]
  · obtain ⟨g, ds, F1, p, f0, tr, i, q, z⟩ := h
    obtain ⟨t, ht, hd⟩ := body cdv A outer s H E g ds F1 f0 tr hr q
    refine ⟨t, ht, hd _ H _ (start_rp (M := mdOf K S g H F1 f0 tr) p i) ⟨fun O r σ H1 R a q => z .non H1 .non R.sm R.inv rfl q, fun v H1 d s1 i1 p1 q => z v H1 d s1 i1 p1 q, fun _ _ _ _ _ _ q => q.elim, fun _ _ _ _ _ _ q => q.elim⟩⟩
end
section
variable {M : Md} {O : List Addr} {r : List Sl} {k : D → Prop} {tl : TA} {Ex : XK}
/-- a call -/
theorem de_call {S : Sg} {pre : S.G → List D → Prop} {post : S.G → List D → D → Prop} (g : S.G) (h0 : M.F0 = S.F0 g) (hI : M.I = S.I g)
    (h : DA M tl O r fun ds => pre g ds ∧ ∀ d, post g ds d → k d) : De M (tCall (SpD M.K S pre post) [] Ex tl) O r k := fun σ H Q R z => by
  refine h σ H _ R fun vs H1 ds R1 e1 p1 q => ?_
  rw [List.append_nil]
  refine ⟨g, ds, nf M O, p1, fun a x => .inl (M.f0 a (by rw [h0]; exact x)), nf_tr R1, by rw [← hI]; exact R1.inv, q.1, fun v H2 d s i p po => ?_⟩
  have s' : Sm M.F0 H1 H2 := by rw [h0]; exact s
  exact z v H2 d (R1.step s' (by rw [hI]; exact i)) (e1.trans s') p (q.2 d po)
end

/-! ### what is walked -/
structure Wk (K : PySem.W.Frag) (J : It) (xs : List D) where
  G : No → Hp → Prop
  mono : ∀ N H H', Sm N H H' → G N H → G N H'
  gen : ∀ N N' H, (∀ a, N' a → N a ∨ H a = none) → G N H → G N' H
  go : ∀ N H i, G N H → i < xs.length → J.go i H
  yld : ∀ N H i x H' d, (∀ a, N a → H a ≠ none) → G N H → J.yld i H x H' → xs[i]? = some d → Sm (fun _ => False) H H' ∧ Rep K N H' d x
  stop : ∀ N H i, G N H → xs.length ≤ i → J.stop i H
def DI (M : Md) (wi : TI) (O : List Addr) (r : List Sl) (k : List D → Prop) : Prop :=
  ∀ σ H (Q : It → Hp → Prop), Rp M O r σ H → (∀ J H' xs (W : Wk M.K J xs), Rp M O r σ H' → Sm M.F0 H H' → W.G (nf M O) H' → k xs → Q J H') → wi σ H Q
section
variable {M : Md} {O : List Addr} {r : List Sl} {k : List D → Prop} {te : TE} {ta : TA}
def wk_list (K : PySem.W.Frag) (a : Addr) (xs : List D) : Wk K (Itl K a) xs where
  G := fun N H => ∃ vs, LAt K N H a vs ∧ RepL K N H xs vs
  mono := fun N H H' e ⟨vs, h1, h2⟩ => ⟨vs, h1.mono e, h2.mono e⟩
  gen := fun N N' H e ⟨vs, h1, h2⟩ => ⟨vs, h1.gen e, h2.gen e⟩
  go := fun N H i ⟨vs, h1, h2⟩ hi => ⟨vs, vs[i]'(by rw [← h2.length]; exact hi), h1.sq, List.getElem?_eq_getElem _⟩
  yld := fun N H i x H' d _ ⟨vs, h1, h2⟩ y hd => by
    obtain ⟨rfl, y⟩ := y
    obtain ⟨v, q1, q2⟩ := h2.get hd
    have := y vs h1.sq
    rw [q1] at this
    cases this
    exact ⟨.refl, q2⟩
  stop := fun N H i ⟨vs, h1, h2⟩ hi => ⟨vs, h1.sq, by rw [← h2.length]; exact hi⟩
def wk_tup (K : PySem.W.Frag) (a : Addr) (xs : List D) : Wk K (Itt K a) xs where
  G := fun N H => ∃ vs, TAt K N H a vs ∧ RepL K N H xs vs
  mono := fun N H H' e ⟨vs, h1, h2⟩ => ⟨vs, h1.mono e, h2.mono e⟩
  gen := fun N N' H e ⟨vs, h1, h2⟩ => ⟨vs, h1.gen e, h2.gen e⟩
  go := fun N H i ⟨vs, h1, h2⟩ hi => ⟨vs, vs[i]'(by rw [← h2.length]; exact hi), h1.sq, List.getElem?_eq_getElem _⟩
  yld := fun N H i x H' d _ ⟨vs, h1, h2⟩ y hd => by
    obtain ⟨rfl, y⟩ := y
    obtain ⟨v, q1, q2⟩ := h2.get hd
    have := y vs h1.sq
    rw [q1] at this
    cases this
    exact ⟨.refl, q2⟩
  stop := fun N H i ⟨vs, h1, h2⟩ hi => ⟨vs, h1.sq, by rw [← h2.length]; exact hi⟩
/-- lo, lo + 1, .. -/
def rangeD (lo : Int) (n : Nat) : List D := (List.range n).map fun (i : Nat) => D.int (lo + (i : Int))
theorem rangeD_len (lo : Int) (n : Nat) : (rangeD lo n).length = n := by
  unfold rangeD
  rw [List.length_map, List.length_range]
theorem rangeD_get {lo : Int} {n i : Nat} {d : D} (h : (rangeD lo n)[i]? = some d) : i < n ∧ d = .int (lo + (i : Int)) := by
  have hi : i < n := by
    have := (List.getElem?_eq_some_iff.mp h).1
    rw [rangeD_len] at this
    exact this
  refine ⟨hi, ?_⟩
  unfold rangeD at h
  rw [List.getElem?_map, List.getElem?_range hi] at h
  exact (Option.some.inj h).symm
def wk_range (K : PySem.W.Frag) (lo : Int) (n : Nat) : Wk K (Itr lo n) (rangeD lo n) where
  G := fun _ _ => True
  mono := fun _ _ _ _ _ => trivial
  gen := fun _ _ _ _ _ => trivial
  go := fun N H i _ hi => by
    rw [rangeD_len] at hi
    exact hi
  yld := fun N H i x H' d _ _ y hd => by
    obtain ⟨rfl, rfl⟩ := y
    obtain ⟨_, rfl⟩ := rangeD_get hd
    exact ⟨.refl, rfl⟩
  stop := fun N H i _ hi => by
    rw [rangeD_len] at hi
    exact hi
theorem di_list (h : De M te O r fun x => ∃ xs, x = .lst xs ∧ k xs) : DI M (iList M.K te) O r k := fun σ H Q R z => h σ H _ R fun v H1 x R1 e1 p1 q => by
  obtain ⟨xs, rfl, q⟩ := q
  obtain ⟨a, vs, rfl, h1, h2⟩ := p1
  exact ⟨a, rfl, ⟨vs, h1.sq⟩, z _ H1 xs (wk_list M.K a xs) R1 e1 ⟨vs, h1, h2⟩ q⟩
theorem di_range1 (h : DA M ta O r fun ds => ∃ n : Int, ds = [.int n] ∧ (-(2 ^ 62) ≤ n ∧ n < 2 ^ 62) ∧ k (rangeD 0 n.toNat)) : DI M (iRng1 ta) O r k := fun σ H Q R z => h σ H _ R fun vs H1 ds R1 e1 p1 q => by
  obtain ⟨n, rfl, ⟨b1, b2⟩, q⟩ := q
  have e : vs = [.int n] := repL_ints (ns := [n]) p1
  exact ⟨n, e, b1, b2, z _ H1 _ (wk_range M.K 0 n.toNat) R1 e1 trivial q⟩
end

/-! ### targets -/
def DG (M : Md) (g : TG) (js : List Nat) (O : List Addr) (r : List Sl) (d : D) (k : List Sl → Prop) : Prop :=
  ∀ v σ H (Q : L2.St → Hp → Prop), Rp M O r σ H → Rep M.K (nf M O) H d v → (∀ σ' r', Rp M O r' σ' H → (∀ vs : List Nat, (∀ j ∈ js, j ∈ vs) → wipe σ' vs = wipe σ vs) → k r' → Q σ' H) → g v σ H Q
def DGs (M : Md) (g : TGs) (js : List Nat) (O : List Addr) (r : List Sl) (ds : List D) (k : List Sl → Prop) : Prop :=
  ∀ vs σ H (Q : L2.St → Hp → Prop), Rp M O r σ H → RepL M.K (nf M O) H ds vs → (∀ σ' r', Rp M O r' σ' H → (∀ ws : List Nat, (∀ j ∈ js, j ∈ ws) → wipe σ' ws = wipe σ ws) → k r' → Q σ' H) → g vs σ H Q
theorem wipe_set_out {σ : L2.St} {i : Nat} {x : Option V} : ∀ {vs : List Nat}, i ∉ vs → wipe (σ.set i x) vs = (wipe σ vs).set i x
  | [], _ => rfl
  | j :: r, h => by
    show (wipe (σ.set i x) r).set j none = ((wipe σ r).set j none).set i x
    rw [wipe_set_out fun z => h (List.mem_cons_of_mem _ z), List.set_comm _ _ fun z => h (by rw [z]; simp)]
theorem wipe_set {σ : L2.St} {i : Nat} {x : Option V} : ∀ {vs : List Nat}, i ∈ vs → wipe (σ.set i x) vs = wipe σ vs
  | [], h => nomatch h
  | j :: r, h => by
    show (wipe (σ.set i x) r).set j none = (wipe σ r).set j none
    by_cases hr : i ∈ r
    · rw [wipe_set hr]
    · have e : i = j := (List.mem_cons.mp h).resolve_right hr
      subst e
      rw [wipe_set_out hr, List.set_set]
section
variable {M : Md} {O : List Addr} {r : List Sl} {k : List Sl → Prop}
theorem dg_name {j : Nat} {d : D} (h : k (r.set j (.d d))) : DG M (gName j) [j] O r d k := fun v σ H Q R p z =>
  z _ _ (R.set (s := .d d) ⟨v, rfl, p⟩ (fun p xs e => nomatch e)) (fun vs hv => wipe_set (hv j (by simp))) h
theorem dgs_nil (h : k r) : DGs M gNil [] O r [] k := fun vs σ H Q R p z => ⟨p, z _ _ R (fun _ _ => rfl) h⟩
theorem dgs_cons {g : TG} {gs : TGs} {js ls : List Nat} {d : D} {ds : List D} (h : DG M g js O r d fun r1 => DGs M gs ls O r1 ds k) : DGs M (gCons g gs) (js ++ ls) O r (d :: ds) k := fun vs σ H Q R p z => by
  obtain ⟨v, ws, rfl, p1, p2⟩ := p
  refine ⟨v, ws, rfl, h v σ H _ R p1 fun σ1 r1 R1 w1 q1 => q1 ws σ1 H Q R1 p2 fun σ2 r2 R2 w2 q2 => z _ _ R2 (fun us hu => ?_) q2⟩
  rw [w2 us fun j hj => hu j (List.mem_append_right _ hj), w1 us fun j hj => hu j (List.mem_append_left _ hj)]
theorem dg_tup {gs : TGs} {js : List Nat} {n : Nat} {ds : List D} (hn : ds.length = n) (h : DGs M gs js O r ds k) : DG M (gTup M.K n gs) js O r (.tup ds) k := fun v σ H Q R p z => by
  obtain ⟨a, vs, rfl, h1, h2⟩ := p
  exact ⟨a, vs, rfl, h1.sq, by rw [← h2.length, hn], h vs σ H Q R h2 z⟩
end

/-! ### comprehensions -/
def wipeR (r : List Sl) : List Nat → List Sl
  | [] => r
  | j :: js => (wipeR r js).set j .un
section
variable {M : Md} {O : List Addr} {r : List Sl} {σ : L2.St} {H H' : Hp}
theorem Rp.unset {i : Nat} (R : Rp M O r σ H) : Rp M O (r.set i .un) (σ.set i none) H := by
  refine ⟨R.sm, R.inv, R.own, R.nod, by rw [List.length_set, List.length_set]; exact R.len, fun j t ht => ?_, fun j l p xs ys h1 h2 => ?_⟩
  · by_cases e : i = j
    · subst e
      by_cases hi : i < r.length
      · rw [List.getElem?_set_self hi] at ht
        cases ht
        trivial
      · rw [List.getElem?_eq_none (by rw [List.length_set]; omega)] at ht
        cases ht
    · rw [List.getElem?_set_ne e] at ht
      rw [List.getElem?_set_ne e]
      exact R.slot j t ht
  · have a : ∀ {m : Nat} {zs : List D}, (r.set i .un)[m]? = some (.mu p zs) → r[m]? = some (.mu p zs) := fun {m zs} h => by
      by_cases e : i = m
      · subst e
        by_cases hi : i < r.length
        · rw [List.getElem?_set_self hi] at h
          cases h
        · rw [List.getElem?_eq_none (by rw [List.length_set]; omega)] at h
          cases h
      · rw [List.getElem?_set_ne e] at h
        exact h
    exact R.one j l p xs ys (a h1) (a h2)
theorem Rp.wipe (R : Rp M O r σ H) : ∀ vs : List Nat, Rp M O (wipeR r vs) (wipe σ vs) H
  | [] => R
  | j :: vs => (Rp.wipe R vs).unset (i := j)
/-- back from a block: the slots as they were ahead of it -/
theorem Rp.back {O' : List Addr} {r' : List Sl} {σ' : L2.St} (R : Rp M O r σ H) (R' : Rp M O' r' σ' H') (e : Sm M.F0 H H') : Rp M O r σ H' := R.step e R'.inv
end
end Dw

namespace Dw
open PySem PySem.Spec PyProof.Rows L2
theorem wipe_wipe {σ : L2.St} {vs : List Nat} : ∀ {us : List Nat}, (∀ j ∈ us, j ∈ vs) → wipe (wipe σ us) vs = wipe σ vs
  | [], _ => rfl
  | j :: us, h => by
    show wipe ((wipe σ us).set j none) vs = _
    rw [wipe_set (h j (by simp)), wipe_wipe fun l hl => h l (List.mem_cons_of_mem _ hl)]
section
variable {M : Md} {O : List Addr} {r : List Sl} {wi : TI} {g : TG} {tt : TT} {te : TE} {vs js : List Nat} {k : D → Prop}
/-- [te for g in wi if tt]: R tells the items made in the first i turns -/
theorem de_lc (hjs : ∀ j ∈ js, j ∈ vs) (h : DI M wi O r fun xs => xs.length < sizeLine ∧ ∃ R : Nat → List D → Prop, R 0 [] ∧
    (∀ (O' : List Addr) (i : Nat) (x : D) (ys : List D), xs[i]? = some x → R i ys → DG M g js O' (wipeR r vs) x fun r2 => DT M tt O' r2 fun b => if b = true then De M te O' r2 fun y => R (i + 1) (ys ++ [y]) else R (i + 1) ys) ∧
    ∀ ys, R xs.length ys → k (.lst ys)) : De M (tLc wi g tt te vs) O r k := fun σ H Q R0 z => by
  refine h σ H _ R0 fun J H1 xs W R1 e1 g1 q => ?_
  intro Dl hD
  obtain ⟨hz, R, r0, turn, fin⟩ := q
  have GD : W.G (nf M (Dl :: O)) (upd H1 Dl (.lst [])) := W.mono _ _ _ (sm_0 (sm_new hD)) (W.gen _ _ _ (fun a ha => (plus_of a ha).imp id fun z => by rw [z]; exact hD) g1)
  refine ⟨fun i m H2 => m = xs.length - i ∧ i ≤ xs.length ∧ ∃ ys acc, R i ys ∧ ys.length ≤ i ∧ H2 Dl = some (.lst acc) ∧ RepL M.K (nf M (Dl :: O)) H2 ys acc ∧ Rp M (Dl :: O) r σ H2 ∧ Sm M.F0 H1 H2 ∧ W.G (nf M (Dl :: O)) H2,
    ⟨xs.length, by simp, Nat.zero_le _, [], [], r0, Nat.le_refl _, upd_same, .nil, R1.own1 hD, sm_0 (sm_new hD), GD⟩, ?_⟩
  rintro i m H2 ⟨rfl, hi, ys, acc, hR, hy, hd, pa, R2, e2, g2⟩
  by_cases hlt : i < xs.length
  · refine .inr ⟨W.go _ _ i g2 hlt, _, fun H' p => ⟨xs.length - (i + 1), by omega, rfl, hlt, p⟩, fun x H3 y => ?_⟩
    obtain ⟨s3, p3⟩ := W.yld _ _ i x H3 _ (nf_tr R2) g2 y (List.getElem?_eq_getElem hlt)
    have R3 := R2.grow s3
    refine turn (Dl :: O) i _ ys (List.getElem?_eq_getElem hlt) hR x _ H3 _ (R3.wipe vs) p3 fun σ4 r4 R4 w4 q4 => ⟨?_, ?_⟩
    · rw [w4 vs hjs, wipe_wipe fun _ h => h]
    · refine q4 σ4 H3 _ R4 fun b H5 R5 e5 q5 => ?_
      have e35 : Sm M.F0 H2 H5 := (sm_0 s3).trans e5
      cases b with
      | false =>
        rw [if_neg Bool.false_ne_true] at q5 ⊢
        have R5' := R2.step e35 R5.inv
        have nD : ¬ M.F0 Dl := fun z => M.tr Dl (M.f0 Dl z) (R2.own Dl (by simp)).1
        exact ⟨ys, acc, q5, by omega, e35 Dl _ nD hd, pa.step e35, R5', e2.trans e35, W.mono _ _ _ (e35.wide nf0) g2⟩
      | true =>
        rw [if_pos rfl] at q5 ⊢
        refine q5 σ4 H5 _ R5 fun v H6 d R6 e6 p6 q6 => ?_
        have e26 : Sm M.F0 H2 H6 := e35.trans e6
        have nD : ¬ M.F0 Dl := fun z => M.tr Dl (M.f0 Dl z) (R2.own Dl (by simp)).1
        have hd6 := e26 Dl _ nD hd
        have pa6 := pa.step e26
        refine ⟨acc, hd6, by rw [← pa.length]; omega, ys ++ [d], acc ++ [v], q6, by simp; omega, upd_same, ?_, ?_, ?_, ?_⟩
        · have e : Sm (nf M (Dl :: O)) H6 (upd H6 Dl (.lst (acc ++ [v]))) := fun a o n e => by
            rw [upd_ne fun z => n (.inr (by rw [z]; simp))]
            exact e
          exact (pa6.append (.one p6)).mono e
        · -- the own list is in no slot
          have R6' := R2.step e26 R6.inv
          have fp : M.H0 Dl = none := (R2.own Dl (by simp)).1
          have nin : ∀ (j : Nat) (zs : List D), r[j]? ≠ some (.mu Dl zs) := fun j zs e => (R1.own Dl (R1.slot j _ e).2.1).2 hD
          have e : Sm (nf M (Dl :: O)) H6 (upd H6 Dl (.lst (acc ++ [v]))) := fun a o n e => by
            rw [upd_ne fun z => n (.inr (by rw [z]; simp))]
            exact e
          refine ⟨fun a o n e => ?_, M.st H6 _ R6'.inv fun a o f e => ?_, fun a ha => ⟨(R6'.own a ha).1, ?_⟩, R6'.nod, R6'.len, fun j t ht => ?_, R6'.one⟩
          · rw [upd_ne (ne_of_none e fp)]
            exact R6'.sm a o n e
          · rw [upd_ne fun z => M.tr a (M.f0 a f) (by rw [z]; exact fp)]
            exact e
          · by_cases q : a = Dl
            · rw [q, upd_same]
              exact fun z => nomatch z
            · rw [upd_ne q]
              exact (R6'.own a ha).2
          · have h1 := R6'.slot j t ht
            cases t with
            | un => trivial
            | d x =>
              obtain ⟨u, e2, h2⟩ := h1
              exact ⟨u, e2, h2.mono e⟩
            | mu l zs =>
              obtain ⟨e2, hl, us, h2, h3⟩ := h1
              refine ⟨e2, hl, us, ?_, h3.mono e⟩
              rw [upd_ne fun z => nin j zs (by rw [← z]; exact ht)]
              exact h2
        · exact fun a o n e => by
            have ea := e2.trans e26 a o n e
            rw [upd_ne (ne_of_none e hD)]
            exact ea
        · exact W.mono _ _ _ (fun a o n e => by
            rw [upd_ne fun z => n (.inr (by rw [z]; simp))]
            exact e26 a o (fun z => n (nf0 a z)) e) g2
  · have e : i = xs.length := by omega
    subst e
    refine .inl ⟨W.stop _ _ _ g2 (Nat.le_refl _), ?_⟩
    have w : ∀ a, nf M O a → nf M (Dl :: O) a := fun a ha => ha.imp id (List.mem_cons_of_mem _)
    refine z (.ref Dl) H2 (.lst ys) (R1.step e2 R2.inv) (e1.trans e2) ⟨Dl, acc, rfl, .inl ⟨new_no R1 hD, .inl hd⟩, pa.less w⟩ (fin ys hR)
/-- .. where the test and the item are functions of what is walked -/
theorem de_lcF (p : D → Bool) (f : D → D) (hjs : ∀ j ∈ js, j ∈ vs) (h : DI M wi O r fun xs => xs.length < sizeLine ∧
    (∀ (O' : List Addr) (i : Nat) (x : D), xs[i]? = some x → DG M g js O' (wipeR r vs) x fun r2 => DT M tt O' r2 fun b => b = p x ∧ (p x = true → De M te O' r2 fun y => y = f x)) ∧
    k (.lst ((xs.filter p).map f))) : De M (tLc wi g tt te vs) O r k :=
  de_lc hjs fun σ H Q R z => h σ H Q R fun J H1 xs W R1 e1 g1 ⟨hz, turn, fin⟩ => z J H1 xs W R1 e1 g1 ⟨hz, fun i ys => ys = ((xs.take i).filter p).map f, by simp, fun O' i x ys hx hy => by
    have ht : xs.take (i + 1) = xs.take i ++ [x] := by rw [List.take_add_one, hx]; rfl
    refine fun v σ H Q R pv z => turn O' i x hx v σ H Q R pv fun σ' r' R' w' q => z σ' r' R' w' (q.imp fun b ⟨hb, hq⟩ => ?_)
    subst hb
    cases e : p x with
    | true =>
      rw [if_pos rfl]
      refine (hq e).imp fun y hy2 => ?_
      show ys ++ [y] = ((xs.take (i + 1)).filter p).map f
      rw [ht, List.filter_append, List.map_append, hy, hy2, List.filter_cons_of_pos e]
      rfl
    | false =>
      rw [if_neg Bool.false_ne_true]
      show ys = ((xs.take (i + 1)).filter p).map f
      rw [ht, List.filter_append, List.map_append, hy, List.filter_cons_of_neg (by rw [e]; decide)]
      simp, fun ys hy => by
    rw [hy, List.take_length]
    exact fin⟩
/-- .. one item a turn, each of a kind -/
theorem de_lcP (C : Nat → D → D → Prop) (hjs : ∀ j ∈ js, j ∈ vs) (h : DI M wi O r fun xs => xs.length < sizeLine ∧
    (∀ (O' : List Addr) (i : Nat) (x : D), xs[i]? = some x → DG M g js O' (wipeR r vs) x fun r2 => De M te O' r2 (C i x)) ∧
    ∀ ys, ys.length = xs.length → (∀ (i : Nat) x y, xs[i]? = some x → ys[i]? = some y → C i x y) → k (.lst ys)) : De M (tLc wi g tYes te vs) O r k :=
  de_lc hjs fun σ H Q R z => h σ H Q R fun J H1 xs W R1 e1 g1 ⟨hz, turn, fin⟩ => z J H1 xs W R1 e1 g1 ⟨hz, fun i ys => ys.length = i ∧ ∀ (j : Nat) x y, xs[j]? = some x → ys[j]? = some y → C j x y, ⟨rfl, fun j x y _ e => by simp at e⟩, fun O' i x ys hx ⟨hl, hy⟩ => by
    refine fun v σ H Q R pv z => turn O' i x hx v σ H Q R pv fun σ' r' R' w' q => z σ' r' R' w' fun σ H Q R z => z true H R .refl (iteT ?_)
    refine q.imp fun y cy => ⟨by simp [hl], fun j a b ha hb => ?_⟩
    by_cases hj : j < ys.length
    · rw [List.getElem?_append_left hj] at hb
      exact hy j a b ha hb
    · rw [List.getElem?_append_right (by omega)] at hb
      have hj2 : j - ys.length = 0 := by
        refine Nat.eq_zero_of_not_pos fun q => ?_
        rw [List.getElem?_eq_none (by simp; omega)] at hb
        cases hb
      rw [hj2] at hb
      have ej : j = i := by omega
      subst ej
      rw [hx] at ha
      cases ha
      cases hb
      exact cy, fun ys ⟨hl, hy⟩ => fin ys hl hy⟩
end
/-! ### for -/
section
variable {M : Md} {O : List Addr} {r : List Sl} {wi : TI} {g : TG} {tb : TS} {js : List Nat} {E : Kn}
theorem ds_for (h : DI M wi O r fun xs => ∃ V : Nat → List Addr → List Sl → Prop, V 0 O r ∧
    (∀ (i : Nat) (x : D) (O' : List Addr) (r' : List Sl), xs[i]? = some x → V i O' r' → DG M g js O' r' x fun r2 => DS M tb O' r2 { E with nx := V (i + 1), ct := V (i + 1), bk := E.nx }) ∧
    ∀ (O' : List Addr) (r' : List Sl), V xs.length O' r' → E.nx O' r') : DS M (tFor wi g tb) O r E := fun σ H Z R0 z => by
  refine h σ H _ R0 fun J H1 xs W R1 e1 g1 ⟨V, v0, turn, fin⟩ => ?_
  have gI : W.G (fun a => nf M O a ∨ H1 a = none) H1 := W.gen _ _ _ (fun a ha => ha) g1
  refine ⟨fun i m σ2 H2 => m = xs.length - i ∧ i ≤ xs.length ∧ ∃ O2 r2, V i O2 r2 ∧ Rp M O2 r2 σ2 H2 ∧ Stp M O H1 O2 H2, ⟨xs.length, by simp, Nat.zero_le _, O, r, v0, R1, .refl⟩, ?_⟩
  rintro i m σ2 H2 ⟨rfl, hi, O2, r2, hv, R2, s2⟩
  have s02 : Stp M O H O2 H2 := Stp.trans R1.inv (R1.stp e1) s2
  have g2 : W.G (fun a => nf M O a ∨ H1 a = none) H2 := W.mono _ _ _ (s2.1.wide fun a ha => .inl (ha.imp (M.f0 a) id)) gI
  by_cases hlt : i < xs.length
  · refine .inr ⟨W.go _ _ i g2 hlt, fun σ3 H3 => ∃ O3 r3, V (i + 1) O3 r3 ∧ Rp M O3 r3 σ3 H3 ∧ Stp M O H1 O3 H3, fun σ' H' p => ⟨xs.length - (i + 1), by omega, rfl, hlt, p⟩, fun x H3 y => ?_⟩
    have g2' : W.G (nf M O2) H2 := W.gen _ _ _ (fun a ha => .inl (by
      rcases ha with ha | ha
      · exact .inl (.inl ha)
      · exact (s2.2.1 a ha).imp .inr id)) g2
    obtain ⟨s3, p3⟩ := W.yld _ _ i x H3 _ (nf_tr R2) g2' y (List.getElem?_eq_getElem hlt)
    have R3 := R2.grow s3
    have s13 : Stp M O H1 O2 H3 := Stp.trans R2.inv s2 (R3.stp (sm_0 s3))
    refine turn i _ O2 r2 (List.getElem?_eq_getElem hlt) hv x _ H3 _ R3 p3 fun σ4 r4 R4 w4 q4 => ?_
    have back : ∀ {O5 : List Addr} {H5 : Hp}, Stp M O2 H3 O5 H5 → Stp M O H1 O5 H5 := fun s => Stp.trans R3.inv s13 s
    refine q4 σ4 H3 _ R4 ⟨fun O5 r5 σ5 H5 R5 s5 q5 => ⟨O5, r5, q5, R5, back s5⟩, fun v H5 d s1 i1 p1 q5 => z.rt v H5 d s1 i1 p1 q5, fun O5 r5 σ5 H5 R5 s5 q5 => ?_, fun O5 r5 σ5 H5 R5 s5 q5 => ⟨O5, r5, q5, R5, back s5⟩⟩
    exact z.nx O5 r5 σ5 H5 R5 (Stp.trans R1.inv (R1.stp e1) (back s5)) q5
  · have e : i = xs.length := by omega
    subst e
    exact .inl ⟨W.stop _ _ _ g2 (Nat.le_refl _), z.nx O2 r2 σ2 H2 R2 s02 (fin O2 r2 hv)⟩
end
end Dw

/-! list(reversed(a list)): a rule over the library's walks. -/
namespace Dw
open PySem PySem.Spec PyProof.Rows L2
theorem lri_no_len : typeLookup (.type "list_reverseiterator") "__len__" = pure none := by rw [typeLookup_type, builtinLookup_eq_fast]; kernel_rfl
theorem lri_hint : typeLookup (.type "list_reverseiterator") "__length_hint__" = pure (some (.builtin "list_reverseiterator.__length_hint__")) := by rw [typeLookup_type, builtinLookup_eq_fast]; kernel_rfl
theorem lri_sub : isSubtype (.type "list_reverseiterator") (.type "list_reverseiterator") = pure true := by rw [isSubtype_type]; kernel_rfl
section
variable {prog : Program} {w : World} {A : Around} {s : Shared} {E : Value → Shared → Prop}
theorem hint_rev {I : Addr} {Q : Bool → Shared → Prop} (kindR : s.TypeIs (.ref I) "list_reverseiterator") (h : Q false s) : wpAny (model prog w) A (Builtin.List.listLengthHint (.ref I)) Q E s := by
  unfold Builtin.List.listLengthHint
  refine wpAny_bind (wpAny_specialOf kindR lri_no_len ?_)
  show wpAny _ A (specialOf (Value.ref I) (Str.ofString "__length_hint__") >>= _) _ _ _
  refine wpAny_bind (wpAny_specialOf kindR lri_hint ?_)
  generalize nm : ("list_reverseiterator.__length_hint__" : String) = nm0
  wp_delta
  rw [show splitId nm0 = some ("list_reverseiterator", "__length_hint__") from by subst nm; decide +kernel]
  subst nm
  refine wpAny_bind (wpAny_isInstance (T := "list_reverseiterator") (b := true) kindR lri_sub ?_)
  refine wpAny_ite_split (fun no => absurd no (by decide)) (fun _ => ?_)
  refine wpAny_ite_split (fun _ => ?_) (fun no => absurd (by decide +kernel) no)
  refine wpAny_ite_split (fun no => absurd no (by decide +kernel)) (fun _ => ?_)
  exact wpAny_pure h
variable {R : Result → Shared → Prop} {I : Addr} {fp wr : List Addr} {G : Array GenState → Array GenState → Prop} {n : Nat} {P : Nat → Value → Prop} {St : Nat → Shared → Prop}
theorem extend_rev (W : WalksS prog w A.in1 I fp wr G n P St) (kindR : ∀ i s, St i s → s.TypeIs (.ref I) "list_reverseiterator") (S : Addr) (res : Value) (c0 : Nat) (atS : St 0 s) (outF : S ∉ fp) (hI : I ∈ fp)
    (cell : s.heap.get? S = some { cls := .type "list", data := .seq #[] c0 })
    (hR : ∀ s' xs1 cp1, Moved (S :: wr) G s s' → s'.heap.get? S = some { cls := .type "list", dict := none, data := .seq xs1 cp1, slots := #[] } → ItemsOf P xs1 n → R (.ok (.ret res)) s') (hn : n ≤ sizeLine) :
    wpAny (model prog w) A.in1 (Builtin.List.listExtendWith (.ref S) (.ref I) res)
      (fun fin s' => match fin with | .done f => R (.ok f) s' | .again cp1 => cp1.quiet = true ∧ codeAny (model prog w) A cp1 R s') (fun e s' => R (.error e) s') s := by
  have nIn : S ≠ I := fun e => outF (e ▸ hI)
  unfold Builtin.List.listExtendWith
  refine wpAny_bind (wpAny_typeOf (kindR 0 _ atS) ?_)
  have e1q : Builtin.List.listSameRef (.ref S) (.ref I) = false := by simp [Builtin.List.listSameRef, nIn]
  have e2q : (Value.type "list_reverseiterator" == Value.type "list") = false := by decide
  have e3q : (Value.type "list_reverseiterator" == Value.type "tuple") = false := by decide
  simp only [e1q, e2q, e3q, Bool.or_false, Bool.false_eq_true, if_false]
  refine wpAny_bind (W.self 0 _ _ _ atS ?_)
  refine wpAny_bind (wpAny_holding (hint_rev (kindR 0 _ atS) ?_))
  refine wpAny_pure ⟨plainId_quiet F.plain_extend_loop _, codeAny_extend_loopS W hn S outF res n 0 s #[] c0 rfl (Nat.zero_le _) atS cell (ItemsOf.nil P) fun s' xs1 cp1 hm cell1 got => ?_⟩
  exact hR s' xs1 cp1 hm cell1 got
theorem list_init_rev (W : WalksS prog w A.in1 I fp wr G n P St) (kindR : ∀ i s, St i s → s.TypeIs (.ref I) "list_reverseiterator") (S : Addr) (atS : St 0 s) (outF : S ∉ fp) (hI : I ∈ fp)
    (cell : s.heap.get? S = some { cls := .type "list", data := .seq #[] })
    (hR : ∀ s' xs1 cp1, Moved (S :: wr) G s s' → s'.heap.get? S = some { cls := .type "list", dict := none, data := .seq xs1 cp1, slots := #[] } → ItemsOf P xs1 n → R (.ok (.ret .none)) s') (hn : n ≤ sizeLine) :
    wpAny (model prog w) A.in1 (Builtin.«list.__init__» ⟨[.ref S, .ref I], []⟩)
      (fun fin s' => match fin with | .done f => R (.ok f) s' | .again cp1 => cp1.quiet = true ∧ codeAny (model prog w) A cp1 R s') (fun e s' => R (.error e) s') s := by
  show wpAny _ A.in1 (do let old ← Builtin.List.listItems (.ref S); Builtin.List.listUpdate (.ref S) (fun _ => #[]); letGo old.toList.reverse; Builtin.List.listExtendWith (.ref S) (.ref I) .none) _ _ s
  refine wpAny_bind ?_
  unfold Builtin.List.listItems
  refine wpAny_bind (wpAny_seqItems cell rfl (wpAny_pure ?_))
  show wpAny _ A.in1 (updateSeq S (fun _ => #[]) >>= fun _ => letGo (#[] : Array Value).toList.reverse >>= fun _ => Builtin.List.listExtendWith (.ref S) (.ref I) .none) _ _ s
  refine wpAny_bind (wpAny_updateSeq cell rfl ?_)
  have cell2 := Heap.get?_update_self (Obj.mapSeq (fun _ => (#[] : Array Value))) cell rfl
  have rest : ∀ b o, b ≠ S → s.heap.get? b = some o → (s.heap.update S (Obj.mapSeq (fun _ => (#[] : Array Value)))).get? b = some o :=
    fun b o hb e => (Heap.get?_update_other _ _ (Ne.symm hb)).trans e
  refine wpAny_bind (wpAny_letGo ?_)
  refine extend_rev W kindR S .none _ (W.frame 0 s _ s.toks atS (Nat.le_refl _) fun b hb o e => rest b o (fun h => outF (h ▸ hb)) e) outF hI cell2 (fun s' xs1 cp1 hm cell1 got => ?_) hn
  exact hR s' xs1 cp1 (Moved.trans W.gtrans ((Moved.refl W.grefl).then_heap (Nat.le_refl _) fun b o hb e => rest b o (fun h => hb (h ▸ List.mem_cons_self)) e) hm) cell1 got
end
section
variable {prog : Program} {w : World} {A : Around} {s : Shared} {E : Value → Shared → Prop}
variable {I : Addr} {fp wr : List Addr} {G : Array GenState → Array GenState → Prop} {n : Nat} {P : Nat → Value → Prop} {St : Nat → Shared → Prop}
theorem call_list_revW {Q : Value → Shared → Prop} (W : WalksS prog w A.in1.in1 I fp wr G n P St) (kindR : ∀ i s, St i s → s.TypeIs (.ref I) "list_reverseiterator") (atS : St 0 s) (below : ∀ b ∈ fp, b < s.heap.objs.size) (hI : I ∈ fp)
    (hQ : ∀ s' xs1 cp1, Moved (s.heap.objs.size :: wr) G { s with heap := s.heap.push { cls := .type "list", data := .seq #[] } } s' →
      s'.heap.get? s.heap.objs.size = some { cls := .type "list", dict := none, data := .seq xs1 cp1, slots := #[] } → ItemsOf P xs1 n → Q (.ref s.heap.objs.size) s') (hn : n ≤ sizeLine) :
    wpAny (model prog w) A (call (.type "list") [.ref I]) Q E s := by
  have outF : s.heap.objs.size ∉ fp := fun hm => Nat.lt_irrefl _ (below _ hm)
  refine callType_codes (Q₁ := fun obj s1 => obj = .ref s.heap.objs.size ∧ s1 = { s with heap := s.heap.push { cls := .type "list", data := .seq #[] } }) F.called_list (F.typeCall_list_1 _) F.entry_list_init
    (code_list_new _ ⟨rfl, rfl⟩) fun obj s1 e1q => ?_
  obtain ⟨rfl, rfl⟩ := e1q
  have cell : (s.heap.push { cls := .type "list", data := .seq #[] }).get? s.heap.objs.size = some { cls := .type "list", data := .seq #[] } := Heap.get?_push_size _ rfl
  refine ⟨⟨_, cell, rfl⟩, F.args_list_init_2 _ _, list_init_rev W kindR _ (W.frame 0 s _ s.toks atS (Nat.le_refl _) fun b _ o e => Heap.get?_push_of_some _ e) outF hI cell (fun s' xs1 cp1 hm cell1 got => ?_) hn⟩
  exact ⟨rfl, hQ s' xs1 cp1 hm cell1 got⟩
/-- list of a reverse iterator over a list -/
theorem call_list_rev {it l : Addr} {items : Array Value} {Q : Value → Shared → Prop} (hh : A.handled = none) (hit : s.heap.IsRevIter it l ((items.size : Int) - 1)) (hl : s.heap.IsList l items) (hne : l ≠ it) (hn : items.size ≤ sizeLine)
    (hQ : ∀ (h' : Heap) (tk : Nat) (acc : Array Value) (c : Nat), (∀ b o, b ≠ it → s.heap.get? b = some o → h'.get? b = some o) → h'.get? s.heap.objs.size = some { cls := .type "list", dict := none, data := .seq acc c, slots := #[] } →
      ItemsOf (fun i v => items[items.size - 1 - i]? = some v) acc items.size → Q (.ref s.heap.objs.size) { s with heap := h', toks := tk }) :
    wpAny (model prog w) A (call (.type "list") [.ref it]) Q E s := by
  have W := (Walks.listRev (prog := prog) (w := w) (A := A.in1.in1) hh it l hne items).toS
  obtain ⟨o1, ho1, _⟩ := id hit
  obtain ⟨o2, ho2, _⟩ := id hl
  refine call_list_revW W (fun i s h => h.2.1.typeIs) ⟨Nat.zero_le _, ?_, hl⟩ (fun b hb => ?_) (by simp) (fun s' xs1 cp1 hm cell1 got => ?_) hn
  · simpa using hit
  · rcases List.mem_cons.mp hb with rfl | hb
    · exact Heap.lt_size ho1
    · rw [List.mem_singleton.mp hb]
      exact Heap.lt_size ho2
  · obtain ⟨hp, g, d, tk, os⟩ := s'
    have e1 : g = s.gens := hm.gens
    have e2 : d = s.drawn := hm.drawn
    have e3 : os = s.os := hm.os
    subst e1 e2 e3
    refine hQ hp tk xs1 cp1 (fun b o hb e => ?_) cell1 got
    refine hm.heap b o (fun inM => ?_) (Heap.get?_push_of_some _ e)
    rcases List.mem_cons.mp inM with e' | inM
    · exact absurd (Heap.lt_size e) (by rw [e']; exact Nat.lt_irrefl _)
    · exact hb (List.mem_singleton.mp inM)
end
section
variable {X : Cx}
def tListRev (K : PySem.W.Frag) (te : TE) : TE := fun σ H Q => te σ H fun v H1 => ∃ (a : Addr) (xs : List V), v = .ref a ∧ SqL K H1 a xs ∧ ∀ q, H1 q = none → Q (.ref q) (upd H1 q (.lst xs.reverse))
/-- list(reversed(x)), x a list: a new list -/
theorem pe_listRev {e : Expr} {te : TE} {p p2 pos pos2 : Pos} (hc : X.calm = true) (hg : Gl X "list") (hm : X.mg "list" = none) (hg2 : Gl X "reversed") (hm2 : X.mg "reversed" = none) (he : PE X e te)
    (hs : starEach [e] X.env = (false, eval e X.env) :: starEach [] X.env := by rfl)
    (hs2 : starEach [.Call (.Name "reversed" p2) [e] [] pos2] X.env = (false, eval (.Call (.Name "reversed" p2) [e] [] pos2) X.env) :: starEach [] X.env := by rfl) :
    PE X (.Call (.Name "list" p) [.Call (.Name "reversed" p2) [e] [] pos2] [] pos) (tListRev X.K te) := by
  refine ⟨fun pins s σ H Q I h => ?_⟩
  refine Call_ (ld_blt I hg hm boot_list (PyProof.Rows.callWith_type1 (args_cons (Call_ (ld_blt I hg2 hm2 PyProof.Rows.boot_reversed (PyProof.Rows.callWith_type1 (args_cons (thn (he.run pins s σ H _ I h) fun u s1 ⟨v, H1, I1, r1, q1⟩ => args_nil ?_) hs) hs rfl))) hs2) hs2 rfl))
  obtain ⟨a, xs, ev, hq, q⟩ := q1
  subst ev
  obtain rfl : u = Value.ref a := r1
  obtain ⟨its, rv, p', hz⟩ := I1.list hq
  refine call_reversed_list p'.isList (args_nil ?_)
  have k0 : ∀ b o, s1.heap.get? b = some o → (s1.heap.push (revObj a ((its.toArray.size : Int) - 1))).get? b = some o := fun b o e => Heap.get?_push_of_some _ e
  have I2 : Inv X pins σ H1 { s1 with heap := s1.heap.push (revObj a ((its.toArray.size : Int) - 1)) } := I1.kept (t' := s1.toks) k0
  obtain ⟨f0, f1, f2, f3, f4, f5⟩ := I1.fpOk (H' := H1) (b := s1.heap.objs.size) (Nat.le_refl _) (I1.hok.fresh (Nat.le_refl _))
  have hl := p'.isList
  obtain ⟨ol, hol, _⟩ := id hl
  have hne : a ≠ s1.heap.objs.size := Nat.ne_of_lt (Heap.lt_size hol)
  have hn : its.toArray.size ≤ sizeLine := by rw [List.size_toArray, ← rv.length]; exact hz
  refine call_list_rev (s := { s1 with heap := s1.heap.push (revObj a ((its.toArray.size : Int) - 1)) }) (I1.ok.hd hc) ⟨_, Heap.get?_push_size _ rfl, rfl, rfl⟩ (hl.push _) hne hn fun h' tk acc c hk cell hi => ?_
  generalize hN : (s1.heap.push (revObj a ((its.toArray.size : Int) - 1))).objs.size = N at cell
  have hlt : s1.heap.objs.size < N := by
    rw [← hN, Heap.size_push]
    exact Nat.lt_succ_self _
  have nN : H1 N = none := I2.hok.fresh (by rw [← hN]; exact Nat.le_refl _)
  have I3 := I2.laid (a := N) (o := .lst xs.reverse) (h' := (s1.heap.push (revObj a ((its.toArray.size : Int) - 1))).push { cls := .type "list", data := .seq acc c }) (t' := tk) (fun b o e => Heap.get?_push_of_some _ e) (by rw [← hN]; exact Nat.le_refl _)
    (show ObjOk X.prog X.w _ _ _ (.lst xs.reverse) from ⟨by rw [List.length_reverse]; exact hz, acc.toList, c, RT.vals_rev rv hi, by
      rw [Array.toArray_toList, ← hN]
      exact Heap.get?_push_size _ rfl⟩)
  have I4 : Inv X pins σ (upd H1 N (.lst xs.reverse)) { s1 with heap := h', toks := tk } := Inv.turned (s := { s1 with heap := (s1.heap.push (revObj a ((its.toArray.size : Int) - 1))).push { cls := .type "list", data := .seq acc c }, toks := tk }) I3 (t' := tk) (it := s1.heap.objs.size) (fun b o hb e => by
    rcases Heap.get?_push_cases (show ((s1.heap.push (revObj a ((its.toArray.size : Int) - 1))).push { cls := .type "list", data := .seq acc c }).get? b = some o from e) with ⟨e1q, e2q⟩ | e1q
    · rw [e1q, e2q, hN]
      exact cell
    · exact hk b o hb e1q) (by rw [upd_ne (Nat.ne_of_lt hlt)]; exact f0) f1 f3 f4 f5
  have fin : EP X pins σ Q (.ref N) { s1 with heap := h', toks := tk } := ⟨.ref N, upd H1 N (.lst xs.reverse), I4, rfl, q N nN⟩
  rw [← hN] at fin ⊢
  exact fin
end
end Dw

namespace Dw
open PySem PySem.Spec PyProof.Rows L2
section
variable {M : Md} {O : List Addr} {r : List Sl} {k : D → Prop} {ta tb te : TE} {tl : TA}
/-! ### slices -/
def cutD (xs : List D) (lo hi : Option Int) : List D := (xs.drop (HT.sIx xs.length 0 lo)).take (HT.sIx xs.length xs.length hi - HT.sIx xs.length 0 lo)
theorem cutD_len (xs : List D) (lo hi : Option Int) : (cutD xs lo hi).length ≤ xs.length := by
  unfold cutD
  rw [List.length_take, List.length_drop]
  omega
def DO (M : Md) (to : TO) (O : List Addr) (r : List Sl) (k : Option Int → Prop) : Prop :=
  ∀ σ H (Q : Option Int → Hp → Prop), Rp M O r σ H → (∀ o H', Rp M O r σ H' → Sm M.F0 H H' → k o → Q o H') → to σ H Q
theorem do_none {k : Option Int → Prop} (h : k none) : DO M tNoPart O r k := fun σ H Q R z => z none H R .refl h
theorem do_some {k : Option Int → Prop} (h : De M te O r fun x => ∃ i, x = .int i ∧ k (some i)) : DO M (tPart te) O r k := fun σ H Q R z => h σ H _ R fun v H1 x R1 e1 p1 q => by
  obtain ⟨i, rfl, q⟩ := q
  exact ⟨i, p1, z _ H1 R1 e1 q⟩
theorem cut_rep {K : PySem.W.Frag} {N : No} {H : Hp} {xs : List D} {vs : List V} (h : RepL K N H xs vs) (lo hi : Option Int) : RepL K N H (cutD xs lo hi) (cutV vs lo hi) := by
  unfold cutD cutV
  rw [← h.length]
  exact (h.drop _).take _
theorem de_slL {lo hi : TO} (h : De M te O r fun x => ∃ xs, x = .lst xs ∧ DO M lo O r fun i => DO M hi O r fun j => k (.lst (cutD xs i j))) : De M (tSl (rSlL M.K) te lo hi) O r k := fun σ H Q R z => h σ H _ R fun v H1 x R1 e1 p1 q => by
  obtain ⟨xs, rfl, q⟩ := q
  refine q σ H1 _ R1 fun i H2 R2 e2 q2 => q2 σ H2 _ R2 fun j H3 R3 e3 q3 => ?_
  obtain ⟨a, vs, rfl, h1, h2⟩ := (p1.step e2).step e3
  exact ⟨a, vs, rfl, h1.sq, fun p hp => z _ _ _ (R3.grow (sm_new hp)) (((e1.trans e2).trans e3).trans (sm_0 (sm_new hp))) (rep_lst R3 hp (cut_rep h2 i j)) q3⟩
/-! ### operators over lists -/
theorem de_ixL (h : De M ta O r fun x => De M tb O r fun y => ∃ xs i d, x = .lst xs ∧ y = .int i ∧ atI xs i = some d ∧ k d) : De M (tOp (rIxL M.K) ta tb) O r k := de_op2 h fun x y c σ H v u Q R pv pu z => by
  obtain ⟨xs, i, d, rfl, rfl, e, q⟩ := c
  obtain ⟨a, vs, rfl, h1, h2⟩ := pv
  obtain ⟨j, e1, e2, _⟩ := atI_get e
  obtain ⟨w, e3, e4⟩ := h2.get e2
  refine ⟨a, vs, i, w, rfl, pu, h1.sq, ?_, z w H d R .refl e4 q⟩
  unfold atI at e ⊢
  rw [← h2.length]
  cases e5 : ixN xs.length i with
  | none =>
    rw [e5] at e
    cases e
  | some m =>
    rw [e5] at e
    have e6 : xs[m]? = some d := e
    obtain ⟨e7, _⟩ := ixN_seq e5
    rw [e1] at e7
    cases e7
    exact e3
/-! ### built-ins -/
theorem de_len1 {f : List V → Hp → VK → Prop} (hf : ∀ (H : Hp) (a : Addr) (vs : List V) (Q : VK), (SqL M.K H a vs ∨ SqT M.K H a vs) → Q (.int vs.length) H → f [.ref a] H Q) (h : De M te O r fun x => ∃ xs, (x = .lst xs ∨ x = .tup xs) ∧ k (.int xs.length)) :
    De M (tCB f (tCons te tNil)) O r k := fun σ H Q R z => h σ H _ R fun v H1 x R1 e1 p1 q => by
  obtain ⟨xs, c, q⟩ := q
  rcases c with rfl | rfl
  · obtain ⟨a, vs, rfl, h1, h2⟩ := p1
    refine hf H1 a vs Q (.inl h1.sq) ?_
    rw [← h2.length]
    exact z _ H1 (.int xs.length) R1 e1 rfl q
  · obtain ⟨a, vs, rfl, h1, h2⟩ := p1
    refine hf H1 a vs Q (.inr h1.sq) ?_
    rw [← h2.length]
    exact z _ H1 (.int xs.length) R1 e1 rfl q
theorem de_len (h : De M te O r fun x => ∃ xs, (x = .lst xs ∨ x = .tup xs) ∧ k (.int xs.length)) :
    De M (tCB (fun xs H Q => ∃ p ys, xs = [.ref p] ∧ (SqL M.K H p ys ∨ SqT M.K H p ys) ∧ Q (.int ys.length) H) (tCons te tNil)) O r k :=
  de_len1 (fun H a vs Q h q => ⟨a, vs, rfl, h, q⟩) h
theorem de_lenS (h : De M te O r fun x => ∃ s : Str, x = .str s ∧ s.length ≤ sizeLine ∧ k (.int s.length)) :
    De M (tCB (fun xs H Q => ∃ z, xs = [.str z] ∧ z.length ≤ sizeLine ∧ Q (.int z.length) H) (tCons te tNil)) O r k := fun σ H Q R z => h σ H _ R fun v H1 x R1 e1 p1 q => by
  obtain ⟨s, rfl, hs, q⟩ := q
  have e : v = .str s := p1
  subst e
  exact ⟨s, rfl, hs, z _ H1 (.int s.length) R1 e1 rfl q⟩
theorem de_tupleOf (h : De M te O r fun x => ∃ xs, (x = .lst xs ∨ x = .tup xs) ∧ k (.tup xs)) :
    De M (tCB (fun xs H Q => ∃ p ys, xs = [.ref p] ∧ ((SqL M.K H p ys ∧ ∀ l, H l = none → Q (.ref l) (upd H l (.tup ys))) ∨ (SqT M.K H p ys ∧ Q (.ref p) H))) (tCons te tNil)) O r k := fun σ H Q R z => h σ H _ R fun v H1 x R1 e1 p1 q => by
  obtain ⟨xs, c, q⟩ := q
  rcases c with rfl | rfl
  · obtain ⟨a, vs, rfl, h1, h2⟩ := p1
    exact ⟨a, vs, rfl, .inl ⟨h1.sq, fun p hp => z _ _ (.tup xs) (R1.grow (sm_new hp)) (e1.trans (sm_0 (sm_new hp))) (rep_tup R1 hp h2) q⟩⟩
  · obtain ⟨a, vs, rfl, h1, h2⟩ := p1
    exact ⟨a, vs, rfl, .inr ⟨h1.sq, z _ H1 (.tup xs) R1 e1 ⟨a, vs, rfl, h1, h2⟩ q⟩⟩
theorem de_max2 (h : De M ta O r fun x => De M tb O r fun y => ∃ i j, x = .int i ∧ y = .int j ∧ k (.int (if j > i then j else i))) :
    De M (tCB (fun xs H Q => ∃ i j, xs = [V.int i, V.int j] ∧ Q (.int (if j > i then j else i)) H) (tCons ta (tCons tb tNil))) O r k := fun σ H Q R z => h σ H _ R fun v H1 x R1 e1 p1 q => q σ H1 _ R1 fun u H2 y R2 e2 p2 q2 => by
  obtain ⟨i, j, rfl, rfl, q2⟩ := q2
  have a1 : v = .int i := p1
  have a2 : u = .int j := p2
  subst a1 a2
  exact ⟨i, j, rfl, z _ H2 (.int (if j > i then j else i)) R2 (e1.trans e2) rfl q2⟩
theorem de_any (h : De M te O r fun x => ∃ bs : List Bool, x = .lst (bs.map D.bl) ∧ k (.bl (bs.any id))) : De M (tCB (rAny M.K) (tCons te tNil)) O r k := fun σ H Q R z => h σ H _ R fun v H1 x R1 e1 p1 q => by
  obtain ⟨bs, rfl, q⟩ := q
  obtain ⟨a, vs, rfl, h1, h2⟩ := p1
  rw [repL_bls h2] at h1
  exact ⟨a, bs, rfl, h1.sq, z _ H1 (.bl (bs.any id)) R1 e1 rfl q⟩
theorem de_sum (h : De M te O r fun x => ∃ bs : List Int, x = .lst (bs.map D.int) ∧ k (.int bs.sum)) : De M (tCB (rSum M.K) (tCons te tNil)) O r k := fun σ H Q R z => h σ H _ R fun v H1 x R1 e1 p1 q => by
  obtain ⟨bs, rfl, q⟩ := q
  obtain ⟨a, vs, rfl, h1, h2⟩ := p1
  rw [repL_ints h2] at h1
  exact ⟨a, bs, rfl, h1.sq, z _ H1 (.int bs.sum) R1 e1 rfl q⟩
theorem dt_yes {kt : Bool → Prop} (h : kt true) : DT M tYes O r kt := fun σ H Q R z => z true H R .refl h
/-- a statement told over data, then the rest by hand -/
theorem raw_seq {ts tz : TS} {σ : L2.St} {H : Hp} {Z : Ends} (E : List Addr → List Sl → Prop) (R : Rp M O r σ H) (h : DS M ts O r { nx := E, rt := fun _ => False })
    (q : ∀ O1 r1 σ1 H1, Rp M O1 r1 σ1 H1 → Stp M O H O1 H1 → E O1 r1 → tz Z σ1 H1) : tSeq ts tz Z σ H :=
  h σ H _ R ⟨fun O1 r1 σ1 H1 R1 s1 q1 => q O1 r1 σ1 H1 R1 s1 q1, fun _ _ _ _ _ _ z => z.elim, fun _ _ _ _ _ _ z => z.elim, fun _ _ _ _ _ _ z => z.elim⟩
theorem ints_of {P : Int → Prop} : ∀ {ys : List D}, (∀ (i : Nat) y, ys[i]? = some y → ∃ n, y = .int n ∧ P n) → ∃ ms : List Int, ys = ms.map D.int ∧ ∀ m ∈ ms, P m
  | [], _ => ⟨[], rfl, fun _ h => nomatch h⟩
  | y :: ys, h => by
    obtain ⟨n, e, p⟩ := h 0 y rfl
    obtain ⟨ms, e2, p2⟩ := ints_of (ys := ys) fun i y hy => h (i + 1) y hy
    refine ⟨n :: ms, by rw [e, e2]; rfl, fun m hm => ?_⟩
    rcases List.mem_cons.mp hm with rfl | hm
    · exact p
    · exact p2 m hm
end
end Dw

/-! defs that are called where nothing is being shown by repr: FnG; their bodies, their calls, a law's end. -/
namespace Dw
open PySem PySem.Spec PyProof.Rows L2
structure FnG (P : Program) (w : World) (K : PySem.W.Frag) (mg : Str → Option Value) (base : Heap) (k : Nat) (f : Addr) (fd : FuncData) (ps : List Str) (sp : Sp) : Prop where
  len : ∀ vs H Q E, sp vs H Q E → vs.length = ps.length
  run : ∀ (A : Around) (outer : List Env) (s : Shared) (H : Hp) (args : Args) (us : List Value) (vs : List V) (Q : VK) (E : XK),
    A.guards = some [] → Room k A → Env0 P w K mg base A outer s H → BindsTo s fd args (ps.zip us) → Vals vs us → sp vs H Q E → codeAny (model P w) A (.call (.ref f) args) (CR CX0 outer P w H s Q E) s
section
variable {P : Program} {w : World} {K : PySem.W.Frag} {mg : Str → Option Value} {base : Heap}
theorem fng_of {x qual : Str} {st : Stmt} {f : Addr} {fd : FuncData} {N ps : List Str} {k : Nat} {sp : Sp} (F : Fun K x qual st f fd) (T : FnScope N ps (defScope st)) (len : ∀ vs H Q E, sp vs H Q E → vs.length = ps.length)
    (bd : ∀ (cdv : Value) (A : Around) (outer : List Env) (s : Shared) (H : Hp) (vs : List V) (Q : VK) (E : XK), A.guards = some [] → Room k (A.deeper (envOfC qual (defScope st) s.heap.objs.size f cdv)) → sp vs H Q E →
      ∃ t, PSs (cxOf CX0 P w K mg base N qual (defScope st) f cdv A outer s H E).nox (defBody st) t ∧ t { nx := fun _ H' => Q .non H', rt := Q } (L2.start N vs) H) : FnG P w K mg base (k + 1) f fd ps sp := by
  obtain ⟨oc, od, kV, doc, pm, an, cdv, ct, osl, rfl, lk, hcd⟩ := F.ex
  constructor
  · exact len
  · intro A outer s H args us vs Q E hg hr e0 hb r hsp
    have keep : ∀ b o, base.get? b = some o → s.heap.get? b = some o := fun b o e => (e0.bs b o e).1
    have KX := e0.mod.kin.keeps keep
    have lim := e0.mod.nolimit.keeps keep
    have kinds : ∀ y ∈ ps.zip us, (defScope st).names.lookup y.1 = some .local ∨
        ((defScope st).names.lookup y.1 = some .cell ∧ ((cellsFrom (s.heap.objs.size + 1) (defScope st).names []).lookup y.1).isSome = true) := by
      rintro ⟨n, v⟩ hy
      refine (T.par n (List.of_mem_zip hy).1).imp id fun q => ⟨q, ?_⟩
      exact PySem.W.cellsFrom_some _ _ _ (.inl q)
    have hlen := len _ _ _ _ hsp
    refine codeAny_call_function hr.depth (KX _ _ lk) rfl T.co T.gen rfl (PySem.W.codeRec_of KX hcd)
      (hb _ _ _ _ (wpAny_newFunctionEnv_cells T.kind kinds fun env he s1 x => ?_))
    subst he
    obtain ⟨t, ht, hq⟩ := bd cdv A outer s H vs Q E hg (hr.deeper _) hsp
    have I0 := inv_start (CX := CX0) (P := P) (mg := mg) (E := E) T hr.hd e0 hlen r x
    refine ⟨lim.keeps x.toInCall.keep, codeAny_func (wpAny_mono (ht.nox.run [] s1 (L2.start N vs) H _ I0 hq)
      (fun fl s' hs => ?_) (fun e s' hs => hs))⟩
    match fl, hs with
    | .ret u, ⟨v, σ', H', J, rv, q⟩ => exact ⟨v, H', J.os, J.bare, J.base, J.hok, rv, q⟩
    | .next, ⟨σ', H', J, q⟩ => exact ⟨.non, H', J.os, J.bare, J.base, J.hok, rfl, q⟩
    | .brk, ⟨_, _, _, q⟩ => exact q.elim
    | .cont, ⟨_, _, _, q⟩ => exact q.elim
theorem FnOk.g {k : Nat} {f : Addr} {fd : FuncData} {ps : List Str} {sp : Sp} (F : FnOk P w K mg base CX0 k f fd ps sp) : FnG P w K mg base k f fd ps sp :=
  ⟨F.len, fun A outer s H args us vs Q E _ hr => F.run A outer s H args us vs Q E hr⟩
theorem FnG.mono {j k : Nat} {f : Addr} {fd : FuncData} {ps : List Str} {sp : Sp} (F : FnG P w K mg base j f fd ps sp) (h : j ≤ k) : FnG P w K mg base k f fd ps sp :=
  ⟨F.len, fun A outer s H args us vs Q E hg hr => F.run A outer s H args us vs Q E hg (hr.mono h)⟩
end
section
variable {X : Cx} {k : Nat} {f : Addr} {fd : FuncData} {ps : List Str} {sp : Sp} {E : XK} {x : Str} {p pos : Pos} {e : Expr} {es : List Expr} {t : TA}
end
/-- a law's call, from the promise of its def -/
theorem law_g {P : Program} {w : World} {K : PySem.W.Frag} {mg mb : Str → Option Value} {k : Nat} {fa a : Addr} {fd : FuncData} {x : Str} {sp : Sp} {s1 : Shared} {vs : List Value} {ns : List Int}
    (KX : K.In s1.heap) (hns : s1.heap.Ns mainGlobals mg) (hb : s1.heap.Ns builtinsNs mb) (hbb : ∀ x : Str, x ≠ "__name__" → mb x = bootBuiltins x) (hlim : s1.heap.NoLimit) (hg : s1.gens = #[])
    (ha : s1.heap.get? a = some { cls := .type "list", data := .seq vs.toArray }) (hi : IntsAre vs ns) (hl : ns.length ≤ sizeLine) (hr : Room k callerA)
    (F : ∀ base : Heap, K.In base → base.Ns mainGlobals mg → FnG P w K mg base k fa fd [x] sp) (hbind : ∀ (s : Shared) (u : Value), BindsTo s fd ⟨[u], []⟩ [(x, u)])
    (hsp : ∀ H : Hp, Only H → SqL K H a (ns.map V.int) → sp [.ref a] H (fun v _ => v = .bl true) fun _ _ _ => False) :
    codeAny (model P w) callerA (.call (.ref fa) ⟨[.ref a], []⟩) (fun r s' => r = .ok (.ret (.bool true)) ∧ OldK s1.heap s'.heap ∧ s'.os = s1.os ∧ AllBare s'.gens) s1 := by
  -- by the library's own end, for a promise that gives the call back as it is told
  have rv := vals_ints hi
  have main : ∀ H : Hp, Only H → SqL K H a (ns.map V.int) → HOk P w H s1.heap → (∀ b, H b ≠ none → b = a) → (H a ≠ none → K.lookup a = none) →
      codeAny (model P w) callerA (.call (.ref fa) ⟨[.ref a], []⟩) (fun r s' => r = .ok (.ret (.bool true)) ∧ OldK s1.heap s'.heap ∧ s'.os = s1.os ∧ AllBare s'.gens) s1 := by
    intro H hO hS hok hA hK
    have free : ∀ {b : Addr} {o : Obj}, s1.heap.get? b = some o → (∀ its n, o.data ≠ .seq its n) → H b = none := fun {b o} e d => by
      refine Classical.byContradiction fun q => ?_
      have := hA b q
      subst this
      rw [ha] at e
      cases e
      exact d _ _ rfl
    have nsB : ∀ {b : Addr} {m : Str → Option Value}, s1.heap.Ns b m → (hidT s1.heap H).Ns b m := by
      rintro b m ⟨o, es, ep, e, d, r⟩
      exact ⟨o, es, ep, hidT_get e (free e fun its n z => by rw [d] at z; cases z), d, r⟩
    have kB : K.In (hidT s1.heap H) := by
      intro b o e
      refine hidT_get (KX b o e) (Classical.byContradiction fun q => ?_)
      have := hA b q
      subst this
      rw [hK q] at e
      cases e
    obtain ⟨mc, l1, l2⟩ := hlim
    have env : Env0 P w K mg (hidT s1.heap H) callerA [] s1 H := {
      frames := rfl
      mod := ⟨kB, nsB hns, ⟨mb, nsB hb, hbb⟩, ⟨mc, nsB l1, l2⟩⟩
      bs := fun b o e => of_hidT e
      bsz := Nat.le_of_eq (hidT_size _ _)
      funs := trivial
      frf := fun b hb => nomatch (show b ∈ ([] : List Addr) from hb)
      hok := hok
      bare := .of_eq hg }
    have go := (F _ kB (nsB hns)).run callerA [] s1 H ⟨[.ref a], []⟩ [.ref a] [.ref a] _ _ rfl hr env (hbind s1 (.ref a)) (.cons rfl .nil) (hsp H hO hS)
    refine codeAny_mono go fun r s' h => ?_
    match r, h with
    | .error e, h => exact False.elim h
    | .ok .next, h => exact False.elim h
    | .ok .brk, h => exact False.elim h
    | .ok .cont, h => exact False.elim h
    | .ok (.ret u), ⟨v, H', os, bare, un, hok', r', q⟩ =>
      have q' : v = .bl true := q
      subst q'
      obtain rfl : u = Value.bool true := r'
      refine ⟨rfl, OldK.of_keep fun b o e => ?_, os, bare⟩
      cases hb : H b with
      | none => exact un.keep b o e hb (fun z => nomatch (show b ∈ ([] : List Addr) from z)) (fun z => nomatch z)
      | some u =>
        rcases hO b with z | ⟨ob, xs, z⟩
        · rw [hb] at z
          cases z
        · have e1 := (hok b _ z).1
          have e2 := (hok' b _ (un.frzs b ob _ z)).1
          rw [e] at e1
          cases e1
          exact e2
  cases hk : K.lookup a with
  | some o =>
    have e := KX a o hk
    rw [ha] at e
    cases e
    have h0 : SqL K (fun _ => none) a (ns.map V.int) := .inr ⟨_, vs.toArray, _, hk, rfl, rfl, rfl, by
      rw [List.size_toArray, hi.length]
      exact hl, by simpa using rv⟩
    exact main (fun _ => none) (fun _ => .inl rfl) h0 (fun b u z => nomatch (show (none : Option HO) = some u from z)) (fun b z => absurd rfl z) fun z => absurd rfl z
  | none =>
    let H1 : Hp := upd (fun _ => none) a (.frz { cls := .type "list", data := .seq vs.toArray } (.lst (ns.map V.int)))
    have at' : ∀ b, b ≠ a → H1 b = none := fun b hb => upd_ne hb
    refine main H1 (fun b => ?_) (.inl (.inr ⟨_, upd_same⟩)) (fun b u z => ?_) (fun b z => Classical.byContradiction fun q => z (at' b q)) fun _ => hk
    · by_cases hb : b = a
      · rw [hb]
        exact .inr ⟨_, _, upd_same⟩
      · exact .inl (at' b hb)
    · by_cases hb : b = a
      · subst hb
        have z2 : some (HO.frz { cls := .type "list", data := .seq vs.toArray } (.lst (ns.map V.int))) = some u := upd_same.symm.trans z
        cases z2
        exact ⟨ha, by rw [List.length_map]; exact hl, vs, _, rv, ha⟩
      · rw [at' b hb] at z
        cases z
end Dw

/-! Hd: a head by one run of the top and facts that are looked up in what is left (small when compiled). -/
namespace Dw
open PySem PySem.Spec PyProof.Rows L2
/-! ### defs -/
def fnWA (K : PySem.W.Frag) (a : Addr) : He.FnW := match K.lookup a with
  | some ⟨_, _, .func fd, _⟩ => some (fd.name, fd.qualname, fd.params, fd.body, fd.scope, fd.globals, fd.closure, fd.builtins)
  | _ => none
def codA (K : PySem.W.Frag) (a : Addr) (q : Str) : Bool := match K.lookup a with
  | some ⟨_, _, .func fd, _⟩ => PySem.W.codeIn K fd.code q
  | _ => false
def dflA (K : PySem.W.Frag) (a : Addr) : Value := match K.lookup a with
  | some ⟨_, _, .func fd, _⟩ => fd.defaults
  | _ => .bool false
structure DefA where
  a : PySem.W.Frag → Addr
  name : Str
  qual : Str
  params : Arguments
  body : List Stmt
  scope : Scope
def DefA.val (d : DefA) : He.FnW := some (d.name, d.qual, d.params, .stmts d.body, d.scope, mainGlobals, [], builtinsNs)
theorem fnA_ok {K : PySem.W.Frag} {a : Addr} {d : DefA} (e : fnWA K a = d.val) (c : codA K a d.qual = true) :
    ∃ oc od dV kV doc pm an cdv ct sl, K.lookup a = some ⟨oc, od, .func (PySem.W.fnOf d.name d.qual d.params d.body d.scope dV kV doc pm an cdv ct), sl⟩ ∧ PySem.W.codeIn K cdv d.qual = true ∧ dflA K a = dV := by
  unfold fnWA at e
  unfold codA at c
  unfold dflA
  cases q : K.lookup a with
  | none =>
    rw [q] at c
    cases c
  | some o =>
    obtain ⟨oc, od, dt, osl⟩ := o
    rw [q] at c e
    cases dt with
    | func fd =>
      obtain ⟨n1, n2, n3, n4, n5, n6, n7, n8, n9, n10, n11, n12, n13, n14, n15⟩ := fd
      have e2 : (some (n1, n2, n3, n4, n5, n6, n7, n15) : He.FnW) = some (d.name, d.qual, d.params, .stmts d.body, d.scope, mainGlobals, [], builtinsNs) := e
      simp only [Option.some.injEq, Prod.mk.injEq] at e2
      obtain ⟨h1, h2, h3, h4, h5, h6, h7, h8⟩ := e2
      subst h1 h2 h3 h4 h5 h6 h7 h8
      exact ⟨oc, od, n8, n9, n10, n11, n12, n13, n14, osl, rfl, c, rfl⟩
    | _ => cases c
/-! ### addresses -/
/-- the function in a property, in a class method -/
def pfA (K : PySem.W.Frag) (p : Addr) (t : String) : Addr := match PySem.W.recIn K p t with
  | some (.ref f :: _) => f
  | _ => 0
def pfB (K : PySem.W.Frag) (p : Addr) (t : String) : Bool := match PySem.W.recIn K p t with
  | some (.ref _ :: _) => true
  | _ => false
theorem pf_ok {K : PySem.W.Frag} {p : Addr} {t : String} (h : pfB K p t = true) : ∃ re, PySem.W.recIn K p t = some (.ref (pfA K p t) :: re) := by
  unfold pfB at h
  unfold pfA
  split at h
  · next e =>
    rw [e]
    exact ⟨_, rfl⟩
  · cases h
def pcA (K : PySem.W.Frag) (C : Addr) (m : Str) : Addr := match PySem.W.findCls K (.ref C) (.type "type") m with
  | some (.get _ (.ref p) _ _) => p
  | _ => 0
def pcB (K : PySem.W.Frag) (C : Addr) (m : Str) : Bool := match PySem.W.findCls K (.ref C) (.type "type") m with
  | some (.get g (.ref _) n c) => decide (g = .builtin "classmethod.__get__") && (decide (n = .none) && decide (c = .ref C))
  | _ => false
theorem pc_ok {K : PySem.W.Frag} {C : Addr} {m : Str} (h : pcB K C m = true) : PySem.W.findCls K (.ref C) (.type "type") m = some (.get (.builtin "classmethod.__get__") (.ref (pcA K C m)) .none (.ref C)) := by
  unfold pcB at h
  unfold pcA
  split at h
  · next e =>
    rw [e]
    simp only [Bool.and_eq_true, decide_eq_true_eq] at h
    obtain ⟨rfl, rfl, rfl⟩ := h
    rfl
  · cases h
/-- the tuple of a def's defaults, its items -/
def dtA (K : PySem.W.Frag) (f : Addr) : Addr := match dflA K f with
  | .ref T => T
  | _ => 0
def itsA (K : PySem.W.Frag) (T : Addr) : Option (List Value) := match K.lookup T with
  | some ⟨.type n, _, .seq its _, _⟩ => if n = "tuple" then some its.toList else none
  | _ => none
theorem its_ok {K : PySem.W.Frag} {T : Addr} {vs : List Value} (h : itsA K T = some vs) : ∃ d n s, K.lookup T = some ⟨.type "tuple", d, .seq vs.toArray n, s⟩ := by
  unfold itsA at h
  split at h
  · next e =>
    split at h
    · next en =>
      cases h
      subst en
      rw [e]
      exact ⟨_, _, _, by rw [Array.toArray_toList]⟩
    · cases h
  · cases h
def deA (K : PySem.W.Frag) (T : Addr) (i : Nat) : Addr := match itsA K T with
  | some vs => (match vs[i]? with
    | some (.ref a) => a
    | _ => 0)
  | none => 0
/-! ### constants -/
def strC (K : PySem.W.Frag) (x z : Str) : Bool := match PySem.W.nsIn K mainGlobals x with
  | some (some (.str y _)) => decide (y = z)
  | _ => false
theorem strC_ok {K : PySem.W.Frag} {x z : Str} (h : strC K x z = true) : ∃ t, PySem.W.nsIn K mainGlobals x = some (some (.str z t)) := by
  unfold strC at h
  split at h
  · next e =>
    obtain rfl := of_decide_eq_true h
    exact ⟨_, e⟩
  · cases h
def intC (K : PySem.W.Frag) (x : Str) (z : Int) : Bool := match PySem.W.nsIn K mainGlobals x with
  | some (some (.int y _)) => decide (y = z)
  | _ => false
theorem intC_ok {K : PySem.W.Frag} {x : Str} {z : Int} (h : intC K x z = true) : ∃ t, PySem.W.nsIn K mainGlobals x = some (some (.int z t)) := by
  unfold intC at h
  split at h
  · next e =>
    obtain rfl := of_decide_eq_true h
    exact ⟨_, e⟩
  · cases h
def strsB (K : PySem.W.Frag) (T : Addr) (ss : List Str) : Bool := match itsA K T with
  | some vs => He.relAll (ss.map V.str) vs
  | none => false
theorem strs_ok {K : PySem.W.Frag} {T : Addr} {ss : List Str} (h : strsB K T ss = true) : ∃ d n s vs, K.lookup T = some ⟨.type "tuple", d, .seq vs.toArray n, s⟩ ∧ Vals (ss.map V.str) vs := by
  unfold strsB at h
  split at h
  · next e =>
    obtain ⟨d, n, s, l⟩ := its_ok e
    exact ⟨d, n, s, _, l, He.relAll_ok h⟩
  · cases h
theorem vals_str {s : Str} {ss : List V} {vs : List Value} (h : Vals (V.str s :: ss) vs) : ∃ t r, vs = .str s t :: r ∧ Vals ss r := by
  cases h with
  | cons h1 h2 =>
    obtain ⟨t, rfl⟩ := h1
    exact ⟨t, _, rfl, h2⟩
theorem vals_end {vs : List Value} (h : Vals [] vs) : vs = [] := by
  cases h
  rfl
/-! ### the Hook -/
abbrev AlA : Type := Bool × List He.FnW
def obsA (fs : PySem.W.Frag → List Bool) (ds : List DefA) (K : PySem.W.Frag) : AlA := ((fs K).all id && ds.all fun d => codA K (d.a K) d.qual, ds.map fun d => fnWA K (d.a K))
def valA (ds : List DefA) : AlA := (true, ds.map DefA.val)
def SaysA (fs : PySem.W.Frag → List Bool) (ds : List DefA) (K : PySem.W.Frag) : Prop := obsA fs ds K = valA ds
/-- addresses from a to a + n -/
def fromA : Nat → Nat → List Addr
  | _, 0 => []
  | a, n + 1 => a :: fromA (a + 1) n
/-- the module's names, the statics, what the top has made -/
def asS (lo n : Nat) : List Addr := mainGlobals :: cStatics :: fromA lo n
def obsAG (lo n : Nat) (fs : PySem.W.Frag → List Bool) (ds : List DefA) (g : Addr → Option Obj) : AlA := obsA fs ds (He.frG g (asS lo n))
def hookA (lo n : Nat) (fs : PySem.W.Frag → List Bool) (ds : List DefA) : PySem.W.Hook where
  α := AlA
  obs := fun s => obsAG lo n fs ds s.heap.get?
  val := fun _ => valA ds
  says := fun _ h => ∃ K : PySem.W.Frag, K.In h ∧ SaysA fs ds K
  of := fun _ _ e => ⟨_, He.frG_in, e⟩
  keeps := fun _ _ _ ⟨K, hK, c⟩ k => ⟨K, PySem.W.Frag.In.keeps hK k, c⟩
theorem obsAG_eq {lo n : Nat} {fs : PySem.W.Frag → List Bool} {ds : List DefA} {g : Addr → Option Obj} {s : Shared} (h : ∀ a, g a = s.heap.get? a) : obsAG lo n fs ds g = (hookA lo n fs ds).obs s := by
  have e : g = s.heap.get? := funext h
  rw [e] <;> rfl
section
variable {fs : PySem.W.Frag → List Bool} {ds : List DefA} {K : PySem.W.Frag}
theorem SaysA.fact (c : SaysA fs ds K) (i : Nat) {b : Bool} (h : (fs K)[i]? = some b) : b = true := by
  have c1 := (Bool.and_eq_true_iff.mp (show ((fs K).all id && ds.all fun d => codA K (d.a K) d.qual) = true from congrArg (fun z : AlA => z.1) c)).1
  exact List.all_eq_true.mp c1 b (List.mem_of_getElem? h)
theorem SaysA.def_ (c : SaysA fs ds K) (i : Nat) {d : DefA} (h : ds[i]? = some d) :
    ∃ oc od dV kV doc pm an cdv ct sl, K.lookup (d.a K) = some ⟨oc, od, .func (PySem.W.fnOf d.name d.qual d.params d.body d.scope dV kV doc pm an cdv ct), sl⟩ ∧ PySem.W.codeIn K cdv d.qual = true ∧ dflA K (d.a K) = dV := by
  have c2 := (Bool.and_eq_true_iff.mp (show ((fs K).all id && ds.all fun d => codA K (d.a K) d.qual) = true from congrArg (fun z : AlA => z.1) c)).2
  have e : ds.map (fun d => fnWA K (d.a K)) = ds.map DefA.val := congrArg (fun z : AlA => z.2) c
  have e2 : (ds.map fun d => fnWA K (d.a K))[i]? = (ds.map DefA.val)[i]? := by rw [e]
  rw [List.getElem?_map, List.getElem?_map, h] at e2
  exact fnA_ok (Option.some.inj e2) (List.all_eq_true.mp c2 d (List.mem_of_getElem? h))
end
/-- three looks at one run -/
theorem run_join {α A B : Type} {x : Option α} {f : α → Bool} {g : α → A} {p : α → Bool} {q : α → B} {a : A} {b : B} (h1 : x.map (fun s => (f s, g s)) = some (true, a)) (h2 : x.map p = some true) (h3 : x.map q = some b) :
    x.map (fun s => (f s, g s, (p s, q s))) = some (true, a, (true, b)) := by
  cases x with
  | none => cases h2
  | some s =>
    have e1 : (f s, g s) = (true, a) := Option.some.inj h1
    have e2 : p s = true := Option.some.inj h2
    have e3 : q s = b := Option.some.inj h3
    have e4 : f s = true := congrArg (·.1) e1
    have e5 : g s = a := congrArg (·.2) e1
    show some (f s, g s, (p s, q s)) = _
    rw [e2, e3, e4, e5]
/-- what the top leaves -/
def hdKK (s : PySem.W.SharedT) : PySem.W.Frag := He.frG (HandSHeadRun.getT s) (asS 0 1600)
open PySem.W PySem.Calls in
noncomputable def hdEnd (r : OpenRow) (M : Nat) (w : World) (os : OsState) : Option SharedT := HandSHeadRun.endF (HandSHeadRun.stepQ (HandSHeadRun.denQ HandSHeadRun.tabQ) r.prog w) M r.prog w os
/-- a law's end over such a head -/
theorem walk_gE {l : PySem.W.OpenLaw} {n k : Nat} {q : Program} {loose : List Str} {XP : (Str → Option Value) → Heap → Prop} {YP : World → Heap → Prop} {d : DefRec} {x : Str}
    (hn : l.most = some n) (hn2 : n ≤ sizeLine) (hdf : d.params.defaults = []) (hr : Room k callerA)
    (F : ∀ (w : World) (mg : Str → Option Value) (fa : Addr) (h : Heap), YP w h → h.Ns mainGlobals mg → mg d.name = some (.ref fa) →
      ∃ (K : PySem.W.Frag) (fd : FuncData) (sp : Sp), K.In h ∧ (∀ (s : Shared) (u : Value), BindsTo s fd ⟨[u], []⟩ [(x, u)]) ∧
        (∀ (H : Hp) (a : Addr) (ns : List Int), ns.length ≤ n → Only H → SqL K H a (ns.map V.int) → sp [.ref a] H (fun v _ => v = .bl true) fun _ _ _ => False) ∧
        ∀ base : Heap, K.In base → base.Ns mainGlobals mg → FnG l.prog w K mg base k fa fd [x] sp) :
    PySem.W.WalkO q loose XP YP l.row.toRowW d [] (fun f vs => PySem.call f vs) := by
  refine Att.attach_callB hn hdf ?_
  intro w s0 s1 mg mb fa o pm cd doc a vs ns G Y ho hd hcd hmg hobj hints hlen _ hg
  obtain ⟨K, fd, sp, KX, hb, hsp, hF⟩ := F w mg fa _ Y G.T.g hmg
  exact law_g KX G.T.g G.T.b G.T.builtins G.T.nolimit hg hobj hints (Nat.le_trans hlen hn2) hr hF hb fun H hO hS => hsp H a ns hlen hO hS
end Dw

namespace Dw
open PySem PySem.Spec PyProof.Rows L2
/-! ### data without objects of own classes, as the library's data -/
mutual
def D.py : D → PyData
  | .non => .none
  | .bl b => .bool b
  | .int i => .int i
  | .str s => .str s
  | .ref _ => .none
  | .lst xs => .list (D.pyL xs)
  | .tup xs => .tuple (D.pyL xs)
  | .ins _ _ _ => .none
  | .exc _ _ _ => .none
def D.pyL : List D → List PyData
  | [] => []
  | d :: ds => d.py :: D.pyL ds
end
mutual
/-- of none, bools, ints below 2 ^ 1920, texts, lists and tuples -/
def D.pl : D → Bool
  | .non => true
  | .bl _ => true
  | .int i => decide (i.natAbs.log2 < 1920)
  | .str s => PyData.strOk s
  | .ref _ => false
  | .lst xs => D.plL xs
  | .tup xs => D.plL xs
  | .ins _ _ _ => false
  | .exc _ _ _ => false
def D.plL : List D → Bool
  | [] => true
  | d :: ds => d.pl && D.plL ds
end
mutual
theorem dp_of {K : PySem.W.Frag} {N : No} {H : Hp} : ∀ {d : D} {v : V}, d.pl = true → Rep K N H d v → Dp K H v d.py
  | .non, v, _, h => by
    have e : v = .non := h
    subst e
    exact .non
  | .bl b, v, _, h => by
    have e : v = .bl b := h
    subst e
    exact .bl b
  | .int i, v, _, h => by
    have e : v = .int i := h
    subst e
    exact .int i
  | .str s, v, _, h => by
    have e : v = .str s := h
    subst e
    exact .str s
  | .ref _, _, p, _ => nomatch (show false = true from p)
  | .lst xs, v, p, h => by
    obtain ⟨a, vs, rfl, h1, h2⟩ := h
    exact .lst h1.sq (dpL_of (show D.plL xs = true from p) h2)
  | .tup xs, v, p, h => by
    obtain ⟨a, vs, rfl, h1, h2⟩ := h
    exact .tup h1.sq (dpL_of (show D.plL xs = true from p) h2)
  | .ins _ _ _, _, p, _ => nomatch (show false = true from p)
  | .exc _ _ _, _, p, _ => nomatch (show false = true from p)
theorem dpL_of {K : PySem.W.Frag} {N : No} {H : Hp} : ∀ {ds : List D} {vs : List V}, D.plL ds = true → RepL K N H ds vs → DpAll K H vs (D.pyL ds)
  | [], vs, _, h => by
    have e : vs = [] := h
    subst e
    exact .nil
  | d :: ds, vs, p, h => by
    obtain ⟨v, r, rfl, h1, h2⟩ := h
    have p2 : (d.pl && D.plL ds) = true := p
    rw [Bool.and_eq_true] at p2
    exact .cons (dp_of p2.1 h1) (dpL_of p2.2 h2)
end
mutual
theorem py_show : ∀ d : D, d.pl = true → d.py.showable = true ∧ d.py.canLay0 = true
  | .non, _ => ⟨rfl, rfl⟩
  | .bl _, _ => ⟨rfl, rfl⟩
  | .int _, p => ⟨p, rfl⟩
  | .str _, p => ⟨rfl, p⟩
  | .ref _, p => nomatch (show false = true from p)
  | .lst xs, p => py_showL xs p
  | .tup xs, p => py_showL xs p
  | .ins _ _ _, p => nomatch (show false = true from p)
  | .exc _ _ _, p => nomatch (show false = true from p)
theorem py_showL : ∀ ds : List D, D.plL ds = true → PyData.showableAll (D.pyL ds) = true ∧ PyData.canLayAll0 (D.pyL ds) = true
  | [], _ => ⟨rfl, rfl⟩
  | d :: ds, p => by
    have p2 : (d.pl && D.plL ds) = true := p
    rw [Bool.and_eq_true] at p2
    have h1 := py_show d p2.1
    have h2 := py_showL ds p2.2
    exact ⟨by show (d.py.showable && PyData.showableAll (D.pyL ds)) = true; rw [h1.1, h2.1]; rfl, by show (d.py.canLay0 && PyData.canLayAll0 (D.pyL ds)) = true; rw [h1.2, h2.2]; rfl⟩
end
/-- what repr gives -/
def D.shown (d : D) : Str := d.py.shown
section
variable {X : Cx}
end
/-- shown within B signs, at most n deep -/
def D.ok (n B : Nat) (d : D) : Prop := d.pl = true ∧ d.py.depth ≤ n ∧ d.shown.length ≤ B
theorem depthAll_le {n : Nat} : ∀ {xs : List D}, (∀ x ∈ xs, x.py.depth ≤ n) → PyData.depthAll (D.pyL xs) ≤ n
  | [], _ => Nat.zero_le _
  | x :: xs, h => by
    show max x.py.depth (PyData.depthAll (D.pyL xs)) ≤ n
    exact Nat.max_le.mpr ⟨h x (by simp), depthAll_le fun y hy => h y (by simp [hy])⟩
theorem plL_of : ∀ {xs : List D}, (∀ x ∈ xs, x.pl = true) → D.plL xs = true
  | [], _ => rfl
  | x :: xs, h => by
    show (x.pl && D.plL xs) = true
    rw [h x (by simp), plL_of fun y hy => h y (by simp [hy])]
    rfl
section
variable {X : Cx} {M : Md} {O : List Addr} {r : List Sl} {k : D → Prop} {ta tb te : TE}
/-- xs + ys, lists of any kind -/
def rCatA (K : PySem.W.Frag) : R2 := fun x y H Q => ∃ l b xs zs, x = .ref l ∧ y = .ref b ∧ SqL K H l xs ∧ SqL K H b zs ∧ xs.length + zs.length ≤ sizeLine ∧ ∀ p, H p = none → Q (.ref p) (upd H p (.lst (xs ++ zs)))
theorem op_catA : OpR X (binaryOp .Add) (rCatA X.K) := by
  intro pins s σ H x y v u Q I rx ry h
  obtain ⟨l, b, xs, zs, rfl, rfl, hH, hB, hz, q⟩ := h
  cases rx
  cases ry
  obtain ⟨its, r1, p1, z1⟩ := I.list hH
  obtain ⟨its2, r2, p2, z2⟩ := I.list hB
  obtain ⟨o1, n1, e1, c1, d1, q1⟩ := p1
  obtain ⟨o2, n2, e2, c2, d2, q2⟩ := p2
  obtain ⟨cls, dd, data, sl⟩ := o1
  obtain ⟨cls2, dd2, data2, sl2⟩ := o2
  simp only at c1 q1 c2 q2
  subst c1 q1 c2 q2
  have l1 := r1.length
  have l2 := r2.length
  have hs : its.toArray.size + its2.toArray.size ≤ sizeLine := by rw [List.size_toArray, List.size_toArray]; omega
  refine concat_meets ⟨_, e1, rfl⟩ ⟨_, e2, rfl⟩ noFill_list_add seq_list_add PySem.F.slot_list_add PySem.F.entry_list_add (PySem.F.args_list_add_2 _ _)
    (list_addW l b its.toArray its2.toArray n1 n2 dd dd2 sl sl2 hs) ⟨e1, e2, ?_⟩
  have ea : its.toArray ++ its2.toArray = (its ++ its2).toArray := by simp
  rw [ea]
  exact ⟨.ref _, _, I.lnew (t' := s.toks) (r1.append r2) (by rw [List.length_append]; omega), rfl, q _ I.fresh⟩
end
end Dw

/-! Dw7: enumerate over a list; how long a tuple is shown. -/
namespace Dw
open PySem PySem.Spec PyProof.Rows L2
theorem D.ok.mono {n m B C : Nat} {d : D} (h : D.ok n B d) (hn : n ≤ m) (hb : B ≤ C) : D.ok m C d := ⟨h.1, Nat.le_trans h.2.1 hn, Nat.le_trans h.2.2 hb⟩
/-- the pairs of enumerate -/
def enumD (xs : List D) : List D := (List.range xs.length).zipWith (fun (i : Nat) x => D.tup [.int (i : Int), x]) xs
theorem enumD_len (xs : List D) : (enumD xs).length = xs.length := by
  unfold enumD
  rw [List.length_zipWith, List.length_range, Nat.min_self]
theorem enumD_get {xs : List D} {i : Nat} {d : D} (h : (enumD xs)[i]? = some d) : ∃ x, xs[i]? = some x ∧ d = .tup [.int (i : Int), x] := by
  have hi : i < xs.length := by
    have := (List.getElem?_eq_some_iff.mp h).1
    rw [enumD_len] at this
    exact this
  unfold enumD at h
  rw [List.getElem?_zipWith, List.getElem?_range hi, List.getElem?_eq_getElem hi] at h
  exact ⟨xs[i], List.getElem?_eq_getElem hi, (Option.some.inj h).symm⟩
def wk_enum (K : PySem.W.Frag) (a : Addr) (xs : List D) : Wk K (Ite K a) (enumD xs) where
  G := fun N H => ∃ vs, LAt K N H a vs ∧ RepL K N H xs vs
  mono := fun N H H' e ⟨vs, h1, h2⟩ => ⟨vs, h1.mono e, h2.mono e⟩
  gen := fun N N' H e ⟨vs, h1, h2⟩ => ⟨vs, h1.gen e, h2.gen e⟩
  go := fun N H i ⟨vs, h1, h2⟩ hi => by
    rw [enumD_len] at hi
    exact ⟨vs, vs[i]'(by rw [← h2.length]; exact hi), h1.sq, List.getElem?_eq_getElem _⟩
  yld := fun N H i x H' d hN ⟨vs, h1, h2⟩ y hd => by
    obtain ⟨T, v, rfl, nT, rfl, y⟩ := y
    obtain ⟨e, q1, rfl⟩ := enumD_get hd
    obtain ⟨w, q2, q3⟩ := h2.get q1
    have := y vs h1.sq
    rw [q2] at this
    cases this
    refine ⟨sm_new nT, T, _, rfl, .inl ⟨fun z => hN T z nT, .inl upd_same⟩, .cons rfl (.one (q3.mono (sm_0 (sm_new nT))))⟩
  stop := fun N H i ⟨vs, h1, h2⟩ hi => by
    rw [enumD_len] at hi
    exact ⟨vs, h1.sq, by rw [← h2.length]; exact hi⟩
section
variable {M : Md} {O : List Addr} {r : List Sl} {k : List D → Prop} {ta : TA}
end
end Dw

/-! Dw8: texts as lists of signs; an own list popped at a place, two lists of one's own at once. -/
namespace Dw
open PySem PySem.Spec PyProof.Rows L2
/-- the text of these signs -/
def tx (l : List Nat) : Str := ⟨l.toArray⟩
theorem tx_len (l : List Nat) : (tx l).length = l.length := by
  show l.toArray.size = _
  exact List.size_toArray
theorem tx_add (a b : List Nat) : tx a ++ tx b = tx (a ++ b) := by
  show Str.append ⟨a.toArray⟩ ⟨b.toArray⟩ = _
  unfold Str.append tx
  simp
theorem tx_inj {a b : List Nat} (h : tx a = tx b) : a = b := by
  have := congrArg (fun s : Str => s.cps.toList) h
  simpa [tx] using this
theorem tx_of (s : Str) : ∃ l, s = tx l := ⟨s.cps.toList, by cases s; simp [tx]⟩
theorem sIx_at (n d : Nat) {v : Int} (h : 0 ≤ v) : HT.sIx n d (some v) = min v.toNat n := by
  show (if v < 0 then (v + (n : Int)).toNat else min v.toNat n) = _
  rw [if_neg (by omega)]
def cutN (l : List Nat) (lo hi : Option Int) : List Nat := (l.drop (HT.sIx l.length 0 lo)).take (HT.sIx l.length l.length hi - HT.sIx l.length 0 lo)
theorem cutS_tx (l : List Nat) (lo hi : Option Int) : cutS (tx l) lo hi = tx (cutN l lo hi) := by
  unfold cutS cutN tx
  simp [Str.length]
theorem cutN_to {l : List Nat} {n : Int} (h : 0 ≤ n) : cutN l none (some n) = l.take n.toNat := by
  unfold cutN
  rw [sIx_at _ _ h]
  show (l.drop 0).take (min n.toNat l.length - 0) = _
  rw [List.drop_zero, Nat.sub_zero]
  by_cases e : n.toNat ≤ l.length
  · rw [Nat.min_eq_left e]
  · rw [Nat.min_eq_right (by omega), List.take_of_length_le (Nat.le_refl _), List.take_of_length_le (by omega)]
theorem cutN_from {l : List Nat} {n : Int} (h : 0 ≤ n) : cutN l (some n) none = l.drop n.toNat := by
  unfold cutN
  rw [sIx_at _ _ h]
  show (l.drop (min n.toNat l.length)).take (l.length - min n.toNat l.length) = _
  by_cases e : n.toNat ≤ l.length
  · rw [Nat.min_eq_left e, List.take_of_length_le (by rw [List.length_drop]; omega)]
  · rw [Nat.min_eq_right (by omega), List.drop_length, List.drop_of_length_le (by omega), List.take_nil]
section
variable {M : Md} {O : List Addr} {r : List Sl} {σ : L2.St} {H : Hp} {k : D → Prop} {te ta tb : TE} {E : Kn}
def rAddS : R2 := fun x y H Q => ∃ i j, x = .str i ∧ y = .str j ∧ i.length + j.length ≤ sizeLine ∧ Q (.str (i ++ j)) H
theorem de_addS (h : De M ta O r fun x => De M tb O r fun y => ∃ a b, x = .str (tx a) ∧ y = .str (tx b) ∧ a.length + b.length ≤ sizeLine ∧ k (.str (tx (a ++ b)))) : De M (tOp rAddS ta tb) O r k := de_op2 h fun x y c σ H v u Q R pv pu z => by
  obtain ⟨a, b, rfl, rfl, hl, q⟩ := c
  obtain rfl : v = .str (tx a) := pv
  obtain rfl : u = .str (tx b) := pu
  refine ⟨_, _, rfl, rfl, by rw [tx_len, tx_len]; exact hl, ?_⟩
  rw [tx_add]
  exact z _ H (.str (tx (a ++ b))) R .refl rfl q
theorem de_ixS (h : De M ta O r fun x => De M tb O r fun y => ∃ l i c, x = .str (tx l) ∧ y = .int i ∧ l.length ≤ sizeLine ∧ atI l i = some c ∧ k (.str (tx [c]))) : De M (tOp rIxS ta tb) O r k := de_op2 h fun x y c σ H v u Q R pv pu z => by
  obtain ⟨l, i, c, rfl, rfl, hl, e, q⟩ := c
  obtain rfl : v = .str (tx l) := pv
  obtain rfl : u = .int i := pu
  exact ⟨_, i, c, rfl, rfl, by rw [tx_len]; exact hl, by simpa [tx] using e, z _ H (.str (tx [c])) R .refl rfl q⟩
theorem de_slS {lo hi : TO} (h : De M te O r fun x => ∃ l, x = .str (tx l) ∧ l.length ≤ sizeLine ∧ DO M lo O r fun i => DO M hi O r fun j => k (.str (tx (cutN l i j)))) : De M (tSl rSlS te lo hi) O r k := fun σ H Q R z => h σ H _ R fun v H1 x R1 e1 p1 q => by
  obtain ⟨l, rfl, hl, q⟩ := q
  refine q σ H1 _ R1 fun i H2 R2 e2 q2 => q2 σ H2 _ R2 fun j H3 R3 e3 q3 => ?_
  obtain rfl : v = .str (tx l) := p1
  refine ⟨_, rfl, by rw [tx_len]; exact hl, ?_⟩
  rw [cutS_tx]
  exact z _ H3 (.str (tx (cutN l i j))) R3 ((e1.trans e2).trans e3) rfl q3
/-- a sign or nothing: text * 0, text * 1 -/
def rMulS : R2 := fun x y H Q => ∃ (z : Str) (b : Bool), x = .str z ∧ y = .int (if b then 1 else 0) ∧ Q (.str (if b then z else Str.empty)) H
theorem op_mulS {X : Cx} : OpR X (binaryOp .Mult) rMulS := by
  intro pins s σ H x y v u Q I rx ry h
  obtain ⟨z, b, rfl, rfl, q⟩ := h
  obtain ⟨t, rfl⟩ := rx
  cases b with
  | false =>
    obtain ⟨t', rfl⟩ := ry
    exact PySem.P.mul_str_none (by decide) (by decide) ⟨.str Str.empty, H, I.tok _, ⟨_, rfl⟩, q⟩
  | true =>
    obtain ⟨t', rfl⟩ := ry
    refine PySem.P.mul_str (by decide) (fun _ h => ?_) (fun _ h => ?_) ?_
    · exact absurd h (by rw [show ((if true = true then (1 : Int) else 0) == 1) = true from rfl, Bool.true_or]; decide)
    · exact absurd h (by rw [show ((if true = true then (1 : Int) else 0) == 1) = true from rfl, Bool.true_or]; decide)
    · rw [if_neg (by decide), if_pos (by rw [show ((if true = true then (1 : Int) else 0) == 1) = true from rfl, Bool.true_or])]
      exact ⟨.str z, H, I, ⟨_, rfl⟩, q⟩
theorem de_mulS (h : De M ta O r fun x => De M tb O r fun y => ∃ (l : List Nat) (b : Bool), x = .str (tx l) ∧ y = .int (if b then 1 else 0) ∧ k (.str (tx (if b then l else [])))) : De M (tOp rMulS ta tb) O r k := de_op2 h fun x y c σ H v u Q R pv pu z => by
  obtain ⟨l, b, rfl, rfl, q⟩ := c
  obtain rfl : v = .str (tx l) := pv
  obtain rfl : u = .int (if b then 1 else 0) := pu
  refine ⟨_, b, rfl, rfl, ?_⟩
  have e : (if b then tx l else Str.empty) = tx (if b then l else []) := by cases b <;> rfl
  rw [e]
  exact z _ H (.str _) R .refl rfl q
/-- int of a truth value -/
theorem de_int1 (h : De M te O r fun x => ∃ b : Bool, x = .bl b ∧ k (.int (if b then 1 else 0))) : De M (tCB (fun xs H Q => (∃ i, xs = [.int i] ∧ Q (.int i) H) ∨ ∃ k : Bool, xs = [.bl k] ∧ Q (.int (if k then 1 else 0)) H) (tCons te tNil)) O r k := fun σ H Q R z => h σ H _ R fun v H1 x R1 e1 p1 q => by
  obtain ⟨b, rfl, q⟩ := q
  obtain rfl : v = .bl b := p1
  exact .inr ⟨b, rfl, z _ H1 (.int _) R1 e1 rfl q⟩
def rJoin (K : PySem.W.Frag) : V → List V → Hp → VK → Prop := fun x xs H Q => ∃ a p, ∃ ys : List Str, x = .str a ∧ xs = [.ref p] ∧ (SqL K H p (ys.map V.str) ∨ SqT K H p (ys.map V.str)) ∧
    (ys.map (·.length)).sum + ys.length * a.length ≤ 16777216 ∧ Q (.str (Txt.join a ys)) H
theorem tl_empty_join : ∀ ls : List (List Nat), TL.joinL [] ls = ls.flatten
  | [] => rfl
  | [p] => by simp [TL.joinL]
  | p :: q :: r => by
    show p ++ ([] ++ TL.joinL [] (q :: r)) = _
    rw [tl_empty_join (q :: r)]
    simp
theorem repL_strs_of {K : PySem.W.Frag} {N : No} {H : Hp} : ∀ {ss : List Str} {vs : List V}, RepL K N H (ss.map D.str) vs → vs = ss.map V.str
  | [], vs, h => h
  | s :: ss, vs, h => by
    obtain ⟨v, t, rfl, h1, h2⟩ := h
    obtain rfl : v = .str s := h1
    rw [repL_strs_of h2]
    rfl
theorem strs_repL {K : PySem.W.Frag} {N : No} {H : Hp} : ∀ ss : List Str, RepL K N H (ss.map D.str) (ss.map V.str)
  | [] => rfl
  | s :: ss => .cons rfl (strs_repL ss)
/-- "".join(texts) -/
theorem de_join0 (h : De M te O r fun y => ∃ ls : List (List Nat), y = .lst (ls.map fun l => D.str (tx l)) ∧ (ls.map List.length).sum ≤ 1000 ∧ k (.str (tx ls.flatten))) : De M (tM1 (rJoin M.K) (tC (.str "")) te) O r k := fun σ H Q R z => by
  refine ⟨⟨_, rfl⟩, h σ H _ R fun v H1 x R1 e1 p1 q => ?_⟩
  obtain ⟨ls, rfl, hl, q⟩ := q
  obtain ⟨a, vs, rfl, h1, h2⟩ := p1
  have e : (ls.map fun l => D.str (tx l)) = (ls.map tx).map D.str := by rw [List.map_map]; rfl
  rw [e] at h2
  have ev := repL_strs_of h2
  subst ev
  refine ⟨_, a, ls.map tx, rfl, rfl, .inl h1.sq, ?_, ?_⟩
  · rw [List.map_map]
    have e2 : (List.length : List Nat → Nat) = Str.length ∘ tx := funext fun l => (tx_len l).symm
    rw [← e2]
    show (ls.map List.length).sum + (ls.map tx).length * 0 ≤ _
    omega
  · have e3 : Txt.join "" (ls.map tx) = tx ls.flatten := by
      rw [TL.join_eq]
      obtain ⟨l, el⟩ := tx_of (Str.join "" (ls.map tx))
      have e4 := TL.tl_join "" (ls.map tx)
      rw [List.map_map] at e4
      have e5 : TL.tl ∘ tx = id := funext fun l => rfl
      rw [e5, List.map_id] at e4
      have e6 : TL.joinL (TL.tl "") ls = ls.flatten := tl_empty_join ls
      rw [e6, el] at e4
      have e7 : TL.tl (tx l) = l := rfl
      rw [e7] at e4
      rw [el, e4]
    rw [e3]
    exact z _ H1 (.str _) R1 e1 rfl q
/-- name in (texts) -/
theorem in_strs (s : Str) : ∀ ss : List Str, inV (.str s) (ss.map V.str) = decide (s ∈ ss)
  | [] => by simp [inV]
  | a :: ss => by
    have ih := in_strs s ss
    unfold inV at ih ⊢
    rw [List.map_cons, List.any_cons, ih]
    show ((a == s) || decide (s ∈ ss)) = _
    by_cases e : s = a
    · subst e
      simp
    · have e2 : (a == s) = false := beq_eq_false_iff_ne.mpr fun z => e z.symm
      simp [e, e2]
theorem all_flat (ss : List Str) : (ss.map V.str).all flatV = true := by
  rw [List.all_eq_true]
  intro x hx
  obtain ⟨s, _, rfl⟩ := List.mem_map.mp hx
  rfl
theorem de_inS (h : De M ta O r fun x => De M tb O r fun y => ∃ (s : Str) (ss : List Str), x = .str s ∧ (y = .lst (ss.map D.str) ∨ y = .tup (ss.map D.str)) ∧ k (.bl (decide (s ∈ ss)))) : De M (tOp (rIn M.K false) ta tb) O r k := de_op2 h fun x y c σ H v u Q R pv pu z => by
  obtain ⟨s, ss, rfl, hy, q⟩ := c
  obtain rfl : v = .str s := pv
  rcases hy with rfl | rfl
  · obtain ⟨a, vs, rfl, h1, h2⟩ := pu
    have ev := repL_strs_of h2
    subst ev
    refine ⟨a, _, rfl, .inl h1.sq, rfl, all_flat ss, ?_⟩
    rw [if_neg Bool.false_ne_true, in_strs]
    exact z _ H (.bl _) R .refl rfl q
  · obtain ⟨a, vs, rfl, h1, h2⟩ := pu
    have ev := repL_strs_of h2
    subst ev
    refine ⟨a, _, rfl, .inr h1.sq, rfl, all_flat ss, ?_⟩
    rw [if_neg Bool.false_ne_true, in_strs]
    exact z _ H (.bl _) R .refl rfl q
/-- name = a.split(b): a list of one's own -/
theorem ds_ownSplit {i : Nat} {a b : Str} (hb : (b.length == 0) = false) (ha : a.length + 2 ≤ sizeLine) (hl : (Txt.split a b).length ≤ sizeLine) (q : ∀ p, p ∉ O → E.nx (p :: O) (r.set i (.mu p ((Txt.split a b).map D.str)))) :
    DS M (tAsg (tM1 (fun x xs H Q => ∃ a b, x = .str a ∧ xs = [.str b] ∧ (b.length == 0) = false ∧ a.length + 2 ≤ sizeLine ∧ rNewStrs (Txt.split a b) H Q) (tC (.str a)) (tC (.str b))) (gName i)) O r E := fun σ H Z R z =>
  ⟨⟨a, rfl⟩, a, b, rfl, rfl, hb, ha, ((ds_own (tl := fun _ H K => K ((Txt.split a b).map V.str) H) (i := i) fun σ H Q R z => z _ H ((Txt.split a b).map D.str) R .refl (strs_repL _) ⟨by rw [List.length_map]; exact hl, q⟩ : DS M _ O r E) σ H Z R z).2⟩
theorem de_splitC {a b : Str} (hb : (b.length == 0) = false) (ha : a.length + 2 ≤ sizeLine) (q : k (.lst ((Txt.split a b).map D.str))) :
    De M (tM1 (fun x xs H Q => ∃ a b, x = .str a ∧ xs = [.str b] ∧ (b.length == 0) = false ∧ a.length + 2 ≤ sizeLine ∧ rNewStrs (Txt.split a b) H Q) (tC (.str a)) (tC (.str b))) O r k := fun σ H Q R z =>
  ⟨⟨a, rfl⟩, a, b, rfl, rfl, hb, ha, fun p hp => z _ _ (.lst _) (R.grow (sm_new hp)) (sm_0 (sm_new hp)) (rep_lst R hp (strs_repL _)) q⟩
/-- an own list taken n times -/
theorem de_repO (i : Nat) {p : Addr} {xs : List D} (hi : r[i]? = some (.mu p xs)) (h : De M te O r fun y => ∃ n : Int, y = .int n ∧ 0 ≤ n ∧ n ≤ 1000 ∧ xs.length * n.toNat ≤ 1000 ∧ k (.lst (List.replicate n.toNat xs).flatten)) : De M (tOp rRep (tVar i) te) O r k := fun σ H Q R z => by
  obtain ⟨e1, hp, vs, h1, h2⟩ := R.slot i _ hi
  refine ⟨.ref p, e1, h σ H _ R fun v H1 x R1 e2 p1 q => ?_⟩
  obtain ⟨n, rfl, n0, n1, hz, q⟩ := q
  obtain rfl : v = .int n := p1
  obtain ⟨_, _, vs', h1', h2'⟩ := R1.slot i _ hi
  have hrep : ∀ m : Nat, RepL M.K (nf M O) H1 (List.replicate m xs).flatten (List.replicate m vs').flatten := fun m => by
    induction m with
    | zero => exact .nil
    | succ m ih =>
      rw [List.replicate_succ, List.replicate_succ, List.flatten_cons, List.flatten_cons]
      exact h2'.append ih
  refine ⟨p, n, vs', rfl, rfl, h1', by omega, by omega, by rw [← h2'.length]; exact Nat.le_trans hz (by decide), fun a ha => ?_⟩
  exact z _ _ (.lst _) (R1.grow (sm_new ha)) (e2.trans (sm_0 (sm_new ha))) (rep_lst R1 ha (hrep _)) q
end
end Dw

namespace Dw
open PySem PySem.Spec PyProof.Rows L2
/-! the source of draws: a dict with a seed, a number and a list of numbers -/
def dealKv (seed number : Int) (ll : Addr) : List (Key × V) := [(.inr "seed", .int seed), (.inr "number", .int number), (.inr "left", .ref ll)]
def DealAt (g : Addr × Addr) (H : Hp) : Prop := ∃ (seed number : Int) (left : List Int), H g.1 = some (.dK (dealKv seed number g.2)) ∧ H g.2 = some (.lst (left.map V.int)) ∧ 0 ≤ seed ∧ seed < 2147483647 ∧ 0 ≤ number ∧ ∀ x ∈ left, 0 ≤ x
def dealS : Sg where
  G := Addr × Addr
  F0 := fun g a => a = g.1 ∨ a = g.2
  I := DealAt
  st := fun g H H' ⟨s, n, l, h1, h2, r⟩ e => ⟨s, n, l, e _ _ (.inl rfl) h1, e _ _ (.inr rfl) h2, r⟩
  tk := fun g H a ⟨s, n, l, h1, h2, r⟩ h => by
    rcases h with rfl | rfl
    · rw [h1]
      exact fun z => nomatch z
    · rw [h2]
      exact fun z => nomatch z
/-- the promise of the def that makes it -/
def spDeal (K : PySem.W.Frag) : Sp := fun vs H Q _ => ∃ (a : Addr) (ns : List Int) (b : Int), vs = [.ref a, .int b] ∧ SqL K H a (ns.map V.int) ∧ ns.length ≤ 63 ∧ 0 ≤ b ∧ b ≤ 63 ∧
  ∀ (g : Addr × Addr) (H' : Hp), H g.1 = none → H g.2 = none → Same H H' → DealAt g H' → Q (.ref g.1) H'
/-- a draw below n -/
def preDraw (g : Addr × Addr) (ds : List D) : Prop := ∃ n : Int, ds = [.ref g.1, .int n] ∧ 0 < n ∧ n < 1073741824
def postDraw (_ : Addr × Addr) (ds : List D) (d : D) : Prop := ∃ n m : Int, ds[1]? = some (.int n) ∧ d = .int m ∧ 0 ≤ m ∧ m < n
abbrev spDraw (K : PySem.W.Frag) : Sp := SpD K dealS preDraw postDraw
theorem lat_of {K : PySem.W.Frag} {H : Hp} {a : Addr} {vs : List V} (h : SqL K H a vs) : LAt K (fun _ => False) H a vs := h.imp (fun z => ⟨fun q => q, z⟩) fun z => .inr z
theorem same_sm {H H' : Hp} (e : Sm (fun _ => False) H H') : Same H H' := fun a o h => e a o (fun z => z) h
end Dw

/-! DwDraw: a draw by a number that is written, within a def that has the source as its own; tuple of a list. -/
namespace Dw
open PySem PySem.Spec PyProof.Rows L2
section
variable {M : Md} {O : List Addr} {r : List Sl} {k : D → Prop} {te : TE}
theorem de_draw {g : Addr × Addr} {i : Nat} {n : Int} {E : XK} (h0 : M.F0 = dealS.F0 g) (hI : M.I = dealS.I g) (hr : r[i]? = some (.d (.ref g.1))) (n0 : 0 < n) (n1 : n < 1073741824) (h : ∀ m : Int, 0 ≤ m → m < n → k (.int m)) :
    De M (tCall (spDraw M.K) [] E (tCons (tVar i) (tCons (tC (.int n)) tNil))) O r k :=
  de_call g h0 hI (da_cons (de_var hr (da_cons (de_int (da_nil ⟨⟨n, rfl, n0, n1⟩, fun d ⟨a, m, ea, ed, m0, m1⟩ => by
    cases ea
    subst ed
    exact h m m0 m1⟩)))))
/-- an if without an else, told once -/
theorem ds_ifN {tt : TT} {ts : TS} {E : Kn} (h : DT M tt O r fun b => b = true → DS M ts O r E) (n : E.nx O r) : DS M (tIfS tt ts tNext) O r E := ds_if (h.imp fun b hb => by
  cases b with
  | true => exact hb rfl
  | false => exact ds_next n)
theorem dt_andN {tt tu : TT} {C : Prop} (h : DT M tt O r fun b => b = true → DT M tu O r fun b => b = true → C) : DT M (tAnd tt tu) O r fun b => b = true → C := dt_and (h.imp fun b hb => by
  cases b with
  | true => exact hb rfl
  | false => exact fun z => nomatch z)
end
end Dw

/-! Dw9: two lists of one's own at once; one popped at a place, its item put on the other. -/
namespace Dw
open PySem PySem.Spec PyProof.Rows L2
section
variable {M : Md} {O : List Addr} {r : List Sl} {σ : L2.St} {H : Hp} {k : D → Prop} {te ta tb : TE} {E : Kn}
abbrev tListOf (K : PySem.W.Frag) (te : TE) : TE := tCB (fun xs H Q => ∃ p ys, xs = [.ref p] ∧ (SqL K H p ys ∨ SqT K H p ys) ∧ ∀ l, H l = none → Q (.ref l) (upd H l (.lst ys))) (tCons te tNil)
/-- a, b = list(x), [] -/
theorem ds_parOwn {i j : Nat} (hij : i ≠ j) (hi : i < r.length) (hj : j < r.length) (h : De M te O r fun x => ∃ xs, (x = .lst xs ∨ x = .tup xs) ∧ ∀ p q, p ∉ O → q ∉ O → p ≠ q → E.nx (q :: p :: O) ((r.set i (.mu p xs)).set j (.mu q []))) :
    DS M (tPar i j (tCons (tListOf M.K te) (tCons (tLst tNil) tNil))) O r E := fun σ H Z R z => h σ H _ R fun v H1 x R1 e1 p1 q => by
  obtain ⟨xs, hx, q⟩ := q
  have seq : ∃ a vs, v = .ref a ∧ (SqL M.K H1 a vs ∨ SqT M.K H1 a vs) ∧ RepL M.K (nf M O) H1 xs vs := by
    rcases hx with rfl | rfl
    · obtain ⟨a, vs, rfl, h1, h2⟩ := p1
      exact ⟨a, vs, rfl, .inl h1.sq, h2⟩
    · obtain ⟨a, vs, rfl, h1, h2⟩ := p1
      exact ⟨a, vs, rfl, .inr h1.sq, h2⟩
  obtain ⟨a, vs, rfl, h1, h2⟩ := seq
  refine ⟨a, vs, rfl, h1, fun p hp => ⟨Nat.zero_le _, fun s hs => ⟨.ref p, .ref s, rfl, ?_⟩⟩⟩
  have np : p ≠ s := fun z => by
    rw [z, upd_same] at hs
    cases hs
  have hs1 : H1 s = none := by
    rw [upd_ne np.symm] at hs
    exact hs
  have pO : p ∉ O := fun z => (R1.own p z).2 hp
  have sO : s ∉ O := fun z => (R1.own s z).2 hs1
  have noMu : ∀ (l : Nat) (ys : List D), r[l]? = some (.mu p ys) → False := fun l ys hy => pO (R1.slot l _ hy).2.1
  have noMs : ∀ (l : Nat) (ys : List D), r[l]? = some (.mu s ys) → False := fun l ys hy => sO (R1.slot l _ hy).2.1
  have Ra : Rp M (p :: O) (r.set i (.mu p xs)) (σ.set i (some (.ref p))) (upd H1 p (.lst vs)) := (R1.own1 hp).set (i := i) (v := .ref p) (s := .mu p xs) ⟨rfl, List.mem_cons_self, vs, upd_same, h2.own1 hp⟩ fun l xs e j ys hj hy => by
    cases e
    exact (noMu _ _ hy).elim
  have Rb : Rp M (s :: p :: O) ((r.set i (.mu p xs)).set j (.mu s [])) ((σ.set i (some (.ref p))).set j (some (.ref s))) (upd (upd H1 p (.lst vs)) s (.lst [])) := (Ra.own1 hs).set (i := j) (v := .ref s) (s := .mu s []) ⟨rfl, List.mem_cons_self, [], upd_same, .nil⟩ fun l xs e m ys hm hy => by
    cases e
    by_cases em : i = m
    · subst em
      rw [List.getElem?_set_self hi] at hy
      cases hy
      exact np rfl
    · rw [List.getElem?_set_ne em] at hy
      exact noMs _ _ hy
  have s1 : Stp M O H (p :: O) (upd H1 p (.lst vs)) := stp_new R1 e1 hp
  have s2 : Stp M (p :: O) (upd H1 p (.lst vs)) (s :: p :: O) (upd (upd H1 p (.lst vs)) s (.lst [])) := stp_new (R1.own1 hp) .refl hs
  exact z.nx _ _ _ _ Rb (Stp.trans Ra.inv s1 s2) (q p s pO sO np)
/-- b.append(a.pop(n)) -/
theorem ds_appendPop {i j : Nat} {p q : Addr} {xs ys : List D} (hi : r[i]? = some (.mu p xs)) (hj : r[j]? = some (.mu q ys)) (hij : i ≠ j) (hz : ys.length < sizeLine)
    (h : De M te O r fun d => ∃ n : Nat, d = .int n ∧ n < xs.length ∧ xs.length ≤ 1000000 ∧ ∀ x, xs[n]? = some x → E.nx O ((r.set i (.mu p (xs.eraseIdx n))).set j (.mu q (ys ++ [x])))) :
    DS M (tDrop (tBM M.K "list" rAppend (tVar j) (tCons (tBM M.K "list" rPopAt (tVar i) (tCons te tNil)) tNil))) O r E := fun σ H Z R z => by
  obtain ⟨e1, hp, vs, h1, h2⟩ := R.slot i _ hi
  obtain ⟨f1, hq, ws, g1, g2⟩ := R.slot j _ hj
  refine ⟨.ref q, f1, .inl ⟨rfl, ws, .inl (.inl g1)⟩, ?_⟩
  refine ⟨.ref p, e1, .inl ⟨rfl, vs, .inl (.inl h1)⟩, ?_⟩
  refine h σ H _ R fun v H1 d R1 e2 p1 q1 => ?_
  obtain ⟨n, rfl, hn, hz2, q1⟩ := q1
  obtain rfl : v = .int (n : Int) := p1
  obtain ⟨_, _, vs', h1', h2'⟩ := R1.slot i _ hi
  obtain ⟨_, _, ws', g1', g2'⟩ := R1.slot j _ hj
  obtain ⟨y, y1, y2⟩ := h2'.get (List.getElem?_eq_getElem hn)
  have hl : xs.length = vs'.length := h2'.length
  have npq : q ≠ p := fun e => by
    subst e
    exact hij (R1.one i j q xs ys hi hj)
  refine ⟨p, vs', n, n, y, rfl, rfl, h1', by omega, by omega, ?_, y1, ?_⟩
  · unfold seqIndex?
    rw [← hl]
    simp
    omega
  have R2 := R1.write hi (h2'.erase n)
  have hj2 : (r.set i (.mu p (xs.eraseIdx n)))[j]? = some (.mu q ys) := by rw [List.getElem?_set_ne hij]; exact hj
  obtain ⟨_, _, ws2, g3, g4⟩ := R2.slot j _ hj2
  refine ⟨q, ws2, y, rfl, rfl, g3, by rw [← g4.length]; exact hz, ?_⟩
  have sm : Sm (nf M O) H1 (upd H1 p (.lst (vs'.eraseIdx n))) := fun a o na e => by
    rw [upd_ne fun z => na (.inr (by rw [z]; exact hp))]
    exact e
  have R3 := R2.write hj2 (g4.append (.one (y2.mono sm)))
  have s1 : Stp M O H O (upd H1 p (.lst (vs'.eraseIdx n))) := stp_write R1 hi e2
  have s2 : Stp M O (upd H1 p (.lst (vs'.eraseIdx n))) O (upd (upd H1 p (.lst (vs'.eraseIdx n))) q (.lst (ws2 ++ [y]))) := stp_write R2 hj2 .refl
  exact z.nx O _ σ _ R3 (Stp.trans R2.inv s1 s2) (q1 _ (List.getElem?_eq_getElem hn))
end
end Dw

/-! Dw10: lists turned round, not in, three lists of one's own at once, the top of one list put on another. -/
namespace Dw
open PySem PySem.Spec PyProof.Rows L2
section
variable {M : Md} {O : List Addr} {r : List Sl} {σ : L2.St} {H : Hp} {k : D → Prop} {te ta tb : TE} {E : Kn}
def noMu (r : List Sl) (p : Addr) : Prop := ∀ (j : Nat) (ys : List D), r[j]? = some (.mu p ys) → False
theorem noMu.set {p q : Addr} {i : Nat} {zs : List D} (h : noMu r p) (n : p ≠ q) : noMu (r.set i (.mu q zs)) p := fun j ys hj => by
  by_cases e : i = j
  · subst e
    by_cases hi : i < r.length
    · rw [List.getElem?_set_self hi] at hj
      cases hj
      exact n rfl
    · rw [List.getElem?_eq_none (by rw [List.length_set]; omega)] at hj
      cases hj
  · rw [List.getElem?_set_ne e] at hj
    exact h j ys hj
theorem noMu.out (R : Rp M O r σ H) {p : Addr} (n : p ∉ O) : noMu r p := fun j ys hj => n (R.slot j _ hj).2.1
end
end Dw

/-! DwSet: sets whose members are scanned, of any kind of key: what stands in them, an item put in, all of them sorted. -/
namespace Dw
open PySem PySem.Spec PyProof.Rows L2
section
variable {P : Program} {w : World} {κ : Type} [DecidableEq κ]
/-- a value of the kind -/
def Gv (knd : PySem.KeyKind P w κ) (key : Value → κ) (v : Value) : Prop := knd.is (key v) v = true ∧ v.scannable = true
def Ge (knd : PySem.KeyKind P w κ) (key : Value → κ) (e : Int × Value) : Prop := Gv knd key e.2 ∧ e.1 = knd.hash (key e.2)
/-- the keys that stand in a row of entries -/
abbrev ksOf (key : Value → κ) (l : List (Int × Value)) : List κ := l.map fun e => key e.2
structure SetD (knd : PySem.KeyKind P w κ) (key : Value → κ) (S : κ → Bool) (n : Nat) (es : Array (Int × Value)) (t : SetTable) : Prop where
  good : ∀ e ∈ es.toList, Ge knd key e
  nodup : (ksOf key es.toList).Nodup
  mem : ∀ k, S k = true ↔ k ∈ ksOf key es.toList
  small : es.size < scanBound
  fits : t.fits es.size = true
  size : es.size = n
  ris : Ris t.place.toList
  led : w.params.followText "set-order" = true ∨ t.led = true
def SetG (knd : PySem.KeyKind P w κ) (key : Value → κ) (h : Heap) (a : Addr) (S : κ → Bool) (n : Nat) : Prop :=
  ∃ o es ep t, h.get? a = some o ∧ o.ExactSet ∧ o.data = .set es ep t ∧ SetD knd key S n es t
variable {knd : PySem.KeyKind P w κ} {key : Value → κ} {h h' : Heap} {a : Addr} {S : κ → Bool} {n : Nat}
theorem SetG.at (R : SetG knd key h a S n) (k : ∀ o, h.get? a = some o → h'.get? a = some o) : SetG knd key h' a S n := by
  obtain ⟨o, es, ep, t, ho, r⟩ := R
  exact ⟨o, es, ep, t, k o ho, r⟩
theorem gv_is {v : Value} (g : Gv knd key v) (k : κ) : knd.is k v = true ↔ key v = k := ⟨fun z => knd.inj v _ _ g.1 z, fun z => z ▸ g.1⟩
theorem elems_of {l : List (Int × Value)} (g : ∀ e ∈ l, Ge knd key e) : ElemsOf knd l := fun e he => ⟨⟨key e.2, (g e he).1.1, (g e he).2⟩, (g e he).1.2⟩
theorem ks_mem {l : List (Int × Value)} (g : ∀ e ∈ l, Ge knd key e) (k : κ) : k ∈ ksOf key l ↔ ∃ e ∈ l, knd.is k e.2 = true := by
  rw [List.mem_map]
  exact ⟨fun ⟨e, he, q⟩ => ⟨e, he, (gv_is (g e he).1 k).2 q⟩, fun ⟨e, he, q⟩ => ⟨e, he, (gv_is (g e he).1 k).1 q⟩⟩
theorem SetG.setOf (R : SetG knd key h a S n) : h.SetOf knd a S n := by
  obtain ⟨o, es, ep, t, ho, hx, hd, D⟩ := R
  exact ⟨o, es, ep, t, ho, hx, hd, elems_of D.good, fun k => (D.mem k).trans (ks_mem D.good k), D.small, D.fits, D.size⟩
theorem setG_fresh {h : Heap} : SetG knd key (h.push { cls := .type "set", dict := none, data := .set #[] 0 (.fresh 0 0 (!w.params.followText "set-order")) }) h.objs.size (fun _ => false) 0 := by
  obtain ⟨o, es, ep, t, ho, hx, hd, g, nd, hm, hb, hf, hn, hr, hl⟩ := setR_fresh (h := h) w
  have e0 : es = #[] := Array.eq_empty_of_size_eq_zero hn
  subst e0
  exact ⟨o, _, ep, t, ho, hx, hd, ⟨fun e he => (nomatch he), List.nodup_nil, fun k => ⟨fun z => (nomatch z), fun z => (nomatch z)⟩, hb, hf, hn, hr, hl⟩⟩
end
section
variable {P : Program} {w : World} {κ : Type} [DecidableEq κ] {knd : PySem.KeyKind P w κ} {key : Value → κ} {A : Around} {E : Value → Shared → Prop} {s : Shared} {a : Addr} {S : κ → Bool} {n : Nat}
/-- the entries are stored, and laid anew where the table is too full -/
theorem put_all {give : Bool → Sem Unit} (free : ∀ (b : Bool) (s1 : Shared) (Q' : Unit → Shared → Prop), Q' () s1 → wpAny (model P w) A (give b) Q' E s1)
    {o : Obj} {es es1 : Array (Int × Value)} {ep : Nat} {t t2 : SetTable} {S' : κ → Bool} {m : Nat} (ho : s.heap.get? a = some o) (hex : o.ExactSet) (hd : o.data = .set es ep t) (D : SetD knd key S' m es1 t2) {dummy : Bool} {R : Option Bool → Shared → Prop}
    (hR : ∀ h', Heap.SameBut a s.heap h' → SetG knd key h' a S' m → R (some true) { s with heap := h' }) :
    wpAny (model P w) A (do
        storeSet a es1 t2
        if (!dummy && t2.tooFull) = true then do
            give (relayAll t2 es1 (SetTable.grown es1.size)).2.2
            storeSet a (relayAll t2 es1 (SetTable.grown es1.size)).1 (relayAll t2 es1 (SetTable.grown es1.size)).2.1
            pure (some true)
          else pure (some true)) R E s := by
  refine wpAny_bind (wpAny_storeSet_of ho hd ?_ (fits_of_scanBound D.small))
  have o1 := store_at (es' := es1) (t' := t2) ho hd
  have u1 := Heap.SameBut.update s.heap a (Obj.putSet es1 t2)
  split
  · have pm := relayAll_perm t2 es1 (SetTable.grown es1.size)
    have ff := relayAll_fits t2 es1 (SetTable.grown es1.size)
    have rr := relayAll_ris t2 es1 (SetTable.grown es1.size)
    have ll := relayAll_led t2 es1 (SetTable.grown es1.size)
    generalize relayAll t2 es1 (SetTable.grown es1.size) = Z at pm ff rr ll ⊢
    obtain ⟨es2, t3, gave⟩ := Z
    dsimp only at pm ff rr ll ⊢
    have z2 : es2.size = es1.size := by rw [← Array.length_toList, pm.length_eq, Array.length_toList]
    have small : es2.size < scanBound := by rw [z2]; exact D.small
    refine wpAny_bind (free _ _ _ (wpAny_bind (wpAny_storeSet_of o1 rfl ?_ (fits_of_scanBound small))))
    have pk : (ksOf key es2.toList).Perm (ksOf key es1.toList) := pm.map _
    exact wpAny_pure (hR _ (u1.trans (Heap.SameBut.update _ a _)) ⟨_, es2, _, t3, store_at (es' := es2) (t' := t3) o1 rfl, hex, rfl,
      ⟨fun e he => D.good e (pm.mem_iff.mp he), pk.nodup_iff.mpr D.nodup, fun k => (D.mem k).trans pk.mem_iff.symm, small, ff, z2.trans D.size, rr, D.led.imp id fun z => by rw [ll]; exact z⟩⟩)
  · exact wpAny_pure (hR _ u1 ⟨_, es1, _, t2, o1, hex, rfl, D⟩)
/-- an item put in -/
theorem put_one {x : Value} {Q : Bool → Shared → Prop} (gx : Gv knd key x) (R : SetG knd key s.heap a S n) (room : n + 1 < scanBound)
    (hQ : ∀ h', Heap.SameBut a s.heap h' → SetG knd key h' a (fun j => S j || decide (j = key x)) (if S (key x) = true then n else n + 1) → Q (!S (key x)) { s with heap := h' }) :
    wpAny (model P w) A (setAddHashed a x (knd.hash (key x))) Q E s := by
  obtain ⟨o, es, ep, t, ho, hex, hd, D⟩ := R
  have el := elems_of D.good
  unfold setAddHashed setAddHashedIn
  refine wpAny_holding (wpAny_bind (wpAny_setState_of ho hd D.fits ?_))
  dsimp only
  rw [byScan_of gx.2 D.small el]
  simp only [↓reduceIte]
  unfold setAddByScan
  refine wpAny_bind (wpAny_bind (wpAny_rule (wpAny_bind (wpAny_setScan_of gx.1 ho hd D.fits el ?_))))
  cases found : List.findIdx? (fun e => knd.is (key x) e.2) es.toList with
  | some j =>
    dsimp only
    obtain ⟨hj, pj, _⟩ := List.findIdx?_eq_some_iff_getElem.mp found
    have yes : S (key x) = true := (D.mem _).2 ((ks_mem D.good _).2 ⟨es.toList[j], List.getElem_mem hj, pj⟩)
    refine wpAny_pure (wpAny_pure ?_)
    have q := hQ s.heap (Heap.SameBut.refl a s.heap) ⟨o, es, ep, t, ho, hex, hd, ⟨D.good, D.nodup, fun i => by
      rw [Bool.or_eq_true, decide_eq_true_eq, ← D.mem i]
      exact ⟨fun z => z.elim id (fun e => e ▸ yes), .inl⟩, D.small, D.fits, by rw [if_pos yes]; exact D.size, D.ris, D.led⟩⟩
    rw [yes] at q
    exact q
  | none =>
    dsimp only
    have new : key x ∉ ksOf key es.toList := fun z => by
      obtain ⟨e, he, q⟩ := (ks_mem D.good _).1 z
      have c := List.findIdx?_eq_none_iff.mp found e he
      rw [q] at c
      cases c
    have no : S (key x) = false := Bool.eq_false_iff.mpr fun q => new ((D.mem _).1 q)
    have tell : ∀ (b : Bool) {s1 : Shared} {Q' : Unit → Shared → Prop}, Q' () s1 → wpAny (model P w) A (match b with | true => rule "set.scan.the-table-gave-way" | false => pure ()) Q' E s1 :=
      fun b s1 Q' q => by cases b <;> first | exact wpAny_pure q | exact wpAny_rule q
    have pm := layNew_perm t es (knd.hash (key x)) x
    have ff := layNew_fits t es (knd.hash (key x)) x
    have rr := layNew_ris t es (knd.hash (key x)) x D.ris
    have ll := layNew_led t es (knd.hash (key x)) x
    generalize layNew t es (knd.hash (key x)) x = Z at pm ff rr ll ⊢
    obtain ⟨es1, t1, dummy, gave⟩ := Z
    dsimp only at pm ff rr ll ⊢
    rw [Array.toList_push] at pm
    have pc : es1.toList.Perm ((knd.hash (key x), x) :: es.toList) := pm.trans (List.perm_append_singleton _ _)
    have pk : (ksOf key es1.toList).Perm (key x :: ksOf key es.toList) := pc.map _
    have z1 : es1.size = n + 1 := by rw [← Array.length_toList, pc.length_eq, List.length_cons, Array.length_toList, D.size]
    have lead : w.params.followText "set-order" = true ∨ t1.led = true := D.led.imp id fun z => by rw [ll]; exact z
    have D1 : ∀ t2 : SetTable, t2.fits es1.size = true → Ris t2.place.toList → (w.params.followText "set-order" = true ∨ t2.led = true) → SetD knd key (fun j => S j || decide (j = key x)) (n + 1) es1 t2 := fun t2 f2 r2 l2 =>
      ⟨fun e he => (List.mem_cons.mp (pc.mem_iff.mp he)).elim (fun z => by rw [z]; exact ⟨gx, rfl⟩) (D.good e), pk.nodup_iff.mpr (List.nodup_cons.mpr ⟨new, D.nodup⟩), fun i => by
        rw [Bool.or_eq_true, decide_eq_true_eq, D.mem i, pk.mem_iff, List.mem_cons]
        exact Or.comm, by rw [z1]; exact room, f2, z1, r2, l2⟩
    have fin : ∀ h', Heap.SameBut a s.heap h' → SetG knd key h' a (fun j => S j || decide (j = key x)) (n + 1) → Q true { s with heap := h' } := fun h' sb r => by
      have q := hQ h' sb
      rw [no] at q
      exact q r
    refine wpAny_bind (tell _ ?_)
    split
    · refine wpAny_bind ?_
      rw [hashByValue_scannable 8 gx.2]
      refine wpAny_pure (put_all ?_ ho hex hd (D1 _ ?_ ?_ ?_) fun h' sb r => ?_)
      · intro b s1 Q' q; cases b <;> first | exact wpAny_pure q | exact wpAny_rule q
      · first | (split <;> first | exact ff | exact SetTable.fits_plain_off ff) | exact ff
      · first | (split <;> exact rr) | exact rr
      · first | (split <;> exact lead) | exact lead
      · dsimp only
        exact wpAny_pure (fin h' sb r)
    · refine wpAny_bind (wpAny_pure ?_)
      simp only [↓reduceIte]
      refine put_all ?_ ho hex hd (D1 _ ff rr lead) fun h' sb r => ?_
      · intro b s1 Q' q; cases b <;> first | exact wpAny_pure q | exact wpAny_rule q
      · dsimp only
        exact wpAny_pure (fin h' sb r)
end
end Dw

/-! DwSetT: sets of texts in the hand layer. -/
namespace Dw
open PySem PySem.Spec PyProof.Rows L2
def keyS (v : Value) : Str := match v with
  | .str x _ => x
  | _ => Str.empty
theorem gv_str (P : Program) (w : World) (x : Str) (t : Tok) : Gv (PySem.strKind P w) keyS (.str x t) := ⟨strKind_is P w x t, rfl⟩
theorem gv_shape {P : Program} {w : World} {v : Value} (g : Gv (PySem.strKind P w) keyS v) : ∃ t, v = .str (keyS v) t := by
  obtain ⟨t, e⟩ := Value.isStrOf_shape (x := keyS v) (v := v) g.1
  exact ⟨t, e⟩
/-- the set of texts at a: S its members, n of them -/
def SetX (P : Program) (w : World) (a : Addr) (S : Str → Bool) (n : Nat) : HO := .ext fun h => SetG (PySem.strKind P w) keyS h a S n
section
variable {P : Program} {w : World} {H : Hp} {h : Heap} {a : Addr} {S : Str → Bool} {n : Nat}
theorem setX_new (R : SetG (PySem.strKind P w) keyS h a S n) : ObjOk P w H h a (SetX P w a S n) := by
  have R' := R
  obtain ⟨o, es, ep, t, ho, r⟩ := R'
  exact ⟨R, ⟨o, ho⟩, fun h1 h2 z k => z.at fun o q => k o q⟩
theorem setX_get {pins : List (Addr × Obj)} {σ : L2.St} {X : Cx} {s : Shared} (I : Inv X pins σ H s) (ha : H a = some (SetX X.prog X.w a S n)) : SetG (PySem.strKind X.prog X.w) keyS s.heap a S n := by
  have x : ObjOk X.prog X.w H s.heap a (.ext fun h => SetG (PySem.strKind X.prog X.w) keyS h a S n) := I.hok a _ ha
  exact x.1
end
theorem strs_are : ∀ {vs : List Value}, (∀ v ∈ vs, ∃ t, v = Value.str (keyS v) t) → StrsAre vs (vs.map keyS)
  | [], _ => .nil
  | v :: vs, h => by
    obtain ⟨t, e⟩ := h v List.mem_cons_self
    have ih := strs_are (vs := vs) fun u hu => h u (List.mem_cons_of_mem _ hu)
    rw [List.map_cons]
    have e2 : keyS v = keyS v := rfl
    generalize keyS v = x at e ⊢
    subst e
    exact .cons _ _ ih
/-- sorted(a set of texts), fewer than 64 members -/
def rSortedX (P : Program) (w : World) : List V → Hp → VK → Prop := fun vs H Q => ∃ (a : Addr) (S : Str → Bool) (n : Nat), vs = [V.ref a] ∧ H a = some (SetX P w a S n) ∧ n < 64 ∧
  ∀ (ys : List Str) (p : Addr), ys.Nodup → sortedS ys = true → (∀ k : Str, k ∈ ys ↔ S k = true) → ys.length = n → H p = none → Q (.ref p) (upd H p (.lst (ys.map V.str)))
theorem cr_sortedX {X : Cx} (hc : X.calm = true) : CallR X (.builtin "sorted") (rSortedX X.prog X.w) := by
  intro pins s σ H vs us Q I r h
  obtain ⟨a, S, n, rfl, ha, h64, q⟩ := h
  obtain ⟨o, es, ep, t, ho, hex, hd, D⟩ := setX_get I ha
  rw [Vals.ref1 r]
  refine Calls.call_function_entry kind_sorted plain_sorted entry_sorted (args_sorted1 _) ?_
  unfold Builtin.«sorted»
  refine wpAny_bind (m := checkCount "sorted" 1 1 _) (wpAny_pure ?_)
  refine wpAny_bind (collect_set (A := X.A.in1) (I.ok.hd hc) ⟨o, ho, hex.1, hd⟩ D.fits D.small D.ris D.led fun s1 vs k1 hz g1 o1 pm => ?_)
  have len : vs.length = n := by rw [pm.length_eq, List.length_map, Array.length_toList]; exact D.size
  have shape : ∀ v ∈ vs, ∃ t, v = Value.str (keyS v) t := fun v hv => by
    obtain ⟨e, he, q⟩ := List.mem_map.mp (pm.mem_iff.mp hv)
    rw [← q]
    exact gv_shape (D.good e he).1
  have hS := strs_are shape
  have pk : (vs.map keyS).Perm (ksOf keyS es.toList) := by
    have q := pm.map keyS
    rw [List.map_map] at q
    exact q
  refine wpAny_bind (wpAny_newList ?_ (by rw [len, sizeLine_eq]; omega))
  have hoL : (s1.heap.push (seqObj "list" vs.toArray 0)).get? s1.heap.objs.size = some (seqObj "list" vs.toArray 0) := Heap.get?_push_size _ rfl
  refine wpAny_bind (wpAny_holding (wpAny_call_entry slot_list_sort ⟨_, hoL, rfl⟩ entry_list_sort
    (list_sort_treeK strKind_oneLt hoL hS.keysOf (fun v1 v2 rest e => keyKind_strs (by rw [← e]; exact hS)) (by rw [len]; exact h64) fun st' hp hs => ⟨_, rfl, ?_⟩) (args_list_sort _)))
  obtain ⟨ys, y1, y2, y3⟩ := sorted_out_str hS hp hs
  obtain ⟨c, hcell⟩ := sortedHeap_at (vs := vs) (out := (arrOf st').map (·.2)) hoL
  have pn : ys.Perm (ksOf keyS es.toList) := y2.trans pk
  have yl : ys.length = n := by rw [pn.length_eq, List.length_map, Array.length_toList]; exact D.size
  have keep : ∀ b u, s.heap.get? b = some u → (sortedHeap (s1.heap.push (seqObj "list" vs.toArray 0)) s1.heap.objs.size vs ((arrOf st').map (·.2))).get? b = some u := fun b u e => by
    have q := k1 b u e
    have hlt := Heap.lt_size q
    rw [sortedHeap_old (Nat.ne_of_lt hlt) (by rw [size_push']; exact Nat.lt_succ_of_lt hlt)]
    exact Heap.get?_push_of_some _ q
  have fresh : H s1.heap.objs.size = none := I.hok.fresh hz
  have ok : ObjOk X.prog X.w (upd H s1.heap.objs.size (.lst (ys.map V.str))) _ s1.heap.objs.size (.lst (ys.map V.str)) := ⟨by rw [List.length_map, yl, sizeLine_eq]; omega, ((arrOf st').map (·.2)).toList, c, vals_of_strs y1, by rw [Array.toArray_toList]; exact hcell⟩
  have J : Inv X pins σ (upd H s1.heap.objs.size (.lst (ys.map V.str))) { s with heap := sortedHeap (s1.heap.push (seqObj "list" vs.toArray 0)) s1.heap.objs.size vs ((arrOf st').map (·.2)), gens := s1.gens, drawn := s1.drawn, toks := s1.toks } :=
    I.call (ch := []) (Un.laid keep hz fresh) (I.hok.laid keep hz ok) (by rw [g1]; exact I.bare) (fun _ z => nomatch z)
  refine wpAny_pure ⟨_, rfl, ?_⟩
  have fin : EP X pins σ Q (.ref s1.heap.objs.size) { s with heap := sortedHeap (s1.heap.push (seqObj "list" vs.toArray 0)) s1.heap.objs.size vs ((arrOf st').map (·.2)), gens := s1.gens, drawn := s1.drawn, toks := s1.toks } :=
    ⟨.ref s1.heap.objs.size, _, J, rfl, q ys _ (pn.nodup_iff.mpr D.nodup) y3 (fun k => by rw [pn.mem_iff]; exact (D.mem k).symm) yl fresh⟩
  obtain ⟨hp1, g, d, tk, os⟩ := s1
  cases o1
  exact fin
end Dw

set_option maxHeartbeats 400000
/-! DwSc2: a set made by two fors. -/
namespace Dw
open PySem PySem.Spec PyProof.Rows L2
abbrev SC2 (elt a0 b0 a1 b1 : Expr) (f0 f1 : List Expr) (sc : Scope) (p : Pos) : Expr := .SetComp elt [⟨a0, b0, f0, 0⟩, ⟨a1, b1, f1, 0⟩] sc p
/-- the tests of a clause, one after another -/
abbrev tests (fs : List Expr) (env : Env) : Sem Bool := forIn fs true fun c r => if r = true then do let z ← isTrue c env (eval c env); pure (ForInStep.yield z) else pure (ForInStep.yield r)
section
variable {elt a0 b0 a1 b1 : Expr} {f0 f1 : List Expr} {sc : Scope} {p : Pos} {it acc : Value} {env : Env}
theorem turn2_out : compTurn (SC2 elt a0 b0 a1 b1 f0 f1 sc p) 0 it acc env = (do
    standAt b0.pos
    match ← pyNext it with
    | none => pure (.done .next)
    | some v =>
      letOwnedTupleGo a0 it v
      assign a0 env v
      let ok ← tests f0 env
      if ok then
        let x ← eval b1 env
        standAt b1.pos
        let x ← foldedSetIterable b1 env x
        let _ ← runOwn (.compStart (SC2 elt a0 b0 a1 b1 f0 f1 sc p) 1 (← holding [x] (pyIter x)) acc env) env
      again (.compLoop (SC2 elt a0 b0 a1 b1 f0 f1 sc p) 0 it acc env)) := by rfl
theorem turn2_in : compTurn (SC2 elt a0 b0 a1 b1 f0 f1 sc p) 1 it acc env = (do
    standAt b1.pos
    match ← pyNext it with
    | none => pure (.done .next)
    | some v =>
      letOwnedTupleGo a1 it v
      assign a1 env v
      let ok ← tests f1 env
      if ok then
        (do let y ← eval elt env
            standAt elt.pos
            let _ ← call (.builtin "set.add") [acc, y])
      again (.compLoop (SC2 elt a0 b0 a1 b1 f0 f1 sc p) 1 it acc env)) := by rfl
end
section
variable {prog : Program} {w : World} {A : Around} {R : Result → Shared → Prop} {s : Shared} {elt a0 b0 a1 b1 : Expr} {f0 f1 : List Expr} {sc : Scope} {p : Pos} {it acc : Value} {env : Env}
/-- what an error leads to -/
abbrev Er (prog : Program) (w : World) (A : Around) (env : Env) (R : Result → Shared → Prop) : Value → Shared → Prop := notedBy (model prog w) A env fun e s' => R (.error e) s'
theorem s2_out (nofold : ∀ x, foldedSetIterable b1 env x = pure x) (J : Nat → Shared → Prop)
    (turn : ∀ n s, J n s → wpAny (model prog w) A (pyNext it) (fun
      | none, s1 => R (.ok .next) s1
      | some v, s1 => wpAny (model prog w) A (letOwnedTupleGo a0 it v) (fun _ s2 => wpAny (model prog w) A (assign a0 env v) (fun _ s3 => wpAny (model prog w) A (tests f0 env) (fun ok s4 =>
          if ok = true then wpAny (model prog w) A (eval b1 env) (fun x s5 => wpAny (model prog w) A (pyIter x) (fun it1 s6 =>
            codeAny (model prog w) A (.compStart (SC2 elt a0 b0 a1 b1 f0 f1 sc p) 1 it1 acc env) (fun
              | .ok _, s' => ∃ m, m < n ∧ J m s'
              | .error _, _ => False) s6) (Er prog w A env R) s5) (Er prog w A env R) s4
          else ∃ m, m < n ∧ J m s4) (Er prog w A env R) s3) (Er prog w A env R) s2) (Er prog w A env R) s1) (Er prog w A env R) s)
    (n : Nat) (h : J n s) : codeAny (model prog w) A (.compLoop (SC2 elt a0 b0 a1 b1 f0 f1 sc p) 0 it acc env) R s := by
  refine codeAny_loop rfl J (fun n s j => ?_) n h
  refine wpAny_noted ?_
  rw [turn2_out]
  refine wpAny_bind (wpAny_standAt (wpAny_bind (wpAny_mono (turn n s j) (fun r s1 z => ?_) fun _ _ q => q)))
  rcases r with _ | v
  · exact wpAny_pure z
  refine wpAny_bind (wpAny_mono z (fun _ s2 z => wpAny_bind (wpAny_mono z (fun _ s3 z => wpAny_bind (wpAny_mono z (fun ok s4 z => ?_) fun _ _ q => q)) fun _ _ q => q)) fun _ _ q => q)
  cases ok
  · exact wpAny_pure ⟨rfl, z⟩
  refine wpAny_bind (wpAny_mono z (fun x s5 z => wpAny_bind (wpAny_standAt (wpAny_bind (wpAny_of_eq (nofold x) (wpAny_bind (wpAny_holding (wpAny_mono z (fun it1 s6 z => ?_) fun _ _ q => q)))))) ) fun _ _ q => q)
  refine wpAny_bind (wpAny_runOwn ?_)
  rw [Around.mark_none]
  refine codeAny_mono z fun r s' q => ?_
  rcases r with e | f
  · exact q.elim
  · first
      | exact wpAny_pure ⟨rfl, q⟩
      | exact wpAny_bind (wpAny_pure (wpAny_pure ⟨rfl, q⟩))
theorem s2_in (J : Nat → Shared → Prop)
    (turn : ∀ n s, J n s → wpAny (model prog w) A (pyNext it) (fun
      | none, s1 => R (.ok .next) s1
      | some v, s1 => wpAny (model prog w) A (letOwnedTupleGo a1 it v) (fun _ s2 => wpAny (model prog w) A (assign a1 env v) (fun _ s3 => wpAny (model prog w) A (tests f1 env) (fun ok s4 =>
          if ok = true then wpAny (model prog w) A (eval elt env) (fun y s5 => wpAny (model prog w) A (call (.builtin "set.add") [acc, y]) (fun _ s6 => ∃ m, m < n ∧ J m s6) (Er prog w A env R) s5) (Er prog w A env R) s4
          else ∃ m, m < n ∧ J m s4) (Er prog w A env R) s3) (Er prog w A env R) s2) (Er prog w A env R) s1) (Er prog w A env R) s)
    (n : Nat) (h : J n s) : codeAny (model prog w) A (.compLoop (SC2 elt a0 b0 a1 b1 f0 f1 sc p) 1 it acc env) R s := by
  refine codeAny_loop rfl J (fun n s j => ?_) n h
  refine wpAny_noted ?_
  rw [turn2_in]
  refine wpAny_bind (wpAny_standAt (wpAny_bind (wpAny_mono (turn n s j) (fun r s1 z => ?_) fun _ _ q => q)))
  rcases r with _ | v
  · exact wpAny_pure z
  refine wpAny_bind (wpAny_mono z (fun _ s2 z => wpAny_bind (wpAny_mono z (fun _ s3 z => wpAny_bind (wpAny_mono z (fun ok s4 z => ?_) fun _ _ q => q)) fun _ _ q => q)) fun _ _ q => q)
  cases ok
  · exact wpAny_pure ⟨rfl, z⟩
  exact wpAny_bind (wpAny_bind (wpAny_mono z (fun y s5 z => wpAny_bind (wpAny_standAt (wpAny_bind (wpAny_mono z (fun _ s6 q => wpAny_pure (wpAny_pure ⟨rfl, q⟩)) fun _ _ q => q)))) fun _ _ q => q))
/-- the second clause's start -/
theorem s2_start (h0 : codeAny (model prog w) A (.compLoop (SC2 elt a0 b0 a1 b1 f0 f1 sc p) 1 it acc env) R s)
    (h : wpAny (model prog w) A (pyIter it) (fun jt s' => codeAny (model prog w) A (.compLoop (SC2 elt a0 b0 a1 b1 f0 f1 sc p) 1 jt acc env) R s') (Er prog w A env R) s) :
    codeAny (model prog w) A (.compStart (SC2 elt a0 b0 a1 b1 f0 f1 sc p) 1 it acc env) R s := by
  refine codeAny_of_tree (wpAny_notedAt ?_)
  unfold compStart
  refine wpAny_bind (m := ask) (wpAny_askSetting (wpAny_ite ?_))
  split
  · first
      | exact wpAny_pure ⟨rfl, h0⟩
      | exact wpAny_bind (wpAny_pure (wpAny_pure ⟨rfl, h0⟩))
  · refine wpAny_bind (wpAny_rule ?_)
    exact wpAny_bind (m := standAt b1.pos) (wpAny_standAt (wpAny_bind (wpAny_mono h (fun _ _ q => wpAny_pure ⟨rfl, q⟩) fun _ _ q => q)))
end
theorem put_str {P : Program} {w : World} {A : Around} {E : Value → Shared → Prop} {s : Shared} {a : Addr} {S : Str → Bool} {n : Nat} {y : Str} {t : Tok} {Q : Bool → Shared → Prop} (R : SetG (PySem.strKind P w) keyS s.heap a S n) (room : n + 1 < scanBound)
    (hQ : ∀ h', Heap.SameBut a s.heap h' → SetG (PySem.strKind P w) keyS h' a (fun j => S j || decide (j = y)) (if S y = true then n else n + 1) → Q (!S y) { s with heap := h' }) :
    wpAny (model P w) A (setAddHashed a (.str y t) ((PySem.strKind P w).hash y)) Q E s := by
  have e : keyS (.str y t) = y := rfl
  have z := put_one (A := A) (E := E) (Q := Q) (gv_str P w y t) R room
  rw [e] at z
  exact z hQ
section
variable {X : Cx} {pins : List (Addr × Obj)} {σ : L2.St} {H : Hp} {s : Shared}
/-- a text put into a tracked set of texts -/
theorem addX_ok {E : Value → Shared → Prop} {D : Addr} {S : Str → Bool} {n : Nat} {y : Str} {v : Value} {Q : Value → Shared → Prop} (I : Inv X pins σ H s) (hD : H D = some (SetX X.prog X.w D S n)) (room : n + 1 < scanBound) (r : RelV (.str y) v)
    (h : ∀ s', Inv X pins σ (upd H D (SetX X.prog X.w D (fun j => S j || decide (j = y)) (if S y = true then n else n + 1))) s' → Q .none s') : wpAny (model X.prog X.w) X.A (call (.builtin "set.add") [.ref D, v]) Q E s := by
  obtain ⟨t, rfl⟩ : ∃ t, v = .str y t := r
  have R := setX_get I hD
  have z := R.setOf
  refine wpAny_call_entry F.slot_set_add z.typeIs F.entry_set_add ?_ (F.args_set_add_2 _ _)
  unfold Builtin.«set.add» Builtin.Frozenset.oneOther
  simp only [List.isEmpty_nil, bind_assoc]
  unfold Builtin.Frozenset.addrOf setAdd
  refine wpAny_bind (wpAny_pure (wpAny_bind (wpAny_pure (wpAny_bind (wpAny_holding (wpAny_bind ((PySem.strKind X.prog X.w).pyHash (strKind_is X.prog X.w y t) ?_)))))))
  refine put_str (s := { s with toks := s.toks + 1 }) R room fun h' sb new => ?_
  have he : ∃ u, h'.get? D = some u := by
    obtain ⟨o, _, _, _, ho, _⟩ := new
    exact ⟨o, ho⟩
  have J := I.write (t' := s.toks + 1) (by rw [hD]; trivial) (.inl rfl) (fun b u hb q => (sb.2 b hb).trans q) he (setX_new (H := upd H D (SetX X.prog X.w D (fun j => S j || decide (j = y)) (if S y = true then n else n + 1))) new)
  show wpAny _ _ (ret Value.none) _ _ _
  exact wpAny_pure ⟨_, rfl, h _ J⟩
end
end Dw

set_option maxHeartbeats 1000000
/-! DwSc3: {text for .. in .. if .. for .. in .. if ..} in the hand layer. -/
namespace Dw
open PySem PySem.Spec PyProof.Rows L2 PpSet
/-- in whatever block the comprehension is run -/
abbrev Blk (X : Cx) (sc : Scope) (F : Cx → Prop) : Prop := ∀ (t : Shared) (K : Hp) (c : Addr) (m : List (Str × Addr)) (fp : List Addr), F (X.blk t K sc (compEnvC sc m c X.env) fp)
/-- the text y goes into the set D, and N is reached -/
abbrev putX (P : Program) (w : World) (D : Addr) (N : Hp → Prop) : V → Hp → Prop := fun y K => ∃ (c : Str) (S : Str → Bool) (n : Nat), y = .str c ∧ K D = some (SetX P w D S n) ∧ n + 1 < scanBound ∧
  N (upd K D (SetX P w D (fun j => S j || decide (j = c)) (if S c = true then n else n + 1)))
/-- the inner loop, from behind the outer tests to N -/
def tIn (P : Program) (w : World) (i1 : TI) (g1 : TG) (t1 : TT) (te : TE) (vs1 : List Nat) (D : Addr) (N : Hp → Prop) (σ : L2.St) (K : Hp) : Prop :=
  i1 σ K fun J K1 => ∃ W : Nat → Nat → Hp → Prop, (∃ m, W 0 m K1) ∧ ∀ j k K2, W j k K2 → (J.stop j K2 ∧ N K2) ∨ (J.go j K2 ∧ ∃ M : Hp → Prop, (∀ K3, M K3 → ∃ k', k' < k ∧ W (j + 1) k' K3) ∧
    ∀ x K3, J.yld j K2 x K3 → g1 x (wipe σ vs1) K3 fun σ3 K4 => wipe σ3 vs1 = wipe σ vs1 ∧ t1 σ3 K4 fun b K5 => if b = true then te σ3 K5 (putX P w D M) else M K5)
def tSx2 (P : Program) (w : World) (i0 : TI) (g0 : TG) (t0 : TT) (i1 : TI) (g1 : TG) (t1 : TT) (te : TE) (vs vs1 : List Nat) : TE := fun σ H Q =>
  i0 σ H fun J K => ∀ D, K D = none → ∃ W : Nat → Nat → Hp → Prop, (∃ m, W 0 m (upd K D (SetX P w D (fun _ => false) 0))) ∧ ∀ j k K1, W j k K1 → (J.stop j K1 ∧ Q (.ref D) K1) ∨ (J.go j K1 ∧ ∃ N : Hp → Prop, (∀ K2, N K2 → ∃ k', k' < k ∧ W (j + 1) k' K2) ∧
    ∀ x K2, J.yld j K1 x K2 → g0 x (wipe σ vs) K2 fun σ2 K3 => wipe σ2 vs = wipe σ vs ∧ t0 σ2 K3 fun b K4 => if b = true then tIn P w i1 g1 t1 te vs1 D N σ2 K4 else N K4)
section
variable {X : Cx} {pins : List (Addr × Obj)} {σ : L2.St} {H : Hp} {s : Shared} {elt a0 b0 a1 b1 : Expr} {f0 f1 : List Expr} {sc : Scope} {p : Pos} {own : List (Str × Nat)} {vs1 : List Nat} {i0 i1 : TI} {g0 g1 : TG} {t0 t1 : TT} {te : TE}
theorem sx2_core {Q : VK} {p' : Pos} {use : Option (Value → Sem Unit)} {Qf : Value → Shared → Prop} (calm : X.calm = true) (nd : X.N.Nodup) (I : Inv X pins σ H s) (src : PI X a0 b0 i0) (ok : BlkOk X.N X.env.scope sc own) (sub : ∀ i ∈ vs1, i ∈ own.map (·.2))
    (hg : Blk X sc fun Y => PG Y a0 g0) (ht : Blk X sc fun Y => PTs Y f0 t0) (src1 : Blk X sc fun Y => PI Y a1 b1 i1) (hg1 : Blk X sc fun Y => PG Y a1 g1) (ht1 : Blk X sc fun Y => PTs Y f1 t1) (he : Blk X sc fun Y => PE Y elt te)
    (nf : ∀ x, foldedSetIterable b0 X.env x = pure x) (nf1 : ∀ e x, foldedSetIterable b1 e x = pure x) (h : tSx2 X.prog X.w i0 g0 t0 i1 g1 t1 te (own.map (·.2)) vs1 σ H Q)
    (out : ∀ D C s' m K, Inv X pins σ K s' → Q (.ref D) K → s'.heap.Ns C m → FpOk X pins K C → compPost (model X.prog X.w) X.A X.xe use Qf (.ref D) C (.ok .next) s') :
    wpAny (model X.prog X.w) X.A (comprehension (SC2 elt a0 b0 a1 b1 f0 f1 sc p) sc X.env p' (newSet (.type "set")) false (eval b0 X.env) use) Qf X.xe s := by
  have free : ∀ y ∈ sc.names, y.2 = .free → ∃ c, X.env.cells.lookup y.1 = some c := fun y hy e => (ok.free y hy e).elim (fun k => I.ok.has _ (.inl k)) fun k => I.ok.has _ (.inr k)
  refine wpAny_comprehension_free (use := use) rfl nf (closure_ok free) ok.kind (fun y hy e => by rw [ok.uniq y hy, e]) (thn (src.run pins s σ H _ I h) fun xv s1 hx => thn hx fun itv s2 z => ?_)
  obtain ⟨it, fp, tn, J, H2, rfl, I2, T, st2, f2, q⟩ := z
  refine newSet_ok (newEnv_comp ?_)
  generalize hD : s2.heap.objs.size = D
  have freeD : H2 D = none := I2.hok.fresh (Nat.le_of_eq hD)
  obtain ⟨W, ⟨m0, w0⟩, turn⟩ := q D freeD
  -- the new set
  generalize hs3 : ({ s2 with heap := s2.heap.push { cls := .type "set", dict := none, data := .set #[] 0 (.fresh 0 0 (!X.w.params.followText "set-order")) } } : Shared) = s3
  have I3 : Inv X pins σ (upd H2 D (SetX X.prog X.w D (fun _ => false) 0)) s3 := by
    subst hs3 hD
    exact I2.laid (t' := s2.toks) (fun b o e => Heap.get?_push_of_some _ e) (Nat.le_refl _) (setX_new setG_fresh)
  have h3 : s3.heap = s2.heap.push { cls := .type "set", dict := none, data := .set #[] 0 (.fresh 0 0 (!X.w.params.followText "set-order")) } := hs3 ▸ rfl
  have f3 : ∀ b ∈ fp, FpOk X pins (upd H2 D (SetX X.prog X.w D (fun _ => false) 0)) b ∧ b < s3.heap.objs.size := fun b hb => by
    obtain ⟨o, e, _⟩ := T.obj _ _ st2 b hb
    have lt := Heap.lt_size e
    exact ⟨⟨by rw [upd_ne (hD ▸ Nat.ne_of_lt lt)]; exact (f2 b hb).1, (f2 b hb).2⟩, by rw [h3, Heap.size_push]; exact Nat.lt_succ_of_lt lt⟩
  have st3 : tn 0 s3.heap := T.keep _ _ _ st2 fun b _ o e => by rw [h3]; exact Heap.get?_push_of_some _ e
  have I4 := block_start I3 ok nd f3
  generalize hH3 : upd H2 D (SetX X.prog X.w D (fun _ => false) 0) = H3 at I3 I4 w0 f3
  generalize hcl : cellsFrom (s3.heap.objs.size + 1) sc.names (cloFrom X.env.cells sc.names []) = cl at I4 ⊢
  have pg := hg s3 H3 s3.heap.objs.size cl fp
  have pt := ht s3 H3 s3.heap.objs.size cl fp
  have pi1 := src1 s3 H3 s3.heap.objs.size cl fp
  have pg1 := hg1 s3 H3 s3.heap.objs.size cl fp
  have pt1 := ht1 s3 H3 s3.heap.objs.size cl fp
  have pe := he s3 H3 s3.heap.objs.size cl fp
  have cL : (compEnvC sc cl s3.heap.objs.size X.env).locals = s3.heap.objs.size := rfl
  show codeAny _ _ (.compStart (SC2 elt a0 b0 a1 b1 f0 f1 sc p) 0 (.ref it) (.ref D) (compEnvC sc cl s3.heap.objs.size X.env)) (compPost (model X.prog X.w) X.A X.xe use Qf (.ref D) s3.heap.objs.size) { s3 with heap := pushCells (s3.heap.push { cls := .type "dict", data := .dict #[] }) sc.names }
  generalize hs4 : ({ s3 with heap := pushCells (s3.heap.push { cls := .type "dict", data := .dict #[] }) sc.names } : Shared) = s4 at I4 ⊢
  generalize compEnvC sc cl s3.heap.objs.size X.env = ce at I4 pg pt pi1 pg1 pt1 pe cL ⊢
  have st4 : tn 0 s4.heap := T.keep _ _ _ st3 fun b _ o e => by rw [← hs4]; exact pushCells_keeps _ _ _ _ (Heap.get?_push_of_some _ e)
  -- what stays apart from all that is tracked
  have apart : ∀ {σ' : L2.St} {K : Hp} {s' : Shared}, Inv (X.blk s3 H3 sc ce fp) [] σ' K s' → (∀ b ∈ fp, K b = none) → ∀ b ∈ fp, FpOk (X.blk s3 H3 sc ce fp) [] K b := fun {σ' K s'} J' hn b hb =>
    ⟨hn b hb, (J'.ok.exf b hb).1, J'.ok.exfs b hb, .inl hb, fun x c e => (J'.ok.exf b hb).2 x c e, fun q hq => absurd (show q ∈ ([] : List (Addr × Obj)) ++ [] from hq) (by simp)⟩
  have loop : codeAny (model X.prog X.w) X.A (.compLoop (SC2 elt a0 b0 a1 b1 f0 f1 sc p) 0 (.ref it) (.ref D) ce) (compPost (model X.prog X.w) X.A X.xe use Qf (.ref D) s3.heap.objs.size) s4 := by
    refine s2_out (nf1 ce) (fun n s' => ∃ i K, Inv (X.blk s3 H3 sc ce fp) [] (wipe σ (own.map (·.2))) K s' ∧ tn i s'.heap ∧ (∀ b ∈ fp, K b = none) ∧ W i n K) ?_ m0 ⟨0, H3, I4, st4, fun b hb => (f3 b hb).1.1, w0⟩
    rintro n s5 ⟨i, H5, I5, st5, n5, w5⟩
    rcases turn i n H5 w5 with ⟨stop, qq⟩ | ⟨go, N, hN, step⟩
    · refine thnF (T.done (X.blk s3 H3 sc ce fp) rfl rfl rfl calm i [] s5 _ H5 (fun _ _ => False) I5 (apart I5 n5) st5 stop) fun r s6 ⟨hr, I6⟩ => ?_
      subst hr
      have nC : H5 s3.heap.objs.size = none := by
        have z : H5 ce.locals = none := I6.free
        rw [cL] at z
        exact z
      obtain ⟨m, hn, _⟩ := I6.loc
      have hn : s6.heap.Ns ce.locals m := hn
      rw [cL] at hn
      exact out D _ s6 m H5 (I3.call' (ch := fp) I6.os I6.base I6.hok I6.bare fun b hb => let z := (f3 b hb).1.2; ⟨z.2.2.1, z.1, z.2.2.2.1, z.2.2.2.2⟩) qq hn (I3.fpOk (Nat.le_refl _) nC)
    · refine thnF (T.item (X.blk s3 H3 sc ce fp) rfl rfl rfl calm i [] s5 _ H5 (fun _ _ => False) I5 (apart I5 n5) st5 go) fun r s6 ⟨u, hr, h6⟩ => ?_
      subst hr
      refine thnF h6 fun _ s7 ⟨x, H7, I7, r7, y7, st7, n7⟩ => ?_
      have I7' := I7.pinned (apart I7 n7) (T.obj _ _ st7)
      refine thnF (pg.run _ s7 _ H7 x u _ I7' r7 (step x H7 y7)) fun _ s8 ⟨σ8, H8, I8, hw8, q8⟩ => ?_
      refine thnF (pt.run _ s8 σ8 H8 _ I8 q8) fun b s9 ⟨H9, I9, q9⟩ => ?_
      have fin : ∀ {σ9 : L2.St} {s' : Shared} {K : Hp}, Inv (X.blk s3 H3 sc ce fp) ([] ++ pinsAt fp s7.heap) σ9 K s' → (wipe σ (own.map (·.2))).length = σ9.length → (∀ (j : Nat) v, (wipe σ (own.map (·.2)))[j]? = some (some v) → σ9[j]? = some (some v)) → N K →
          ∃ m, m < n ∧ ∃ i K, Inv (X.blk s3 H3 sc ce fp) [] (wipe σ (own.map (·.2))) K s' ∧ tn i s'.heap ∧ (∀ b ∈ fp, K b = none) ∧ W i m K := fun {σ9 s' K} J' hl hk nx => by
        obtain ⟨m', hm, w'⟩ := hN K nx
        have still : ∀ b ∈ fp, ∀ o, s7.heap.get? b = some o → s'.heap.get? b = some o ∧ K b = none := fun b hb o e =>
          let z := J'.pin (b, o) (List.mem_append_right _ (List.mem_append_right _ (mem_pinsAt hb e)))
          ⟨z.1, z.2.1⟩
        exact ⟨m', hm, i + 1, K, (J'.unpinned (pins := [])).weak hl hk, T.keep _ _ _ st7 fun b hb o e => (still b hb o e).1, fun b hb => let ⟨o, e, _⟩ := T.obj _ _ st7 b hb; (still b hb o e).2, w'⟩
      have hl8 : (wipe σ (own.map (·.2))).length = σ8.length := by rw [← hw8, wipe_length]
      have hk8 : ∀ (j : Nat) v, (wipe σ (own.map (·.2)))[j]? = some (some v) → σ8[j]? = some (some v) ∧ j ∉ own.map (·.2) := fun j v e => by
        rw [← hw8] at e
        exact wipe_some e
      cases b with
      | false => exact fin I9 hl8 (fun j v e => (hk8 j v e).1) q9
      | true =>
        have q9 : tIn X.prog X.w i1 g1 t1 te vs1 D N σ8 H9 := q9
        show wpAny _ _ (eval b1 ce) _ _ _
        refine thnF (pi1.run _ s9 σ8 H9 _ I9 q9) fun xv s10 hx => thnF hx fun itv s11 h11 => ?_
        obtain ⟨jt, fq, tm, J1, H11, rfl, I11, T1, st11, f11, W1, ⟨m1, w1⟩, turn1⟩ := h11
        have apart1 : ∀ {K : Hp}, (∀ b ∈ fq, K b = none) → ∀ b ∈ fq, FpOk (X.blk s3 H3 sc ce fp) ([] ++ pinsAt fp s7.heap) K b := fun hn b hb => ⟨hn b hb, (f11 b hb).2⟩
        have inner : codeAny (model X.prog X.w) X.A (.compLoop (SC2 elt a0 b0 a1 b1 f0 f1 sc p) 1 (.ref jt) (.ref D) ce) (fun
            | .ok _, s' => ∃ m, m < n ∧ ∃ i K, Inv (X.blk s3 H3 sc ce fp) [] (wipe σ (own.map (·.2))) K s' ∧ tn i s'.heap ∧ (∀ b ∈ fp, K b = none) ∧ W i m K
            | .error _, _ => False) s11 := by
          refine s2_in (fun k s' => ∃ j K, Inv (X.blk s3 H3 sc ce fp) ([] ++ pinsAt fp s7.heap) (wipe σ8 vs1) K s' ∧ tm j s'.heap ∧ (∀ b ∈ fq, K b = none) ∧ W1 j k K) ?_ m1 ⟨0, H11, I11.weak (wipe_length _ _) (fun j v e => (wipe_some e).1), st11, fun b hb => (f11 b hb).1, w1⟩
          rintro k s12 ⟨j, H12, I12, st12, n12, w12⟩
          rcases turn1 j k H12 w12 with ⟨stop1, nx1⟩ | ⟨go1, M, hM, step1⟩
          · refine thnF (T1.done (X.blk s3 H3 sc ce fp) rfl rfl rfl calm j _ s12 (wipe σ8 vs1) H12 (fun _ _ => False) I12 (apart1 n12) st12 stop1) fun r s13 ⟨hr, I13⟩ => ?_
            subst hr
            exact fin I13 (hl8.trans (wipe_length σ8 vs1).symm) (fun j v e => by
              obtain ⟨e1, e2⟩ := hk8 j v e
              rw [wipe_out fun z => e2 (sub j z)]
              exact e1) nx1
          · refine thnF (T1.item (X.blk s3 H3 sc ce fp) rfl rfl rfl calm j _ s12 (wipe σ8 vs1) H12 (fun _ _ => False) I12 (apart1 n12) st12 go1) fun r s13 ⟨u1, hr, h13⟩ => ?_
            subst hr
            refine thnF h13 fun _ s14 ⟨x1, H14, I14, r14, y14, st14, n14⟩ => ?_
            have I14' := I14.pinned (apart1 n14) (T1.obj _ _ st14)
            refine thnF (pg1.run _ s14 (wipe σ8 vs1) H14 x1 u1 _ I14' r14 (step1 x1 H14 y14)) fun _ s15 ⟨σ15, H15, I15, hw15, q15⟩ => ?_
            refine thnF (pt1.run _ s15 σ15 H15 _ I15 q15) fun c s16 ⟨H16, I16, q16⟩ => ?_
            have fin1 : ∀ {s' : Shared} {K : Hp}, Inv (X.blk s3 H3 sc ce fp) (([] ++ pinsAt fp s7.heap) ++ pinsAt fq s14.heap) σ15 K s' → M K → ∃ m, m < k ∧ ∃ j K, Inv (X.blk s3 H3 sc ce fp) ([] ++ pinsAt fp s7.heap) (wipe σ8 vs1) K s' ∧ tm j s'.heap ∧ (∀ b ∈ fq, K b = none) ∧ W1 j m K := fun {s' K} J' nx => by
              obtain ⟨m', hm, w'⟩ := hM K nx
              have still : ∀ b ∈ fq, ∀ o, s14.heap.get? b = some o → s'.heap.get? b = some o ∧ K b = none := fun b hb o e =>
                let z := J'.pin (b, o) (List.mem_append_right _ (List.mem_append_right _ (mem_pinsAt hb e)))
                ⟨z.1, z.2.1⟩
              exact ⟨m', hm, j + 1, K, J'.unpinned.weak (by rw [← hw15, wipe_length]) (fun j v e => by rw [← hw15] at e; exact (wipe_some e).1), T1.keep _ _ _ st14 fun b hb o e => (still b hb o e).1, fun b hb => let ⟨o, e, _⟩ := T1.obj _ _ st14 b hb; (still b hb o e).2, w'⟩
            cases c with
            | false => exact fin1 I16 q16
            | true =>
              have q16 : te σ15 H16 (putX X.prog X.w D M) := q16
              show wpAny _ _ (eval elt ce) _ _ _
              refine thnF (pe.run _ s16 σ15 H16 _ I16 q16) fun z s17 ⟨yv, H17, I17, r17, c1, S0, n0, ey, hD17, room, nx⟩ => ?_
              subst ey
              exact addX_ok (X := X.blk s3 H3 sc ce fp) I17 hD17 room r17 fun s18 I18 => fin1 I18 nx
        exact s2_start inner (T1.self X.A 0 _ _ _ st11 inner)
  exact codeAny_compStart_set loop (T.self X.A 0 _ _ _ st4 loop)
/-- as a value -/
theorem pe_sx2 (calm : X.calm = true) (nd : X.N.Nodup) (src : PI X a0 b0 i0) (ok : BlkOk X.N X.env.scope sc own) (sub : ∀ i ∈ vs1, i ∈ own.map (·.2))
    (hg : Blk X sc fun Y => PG Y a0 g0) (ht : Blk X sc fun Y => PTs Y f0 t0) (src1 : Blk X sc fun Y => PI Y a1 b1 i1) (hg1 : Blk X sc fun Y => PG Y a1 g1) (ht1 : Blk X sc fun Y => PTs Y f1 t1) (he : Blk X sc fun Y => PE Y elt te)
    (nf : ∀ x, foldedSetIterable b0 X.env x = pure x := by intro _; rfl) (nf1 : ∀ e x, foldedSetIterable b1 e x = pure x := by intro _ _; rfl) :
    PE X (SC2 elt a0 b0 a1 b1 f0 f1 sc p) (tSx2 X.prog X.w i0 g0 t0 i1 g1 t1 te (own.map (·.2)) vs1) := by
  refine ⟨fun pins s σ H Q I h => ?_⟩
  rw [eval_SetComp]
  refine sx2_core calm nd I src ok sub hg ht src1 hg1 ht1 he nf nf1 h fun D C s' m K J q hn f => ⟨m, hn, fun _ sb => ?_⟩
  obtain ⟨z0, z1, z2, z3, z4, z5⟩ := f
  exact ⟨.ref D, K, J.turned (t' := s'.toks) (fun b o hb e => (sb.2 b hb).trans e) z0 z1 z3 z4 z5, rfl, q⟩
end
end Dw

set_option maxHeartbeats 1000000
/-! DwSc4: sorted({text for .. in .. for .. in ..}) over data. -/
namespace Dw
open PySem PySem.Spec PyProof.Rows L2
theorem len_sub : ∀ {l B : List Str}, l.Nodup → (∀ x ∈ l, x ∈ B) → l.length ≤ B.length
  | [], _, _, _ => Nat.zero_le _
  | x :: l, B, nd, h => by
    obtain ⟨n1, n2⟩ := List.nodup_cons.mp nd
    have hx := h x List.mem_cons_self
    have z := len_sub (l := l) (B := B.erase x) n2 fun y hy => (List.mem_erase_of_ne fun e => n1 (by rw [← e]; exact hy)).mpr (h y (List.mem_cons_of_mem _ hy))
    rw [List.length_erase_of_mem hx] at z
    have p := List.length_pos_of_mem hx
    show l.length + 1 ≤ _
    omega
section
variable {M : Md} {O : List Addr} {r : List Sl} {σ : L2.St} {H : Hp} {P : Program} {w : World} {a : Addr}
theorem noMuX {S : Str → Bool} {n : Nat} (R : Rp M O r σ H) (h : H a = some (SetX P w a S n)) : noMu r a := fun j ys hj => by
  obtain ⟨_, _, us, e, _⟩ := R.slot j _ hj
  rw [h] at e
  cases e
theorem sm_over {o : HO} : Sm (nf M (a :: O)) H (upd H a o) := fun b u n e => by
  rw [upd_ne fun z => n (.inr (by rw [z]; exact List.mem_cons_self))]
  exact e
/-- one's own object, in no slot, is written -/
theorem Rp.over {o : HO} (R : Rp M (a :: O) r σ H) (n : noMu r a) : Rp M (a :: O) r σ (upd H a o) := by
  have f0 : M.H0 a = none := (R.own a List.mem_cons_self).1
  have nF : ¬ M.F0 a := fun z => M.tr a (M.f0 a z) f0
  refine ⟨fun b u z e => ?_, M.st H _ R.inv fun b u f e => ?_, fun b hb => ⟨(R.own b hb).1, ?_⟩, R.nod, R.len, fun j t ht => ?_, R.one⟩
  · have ne : b ≠ a := fun q => by
      rw [q, f0] at e
      cases e
    rw [upd_ne ne]
    exact R.sm b u z e
  · rw [upd_ne fun q => nF (by rw [← q]; exact f)]
    exact e
  · by_cases q : b = a
    · rw [q, upd_same]
      exact fun z => nomatch z
    · rw [upd_ne q]
      exact (R.own b hb).2
  · have h1 := R.slot j t ht
    cases t with
    | un => trivial
    | d x =>
      obtain ⟨u, e2, h2⟩ := h1
      exact ⟨u, e2, h2.mono sm_over⟩
    | mu l zs =>
      obtain ⟨e2, hl, us, h2, h3⟩ := h1
      refine ⟨e2, hl, us, ?_, h3.mono sm_over⟩
      rw [upd_ne fun z => n j zs (by rw [← z]; exact ht)]
      exact h2
/-- the texts acc stand in the set at a, as many as differ -/
def SxAt (P : Program) (w : World) (a : Addr) (acc : List Str) (H : Hp) : Prop := ∃ l : List Str, l.Nodup ∧ (∀ k, k ∈ l ↔ k ∈ acc) ∧ H a = some (SetX P w a (fun k => decide (k ∈ acc)) l.length)
theorem SxAt.put {acc : List Str} {c : Str} {l : List Str} (nd : l.Nodup) (hm : ∀ k, k ∈ l ↔ k ∈ acc) :
    SxAt P w a (acc ++ [c]) (upd H a (SetX P w a (fun j => (fun k => decide (k ∈ acc)) j || decide (j = c)) (if (fun k => decide (k ∈ acc)) c = true then l.length else l.length + 1))) := by
  have e : (fun j => (fun k => decide (k ∈ acc)) j || decide (j = c)) = fun k => decide (k ∈ acc ++ [c]) := funext fun j => by simp
  rw [e]
  by_cases h : c ∈ acc
  · exact ⟨l, nd, fun k => by
      rw [List.mem_append, List.mem_singleton, hm]
      exact ⟨.inl, fun z => z.elim id fun z => z ▸ h⟩, by rw [upd_same]; simp [h]⟩
  · exact ⟨c :: l, List.nodup_cons.mpr ⟨fun z => h ((hm c).1 z), nd⟩, fun k => by
      rw [List.mem_append, List.mem_singleton, List.mem_cons, hm]
      exact Or.comm, by rw [upd_same]; simp [h]⟩
end
section
variable {M : Md} {O : List Addr} {r : List Sl} {P : Program} {w : World} {i0 i1 : TI} {g0 g1 : TG} {t0 t1 : TT} {te : TE} {vs vs1 js js1 : List Nat} {k : D → Prop}
theorem de_sortedSx2 (B : List Str) (hB : B.length < 64) (hjs : ∀ j ∈ js, j ∈ vs) (hjs1 : ∀ j ∈ js1, j ∈ vs1)
    (h : DI M i0 O r fun xs => ∃ zs : List (List Str), zs.length = xs.length ∧ (∀ z ∈ zs, ∀ y ∈ z, y ∈ B) ∧
      (∀ (O' : List Addr) (i : Nat) (x : D) (z : List Str), xs[i]? = some x → zs[i]? = some z → DG M g0 js O' (wipeR r vs) x fun r2 => DT M t0 O' r2 fun b => b = true ∧ DI M i1 O' r2 fun us => us.length = z.length ∧
        ∀ (O2 : List Addr) (j : Nat) (u : D) (c : Str), us[j]? = some u → z[j]? = some c → DG M g1 js1 O2 (wipeR r2 vs1) u fun r3 => DT M t1 O2 r3 fun b => b = true ∧ De M te O2 r3 fun y => y = .str c) ∧
      ∀ ys : List Str, ys.Nodup → sortedS ys = true → (∀ k, k ∈ ys ↔ ∃ z ∈ zs, k ∈ z) → k (.lst (ys.map D.str))) :
    De M (tCB (rSortedX P w) (tCons (tSx2 P w i0 g0 t0 i1 g1 t1 te vs vs1) tNil)) O r k := fun σ H Q R0 z => by
  refine h σ H _ R0 fun J H1 xs W R1 e1 g1' q => ?_
  obtain ⟨zs, hl, sub, turn, fin⟩ := q
  intro A hA
  have inB : ∀ {i j : Nat} {c : List Str}, zs[i]? = some c → ∀ y ∈ (zs.take i).flatten ++ c.take j, y ∈ B := fun {i j c} hc y hy => by
    rcases List.mem_append.mp hy with hy | hy
    · obtain ⟨l, h1, h2⟩ := List.mem_flatten.mp hy
      exact sub l (List.mem_of_mem_take h1) y h2
    · exact sub c (List.mem_of_getElem? hc) y (List.mem_of_mem_take hy)
  have inB0 : ∀ {i : Nat}, ∀ y ∈ (zs.take i).flatten, y ∈ B := fun {i} y hy => by
    obtain ⟨l, h1, h2⟩ := List.mem_flatten.mp hy
    exact sub l (List.mem_of_mem_take h1) y h2
  refine ⟨fun i m H2 => m = xs.length - i ∧ i ≤ xs.length ∧ SxAt P w A (zs.take i).flatten H2 ∧ Rp M (A :: O) r σ H2 ∧ Sm M.F0 H1 H2 ∧ W.G (nf M (A :: O)) H2, ⟨xs.length, by simp, Nat.zero_le _, ⟨[], List.nodup_nil, by simp, by rw [upd_same]; simp⟩, R1.own1 hA, sm_0 (sm_new hA), W.mono _ _ _ (sm_0 (sm_new hA)) (W.gen _ _ _ (fun a ha => (plus_of a ha).imp id fun z => by rw [z]; exact hA) g1')⟩, ?_⟩
  rintro i m H2 ⟨rfl, hi, hS, R2, e2, g2⟩
  have nA : ¬ M.F0 A := fun z => M.tr A (M.f0 A z) (R2.own A List.mem_cons_self).1
  by_cases hlt : i < xs.length
  · obtain ⟨zi, hzi⟩ : ∃ c, zs[i]? = some c := ⟨_, List.getElem?_eq_getElem (by rw [hl]; exact hlt)⟩
    have hflat : (zs.take (i + 1)).flatten = (zs.take i).flatten ++ zi := by
      rw [List.take_add_one, hzi, List.flatten_append]
      simp
    refine .inr ⟨W.go _ _ i g2 hlt, _, fun K p => ⟨xs.length - (i + 1), by omega, rfl, hlt, p⟩, fun x H3 y => ?_⟩
    obtain ⟨s3, p3⟩ := W.yld _ _ i x H3 _ (nf_tr R2) g2 y (List.getElem?_eq_getElem hlt)
    have R3 := R2.grow s3
    refine turn (A :: O) i _ zi (List.getElem?_eq_getElem hlt) hzi x _ H3 _ (R3.wipe vs) p3 fun σ4 r4 R4 w4 q4 => ⟨by rw [w4 vs hjs, wipe_wipe fun _ h => h], q4 σ4 H3 _ R4 fun b H5 R5 e5 q5 => ?_⟩
    obtain ⟨rfl, q5⟩ := q5
    rw [if_pos rfl]
    have e35 : Sm M.F0 H2 H5 := (sm_0 s3).trans e5
    refine q5 σ4 H5 _ R5 fun J1 H6 us W1 R6 e6 g6 q6 => ?_
    obtain ⟨hus, step⟩ := q6
    have e26 : Sm M.F0 H2 H6 := e35.trans e6
    have up : ∀ {acc : List Str} {K K' : Hp}, Sm M.F0 K K' → SxAt P w A acc K → SxAt P w A acc K' := fun e ⟨l, a1, a2, a3⟩ => ⟨l, a1, a2, e A _ nA a3⟩
    refine ⟨fun j n K => n = us.length - j ∧ j ≤ us.length ∧ SxAt P w A ((zs.take i).flatten ++ zi.take j) K ∧ Rp M (A :: O) r σ K ∧ Rp M (A :: O) r4 σ4 K ∧ Sm M.F0 H1 K ∧ W.G (nf M (A :: O)) K ∧ W1.G (nf M (A :: O)) K,
      ⟨us.length, by simp, Nat.zero_le _, by simpa using up e26 hS, R2.step e26 R6.inv, R6, e2.trans e26, W.mono _ _ _ (e26.wide nf0) g2, g6⟩, ?_⟩
    rintro j n K ⟨rfl, hj, hT, Ra, Rb, e7, g7, g8⟩
    by_cases hjt : j < us.length
    · obtain ⟨c, hc⟩ : ∃ c, zi[j]? = some c := ⟨_, List.getElem?_eq_getElem (by rw [← hus]; exact hjt)⟩
      have hcat : (zs.take i).flatten ++ zi.take (j + 1) = ((zs.take i).flatten ++ zi.take j) ++ [c] := by
        rw [List.take_add_one, hc, List.append_assoc]
        simp
      refine .inr ⟨W1.go _ _ j g8 hjt, _, fun K' p => ⟨us.length - (j + 1), by omega, rfl, hjt, p⟩, fun x1 K3 y1 => ?_⟩
      obtain ⟨s8, p8⟩ := W1.yld _ _ j x1 K3 _ (nf_tr Rb) g8 y1 (List.getElem?_eq_getElem hjt)
      refine step (A :: O) j _ c (List.getElem?_eq_getElem hjt) hc x1 _ K3 _ ((Rb.grow s8).wipe vs1) p8 fun σ9 r9 R9 w9 q9 => ⟨by rw [w9 vs1 hjs1, wipe_wipe fun _ h => h], q9 σ9 K3 _ R9 fun b K4 R10 e10 q10 => ?_⟩
      obtain ⟨rfl, q10⟩ := q10
      rw [if_pos rfl]
      refine q10 σ9 K4 _ R10 fun v K5 d R11 e11 p11 q11 => ?_
      subst q11
      have e75 : Sm M.F0 K K5 := ((sm_0 s8).trans e10).trans e11
      obtain ⟨l, l1, l2, l3⟩ := up e75 hT
      have small : l.length ≤ B.length := len_sub l1 fun y hy => inB hzi y ((l2 y).1 hy)
      refine ⟨c, _, l.length, p11, l3, by show l.length + 1 < 4096; omega, ?_⟩
      have Ra5 := Ra.step e75 R11.inv
      have Rb5 := Rb.step e75 R11.inv
      refine ⟨?_, Ra5.over (noMuX Ra5 l3), Rb5.over (noMuX Rb5 l3), fun b u n e => ?_, W.mono _ _ _ sm_over (W.mono _ _ _ (e75.wide nf0) g7), W1.mono _ _ _ sm_over (W1.mono _ _ _ (e75.wide nf0) g8)⟩
      · rw [hcat]
        exact SxAt.put l1 l2
      · have ne : b ≠ A := fun q => by
          rw [q, hA] at e
          cases e
        rw [upd_ne ne]
        exact e75 b u n (e7 b u n e)
    · have ej : j = us.length := by omega
      subst ej
      refine .inl ⟨W1.stop _ _ _ g8 (Nat.le_refl _), ?_, Ra, e7, g7⟩
      rw [hflat]
      rw [hus, List.take_length] at hT
      exact hT
  · have ei : i = xs.length := by omega
    subst ei
    refine .inl ⟨W.stop _ _ _ g2 (Nat.le_refl _), ?_⟩
    obtain ⟨l, l1, l2, l3⟩ := hS
    refine ⟨A, _, _, rfl, l3, Nat.lt_of_le_of_lt (len_sub l1 fun y hy => inB0 y ((l2 y).1 hy)) hB, fun ys p y1 y2 y3 _ hp => ?_⟩
    have e9 : Sm M.F0 H1 (upd H2 p (.lst (ys.map V.str))) := e2.trans (sm_0 (sm_new hp))
    have R9 : Rp M O r σ H2 := R1.step e2 R2.inv
    refine z (.ref p) _ (.lst (ys.map D.str)) (R9.grow (sm_new hp)) (e1.trans e9) (rep_lst R9 hp (strs_repL ys)) (fin ys y1 y2 fun k => ?_)
    rw [y3, decide_eq_true_eq, ← hl, List.take_length, List.mem_flatten]
end
end Dw

/-! DwSeq: a walk over what is a list or a tuple. -/
namespace Dw
open PySem PySem.Spec PyProof.Rows L2
/-- over a list or a tuple, whichever it is -/
def iSeq (K : PySem.W.Frag) (te : TE) : TI := fun σ H R => te σ H fun x K1 => ∃ a, x = .ref a ∧ (((∃ xs, SqL K K1 a xs) ∧ R (Itl K a) K1) ∨ ((∃ xs, SqT K K1 a xs) ∧ R (Itt K a) K1))
theorem pi_seq {X : Cx} {tg e : Expr} {te : TE} (he : PE X e te) : PI X tg e (iSeq X.K te) := by
  refine ⟨fun pins s σ H R I h => thn (he.run pins s σ H _ I h) fun v s1 ⟨x, K1, J, r, a, z, q⟩ => ?_⟩
  subst z
  cases r
  have new : ∀ b ∈ [s1.heap.objs.size], FpOk X pins K1 b := fun b hb => by
    rw [List.mem_singleton.mp hb]
    exact J.fpOk (Nat.le_refl _) (J.hok.fresh (Nat.le_refl _))
  rcases q with ⟨⟨xs, hq⟩, q⟩ | ⟨⟨xs, hq⟩, q⟩
  · obtain ⟨its, rv, p, hz⟩ := J.list hq
    exact wpAny_pyIter_list p.isList ⟨_, _, _, _, K1, rfl, J.kept (t' := s1.toks) fun b o e => Heap.get?_push_of_some _ e, turn_list a _, ⟨_, Heap.get?_push_size _ rfl, rfl, rfl⟩, new, q⟩
  · obtain ⟨its, rv, p, hz⟩ := J.tuple hq
    exact wpAny_pyIter_tuple (show s1.heap.IsTuple a its.toArray from p) ⟨_, _, _, _, K1, rfl, J.kept (t' := s1.toks) fun b o e => Heap.get?_push_of_some _ e, turn_tuple a _, ⟨_, Heap.get?_push_size _ rfl, rfl, rfl⟩, new, q⟩
theorem di_seq {M : Md} {O : List Addr} {r : List Sl} {k : List D → Prop} {te : TE} (h : De M te O r fun x => ∃ xs, (x = .lst xs ∨ x = .tup xs) ∧ k xs) : DI M (iSeq M.K te) O r k := fun σ H Q R z => h σ H _ R fun v H1 x R1 e1 p1 q => by
  obtain ⟨xs, c, q⟩ := q
  rcases c with rfl | rfl
  · obtain ⟨a, vs, rfl, h1, h2⟩ := p1
    exact ⟨a, rfl, .inl ⟨⟨vs, h1.sq⟩, z _ H1 xs (wk_list M.K a xs) R1 e1 ⟨vs, h1, h2⟩ q⟩⟩
  · obtain ⟨a, vs, rfl, h1, h2⟩ := p1
    exact ⟨a, rfl, .inr ⟨⟨vs, h1.sq⟩, z _ H1 xs (wk_tup M.K a xs) R1 e1 ⟨vs, h1, h2⟩ q⟩⟩
end Dw

/-! Wp1: what is read may be an own list too; operators lifted from values to trees. -/
namespace Dw
open PySem PySem.Spec PyProof.Rows L2
/-- a value that is read: data, or an own list -/
def RepV (K : PySem.W.Frag) (N0 N : No) (H : Hp) (d : D) (v : V) : Prop := Rep K N H d v ∨ ∃ xs a vs, d = .lst xs ∧ v = .ref a ∧ LAt K N0 H a vs ∧ RepL K N H xs vs
def RepS (K : PySem.W.Frag) (N : No) (H : Hp) (d : D) (v : V) : Prop := Rep K N H d v ∨ ∃ xs a vs, d = .lst xs ∧ v = .ref a ∧ SqL K H a vs ∧ RepL K N H xs vs
theorem RepV.s {K : PySem.W.Frag} {N0 N : No} {H : Hp} {d : D} {v : V} (h : RepV K N0 N H d v) : RepS K N H d v := by
  rcases h with h | ⟨xs, a, vs, e1, e2, h1, h2⟩
  · exact .inl h
  · exact .inr ⟨xs, a, vs, e1, e2, h1.sq, h2⟩
theorem RepV.step {M : Md} {O : List Addr} {H H' : Hp} {d : D} {v : V} (e : Sm M.F0 H H') (h : RepV M.K M.F0 (nf M O) H d v) : RepV M.K M.F0 (nf M O) H' d v := by
  rcases h with h | ⟨xs, a, vs, e1, e2, h1, h2⟩
  · exact .inl (h.step e)
  · exact .inr ⟨xs, a, vs, e1, e2, h1.mono e, h2.step e⟩
section
variable {K : PySem.W.Frag} {N : No} {H : Hp} {v : V}
theorem RepS.lst {xs : List D} (h : RepS K N H (.lst xs) v) : ∃ a vs, v = .ref a ∧ SqL K H a vs ∧ RepL K N H xs vs := by
  rcases h with ⟨a, vs, e, h1, h2⟩ | ⟨ys, a, vs, e0, e, h1, h2⟩
  · exact ⟨a, vs, e, h1.sq, h2⟩
  · cases e0
    exact ⟨a, vs, e, h1, h2⟩
theorem RepS.rep {d : D} (h : RepS K N H d v) (n : ∀ xs, d ≠ .lst xs) : Rep K N H d v := by
  rcases h with h | ⟨ys, a, vs, e0, _⟩
  · exact h
  · exact (n ys e0).elim
theorem RepS.tup {xs : List D} (h : RepS K N H (.tup xs) v) : ∃ a vs, v = .ref a ∧ SqT K H a vs ∧ RepL K N H xs vs := by
  obtain ⟨a, vs, e, h1, h2⟩ := h.rep fun _ z => nomatch z
  exact ⟨a, vs, e, h1.sq, h2⟩
theorem RepS.int {i : Int} (h : RepS K N H (.int i) v) : v = .int i := h.rep fun _ z => nomatch z
theorem RepS.str {i : Str} (h : RepS K N H (.str i) v) : v = .str i := h.rep fun _ z => nomatch z
theorem RepS.bl {i : Bool} (h : RepS K N H (.bl i) v) : v = .bl i := h.rep fun _ z => nomatch z
theorem RepS.non (h : RepS K N H .non v) : v = .non := h.rep fun _ z => nomatch z
theorem RepS.flat {d : D} {x : V} (e : d.v = some x) (h : RepS K N H d v) : v = x := by
  cases d <;> first
    | cases e
  · exact h.non
  · exact h.bl
  · exact h.int
  · exact h.str
theorem dpS_of {d : D} (p : d.pl = true) (h : RepS K N H d v) : Dp K H v d.py := by
  rcases h with h | ⟨xs, a, vs, rfl, rfl, h1, h2⟩
  · exact dp_of p h
  · exact .lst h1 (dpL_of (show D.plL xs = true from p) h2)
end
/-- rows of what is read -/
def RepSL (K : PySem.W.Frag) (N : No) (H : Hp) : List D → List V → Prop
  | [], vs => vs = []
  | d :: ds, vs => ∃ v r, vs = v :: r ∧ RepS K N H d v ∧ RepSL K N H ds r
def RepVL (K : PySem.W.Frag) (N0 N : No) (H : Hp) : List D → List V → Prop
  | [], vs => vs = []
  | d :: ds, vs => ∃ v r, vs = v :: r ∧ RepV K N0 N H d v ∧ RepVL K N0 N H ds r
theorem RepVL.s {K : PySem.W.Frag} {N0 N : No} {H : Hp} : ∀ {ds : List D} {vs : List V}, RepVL K N0 N H ds vs → RepSL K N H ds vs
  | [], _, h => h
  | d :: ds, _, ⟨v, r, e, h1, h2⟩ => ⟨v, r, e, h1.s, RepVL.s h2⟩
def Dv (M : Md) (te : TE) (O : List Addr) (r : List Sl) (k : D → Prop) : Prop :=
  ∀ σ H (Q : VK), Rp M O r σ H → (∀ v H' d, Rp M O r σ H' → Sm M.F0 H H' → RepV M.K M.F0 (nf M O) H' d v → k d → Q v H') → te σ H Q
def Dav (M : Md) (ta : TA) (O : List Addr) (r : List Sl) (k : List D → Prop) : Prop :=
  ∀ σ H (Q : List V → Hp → Prop), Rp M O r σ H → (∀ vs H' ds, Rp M O r σ H' → Sm M.F0 H H' → RepVL M.K M.F0 (nf M O) H' ds vs → k ds → Q vs H') → ta σ H Q
/-- what a rule by values asks, over trees: the answer is old data or stands in a larger heap -/
def Post (K : PySem.W.Frag) (N : No) (H : Hp) (k : D → Prop) (Q : VK) : Prop := ∀ w H' d, Sm (fun _ => False) H H' → Rep K N H' d w → k d → Q w H'
def Lift2 (K : PySem.W.Frag) (f : R2) (W : D → D → (D → Prop) → Prop) : Prop := ∀ (N : No) (H : Hp) (x y : D) (v u : V) (k : D → Prop) (Q : VK), (∀ a, N a → H a ≠ none) → RepS K N H x v → RepS K N H y u → W x y k → Post K N H k Q → f v u H Q
def Lift1 (K : PySem.W.Frag) (f : V → Hp → VK → Prop) (W : D → (D → Prop) → Prop) : Prop := ∀ (N : No) (H : Hp) (x : D) (v : V) (k : D → Prop) (Q : VK), (∀ a, N a → H a ≠ none) → RepS K N H x v → W x k → Post K N H k Q → f v H Q
def LiftL (K : PySem.W.Frag) (f : List V → Hp → VK → Prop) (W : List D → (D → Prop) → Prop) : Prop := ∀ (N : No) (H : Hp) (ds : List D) (vs : List V) (k : D → Prop) (Q : VK), (∀ a, N a → H a ≠ none) → RepSL K N H ds vs → W ds k → Post K N H k Q → f vs H Q
section
variable {K : PySem.W.Frag} {N : No} {H : Hp} {k : D → Prop} {Q : VK}
theorem Post.here (z : Post K N H k Q) {w : V} {d : D} (h : Rep K N H d w) (q : k d) : Q w H := z w H d .refl h q
theorem Post.newL (z : Post K N H k Q) (hN : ∀ a, N a → H a ≠ none) {xs : List D} {vs : List V} {p : Addr} (hp : H p = none) (h : RepL K N H xs vs) (q : k (.lst xs)) : Q (.ref p) (upd H p (.lst vs)) :=
  z _ _ (.lst xs) (sm_new hp) ⟨p, vs, rfl, .inl ⟨fun n => hN p n hp, .inl upd_same⟩, h.mono (sm_0 (sm_new hp))⟩ q
theorem Post.newT (z : Post K N H k Q) (hN : ∀ a, N a → H a ≠ none) {xs : List D} {vs : List V} {p : Addr} (hp : H p = none) (h : RepL K N H xs vs) (q : k (.tup xs)) : Q (.ref p) (upd H p (.tup vs)) :=
  z _ _ (.tup xs) (sm_new hp) ⟨p, vs, rfl, .inl ⟨fun n => hN p n hp, .inl upd_same⟩, h.mono (sm_0 (sm_new hp))⟩ q
end
section
variable {M : Md} {O : List Addr} {r : List Sl} {k : D → Prop} {kl : List D → Prop} {te ta tb : TE} {tl : TA}
theorem De.v (h : De M te O r k) : Dv M te O r k := fun σ H Q R z => h σ H Q R fun v H1 d R1 e1 p1 q => z v H1 d R1 e1 (.inl p1) q
theorem Dv.imp {k' : D → Prop} (h : Dv M te O r k) (i : ∀ d, k d → k' d) : Dv M te O r k' := fun σ H Q R z => h σ H Q R fun v H1 d R1 e1 p1 q1 => z v H1 d R1 e1 p1 (i d q1)
theorem Dav.imp {k' : List D → Prop} (h : Dav M tl O r kl) (i : ∀ d, kl d → k' d) : Dav M tl O r k' := fun σ H Q R z => h σ H Q R fun v H1 d R1 e1 p1 q1 => z v H1 d R1 e1 p1 (i d q1)
theorem dv_mu {i : Nat} {p : Addr} {xs : List D} (h : r[i]? = some (.mu p xs)) (q : k (.lst xs)) : Dv M (tVar i) O r k := fun σ H Q R z => by
  obtain ⟨e, hp, vs, h1, h2⟩ := R.slot i _ h
  exact ⟨.ref p, e, z (.ref p) H (.lst xs) R .refl (.inr ⟨xs, p, vs, rfl, rfl, .inl ⟨fun f => M.tr p (M.f0 p f) (R.own p hp).1, .inl h1⟩, h2⟩) q⟩
theorem RepVL.step {H H' : Hp} (e : Sm M.F0 H H') : ∀ {ds : List D} {vs : List V}, RepVL M.K M.F0 (nf M O) H ds vs → RepVL M.K M.F0 (nf M O) H' ds vs
  | [], _, h => h
  | d :: ds, _, ⟨v, r, e1, h1, h2⟩ => ⟨v, r, e1, h1.step e, RepVL.step e h2⟩
theorem dav_nil (q : kl []) : Dav M tNil O r kl := fun σ H Q R z => z [] H [] R .refl rfl q
theorem dav_cons (h : Dv M te O r fun x => Dav M tl O r fun xs => kl (x :: xs)) : Dav M (tCons te tl) O r kl := fun σ H Q R z => by
  refine h σ H _ R fun v H1 x R1 e1 p1 h1 => ?_
  exact h1 σ H1 _ R1 fun vs H2 xs R2 e2 p2 q2 => z (v :: vs) H2 (x :: xs) R2 (e1.trans e2) ⟨v, vs, rfl, p1.step e2, p2⟩ q2
theorem post_of {σ : L2.St} {H0 H : Hp} {Q : VK} (R : Rp M O r σ H) (e : Sm M.F0 H0 H) (z : ∀ v H' d, Rp M O r σ H' → Sm M.F0 H0 H' → Rep M.K (nf M O) H' d v → k d → Q v H') : Post M.K (nf M O) H k Q :=
  fun w H' d s p q => z w H' d (R.grow s) (e.trans (sm_0 s)) p q
theorem e_op2 {f : R2} {W : D → D → (D → Prop) → Prop} (L : Lift2 M.K f W) (h : Dv M ta O r fun x => Dv M tb O r fun y => W x y k) : De M (tOp f ta tb) O r k := fun σ H Q R z => by
  refine h σ H _ R fun v H1 x R1 e1 p1 h1 => h1 σ H1 _ R1 fun u H2 y R2 e2 p2 q => ?_
  exact L _ H2 x y v u k Q (nf_tr R2) (p1.step e2).s p2.s q (post_of R2 (e1.trans e2) z)
theorem e_un {f : V → Hp → VK → Prop} {W : D → (D → Prop) → Prop} (L : Lift1 M.K f W) (h : Dv M ta O r fun x => W x k) : De M (tUn f ta) O r k := fun σ H Q R z => by
  refine h σ H _ R fun v H1 x R1 e1 p1 q => ?_
  exact L _ H1 x v k Q (nf_tr R1) p1.s q (post_of R1 e1 z)
theorem e_cb {f : List V → Hp → VK → Prop} {W : List D → (D → Prop) → Prop} (L : LiftL M.K f W) (h : Dav M tl O r fun x => W x k) : De M (tCB f tl) O r k := fun σ H Q R z => by
  refine h σ H _ R fun v H1 x R1 e1 p1 q => ?_
  exact L _ H1 x v k Q (nf_tr R1) p1.s q (post_of R1 e1 z)
theorem e_sl {f : V → Option Int → Option Int → Hp → VK → Prop} {W : D → Option Int → Option Int → (D → Prop) → Prop}
    (L : ∀ (N : No) (H : Hp) (x : D) (v : V) (i j : Option Int) (k : D → Prop) (Q : VK), (∀ a, N a → H a ≠ none) → RepS M.K N H x v → W x i j k → Post M.K N H k Q → f v i j H Q) {lo hi : TO}
    (h : Dv M te O r fun x => DO M lo O r fun i => DO M hi O r fun j => W x i j k) : De M (tSl f te lo hi) O r k := fun σ H Q R z => by
  refine h σ H _ R fun v H1 x R1 e1 p1 h1 => h1 σ H1 _ R1 fun i H2 R2 e2 h2 => h2 σ H2 _ R2 fun j H3 R3 e3 q => ?_
  exact L _ H3 x v i j k Q (nf_tr R3) ((p1.step e2).step e3).s q (post_of R3 ((e1.trans e2).trans e3) z)
end
end Dw

/-! Wp2: operators over trees: what they ask (W), the rules that serve them (op_..W), the lifts (l_..). -/
namespace Dw
open PySem PySem.Spec PyProof.Rows L2
/-- one of two ways -/
def W.ite (b : Bool) (p q : Prop) : Prop := (b = true → p) ∧ (b = false → q)
theorem W.ite_t {p q : Prop} : W.ite true p q ↔ p := ⟨fun h => h.1 rfl, fun h => ⟨fun _ => h, fun z => nomatch z⟩⟩
theorem W.ite_f {p q : Prop} : W.ite false p q ↔ q := ⟨fun h => h.2 rfl, fun h => ⟨(fun z => nomatch z), fun _ => h⟩⟩
/-- ways that join -/
def W.join {α : Type} (m : (α → Prop) → Prop) (k : α → Prop) : Prop := m k
theorem op_or2 {X : Cx} {f : Value → Value → Sem Value} {r r' : R2} (h : OpR X f r) (h' : OpR X f r') : OpR X f (fun x y H Q => r x y H Q ∨ r' x y H Q) := by
  intro pins s σ H x y v u Q I rx ry q
  rcases q with q | q
  · exact h pins s σ H x y v u Q I rx ry q
  · exact h' pins s σ H x y v u Q I rx ry q
theorem Lift2.imp {K : PySem.W.Frag} {r : R2} {W W1 : D → D → (D → Prop) → Prop} (h : Lift2 K r W1) (e : ∀ x y k, W x y k → W1 x y k) : Lift2 K r W := fun N H x y v u k Q hN px py w z => h N H x y v u k Q hN px py (e x y k w) z
/-! ### whole numbers -/
def W.ii (C : Int → Int → Prop) (g : Int → Int → D) (x y : D) (k : D → Prop) : Prop := ∃ i j, x = .int i ∧ y = .int j ∧ C i j ∧ k (g i j)
theorem l_ii {K : PySem.W.Frag} {C : Int → Int → Prop} {g : Int → Int → V} {G : Int → Int → D} (hg : ∀ i j N H, Rep K N H (G i j) (g i j)) : Lift2 K (rI C g) (W.ii C G) := fun N H x y v u k Q hN px py w z => by
  obtain ⟨i, j, rfl, rfl, c, q⟩ := w
  exact ⟨i, j, px.int, py.int, c, z.here (hg i j N H) q⟩
theorem l_ii0 {K : PySem.W.Frag} {g : Int → Int → V} {G : Int → Int → D} (hg : ∀ i j N H, Rep K N H (G i j) (g i j)) : Lift2 K (rI0 g) (W.ii (fun _ _ => True) G) := fun N H x y v u k Q hN px py w z => by
  obtain ⟨i, j, rfl, rfl, c, q⟩ := w
  exact ⟨i, j, px.int, py.int, z.here (hg i j N H) q⟩
section
variable {X : Cx} {K : PySem.W.Frag}
/-! ### + -/
def W.add : D → D → (D → Prop) → Prop
  | .int i, .int j, k => k (.int (i + j))
  | .str a, .str b, k => a.length + b.length ≤ sizeLine ∧ k (.str (a ++ b))
  | .lst a, .lst b, k => a.length + b.length ≤ sizeLine ∧ k (.lst (a ++ b))
  | .tup a, .tup b, k => a.length + b.length ≤ sizeLine ∧ k (.tup (a ++ b))
  | _, _, _ => False
def rAddW (K : PySem.W.Frag) : R2 := fun x y H Q => rI0 (fun i j => .int (i + j)) x y H Q ∨ rAddS x y H Q ∨ Dw.rCatA K x y H Q ∨ L2.rCatA K x y H Q
theorem op_addW : OpR X (binaryOp .Add) (rAddW X.K) := op_or2 op_add (op_or2 op_add_str (op_or2 Dw.op_catA L2.op_catA))
theorem l_add : Lift2 K (rAddW K) W.add := fun N H x y v u k Q hN px py w z => by
  cases x <;> cases y <;> first
    | exact (show False from w).elim
    | skip
  case int.int i j => exact .inl ⟨i, j, px.int, py.int, z.here (d := .int (i + j)) rfl w⟩
  case str.str a b => exact .inr (.inl ⟨a, b, px.str, py.str, w.1, z.here (d := .str (a ++ b)) rfl w.2⟩)
  case lst.lst xs ys =>
    obtain ⟨a, vs, rfl, h1, h2⟩ := px.lst
    obtain ⟨b, ws, rfl, h3, h4⟩ := py.lst
    exact .inr (.inr (.inl ⟨a, b, vs, ws, rfl, rfl, h1, h3, by rw [← h2.length, ← h4.length]; exact w.1, fun p hp => z.newL hN hp (h2.append h4) w.2⟩))
  case tup.tup xs ys =>
    have pa := px.rep fun _ e => nomatch e
    have pb := py.rep fun _ e => nomatch e
    obtain ⟨a, vs, rfl, h1, h2⟩ := px.tup
    obtain ⟨b, ws, rfl, h3, h4⟩ := py.tup
    refine .inr (.inr (.inr ⟨a, b, vs, ws, rfl, rfl, h1, h3, by rw [← h2.length, ← h4.length]; exact w.1, fun e => ?_, fun _ e => ?_, fun _ _ p hp => z.newT hN hp (h2.append h4) w.2⟩))
    · subst e
      have e2 : xs = [] := List.length_eq_zero_iff.mp (by rw [h2.length]; rfl)
      subst e2
      exact z.here pb w.2
    · subst e
      have e2 : ys = [] := List.length_eq_zero_iff.mp (by rw [h4.length]; rfl)
      subst e2
      refine z.here pa ?_
      have := w.2
      rw [List.append_nil] at this
      exact this
/-! ### - * // % << >> & | ^ ~ -/
def W.sub (x y : D) (k : D → Prop) : Prop := W.ii (fun _ _ => True) (fun i j => .int (i - j)) x y k
theorem l_sub : Lift2 K (rI0 fun i j => .int (i - j)) W.sub := l_ii0 fun _ _ _ _ => rfl
def W.mod (x y : D) (k : D → Prop) : Prop := W.ii (fun _ j => 0 < j) (fun i j => .int (i % j)) x y k
def W.shl (x y : D) (k : D → Prop) : Prop := W.ii CPow (fun i j => .int (i * 2 ^ j.toNat)) x y k
theorem l_shl : Lift2 K (rI CPow fun i j => .int (i * 2 ^ j.toNat)) W.shl := l_ii fun _ _ _ _ => rfl
def W.shr (x y : D) (k : D → Prop) : Prop := W.ii (fun _ j => 0 ≤ j) (fun i j => .int (i / 2 ^ j.toNat)) x y k
theorem l_shr : Lift2 K (rI (fun _ j => 0 ≤ j) fun i j => .int (i / 2 ^ j.toNat)) W.shr := l_ii fun _ _ _ _ => rfl
def W.band (x y : D) (k : D → Prop) : Prop := W.ii (fun _ _ => True) (fun i j => .int (Builtin.bitAnd i j)) x y k
theorem l_band : Lift2 K (rI0 fun i j => .int (Builtin.bitAnd i j)) W.band := l_ii0 fun _ _ _ _ => rfl
def W.bor (x y : D) (k : D → Prop) : Prop := W.ii (fun _ _ => True) (fun i j => .int (Builtin.bitOr i j)) x y k
theorem l_bor : Lift2 K (rI0 fun i j => .int (Builtin.bitOr i j)) W.bor := l_ii0 fun _ _ _ _ => rfl
def W.bxor (x y : D) (k : D → Prop) : Prop := W.ii (fun _ _ => True) (fun i j => .int (Builtin.bitXor i j)) x y k
theorem l_bxor : Lift2 K (rI0 fun i j => .int (Builtin.bitXor i j)) W.bxor := l_ii0 fun _ _ _ _ => rfl
def W.i1 (g : Int → D) (x : D) (k : D → Prop) : Prop := ∃ i, x = .int i ∧ k (g i)
theorem l_i1 {g : Int → V} {G : Int → D} (hg : ∀ i N H, Rep K N H (G i) (g i)) : Lift1 K (rU g) (W.i1 G) := fun N H x v k Q hN px w z => by
  obtain ⟨i, rfl, q⟩ := w
  exact ⟨i, px.int, z.here (hg i N H) q⟩
def W.neg (x : D) (k : D → Prop) : Prop := W.i1 (fun i => .int (-i)) x k
def W.inv (x : D) (k : D → Prop) : Prop := W.i1 (fun i => .int (Builtin.bitNot i)) x k
theorem l_inv : Lift1 K (rU fun i => .int (Builtin.bitNot i)) W.inv := l_i1 fun _ _ _ => rfl
/-- a list of any kind taken n times -/
theorem int_rmul_listW (a : Int) (t : Tok) (l : Addr) (items : Array Value) (n : Nat) (dd : Option Addr) (sl : Array (Option Value)) :
    Meets (Builtin.«int.__rmul__» ⟨[.int a t, .ref l], []⟩) (fun _ R s => s.heap.get? l = some { cls := .type "list", dict := dd, data := .seq items n, slots := sl } ∧ R (.ok (.ret Value.notImplemented)) s) :=
  .of_wp fun prog w A R s h => by obtain ⟨hp, g, d, tk, os⟩ := s; obtain ⟨hl, h⟩ := h; wp_walk; exact ⟨_, rfl, h⟩
theorem list_mulW (l : Addr) (items : Array Value) (n : Nat) (x : Int) (u : Tok) (dd : Option Addr) (sl : Array (Option Value)) (hc0 : ¬(!Builtin.List.listFitsIndex x) = true) (hc1 : ¬items.size * x.toNat > (2 ^ 63 - 1) / 8) (hc2 : ¬Builtin.List.listTooLong (items.size * x.toNat) = true) :
    Meets (Builtin.«list.__mul__» ⟨[.ref l, .int x u], []⟩) (fun _ R s => s.heap.get? l = some { cls := .type "list", dict := dd, data := .seq items n, slots := sl } ∧ R (.ok (.ret (Value.ref s.heap.objs.size))) { s with heap := s.heap.push { cls := Value.type "list", data := Data.seq (List.foldl (fun x1 x2 => x1 ++ x2) #[] (List.replicate (if items.isEmpty = true then 0 else x.toNat) items)) }, toks := s.toks }) :=
  .of_wp fun prog w A R s h => by
    obtain ⟨hp, g, d, tk, os⟩ := s; obtain ⟨hl, h⟩ := h
    have hsz := PySem.AutoListH.joined_fits hc2
    wp_walk; refine wpAny_ite_false (decide_eq_false (Nat.not_lt.mpr hsz)) ?_; wp_walk; exact ⟨_, rfl, h⟩
def rRepA (K : PySem.W.Frag) : R2 := fun x y H Q => ∃ l k xs, x = .ref l ∧ y = .int k ∧ SqL K H l xs ∧ -(2 ^ 63) ≤ k ∧ k < 2 ^ 63 ∧ xs.length * k.toNat ≤ sizeLine ∧ ∀ p, H p = none → Q (.ref p) (upd H p (.lst (List.replicate k.toNat xs).flatten))
theorem op_repA : OpR X (binaryOp .Mult) (rRepA X.K) := by
  intro pins s σ H x y v u Q I rx ry h
  obtain ⟨l, k, xs, rfl, rfl, hH, h1, h2, hz, q⟩ := h
  cases rx
  obtain ⟨t, rfl⟩ := ry
  obtain ⟨its, r, pl, hzz⟩ := I.list hH
  obtain ⟨⟨cls, dd, data, sls⟩, n, e, hc, hdn, hdt⟩ := pl
  simp only at hc hdt
  subst hc hdt
  have hl := r.length
  have hlen : its.toArray.size * k.toNat ≤ sizeLine := by rw [List.size_toArray, ← hl]; exact hz
  have hcap : ¬ its.toArray.size * k.toNat > (2 ^ 63 - 1) / 8 := by
    have : (sizeLine : Nat) ≤ (2 ^ 63 - 1) / 8 := by decide
    omega
  have hfit : ¬ (!Builtin.List.listFitsIndex k) = true := by
    rw [fitsIndex_both h1 h2]
    exact Bool.false_ne_true
  have hlong : ¬ Builtin.List.listTooLong (its.toArray.size * k.toNat) = true := by
    rw [notLongL hlen]
    exact Bool.false_ne_true
  have hnew : List.foldl (fun x1 x2 => x1 ++ x2) #[] (List.replicate (if its.toArray.isEmpty = true then 0 else k.toNat) its.toArray) = (List.replicate k.toNat its).flatten.toArray := by
    have f0 : ∀ m : Nat, List.foldl (fun x1 x2 => x1 ++ x2) #[] (List.replicate m its.toArray) = (List.replicate m its).flatten.toArray := fun m => by
      have := foldl_rep its m []
      rw [List.nil_append] at this
      exact this
    rw [f0]
    cases its with
    | nil => simp
    | cons a r' => rw [if_neg (by simp)]
  refine wpAny_binaryOp_repeat_ref (T := "list") (U := "int") (by decide) ⟨_, e, rfl⟩ (fun s' => typeIs_int s' k t) noFill_list_mul F.fills_int_mul F.slot_int_rmul repeat_list F.slot_int_index.lookup
    (call_meets F.slot_int_rmul (typeIs_int s k t) F.entry_int_rmul (F.args_int_rmul_2 _ _) (int_rmul_listW k t l its.toArray n dd sls)
      ⟨e, rfl, ⟨_, e, rfl⟩, call_meets F.slot_list_mul ⟨_, e, rfl⟩ F.entry_list_mul (F.args_list_mul_2 _ _) (list_mulW l its.toArray n k t dd sls hfit hcap hlong) ⟨e, ?_⟩⟩)
  rw [hnew]
  exact ⟨.ref _, _, I.lnew (t' := s.toks) (r.rep k.toNat) (by rw [PyProof.Rows.lm_len_rep_flat, Nat.mul_comm]; exact hz), rfl, q _ I.fresh⟩
def rMulW (K : PySem.W.Frag) : R2 := fun x y H Q => rI CMul (fun i j => .int (i * j)) x y H Q ∨ rMulS x y H Q ∨ rRepA K x y H Q
theorem op_mulW2 : OpR X (binaryOp .Mult) (rMulW X.K) := op_or2 op_mul (op_or2 op_mulS op_repA)
theorem repL_flat {N : No} {H : Hp} {xs : List D} {vs : List V} (h : RepL K N H xs vs) : ∀ m : Nat, RepL K N H (List.replicate m xs).flatten (List.replicate m vs).flatten
  | 0 => .nil
  | m + 1 => by
    rw [List.replicate_succ, List.replicate_succ, List.flatten_cons, List.flatten_cons]
    exact h.append (repL_flat h m)
/-! ### comparisons -/
def W.lt : D → D → (D → Prop) → Prop
  | .int i, .int j, k => k (.bl (decide (i < j)))
  | .str i, .str j, k => k (.bl (decide (i.cps.toList < j.cps.toList)))
  | _, _, _ => False
def rLtW : R2 := fun x y H Q => rI0 (fun i j => .bl (decide (i < j))) x y H Q ∨ ∃ i j, x = .str i ∧ y = .str j ∧ Q (.bl (decide (i.cps.toList < j.cps.toList))) H
theorem op_ltW : OpR X (compareOp .Lt) rLtW := op_or2 op_lt op_lt_str
theorem l_lt : Lift2 K rLtW W.lt := fun N H x y v u k Q hN px py w z => by
  cases x <;> cases y <;> first
    | exact (show False from w).elim
    | skip
  case int.int i j => exact .inl ⟨i, j, px.int, py.int, z.here (d := .bl _) rfl w⟩
  case str.str i j => exact .inr ⟨i, j, px.str, py.str, z.here (d := .bl _) rfl w⟩
def W.le (x y : D) (k : D → Prop) : Prop := W.ii (fun _ _ => True) (fun i j => .bl (decide (i ≤ j))) x y k
def W.gt (x y : D) (k : D → Prop) : Prop := W.ii (fun _ _ => True) (fun i j => .bl (decide (j < i))) x y k
theorem l_gt : Lift2 K (rI0 fun i j => .bl (decide (j < i))) W.gt := l_ii0 fun _ _ _ _ => rfl
def W.ge (x y : D) (k : D → Prop) : Prop := W.ii (fun _ _ => True) (fun i j => .bl (decide (j ≤ i))) x y k
/-- data that == reads through -/
def D.deep (x : D) : Prop := x.pl = true ∧ x.py.depth ≤ 64
def W.eq (x y : D) (k : D → Prop) : Prop := (∃ a b, x.v = some a ∧ y.v = some b ∧ scal a b = true ∧ k (.bl (decide (a = b)))) ∨ (x.deep ∧ y.deep ∧ k (.bl (PyData.eqv x.py y.py)))
def W.ne (x y : D) (k : D → Prop) : Prop := (∃ a b, x.v = some a ∧ y.v = some b ∧ scal a b = true ∧ k (.bl (!decide (a = b)))) ∨ (x.deep ∧ y.deep ∧ k (.bl (!PyData.eqv x.py y.py)))
def rEqW (K : PySem.W.Frag) : R2 := fun x y H Q => rEq x y H Q ∨ rEqD K x y H Q
def rNeW (K : PySem.W.Frag) : R2 := fun x y H Q => rNe x y H Q ∨ rNeD K x y H Q
theorem op_eqW (hu : X.A.units + 64 < cLine) : OpR X (compareOp .Eq) (rEqW X.K) := op_or2 op_eq (op_eqD hu)
theorem op_neW (hu : X.A.units + 64 < cLine) : OpR X (compareOp .NotEq) (rNeW X.K) := op_or2 op_ne (op_neD hu)
theorem D.deep.shaped {x : D} (h : x.deep) : SeqAt.shaped x.py = true := by
  unfold SeqAt.shaped
  rw [(py_show x h.1).2, decide_eq_true h.2]
  rfl
theorem l_eq : Lift2 K (rEqW K) W.eq := fun N H x y v u k Q hN px py w z => by
  rcases w with ⟨a, b, ha, hb, hs, q⟩ | ⟨hx, hy, q⟩
  · left
    rw [px.flat ha, py.flat hb]
    exact ⟨hs, z.here (d := .bl _) rfl q⟩
  · exact .inr ⟨x.py, y.py, dpS_of hx.1 px, dpS_of hy.1 py, hx.shaped, hy.shaped, z.here (d := .bl _) rfl q⟩
theorem l_ne : Lift2 K (rNeW K) W.ne := fun N H x y v u k Q hN px py w z => by
  rcases w with ⟨a, b, ha, hb, hs, q⟩ | ⟨hx, hy, q⟩
  · left
    rw [px.flat ha, py.flat hb]
    exact ⟨hs, z.here (d := .bl _) rfl q⟩
  · exact .inr ⟨x.py, y.py, dpS_of hx.1 px, dpS_of hy.1 py, hx.shaped, hy.shaped, z.here (d := .bl _) rfl q⟩
/-! ### in -/
def D.flatB (x : D) : Bool := x.v.isSome
/-- flat values alike -/
def D.alike (y x : D) : Bool := match y.v, x.v with
  | some a, some b => eqV a b
  | _, _ => false
def W.isIn (neg : Bool) (x y : D) (k : D → Prop) : Prop :=
  (∃ ys, (y = .lst ys ∨ y = .tup ys) ∧ x.flatB = true ∧ ys.all D.flatB = true ∧ k (.bl (neg != ys.any fun z => z.alike x))) ∨
  (∃ ys, (y = .lst ys ∨ y = .tup ys) ∧ x.deep ∧ y.deep ∧ k (.bl (neg != ys.any fun z => PyData.eqv z.py x.py))) ∨
  (∃ (c : Nat) (s : Str), x = .str ⟨#[c]⟩ ∧ y = .str s ∧ k (.bl (neg != decide (c ∈ s.cps.toList))))
/-- in a tuple whose items are data of any depth -/
def rInDT (K : PySem.W.Frag) : R2 := fun x y H Q => ∃ d ds, Dp K H x d ∧ Dp K H y (.tuple ds) ∧ SeqAt.shaped d = true ∧ SeqAt.shaped (.tuple ds) = true ∧ Q (.bl (ds.any fun z => PyData.eqv z d)) H
def rNotInDT (K : PySem.W.Frag) : R2 := fun x y H Q => ∃ d ds, Dp K H x d ∧ Dp K H y (.tuple ds) ∧ SeqAt.shaped d = true ∧ SeqAt.shaped (.tuple ds) = true ∧ Q (.bl (!ds.any fun z => PyData.eqv z d)) H
theorem op_inDT (hu : X.A.units + 65 < cLine) : OpR X (compareOp .In) (rInDT X.K) := by
  intro pins s σ H x y v u Q I rx ry h
  obtain ⟨d, ds, hd, he, sd, se, q⟩ := h
  obtain ⟨as, r1⟩ := Dp.reads I d x v hd rx
  obtain ⟨bs, r2⟩ := Dp.reads I (.tuple ds) y u he ry
  exact SeqAt.in_tuple_reads r2 r1 (SeqAt.canLay_of_shaped (d := .tuple ds) se) (SeqAt.canLay_of_shaped sd) (room_in_shaped sd hu) ⟨.bl _, H, I, rfl, q⟩
theorem op_notInDT (hu : X.A.units + 65 < cLine) : OpR X (compareOp .NotIn) (rNotInDT X.K) := by
  intro pins s σ H x y v u Q I rx ry h
  obtain ⟨d, ds, hd, he, sd, se, q⟩ := h
  obtain ⟨as, r1⟩ := Dp.reads I d x v hd rx
  obtain ⟨bs, r2⟩ := Dp.reads I (.tuple ds) y u he ry
  exact SeqAt.notIn_tuple_reads r2 r1 (SeqAt.canLay_of_shaped (d := .tuple ds) se) (SeqAt.canLay_of_shaped sd) (room_in_shaped sd hu) ⟨.bl _, H, I, rfl, q⟩
def rInW (K : PySem.W.Frag) : R2 := fun x y H Q => rIn K false x y H Q ∨ (rInD K x y H Q ∨ rInDT K x y H Q) ∨ ∃ (c : Nat) (z : Str), x = .str ⟨#[c]⟩ ∧ y = .str z ∧ Q (.bl (decide (c ∈ z.cps.toList))) H
def rNinW (K : PySem.W.Frag) : R2 := fun x y H Q => rIn K true x y H Q ∨ (rNotInD K x y H Q ∨ rNotInDT K x y H Q) ∨ ∃ (c : Nat) (z : Str), x = .str ⟨#[c]⟩ ∧ y = .str z ∧ Q (.bl (!decide (c ∈ z.cps.toList))) H
theorem op_inW (hu : X.A.units + 65 < cLine) : OpR X (compareOp .In) (rInW X.K) := op_or2 op_in_seq (op_or2 (op_or2 (op_inD hu) (op_inDT hu)) op_in_sign)
theorem op_ninW (hu : X.A.units + 65 < cLine) : OpR X (compareOp .NotIn) (rNinW X.K) := op_or2 op_notIn_seq (op_or2 (op_or2 (op_notInD hu) (op_notInDT hu)) op_notIn_sign)
theorem flat_repL {N : No} {H : Hp} : ∀ {ds : List D} {vs : List V}, ds.all D.flatB = true → RepL K N H ds vs → vs.all flatV = true ∧ ∀ (x : D) (v : V), x.v = some v → inV v vs = ds.any fun z => z.alike x
  | [], _, _, h => by
    obtain rfl := (show _ = [] from h)
    exact ⟨rfl, fun _ _ _ => rfl⟩
  | d :: ds, _, f, ⟨v, r, rfl, h1, h2⟩ => by
    rw [List.all_cons, Bool.and_eq_true] at f
    obtain ⟨a1, a2⟩ := flat_repL f.2 h2
    obtain ⟨w, hw⟩ := Option.isSome_iff_exists.mp f.1
    obtain rfl := D.v_rep hw h1
    have fw : flatV v = true := by
      cases d <;> first
        | (cases hw; rfl)
        | cases hw
    refine ⟨by rw [List.all_cons, fw, a1]; rfl, fun x u hx => ?_⟩
    have e := a2 x u hx
    unfold inV at e ⊢
    rw [List.any_cons, List.any_cons, e]
    unfold D.alike
    rw [hw, hx]
theorem py_any {ys : List D} {x : PyData} : (D.pyL ys).any (fun z => PyData.eqv z x) = ys.any fun z => PyData.eqv z.py x := by
  induction ys with
  | nil => rfl
  | cons y ys ih =>
    show (PyData.eqv y.py x || (D.pyL ys).any _) = _
    rw [ih]
    rfl
theorem flat_fl {x : D} {v : V} (h : x.v = some v) : flatV v = true := by
  cases x <;> first
    | (cases h; rfl)
    | cases h
theorem l_inB (neg : Bool) : Lift2 K (fun x y H Q => rIn K neg x y H Q ∨ (if neg then rNotInD K x y H Q ∨ rNotInDT K x y H Q else rInD K x y H Q ∨ rInDT K x y H Q) ∨ ∃ (c : Nat) (z : Str), x = .str ⟨#[c]⟩ ∧ y = .str z ∧ Q (.bl (neg != decide (c ∈ z.cps.toList))) H) (W.isIn neg) := fun N H x y v u k Q hN px py w z => by
  rcases w with ⟨ys, hy, fx, fy, q⟩ | ⟨ys, hl, hx, hy, q⟩ | ⟨c, s, rfl, rfl, q⟩
  · left
    obtain ⟨w, hw⟩ := Option.isSome_iff_exists.mp fx
    obtain rfl := px.flat hw
    have seq : ∃ p vs, u = .ref p ∧ (SqL K H p vs ∨ SqT K H p vs) ∧ RepL K N H ys vs := by
      rcases hy with rfl | rfl
      · obtain ⟨a, vs, e, h1, h2⟩ := py.lst
        exact ⟨a, vs, e, .inl h1, h2⟩
      · obtain ⟨a, vs, e, h1, h2⟩ := py.tup
        exact ⟨a, vs, e, .inr h1, h2⟩
    obtain ⟨p, vs, e, h1, h2⟩ := seq
    obtain ⟨a1, a2⟩ := flat_repL fy h2
    refine ⟨p, vs, e, h1, flat_fl hw, a1, ?_⟩
    rw [a2 x v hw]
    have e3 : (if neg = true then !ys.any fun z => z.alike x else ys.any fun z => z.alike x) = (neg != ys.any fun z => z.alike x) := by cases neg <;> cases ys.any (fun z => z.alike x) <;> rfl
    rw [e3]
    exact z.here (d := .bl _) rfl q
  · right
    left
    have e1 : ∀ b : Bool, (true != b) = !b := fun b => by cases b <;> rfl
    have e2 : ∀ b : Bool, (false != b) = b := fun b => by cases b <;> rfl
    rcases hl with rfl | rfl
    · have e : Dp K H u (.list (D.pyL ys)) := dpS_of hy.1 py
      cases neg with
      | true =>
        refine .inl ⟨x.py, D.pyL ys, dpS_of hx.1 px, e, hx.shaped, hy.shaped, ?_⟩
        rw [py_any]
        rw [e1] at q
        exact z.here (d := .bl _) rfl q
      | false =>
        refine .inl ⟨x.py, D.pyL ys, dpS_of hx.1 px, e, hx.shaped, hy.shaped, ?_⟩
        rw [py_any]
        rw [e2] at q
        exact z.here (d := .bl _) rfl q
    · have e : Dp K H u (.tuple (D.pyL ys)) := dpS_of hy.1 py
      cases neg with
      | true =>
        refine .inr ⟨x.py, D.pyL ys, dpS_of hx.1 px, e, hx.shaped, hy.shaped, ?_⟩
        rw [py_any]
        rw [e1] at q
        exact z.here (d := .bl _) rfl q
      | false =>
        refine .inr ⟨x.py, D.pyL ys, dpS_of hx.1 px, e, hx.shaped, hy.shaped, ?_⟩
        rw [py_any]
        rw [e2] at q
        exact z.here (d := .bl _) rfl q
  · exact .inr (.inr ⟨c, s, px.str, py.str, z.here (d := .bl _) rfl q⟩)
theorem l_in : Lift2 K (rInW K) (W.isIn false) := fun N H x y v u k Q hN px py w z => by
  rcases l_inB false N H x y v u k Q hN px py w z with h | h | ⟨c, s, e1, e2, q⟩
  · exact .inl h
  · exact .inr (.inl h)
  · refine .inr (.inr ⟨c, s, e1, e2, ?_⟩)
    have e : (false != decide (c ∈ s.cps.toList)) = decide (c ∈ s.cps.toList) := by cases decide (c ∈ s.cps.toList) <;> rfl
    rw [e] at q
    exact q
theorem l_nin : Lift2 K (rNinW K) (W.isIn true) := fun N H x y v u k Q hN px py w z => by
  rcases l_inB true N H x y v u k Q hN px py w z with h | h | ⟨c, s, e1, e2, q⟩
  · exact .inl h
  · exact .inr (.inl h)
  · refine .inr (.inr ⟨c, s, e1, e2, ?_⟩)
    have e : (true != decide (c ∈ s.cps.toList)) = !decide (c ∈ s.cps.toList) := by cases decide (c ∈ s.cps.toList) <;> rfl
    rw [e] at q
    exact q
/-! ### places, parts -/
def W.ix : D → D → (D → Prop) → Prop
  | .lst xs, .int i, k => ∃ d, atI xs i = some d ∧ k d
  | .tup xs, .int i, k => ∃ d, atI xs i = some d ∧ k d
  | .str s, .int i, k => s.length ≤ sizeLine ∧ ∃ c, atI s.cps.toList i = some c ∧ k (.str ⟨#[c]⟩)
  | _, _, _ => False
theorem at_rep {N : No} {H : Hp} {xs : List D} {vs : List V} {i : Int} {d : D} (h2 : RepL K N H xs vs) (e : atI xs i = some d) : ∃ w, atI vs i = some w ∧ Rep K N H d w := by
  obtain ⟨j, e1, e2, _⟩ := atI_get e
  obtain ⟨w, e3, e4⟩ := h2.get e2
  refine ⟨w, ?_, e4⟩
  unfold atI at e ⊢
  rw [← h2.length]
  cases e5 : ixN xs.length i with
  | none =>
    rw [e5] at e
    cases e
  | some m =>
    rw [e5] at e
    have e6 : xs[m]? = some d := e
    obtain ⟨e7, _⟩ := ixN_seq e5
    rw [e1] at e7
    cases e7
    exact e3
theorem l_ix : Lift2 K (rIx K) W.ix := fun N H x y v u k Q hN px py w z => by
  cases x <;> cases y <;> first
    | exact (show False from w).elim
    | skip
  case lst.int xs i =>
    obtain ⟨d, e, q⟩ := w
    obtain ⟨a, vs, rfl, h1, h2⟩ := px.lst
    obtain ⟨w, e1, e2⟩ := at_rep h2 e
    exact .inl ⟨a, vs, i, w, rfl, py.int, h1, e1, z.here e2 q⟩
  case tup.int xs i =>
    obtain ⟨d, e, q⟩ := w
    obtain ⟨a, vs, rfl, h1, h2⟩ := px.tup
    obtain ⟨w, e1, e2⟩ := at_rep h2 e
    exact .inr (.inl ⟨a, vs, i, w, rfl, py.int, h1, e1, z.here e2 q⟩)
  case str.int s i =>
    obtain ⟨hs, c, e, q⟩ := w
    exact .inr (.inr ⟨s, i, c, px.str, py.int, hs, e, z.here (d := .str _) rfl q⟩)
def W.sl : D → Option Int → Option Int → (D → Prop) → Prop
  | .lst xs, i, j, k => k (.lst (cutD xs i j))
  | .tup xs, i, j, k => k (.tup (cutD xs i j))
  | .str s, i, j, k => s.length ≤ sizeLine ∧ k (.str (cutS s i j))
  | _, _, _, _ => False
def rSlS2 : V → Option Int → Option Int → Hp → VK → Prop := fun x lo hi H Q => ∃ z, x = .str z ∧ z.length ≤ sizeLine ∧ Q (.str (cutS z lo hi)) H
def rSlW (K : PySem.W.Frag) : V → Option Int → Option Int → Hp → VK → Prop := fun x lo hi H Q => rSlL K x lo hi H Q ∨ rSlA K x lo hi H Q ∨ rSlS2 x lo hi H Q
theorem slr_or {r r' : V → Option Int → Option Int → Hp → VK → Prop} (h : L2.SlR X r) (h' : L2.SlR X r') : L2.SlR X (fun x i j H Q => r x i j H Q ∨ r' x i j H Q) := by
  intro pins s σ H x v vl vu lo hi sl Q I rx hs pl pu q
  rcases q with q | q
  · exact h pins s σ H x v vl vu lo hi sl Q I rx hs pl pu q
  · exact h' pins s σ H x v vl vu lo hi sl Q I rx hs pl pu q
theorem sl_W : L2.SlR X (rSlW X.K) := slr_or sl_list (slr_or sl_tupA sl_str)
theorem l_sl (N : No) (H : Hp) (x : D) (v : V) (i j : Option Int) (k : D → Prop) (Q : VK) (hN : ∀ a, N a → H a ≠ none) (px : RepS K N H x v) (w : W.sl x i j k) (z : Post K N H k Q) : rSlW K v i j H Q := by
  cases x <;> first
    | exact (show False from w).elim
    | skip
  case str s => exact .inr (.inr ⟨s, px.str, w.1, z.here (d := .str _) rfl w.2⟩)
  case lst xs =>
    obtain ⟨a, vs, rfl, h1, h2⟩ := px.lst
    exact .inl ⟨a, vs, rfl, h1, fun p hp => z.newL hN hp (cut_rep h2 i j) w⟩
  case tup xs =>
    have pa := px.rep fun _ e => nomatch e
    obtain ⟨a, vs, rfl, h1, h2⟩ := px.tup
    refine .inr (.inl ⟨a, vs, rfl, h1, fun ⟨e1, e2⟩ => ?_, fun _ p hp => z.newT hN hp (cut_rep h2 i j) w⟩)
    have e3 : cutD xs i j = xs := by
      unfold cutD
      rw [h2.length, e1, e2, List.drop_zero, Nat.sub_zero, ← h2.length, List.take_length]
    have w' : k (.tup (cutD xs i j)) := w
    rw [e3] at w'
    exact z.here pa w'
end
end Dw

/-! Wp3: comprehensions, loops, calls over trees. -/
namespace Dw
open PySem PySem.Spec PyProof.Rows L2
section
variable {M : Md} {O : List Addr} {r : List Sl} {wi : TI} {g : TG} {tt : TT} {te : TE} {vs js : List Nat} {k : D → Prop}
/-- the items that a comprehension makes: body gives each turn's item, or none -/
def W.comp (body : D → (Option D → Prop) → Prop) : List D → List D → (D → Prop) → Prop
  | [], acc, k => k (.lst acc)
  | x :: xs, acc, k => body x fun o => W.comp body xs (acc ++ o.toList) k
theorem ite_split {b : Bool} {p q P Q : Prop} (h : W.ite b p q) (hp : p → P) (hq : q → Q) : if b = true then P else Q := by
  cases b with
  | true => exact hp (h.1 rfl)
  | false => exact hq (h.2 rfl)
theorem comp_turns {body : D → (Option D → Prop) → Prop} {xs : List D} {k : D → Prop} (h : xs.length < sizeLine ∧ W.comp body xs [] k)
    (step : ∀ (O' : List Addr) (x : D) (q : Option D → Prop), body x q → DG M g js O' (wipeR r vs) x fun r2 => DT M tt O' r2 fun b => if b = true then De M te O' r2 fun y => q (some y) else q none) :
    xs.length < sizeLine ∧ ∃ R : Nat → List D → Prop, R 0 [] ∧
    (∀ (O' : List Addr) (i : Nat) (x : D) (ys : List D), xs[i]? = some x → R i ys → DG M g js O' (wipeR r vs) x fun r2 => DT M tt O' r2 fun b => if b = true then De M te O' r2 fun y => R (i + 1) (ys ++ [y]) else R (i + 1) ys) ∧
    ∀ ys, R xs.length ys → k (.lst ys) := by
  refine ⟨h.1, fun i ys => W.comp body (xs.drop i) ys k, h.2, fun O' i x ys hx hb => ?_, fun ys q => ?_⟩
  · have e : xs.drop i = x :: xs.drop (i + 1) := by
      have hi := (List.getElem?_eq_some_iff.mp hx).1
      rw [List.drop_eq_getElem_cons hi]
      rw [List.getElem?_eq_getElem hi] at hx
      cases hx
      rfl
    have hb : W.comp body (xs.drop i) ys k := hb
    rw [e] at hb
    have hb : body x fun o => W.comp body (xs.drop (i + 1)) (ys ++ o.toList) k := hb
    refine fun v σ H Q R pv z => step O' x _ hb v σ H Q R pv fun σ' r' R' w' q => z σ' r' R' w' (q.imp fun b hb => ?_)
    cases b with
    | true =>
      rw [if_pos rfl] at hb ⊢
      exact hb
    | false =>
      rw [if_neg Bool.false_ne_true] at hb ⊢
      have hb : W.comp body (xs.drop (i + 1)) (ys ++ []) k := hb
      rw [List.append_nil] at hb
      exact hb
  · have q : W.comp body (xs.drop xs.length) ys k := q
    rw [List.drop_length] at q
    exact q
theorem e_comp (body : D → (Option D → Prop) → Prop) (hjs : ∀ j ∈ js, j ∈ vs) (h : DI M wi O r fun xs => xs.length < sizeLine ∧ W.comp body xs [] k)
    (step : ∀ (O' : List Addr) (x : D) (q : Option D → Prop), body x q → DG M g js O' (wipeR r vs) x fun r2 => DT M tt O' r2 fun b => if b = true then De M te O' r2 fun y => q (some y) else q none) : De M (tLc wi g tt te vs) O r k :=
  de_lc hjs fun σ H Q R z => h σ H Q R fun J H1 xs Wx R1 e1 g1 q => z J H1 xs Wx R1 e1 g1 (comp_turns q step)
end
/-! ### targets -/
def W.un2 : D → (D → D → Prop) → Prop
  | .tup [a, b], k => k a b
  | _, _ => False
theorem un2_e {x : D} {k : D → D → Prop} (h : W.un2 x k) : ∃ a b, x = .tup [a, b] ∧ k a b := by
  unfold W.un2 at h
  split at h
  · exact ⟨_, _, rfl, h⟩
  · exact h.elim
section
variable {M : Md} {O : List Addr} {r : List Sl} {k : List Sl → Prop}
theorem dg_un2 {i j : Nat} {x : D} {f : D → D → Prop} (h : W.un2 x f) (q : ∀ a b, f a b → k ((r.set i (.d a)).set j (.d b))) : DG M (gTup M.K 2 (gCons (gName i) (gCons (gName j) gNil))) [i, j] O r x k := by
  obtain ⟨a, b, rfl, f1⟩ := un2_e h
  exact dg_tup (js := [i, j]) rfl (dgs_cons (js := [i]) (ls := [j]) (dg_name (dgs_cons (js := [j]) (ls := []) (dg_name (dgs_nil (q a b f1))))))
end
/-! ### what is walked -/
def W.seq : D → (List D → Prop) → Prop
  | .lst xs, k => k xs
  | .tup xs, k => k xs
  | _, _ => False
theorem seq_e {x : D} {k : List D → Prop} (h : W.seq x k) : ∃ xs, (x = .lst xs ∨ x = .tup xs) ∧ k xs := by
  unfold W.seq at h
  split at h
  · exact ⟨_, .inl rfl, h⟩
  · exact ⟨_, .inr rfl, h⟩
  · exact h.elim
section
variable {M : Md} {O : List Addr} {r : List Sl} {kl : List D → Prop} {te : TE} {ta : TA}
theorem DI.imp {wi : TI} {k' : List D → Prop} (h : DI M wi O r kl) (i : ∀ d, kl d → k' d) : DI M wi O r k' := fun σ H Q R z => h σ H Q R fun J H1 xs W R1 e1 g1 q => z J H1 xs W R1 e1 g1 (i xs q)
theorem i_seq (h : De M te O r fun x => W.seq x kl) : DI M (iSeq M.K te) O r kl := di_seq (h.imp fun _ q => seq_e q)
def W.range1 : D → (List D → Prop) → Prop
  | .int n, k => (-(2 ^ 62) ≤ n ∧ n < 2 ^ 62) ∧ k (rangeD 0 n.toNat)
  | _, _ => False
theorem range1_e {x : D} {k : List D → Prop} (h : W.range1 x k) : ∃ n : Int, x = .int n ∧ (-(2 ^ 62) ≤ n ∧ n < 2 ^ 62) ∧ k (rangeD 0 n.toNat) := by
  cases x <;> first
    | exact (show False from h).elim
    | exact ⟨_, rfl, h⟩
theorem i_range1 (h : De M te O r fun x => W.range1 x kl) : DI M (iRng1 (tCons te tNil)) O r kl := di_range1 (da_cons (h.imp fun x q => by
  obtain ⟨n, rfl, b, q⟩ := range1_e q
  exact da_nil ⟨n, rfl, b, q⟩))
/-- zip of two lists -/
def zipD (xs ys : List D) : List D := xs.zipWith (fun x y => D.tup [x, y]) ys
def W.zip : D → D → (List D → Prop) → Prop
  | .lst xs, .lst ys, k => k (zipD xs ys)
  | _, _, _ => False
end
/-! ### loops -/
/-- for: body turns the state; nx goes on, bk leaves the loop -/
def W.forL {S : Type} (body : D → S → (S → Prop) → (S → Prop) → Prop) : List D → S → (S → Prop) → Prop
  | [], s, k => k s
  | x :: xs, s, k => body x s (fun s' => W.forL body xs s' k) k
section
variable {M : Md} {O : List Addr} {r : List Sl} {wi : TI} {g : TG} {tb ts tz : TS} {js : List Nat} {E : Kn}
/-- the slots tell the state -/
def stK {S : Type} (O : List Addr) (enc : S → List Sl → Prop) (p : S → Prop) : List Addr → List Sl → Prop := fun O' r' => O' = O ∧ ∃ s, enc s r' ∧ p s
theorem ds_nextK {S : Type} {enc : S → List Sl → Prop} {p : S → Prop} (hE : E.nx = stK O enc p) (s : S) (h : p s) (e : enc s r) : DS M tNext O r E := ds_next (by rw [hE]; exact ⟨rfl, s, e, h⟩)
theorem s_for {S : Type} (enc : S → List Sl → Prop) (body : D → S → (S → Prop) → (S → Prop) → Prop) (s0 : S) (p : S → Prop) (h : DI M wi O r fun xs => W.forL body xs s0 p) (h0 : enc s0 r)
    (turn : ∀ (x : D) (s : S) (r' : List Sl) (nx bk : S → Prop), enc s r' → body x s nx bk → DG M g js O r' x fun r2 => DS M tb O r2 { E with nx := stK O enc nx, ct := stK O enc nx, bk := stK O enc bk })
    (fin : ∀ (s : S) (r' : List Sl), enc s r' → p s → DS M tz O r' E) : DS M (tSeq (tFor wi g tb) tz) O r E :=
  ds_seq (ds_for (js := js) (fun σ H Q R z => h σ H Q R fun J H1 xs Wx R1 e1 g1 q => z J H1 xs Wx R1 e1 g1 ⟨fun i O' r' => O' = O ∧ ∃ s, enc s r' ∧ W.forL body (xs.drop i) s p, ⟨rfl, s0, h0, q⟩, fun i x O' r' hx ⟨eO, s, he, hb⟩ => by
    subst eO
    have hi := (List.getElem?_eq_some_iff.mp hx).1
    rw [List.drop_eq_getElem_cons hi] at hb
    rw [List.getElem?_eq_getElem hi] at hx
    cases hx
    have hb : body xs[i] s (fun s' => W.forL body (xs.drop (i + 1)) s' p) p := hb
    refine fun v σ H Q R pv z => turn _ s r' _ _ he hb v σ H Q R pv fun σ' r2 R' w' q => z σ' r2 R' w' (q.imp (fun O2 r3 q => q) (fun _ q => q) (fun O2 r3 ⟨eO2, s2, he2, hp2⟩ => ?_) fun O2 r3 q => q)
    subst eO2
    exact fin s2 r3 he2 hp2, fun O' r' ⟨eO, s, he, hb⟩ => by
    subst eO
    rw [List.drop_length] at hb
    exact fin s r' he hb⟩))
/-- while: n turns at most -/
def W.whileN {S : Type} (c : S → (Bool → Prop) → Prop) (body : S → (S → Prop) → (S → Prop) → Prop) (k : S → Prop) : Nat → S → Prop
  | 0, _ => False
  | n + 1, s => c s fun b => W.ite b (body s (fun s' => W.whileN c body k n s') k) (k s)
theorem s_while {S : Type} (enc : S → List Sl → Prop) (c : S → (Bool → Prop) → Prop) (body : S → (S → Prop) → (S → Prop) → Prop) (s0 : S) (p : S → Prop) {tc : TT} (h : ∃ n, W.whileN c body p n s0) (h0 : enc s0 r)
    (test : ∀ (s : S) (r' : List Sl) (q : Bool → Prop), enc s r' → c s q → DT M tc O r' q)
    (turn : ∀ (s : S) (r' : List Sl) (nx bk : S → Prop), enc s r' → body s nx bk → DS M tb O r' { E with nx := stK O enc nx, ct := stK O enc nx, bk := stK O enc bk })
    (fin : ∀ (s : S) (r' : List Sl), enc s r' → p s → DS M tz O r' E) : DS M (tSeq (tWhile tc tb) tz) O r E := by
  obtain ⟨n0, h⟩ := h
  refine ds_seq fun σ H Z R z => ?_
  refine ⟨fun n σ2 H2 => ∃ s r2, W.whileN c body p n s ∧ enc s r2 ∧ Rp M O r2 σ2 H2 ∧ Stp M O H O H2, ⟨n0, s0, r, h, h0, R, .refl⟩, ?_⟩
  rintro n σ2 H2 ⟨s, r2, hw, he, R2, s2⟩
  cases n with
  | zero => exact (show False from hw).elim
  | succ n =>
    have hw : c s fun b => W.ite b (body s (fun s' => W.whileN c body p n s') p) (p s) := hw
    refine test s r2 _ he hw σ2 H2 _ R2 fun b H3 R3 e3 q3 => ?_
    have s3 : Stp M O H O H3 := Stp.trans R2.inv s2 (R3.stp e3)
    cases b with
    | false => exact z.nx O r2 σ2 H3 R3 s3 (fin s r2 he (q3.2 rfl))
    | true =>
      refine ⟨fun σ5 H5 => ∃ s5 r5, W.whileN c body p n s5 ∧ enc s5 r5 ∧ Rp M O r5 σ5 H5 ∧ Stp M O H O H5, fun σ5 H5 ⟨s5, r5, a, b, d, f⟩ => ⟨n, Nat.lt_succ_self n, s5, r5, a, b, d, f⟩, ?_⟩
      refine turn s r2 _ _ he (q3.1 rfl) σ2 H3 _ R3 ⟨fun O5 r5 σ5 H5 R5 st5 ⟨eO, s5, he5, q5⟩ => ?_, fun v H5 d s1 i1 p1 q5 => z.rt v H5 d s1 i1 p1 q5, fun O5 r5 σ5 H5 R5 st5 ⟨eO, s5, he5, q5⟩ => ?_, fun O5 r5 σ5 H5 R5 st5 ⟨eO, s5, he5, q5⟩ => ?_⟩
      · subst eO
        exact ⟨s5, r5, q5, he5, R5, Stp.trans R3.inv s3 st5⟩
      · subst eO
        exact z.nx _ r5 σ5 H5 R5 (Stp.trans R3.inv s3 st5) (fin s5 r5 he5 q5)
      · subst eO
        exact ⟨s5, r5, q5, he5, R5, Stp.trans R3.inv s3 st5⟩
/-- an if of which one way at most goes on -/
theorem s_ifR {tt : TT} (h : DT M tt O r fun b => if b = true then DS M ts O r { E with nx := fun O1 r1 => DS M tz O1 r1 E } else DS M tb O r { E with nx := fun O1 r1 => DS M tz O1 r1 E }) : DS M (tSeq (tIfS tt ts tb) tz) O r E := ds_seq (ds_if h)
end
/-! ### calls -/
/-- a promise by what is asked -/
def SpW (K : PySem.W.Frag) (S : Sg) (w : S.G → List D → (D → Prop) → Prop) : Sp := fun vs H Q _ =>
  ∃ (g : S.G) (ds : List D) (F : No) (k : D → Prop), RepL K F H ds vs ∧ (∀ a, S.F0 g a → F a) ∧ (∀ a, F a → H a ≠ none) ∧ S.I g H ∧ w g ds k ∧
    ∀ v H' d, Sm (S.F0 g) H H' → S.I g H' → Rep K F H' d v → k d → Q v H'
abbrev SpP0 (K : PySem.W.Frag) (w : List D → (D → Prop) → Prop) : Sp := SpW K pure0 fun _ => w
/-- a def that has the source of draws as its first argument -/
def dealW (w : List D → (D → Prop) → Prop) : Addr × Addr → List D → (D → Prop) → Prop := fun g ds k => ∃ r, ds = .ref g.1 :: r ∧ w r k
abbrev SpDl (K : PySem.W.Frag) (w : List D → (D → Prop) → Prop) : Sp := SpW K dealS (dealW w)
def W.a0 (w : (D → Prop) → Prop) : List D → (D → Prop) → Prop
  | [], k => w k
  | _, _ => False
def W.a1 (w : D → (D → Prop) → Prop) : List D → (D → Prop) → Prop
  | [a], k => w a k
  | _, _ => False
def W.a2 (w : D → D → (D → Prop) → Prop) : List D → (D → Prop) → Prop
  | [a, b], k => w a b k
  | _, _ => False
def W.a3 (w : D → D → D → (D → Prop) → Prop) : List D → (D → Prop) → Prop
  | [a, b, c], k => w a b c k
  | _, _ => False
def W.a4 (w : D → D → D → D → (D → Prop) → Prop) : List D → (D → Prop) → Prop
  | [a, b, c, d], k => w a b c d k
  | _, _ => False
theorem a1_e {w : D → (D → Prop) → Prop} {ds : List D} {k : D → Prop} (h : W.a1 w ds k) : ∃ a, ds = [a] ∧ w a k := by
  unfold W.a1 at h
  split at h
  · exact ⟨_, rfl, h⟩
  · exact h.elim
theorem a2_e {w : D → D → (D → Prop) → Prop} {ds : List D} {k : D → Prop} (h : W.a2 w ds k) : ∃ a b, ds = [a, b] ∧ w a b k := by
  unfold W.a2 at h
  split at h
  · exact ⟨_, _, rfl, h⟩
  · exact h.elim
theorem a3_e {w : D → D → D → (D → Prop) → Prop} {ds : List D} {k : D → Prop} (h : W.a3 w ds k) : ∃ a b c, ds = [a, b, c] ∧ w a b c k := by
  unfold W.a3 at h
  split at h
  · exact ⟨_, _, _, rfl, h⟩
  · exact h.elim
theorem a4_e {w : D → D → D → D → (D → Prop) → Prop} {ds : List D} {k : D → Prop} (h : W.a4 w ds k) : ∃ a b c d, ds = [a, b, c, d] ∧ w a b c d k := by
  unfold W.a4 at h
  split at h
  · exact ⟨_, _, _, _, rfl, h⟩
  · exact h.elim
section
variable {M : Md} {O : List Addr} {r : List Sl} {k : D → Prop} {tl : TA} {Ex : XK}
theorem e_callW {S : Sg} {w : S.G → List D → (D → Prop) → Prop} (g : S.G) (h0 : M.F0 = S.F0 g) (hI : M.I = S.I g) (h : DA M tl O r fun ds => w g ds k) : De M (tCall (SpW M.K S w) [] Ex tl) O r k := fun σ H Q R z => by
  refine h σ H _ R fun vs H1 ds R1 e1 p1 q => ?_
  rw [List.append_nil]
  refine ⟨g, ds, nf M O, k, p1, fun a x => .inl (M.f0 a (by rw [h0]; exact x)), nf_tr R1, by rw [← hI]; exact R1.inv, q, fun v H2 d s i p po => ?_⟩
  have s' : Sm M.F0 H1 H2 := by rw [h0]; exact s
  exact z v H2 d (R1.step s' (by rw [hI]; exact i)) (e1.trans s') p po
theorem e_callP {w : List D → (D → Prop) → Prop} (h : DA M tl O r fun ds => w ds k) : De M (tCall (SpP0 M.K w) [] Ex tl) O r k := fun σ H Q R z => by
  refine h σ H _ R fun vs H1 ds R1 e1 p1 q => ?_
  rw [List.append_nil]
  exact ⟨(), ds, nf M O, k, p1, fun a x => x.elim, nf_tr R1, trivial, q, fun v H2 d s i p po => z v H2 d (R1.grow s) (e1.trans (sm_0 s)) p po⟩
theorem e_callD {w : List D → (D → Prop) → Prop} (g : Addr × Addr) (h0 : M.F0 = dealS.F0 g) (hI : M.I = dealS.I g) {i : Nat} (hi : r[i]? = some (.d (.ref g.1))) (h : DA M tl O r fun ds => w ds k) : De M (tCall (SpDl M.K w) [] Ex (tCons (tVar i) tl)) O r k :=
  e_callW (S := dealS) g h0 hI (da_cons (de_var hi (h.imp fun ds q => ⟨ds, rfl, q⟩)))
variable {t1 t2 t3 t4 : TE}
theorem e_callP1 {w : D → (D → Prop) → Prop} (h : De M t1 O r fun a => w a k) : De M (tCall (SpP0 M.K (W.a1 w)) [] Ex (tCons t1 tNil)) O r k := e_callP (da_cons (h.imp fun a h => da_nil h))
theorem e_callP2 {w : D → D → (D → Prop) → Prop} (h : De M t1 O r fun a => De M t2 O r fun b => w a b k) : De M (tCall (SpP0 M.K (W.a2 w)) [] Ex (tCons t1 (tCons t2 tNil))) O r k := e_callP (da_cons (h.imp fun a h => da_cons (h.imp fun b h => da_nil h)))
theorem e_callP3 {w : D → D → D → (D → Prop) → Prop} (h : De M t1 O r fun a => De M t2 O r fun b => De M t3 O r fun c => w a b c k) : De M (tCall (SpP0 M.K (W.a3 w)) [] Ex (tCons t1 (tCons t2 (tCons t3 tNil)))) O r k := e_callP (da_cons (h.imp fun a h => da_cons (h.imp fun b h => da_cons (h.imp fun c h => da_nil h))))
theorem e_callP4 {w : D → D → D → D → (D → Prop) → Prop} (h : De M t1 O r fun a => De M t2 O r fun b => De M t3 O r fun c => De M t4 O r fun d => w a b c d k) : De M (tCall (SpP0 M.K (W.a4 w)) [] Ex (tCons t1 (tCons t2 (tCons t3 (tCons t4 tNil))))) O r k := e_callP (da_cons (h.imp fun a h => da_cons (h.imp fun b h => da_cons (h.imp fun c h => da_cons (h.imp fun d h => da_nil h)))))
section
variable {i : Nat} (g : Addr × Addr) (h0 : M.F0 = dealS.F0 g) (hI : M.I = dealS.I g) (hi : r[i]? = some (.d (.ref g.1)))
include h0 hI hi
theorem e_callD1 {w : D → (D → Prop) → Prop} (h : De M t1 O r fun a => w a k) : De M (tCall (SpDl M.K (W.a1 w)) [] Ex (tCons (tVar i) (tCons t1 tNil))) O r k := e_callD g h0 hI hi (da_cons (h.imp fun a h => da_nil h))
theorem e_callD2 {w : D → D → (D → Prop) → Prop} (h : De M t1 O r fun a => De M t2 O r fun b => w a b k) : De M (tCall (SpDl M.K (W.a2 w)) [] Ex (tCons (tVar i) (tCons t1 (tCons t2 tNil)))) O r k := e_callD g h0 hI hi (da_cons (h.imp fun a h => da_cons (h.imp fun b h => da_nil h)))
end
end
section
variable {P : Program} {w : World} {K : PySem.W.Frag} {mg : Str → Option Value} {base : Heap}
/-- a def by its body -/
theorem fn_w {x qual : Str} {st : Stmt} {f : Addr} {fd : FuncData} {N ps : List Str} {k : Nat} {S : Sg} {W : S.G → List D → (D → Prop) → Prop} (F : Fun K x qual st f fd) (T : FnScope N ps (defScope st))
    (len : ∀ g ds k, W g ds k → ds.length = ps.length)
    (body : ∀ (cdv : Value) (A : Around) (outer : List Env) (s : Shared) (H : Hp) (E : XK) (g : S.G) (ds : List D) (kr : D → Prop) (F1 : No) (f0 : ∀ a, S.F0 g a → F1 a) (tr : ∀ a, F1 a → H a ≠ none), Room k (A.deeper (envOfC qual (defScope st) s.heap.objs.size f cdv)) → W g ds kr →
      ∃ t, PSs (cxOf CX0 P w K mg base N qual (defScope st) f cdv A outer s H E).nox (defBody st) t ∧ DS (mdOf K S g H F1 f0 tr) t [] (startR N.length ds) { nx := fun _ _ => kr .non, rt := kr }) : FnOk P w K mg base CX0 (k + 1) f fd ps (SpW K S W) := by
  refine F.ok T (fun vs H Q E h => ?_) (fun cdv A outer s H vs Q E hr h => ?_)
  · obtain ⟨g, ds, F1, kr, p, _, _, _, q, _⟩ := h
    rw [← p.length, len g ds kr q]
  · obtain ⟨g, ds, F1, kr, p, f0, tr, i, q, z⟩ := h
    obtain ⟨t, ht, hd⟩ := body cdv A outer s H E g ds kr F1 f0 tr hr q
    refine ⟨t, ht, hd _ H _ (start_rp (M := mdOf K S g H F1 f0 tr) p i) ⟨fun O r σ H1 R a q => z .non H1 .non R.sm R.inv rfl q, fun v H1 d s1 i1 p1 q => z v H1 d s1 i1 p1 q, fun _ _ _ _ _ _ q => q.elim, fun _ _ _ _ _ _ q => q.elim⟩⟩
end
end Dw

/-! Wp4: built-ins over trees. -/
namespace Dw
open PySem PySem.Spec PyProof.Rows L2
section
variable {X : Cx} {K : PySem.W.Frag}
theorem RepSL.one {N : No} {H : Hp} {x : D} {vs : List V} (h : RepSL K N H [x] vs) : ∃ v, vs = [v] ∧ RepS K N H x v := by
  obtain ⟨v, r, e, h1, h2⟩ := h
  obtain rfl := (show r = [] from h2)
  exact ⟨v, e, h1⟩
theorem RepSL.two {N : No} {H : Hp} {x y : D} {vs : List V} (h : RepSL K N H [x, y] vs) : ∃ v u, vs = [v, u] ∧ RepS K N H x v ∧ RepS K N H y u := by
  obtain ⟨v, r, rfl, h1, h2⟩ := h
  obtain ⟨u, rfl, h3⟩ := RepSL.one h2
  exact ⟨v, u, rfl, h1, h3⟩
theorem RepS.seq {N : No} {H : Hp} {x : D} {xs : List D} {v : V} (c : x = .lst xs ∨ x = .tup xs) (h : RepS K N H x v) : ∃ a vs, v = .ref a ∧ (SqL K H a vs ∨ SqT K H a vs) ∧ RepL K N H xs vs := by
  rcases c with rfl | rfl
  · obtain ⟨a, vs, e, h1, h2⟩ := h.lst
    exact ⟨a, vs, e, .inl h1, h2⟩
  · obtain ⟨a, vs, e, h1, h2⟩ := h.tup
    exact ⟨a, vs, e, .inr h1, h2⟩
/-! ### len -/
def W.len : List D → (D → Prop) → Prop
  | [.lst xs], k => k (.int xs.length)
  | [.tup xs], k => k (.int xs.length)
  | [.str s], k => s.length ≤ sizeLine ∧ k (.int s.length)
  | _, _ => False
def rLenW (K : PySem.W.Frag) : List V → Hp → VK → Prop := fun xs H Q => (∃ p ys, xs = [.ref p] ∧ (SqL K H p ys ∨ SqT K H p ys) ∧ Q (.int ys.length) H) ∨ ∃ z, xs = [.str z] ∧ z.length ≤ sizeLine ∧ Q (.int z.length) H
theorem call_lenW : CallR X (.builtin "len") (rLenW X.K) := CallR.or call_len_seq call_len_str
theorem l_len : LiftL K (rLenW K) W.len := fun N H ds vs k Q hN p w z => by
  unfold W.len at w
  split at w
  · obtain ⟨v, rfl, h⟩ := p.one
    obtain ⟨a, vs, rfl, h1, h2⟩ := h.lst
    exact .inl ⟨a, vs, rfl, .inl h1, by rw [← h2.length]; exact z.here (d := .int _) rfl w⟩
  · obtain ⟨v, rfl, h⟩ := p.one
    obtain ⟨a, vs, rfl, h1, h2⟩ := h.tup
    exact .inl ⟨a, vs, rfl, .inr h1, by rw [← h2.length]; exact z.here (d := .int _) rfl w⟩
  · obtain ⟨v, rfl, h⟩ := p.one
    obtain rfl := h.str
    exact .inr ⟨_, rfl, w.1, z.here (d := .int _) rfl w.2⟩
  · exact w.elim
/-! ### sum, any, all of a list -/
def W.sum (ds : List D) (k : D → Prop) : Prop := ∃ ns : List Int, ds = [.lst (ns.map D.int)] ∧ k (.int ns.sum)
theorem l_sum : LiftL K (rSum K) W.sum := fun N H ds vs k Q hN p w z => by
  obtain ⟨ns, rfl, q⟩ := w
  obtain ⟨v, rfl, h⟩ := p.one
  obtain ⟨a, vs, rfl, h1, h2⟩ := h.lst
  rw [repL_ints h2] at h1
  exact ⟨a, ns, rfl, h1, z.here (d := .int _) rfl q⟩
def W.any (ds : List D) (k : D → Prop) : Prop := ∃ bs : List Bool, ds = [.lst (bs.map D.bl)] ∧ k (.bl (bs.any id))
def W.all (ds : List D) (k : D → Prop) : Prop := ∃ bs : List Bool, ds = [.lst (bs.map D.bl)] ∧ k (.bl (bs.all id))
theorem l_all : LiftL K (rAll K) W.all := fun N H ds vs k Q hN p w z => by
  obtain ⟨ns, rfl, q⟩ := w
  obtain ⟨v, rfl, h⟩ := p.one
  obtain ⟨a, vs, rfl, h1, h2⟩ := h.lst
  rw [repL_bls h2] at h1
  exact ⟨a, ns, rfl, h1, z.here (d := .bl _) rfl q⟩
/-! ### max, min of two -/
def W.max2 : List D → (D → Prop) → Prop
  | [.int i, .int j], k => k (.int (if j > i then j else i))
  | _, _ => False
theorem l_max2 : LiftL K (fun xs H Q => ∃ i j, xs = [V.int i, V.int j] ∧ Q (.int (if j > i then j else i)) H) W.max2 := fun N H ds vs k Q hN p w z => by
  unfold W.max2 at w
  split at w
  · obtain ⟨v, u, rfl, h1, h2⟩ := p.two
    obtain rfl := h1.int
    obtain rfl := h2.int
    exact ⟨_, _, rfl, z.here (d := .int _) rfl w⟩
  · exact w.elim
/-! ### list, tuple -/
def W.tupleOf : List D → (D → Prop) → Prop
  | [.lst xs], k => k (.tup xs)
  | [.tup xs], k => k (.tup xs)
  | _, _ => False
theorem l_tupleOf : LiftL K (fun xs H Q => ∃ p ys, xs = [.ref p] ∧ ((SqL K H p ys ∧ ∀ l, H l = none → Q (.ref l) (upd H l (.tup ys))) ∨ (SqT K H p ys ∧ Q (.ref p) H))) W.tupleOf := fun N H ds vs k Q hN p w z => by
  unfold W.tupleOf at w
  split at w
  · obtain ⟨v, rfl, h⟩ := p.one
    obtain ⟨a, vs, rfl, h1, h2⟩ := h.lst
    exact ⟨a, vs, rfl, .inl ⟨h1, fun l hl => z.newT hN hl h2 w⟩⟩
  · obtain ⟨v, rfl, h⟩ := p.one
    have hr := h.rep fun _ e => nomatch e
    obtain ⟨a, vs, rfl, h1, h2⟩ := h.tup
    exact ⟨a, vs, rfl, .inr ⟨h1, z.here hr w⟩⟩
  · exact w.elim
/-! ### int, bool -/
/-! ### sorted -/
def W.sortI (ds : List D) (k : D → Prop) : Prop := ∃ ns : List Int, ds = [.lst (ns.map D.int)] ∧ ∀ ms : List Int, ms.Perm ns → ms.Pairwise (· ≤ ·) → k (.lst (ms.map D.int))
def W.sortS (ds : List D) (k : D → Prop) : Prop := ∃ ns : List Str, ds = [.lst (ns.map D.str)] ∧ ns.length < 64 ∧ ∀ ms : List Str, ms.Perm ns → sortedS ms = true → k (.lst (ms.map D.str))
def rSortedW (K : PySem.W.Frag) : List V → Hp → VK → Prop := fun xs H Q => rSortedI K xs H Q ∨ rSortedS K xs H Q
theorem cr_sortedW : CallR X (.builtin "sorted") (rSortedW X.K) := CallR.or cr_sortedI cr_sortedS
def W.sorted (ds : List D) (k : D → Prop) : Prop := W.sortI ds k ∨ W.sortS ds k
theorem l_sorted : LiftL K (rSortedW K) W.sorted := fun N H ds vs k Q hN p w z => by
  rcases w with ⟨ns, rfl, q⟩ | ⟨ns, rfl, hl, q⟩
  · obtain ⟨v, rfl, h⟩ := p.one
    obtain ⟨a, vs, rfl, h1, h2⟩ := h.lst
    rw [repL_ints h2] at h1
    exact .inl ⟨a, ns, rfl, h1, fun ms p m1 m2 hp => z.newL hN hp (repL_of_ints ms) (q ms m1 m2)⟩
  · obtain ⟨v, rfl, h⟩ := p.one
    obtain ⟨a, vs, rfl, h1, h2⟩ := h.lst
    rw [repL_strs h2] at h1
    exact .inr ⟨a, ns, rfl, h1, hl, fun ms p m1 m2 hp => z.newL hN hp (repL_of_strs ms) (q ms m1 m2)⟩
/-! ### repr -/
def W.repr (ds : List D) (k : D → Prop) : Prop := ∃ x, ds = [x] ∧ (∃ n B, D.ok n B x ∧ n ≤ 60 ∧ B ≤ sizeLine) ∧ k (.str x.shown)
/-! ### texts: join, split -/
end
section
variable {M : Md} {O : List Addr} {r : List Sl} {σ : L2.St} {H : Hp} {k : D → Prop} {te ta tb : TE} {tl : TA} {E : Kn}
def W.truth : D → (Bool → Prop) → Prop
  | .bl b, k => k b
  | _, _ => False
theorem t_test {kt : Bool → Prop} (h : De M te O r fun x => W.truth x kt) : DT M (tTest te) O r kt := dt_test (h.imp fun x w => by
  cases x <;> first
    | exact (show False from w).elim
    | exact ⟨_, rfl, w⟩)
theorem t_B {kt : Bool → Prop} (h : De M te O r fun x => W.truth x kt) : DT M (tB te) O r kt := dt_B (h.imp fun x w => by
  cases x <;> first
    | exact (show False from w).elim
    | exact ⟨_, rfl, w⟩)
theorem t_and {kt : Bool → Prop} {tt tu : TT} (h : DT M tt O r fun b => W.ite b (DT M tu O r kt) (kt false)) : DT M (tAnd tt tu) O r kt := dt_and (h.imp fun b w => ite_split w id id)
theorem t_or {kt : Bool → Prop} {tt tu : TT} (h : DT M tt O r fun b => W.ite b (kt true) (DT M tu O r kt)) : DT M (tOr tt tu) O r kt := dt_or (h.imp fun b w => ite_split w id id)
theorem e_if {tt : TT} (h : DT M tt O r fun b => W.ite b (De M ta O r k) (De M tb O r k)) : De M (tIf tt ta tb) O r k := de_if (h.imp fun b w => ite_split w id id)
theorem e_andV (h : De M ta O r fun x => W.truth x fun b => W.ite b (De M tb O r k) (k (.bl false))) : De M (tAndV ta tb) O r k := de_andV (h.imp fun x w => by
  cases x <;> first
    | exact (show False from w).elim
    | exact ⟨_, rfl, ite_split w id id⟩)
theorem W.ite.imp {b : Bool} {p q p' q' : Prop} (h : W.ite b p q) (f : p → p') (g : q → q') : W.ite b p' q' := ⟨fun e => f (h.1 e), fun e => g (h.2 e)⟩
def W.part : D → (Option Int → Prop) → Prop
  | .int i, k => k (some i)
  | _, _ => False
theorem o_some {k : Option Int → Prop} (h : De M te O r fun x => W.part x k) : DO M (tPart te) O r k := do_some (h.imp fun x w => by
  cases x <;> first
    | exact (show False from w).elim
    | exact ⟨_, rfl, w⟩)
theorem DO.imp {to : TO} {k k' : Option Int → Prop} (h : DO M to O r k) (i : ∀ o, k o → k' o) : DO M to O r k' := fun σ H Q R z => h σ H Q R fun o H1 R1 e1 q => z o H1 R1 e1 (i o q)
theorem e_lst (h : DA M tl O r fun ds => ds.length ≤ sizeLine ∧ k (.lst ds)) : De M (tLst tl) O r k := de_lst h
theorem e_tup (h : DA M tl O r fun ds => ds.length ≤ sizeLine ∧ k (.tup ds)) : De M (tTup tl) O r k := de_tup h
/-! ### an own list -/
theorem s_append {i : Nat} {p : Addr} {xs : List D} {ts : TS} (h : r[i]? = some (.mu p xs)) (q : De M te O r fun d => xs.length < sizeLine ∧ DS M ts O (r.set i (.mu p (xs ++ [d]))) E) :
    DS M (tSeq (tDrop (tBM M.K "list" rAppend (tVar i) (tCons te tNil))) ts) O r E := ds_seq fun σ H Z R z => by
  obtain ⟨e1, hp, vs, h1, h2⟩ := R.slot i _ h
  refine ⟨.ref p, e1, .inl ⟨rfl, vs, .inl (.inl h1)⟩, ?_⟩
  refine q σ H _ R fun v H1 d R1 e2 p1 ⟨hz, q1⟩ => ?_
  obtain ⟨_, _, vs', h1', h2'⟩ := R1.slot i _ h
  refine ⟨p, vs', v, rfl, rfl, h1', by rw [← h2'.length]; exact hz, ?_⟩
  exact z.nx O _ σ _ (R1.write h (h2'.append (.one p1))) (stp_write R1 h e2) q1
theorem s_own {i : Nat} {ts : TS} (h : DA M tl O r fun ds => ds.length ≤ sizeLine ∧ ∀ p, p ∉ O → DS M ts (p :: O) (r.set i (.mu p ds)) E) : DS M (tSeq (tAsg (tLst tl) (gName i)) ts) O r E := ds_seq (ds_own h)
theorem s_asg {i : Nat} {ts : TS} (h : De M te O r fun d => DS M ts O (r.set i (.d d)) E) : DS M (tSeq (tAsg te (gName i)) ts) O r E := ds_seq (ds_asg h)
theorem s_ret (h : De M te O r E.rt) : DS M (tRet te) O r E := ds_ret h
/-- name = an own list's top, taken off; as the rest of a list that is put on another -/
theorem s_freeze (i : Nat) {p : Addr} {xs : List D} {ts : TS} (h : r[i]? = some (.mu p xs)) (q : DS M ts (O.erase p) (r.set i (.d (.lst xs))) E) : DS M ts O r E := ds_freeze i h q
/-! ### rows of values, some of them lists of one's own -/
def SlsR (M : Md) (O : List Addr) (H : Hp) : List Sl → List V → Prop
  | [], vs => vs = []
  | s :: ss, vs => ∃ v r, vs = v :: r ∧ SlR M O H (some (some v)) s ∧ SlsR M O H ss r
end
end Dw

/-! Wp5: several names at once, lists of one's own among them; draws. -/
namespace Dw
open PySem PySem.Spec PyProof.Rows L2
theorem ds_last {M : Md} {O : List Addr} {r : List Sl} {ts : TS} {E : Kn} (h : DS M (tSeq ts tNext) O r E) : DS M ts O r E := h
def muA : List Sl → List Addr
  | [] => []
  | .mu p _ :: ss => p :: muA ss
  | .un :: ss => muA ss
  | .d _ :: ss => muA ss
/-- a row of values, some of them new lists of one's own -/
def Do (M : Md) (ta : TA) (O : List Addr) (r : List Sl) (k : List Addr → List Sl → Prop) : Prop :=
  ∀ σ H (Q : List V → Hp → Prop), Rp M O r σ H → (∀ vs H' O' ss, Rp M O' r σ H' → Sm M.F0 H H' → (∀ p ∈ O', p ∈ O ∨ H p = none) → (∀ p ∈ O, p ∈ O') → SlsR M O' H' ss vs → (muA ss).Nodup → (∀ p ∈ muA ss, p ∈ O' ∧ p ∉ O) → k O' ss → Q vs H') → ta σ H Q
theorem SlR.up {M : Md} {O O' : List Addr} {H H' : Hp} {v : V} {s : Sl} (e : Sm M.F0 H H') (h1 : ∀ p ∈ O', p ∈ O ∨ H p = none) (h2 : ∀ p ∈ O, p ∈ O') (nf0 : ∀ p ∈ O, ¬ M.F0 p) (h : SlR M O H (some (some v)) s) : SlR M O' H' (some (some v)) s := by
  have g : ∀ a, nf M O' a → nf M O a ∨ H a = none := fun a ha => ha.elim (fun z => .inl (.inl z)) fun z => (h1 a z).imp .inr id
  have w : ∀ a, M.F0 a → nf M O' a := fun a z => .inl (M.f0 a z)
  cases s with
  | un => trivial
  | d x =>
    obtain ⟨u, e1, q⟩ := h
    exact ⟨u, e1, (q.gen g).mono (e.wide w)⟩
  | mu p xs =>
    obtain ⟨e1, hp, vs, q1, q2⟩ := h
    exact ⟨e1, h2 p hp, vs, e p _ (nf0 p hp) q1, (q2.gen g).mono (e.wide w)⟩
theorem Rp.nF {M : Md} {O : List Addr} {r : List Sl} {σ : L2.St} {H : Hp} (R : Rp M O r σ H) : ∀ p ∈ O, ¬ M.F0 p := fun p hp z => M.tr p (M.f0 p z) (R.own p hp).1
section
variable {M : Md} {O : List Addr} {r : List Sl} {k : List Addr → List Sl → Prop} {te : TE} {ta tl : TA} {E : Kn}
theorem do_nil (h : k O []) : Do M tNil O r k := fun σ H Q R z => z [] H O [] R .refl (fun _ h => .inl h) (fun _ h => h) rfl List.nodup_nil (fun _ h => nomatch h) h
theorem do_d (h : De M te O r fun d => Do M tl O r fun O' ss => k O' (.d d :: ss)) : Do M (tCons te tl) O r k := fun σ H Q R z => by
  refine h σ H _ R fun v H1 d R1 e1 p1 h1 => h1 σ H1 _ R1 fun vs H2 O2 ss R2 e2 a1 a2 b n n2 q => ?_
  refine z (v :: vs) H2 O2 (.d d :: ss) R2 (e1.trans e2) (fun p hp => ?_) a2 ⟨v, vs, rfl, SlR.up (s := .d d) e2 a1 a2 R1.nF ⟨v, rfl, p1⟩, b⟩ n n2 q
  rcases a1 p hp with y | y
  · exact .inl y
  · right
    cases eh : H p with
    | none => rfl
    | some o =>
      by_cases f : M.F0 p
      · exact absurd y (M.tk H1 p R1.inv f)
      · rw [e1 p o f eh] at y
        cases y
theorem do_new {xs : List D} {vs0 : List V} {p : Addr} {σ : L2.St} {H H1 : Hp} {Q : List V → Hp → Prop} (R : Rp M O r σ H) (R1 : Rp M O r σ H1) (e1 : Sm M.F0 H H1) (hp : H1 p = none) (h2 : RepL M.K (nf M O) H1 xs vs0)
    (z : ∀ vs H' O' ss, Rp M O' r σ H' → Sm M.F0 H H' → (∀ p ∈ O', p ∈ O ∨ H p = none) → (∀ p ∈ O, p ∈ O') → SlsR M O' H' ss vs → (muA ss).Nodup → (∀ p ∈ muA ss, p ∈ O' ∧ p ∉ O) → k O' ss → Q vs H')
    (q : Do M tl (p :: O) r fun O' ss => k O' (.mu p xs :: ss)) : tl σ (upd H1 p (.lst vs0)) fun vs H2 => Q (.ref p :: vs) H2 := by
  have pO : p ∉ O := fun y => (R1.own p y).2 hp
  have Ra := R1.own1 (o := .lst vs0) hp
  refine q σ _ _ Ra fun vs H2 O2 ss R2 e2 a1 a2 b n n2 q => ?_
  have h0 : H p = none := by
    cases eh : H p with
    | none => rfl
    | some o =>
      by_cases f : M.F0 p
      · exact absurd hp (M.tk H1 p R1.inv f)
      · rw [e1 p o f eh] at hp
        cases hp
  have up : ∀ a, (upd H1 p (.lst vs0)) a = none → H a = none := fun a ha => by
    by_cases y : a = p
    · rw [y]
      exact h0
    · rw [upd_ne y] at ha
      cases eh : H a with
      | none => rfl
      | some o =>
        by_cases f : M.F0 a
        · exact absurd ha (M.tk H1 a R1.inv f)
        · rw [e1 a o f eh] at ha
          cases ha
  refine z (.ref p :: vs) H2 O2 (.mu p xs :: ss) R2 ((e1.trans (sm_0 (sm_new hp))).trans e2) (fun a ha => ?_) (fun a ha => a2 a (List.mem_cons_of_mem _ ha)) ⟨.ref p, vs, rfl, SlR.up (s := .mu p xs) e2 a1 a2 Ra.nF ⟨rfl, List.mem_cons_self, vs0, upd_same, h2.own1 hp⟩, b⟩ (List.nodup_cons.mpr ⟨fun y => ?_, n⟩) (fun a ha => ?_) q
  · rcases a1 a ha with y | y
    · rcases List.mem_cons.mp y with rfl | y
      · exact .inr h0
      · exact .inl y
    · exact .inr (up a y)
  · exact (n2 p y).2 List.mem_cons_self
  · rcases List.mem_cons.mp (show a ∈ p :: muA ss from ha) with rfl | y
    · exact ⟨a2 a List.mem_cons_self, pO⟩
    · exact ⟨(n2 a y).1, fun w => (n2 a y).2 (List.mem_cons_of_mem _ w)⟩
theorem do_l (h : DA M ta O r fun ds => ds.length ≤ sizeLine ∧ ∀ p, p ∉ O → Do M tl (p :: O) r fun O' ss => k O' (.mu p ds :: ss)) : Do M (tCons (tLst ta) tl) O r k := fun σ H Q R z => by
  refine h σ H _ R fun vs0 H1 ds R1 e1 p1 ⟨hz, h1⟩ => ⟨by rw [← p1.length]; exact hz, fun p hp => ?_⟩
  exact do_new R R1 e1 hp p1 z (h1 p fun y => (R1.own p y).2 hp)
def setAll (r : List Sl) : List Nat → List Sl → List Sl
  | i :: is, s :: ss => setAll (r.set i s) is ss
  | _, _ => r
theorem noMu.setD {r : List Sl} {p : Addr} {i : Nat} {s : Sl} (h : noMu r p) (n : ∀ xs, s ≠ .mu p xs) : noMu (r.set i s) p := fun j ys hj => by
  by_cases e : i = j
  · subst e
    by_cases hi : i < r.length
    · rw [List.getElem?_set_self hi] at hj
      exact n ys (Option.some.inj hj)
    · rw [List.getElem?_eq_none (by rw [List.length_set]; omega)] at hj
      cases hj
  · rw [List.getElem?_set_ne e] at hj
    exact h j ys hj
/-- the slots hold the row -/
def stAll (σ : L2.St) : List Nat → List V → L2.St
  | i :: is, v :: vs => stAll (σ.set i (some v)) is vs
  | _, _ => σ
theorem rp_all {O : List Addr} {H : Hp} : ∀ (is : List Nat) (ss : List Sl) (vs : List V) (r : List Sl) (σ : L2.St), Rp M O r σ H → SlsR M O H ss vs → (muA ss).Nodup → (∀ p ∈ muA ss, noMu r p) → Rp M O (setAll r is ss) (stAll σ is vs) H
  | [], ss, vs, r, σ, R, _, _, _ => by
    cases ss <;> cases vs <;> exact R
  | i :: is, [], vs, r, σ, R, h, _, _ => by
    obtain rfl := (show vs = [] from h)
    exact R
  | i :: is, s :: ss, vs, r, σ, R, h, n, n2 => by
    obtain ⟨v, t, rfl, h1, h2⟩ := h
    show Rp M O (setAll (r.set i s) is ss) (stAll (σ.set i (some v)) is t) H
    refine rp_all is ss t _ _ (R.set h1 fun p xs e j ys _ hy => ?_) h2 ?_ fun p hp => ?_
    · subst e
      exact n2 p List.mem_cons_self j ys hy
    · cases s with
      | mu p xs => exact (List.nodup_cons.mp n).2
      | un => exact n
      | d x => exact n
    · cases s with
      | mu q xs =>
        refine (n2 p (List.mem_cons_of_mem _ hp)).setD fun ys e => ?_
        cases e
        exact (List.nodup_cons.mp n).1 hp
      | un => exact (n2 p hp).setD fun ys e => nomatch e
      | d x => exact (n2 p hp).setD fun ys e => nomatch e
theorem do_stp {σ : L2.St} {H H' : Hp} {O' : List Addr} (R : Rp M O' r σ H') (e : Sm M.F0 H H') (h1 : ∀ p ∈ O', p ∈ O ∨ H p = none) : Stp M O H O' H' := ⟨sm_st e, h1, fun a h => by
  by_cases f : M.F0 a
  · exact M.tk H' a R.inv f
  · cases eh : H a with
    | none => exact absurd eh h
    | some o =>
      rw [e a o f eh]
      exact fun z => nomatch z⟩
theorem s_par {i j : Nat} {ts : TS} (h : Do M ta O r fun O' ss => ss.length = 2 ∧ DS M ts O' (setAll r [i, j] ss) E) : DS M (tSeq (tPar i j ta) ts) O r E := ds_seq fun σ H Z R z => by
  refine h σ H _ R fun vs H1 O1 ss R1 e1 a1 a2 b n n2 ⟨hl, q⟩ => ?_
  match ss, hl with
  | [s1, s2], _ =>
    obtain ⟨v, t, rfl, b1, b2⟩ := id b
    obtain ⟨u, t2, rfl, b3, b4⟩ := b2
    obtain rfl := (show t2 = [] from b4)
    exact ⟨v, u, rfl, z.nx O1 _ _ H1 (rp_all [i, j] [s1, s2] [v, u] r σ R1 b n fun p hp => noMu.out R fun w => (n2 p hp).2 w) (do_stp R1 e1 a1) q⟩
def gNs : List Nat → TGs
  | [] => gNil
  | i :: is => gCons (gName i) (gNs is)
theorem gNs_run : ∀ (is : List Nat) (vs : List V) (σ : L2.St) (H : Hp) (Q : L2.St → Hp → Prop), is.length = vs.length → Q (stAll σ is vs) H → gNs is vs σ H Q
  | [], [], σ, H, Q, _, q => ⟨rfl, q⟩
  | i :: is, v :: vs, σ, H, Q, hl, q => ⟨v, vs, rfl, gNs_run is vs _ H Q (by simpa using hl) q⟩
theorem SlsR.len {M : Md} {O : List Addr} {H : Hp} : ∀ {ss : List Sl} {vs : List V}, SlsR M O H ss vs → ss.length = vs.length
  | [], _, h => by
    obtain rfl := (show _ = [] from h)
    rfl
  | s :: ss, _, ⟨v, r, e, _, h⟩ => by
    subst e
    rw [List.length_cons, List.length_cons, SlsR.len h]
theorem SlsR.grow {M : Md} {O : List Addr} {H H' : Hp} (e : Sm M.F0 H H') (nF : ∀ p ∈ O, ¬ M.F0 p) : ∀ {ss : List Sl} {vs : List V}, SlsR M O H ss vs → SlsR M O H' ss vs
  | [], _, h => h
  | s :: ss, _, ⟨v, r, e1, h1, h2⟩ => ⟨v, r, e1, h1.up e (fun _ h => .inl h) (fun _ h => h) nF, SlsR.grow e nF h2⟩
/-- a, b, .. = e, f, .. by way of a tuple -/
theorem s_tup (is : List Nat) {n : Nat} {ts : TS} (hn : is.length = n) (hs : n ≤ 60) (h : Do M ta O r fun O' ss => ss.length = is.length ∧ DS M ts O' (setAll r is ss) E) : DS M (tSeq (tAsg (tTup ta) (gTup M.K n (gNs is))) ts) O r E := ds_seq fun σ H Z R z => by
  refine h σ H _ R fun vs H1 O1 ss R1 e1 a1 a2 b nn n2 ⟨hl, q⟩ => ?_
  have lv := b.len
  refine ⟨Nat.le_trans (by omega : vs.length ≤ 60) (by decide), fun t ht => ?_⟩
  have R2 := R1.grow (sm_new (o := .tup vs) ht)
  refine ⟨t, vs, rfl, .inl (.inl upd_same), by omega, gNs_run is vs σ _ _ (by omega) ?_⟩
  exact z.nx O1 _ _ _ (rp_all is ss vs r σ R2 (b.grow (sm_0 (sm_new ht)) R1.nF) nn fun p hp => noMu.out R fun w => (n2 p hp).2 w) (do_stp R2 (e1.trans (sm_0 (sm_new ht))) a1) q
/-- the top of an own list -/
def W.top (xs : List D) (k : D → List D → Prop) : Prop := ∃ ys x, xs = ys ++ [x] ∧ k x ys
end
/-! ### draws -/
def W.draw : D → (D → Prop) → Prop
  | .int n, k => (0 < n ∧ n < 1073741824) ∧ ∀ m : Int, 0 ≤ m → m < n → k (.int m)
  | _, _ => False
theorem draw_w {K : PySem.W.Frag} {vs : List V} {H : Hp} {Q : VK} {E : XK} (h : SpDl K (W.a1 W.draw) vs H Q E) : spDraw K vs H Q E := by
  obtain ⟨g, ds, F, k, p, f0, tr, i, ⟨r, rfl, w⟩, z⟩ := h
  obtain ⟨a, rfl, w⟩ := a1_e w
  obtain ⟨n, rfl⟩ : ∃ n, a = .int n := by
    cases a <;> first
      | exact (show False from w).elim
      | exact ⟨_, rfl⟩
  exact ⟨g, _, F, p, f0, tr, i, ⟨n, rfl, w.1.1, w.1.2⟩, fun v H' d s i' po ⟨n2, m, e1, e2, m0, m1⟩ => by
    cases e1
    subst e2
    exact z v H' (.int m) s i' po (w.2 m m0 m1)⟩
end Dw
namespace Dw
open PySem PySem.Spec PyProof.Rows L2
theorem lenLe {ds : List D} (n : Nat) (h : n ≤ sizeLine) (e : ds.length = n := by rfl) : ds.length ≤ sizeLine := by rw [e]; exact h
theorem _root_.L2.Room.units65 {k : Nat} {A : Around} (r : L2.Room k A) : A.units + 65 < cLine := by have := r.un; omega
theorem truth_imp {x : D} {k k' : Bool → Prop} (h : W.truth x k) (i : ∀ b, k b → k' b) : W.truth x k' := by
  cases x <;> first
    | exact (show False from h).elim
    | exact i _ h
section
variable {M : Md} {O : List Addr} {r : List Sl} {te : TE} {ts : TS} {E : Kn}
end
end Dw

/-! Wq: short ways to what is asked. -/
namespace Dw
open PySem PySem.Spec PyProof.Rows L2
theorem q_eqI {a b : Int} {k : D → Prop} (h : k (.bl (decide (a = b)))) : W.eq (.int a) (.int b) k := .inl ⟨_, _, rfl, rfl, rfl, by
  have e : decide (V.int a = V.int b) = decide (a = b) := decide_eq_decide.mpr ⟨fun z => V.int.inj z, fun z => by rw [z]⟩
  rw [e]
  exact h⟩
theorem q_neS {a b : Str} {k : D → Prop} (h : k (.bl (!decide (a = b)))) : W.ne (.str a) (.str b) k := .inl ⟨_, _, rfl, rfl, rfl, by
  have e : decide (V.str a = V.str b) = decide (a = b) := decide_eq_decide.mpr ⟨fun z => V.str.inj z, fun z => by rw [z]⟩
  rw [e]
  exact h⟩
theorem q_neI {a b : Int} {k : D → Prop} (h : k (.bl (!decide (a = b)))) : W.ne (.int a) (.int b) k := .inl ⟨_, _, rfl, rfl, rfl, by
  have e : decide (V.int a = V.int b) = decide (a = b) := decide_eq_decide.mpr ⟨fun z => V.int.inj z, fun z => by rw [z]⟩
  rw [e]
  exact h⟩
theorem q_ii {g : Int → Int → D} {i j : Int} {k : D → Prop} (h : k (g i j)) : W.ii (fun _ _ => True) g (.int i) (.int j) k := ⟨i, j, rfl, rfl, trivial, h⟩
theorem q_iiC {C : Int → Int → Prop} {g : Int → Int → D} {i j : Int} {k : D → Prop} (c : C i j) (h : k (g i j)) : W.ii C g (.int i) (.int j) k := ⟨i, j, rfl, rfl, c, h⟩
theorem q_ixT {xs : List D} {i : Nat} {d : D} {k : D → Prop} (e : xs[i]? = some d) (h : k d) : W.ix (.tup xs) (.int (i : Int)) k := ⟨d, L2.atI_nat e, h⟩
theorem q_ixL {xs : List D} {i : Nat} {d : D} {k : D → Prop} (e : xs[i]? = some d) (h : k d) : W.ix (.lst xs) (.int (i : Int)) k := ⟨d, L2.atI_nat e, h⟩
theorem q_t {b : Bool} {k : Bool → Prop} (h : k b) : W.truth (.bl b) k := h
theorem q_dec {c : Prop} [Decidable c] {p q : Prop} (h1 : c → p) (h2 : ¬ c → q) : W.ite (decide c) p q := ⟨fun z => h1 (of_decide_eq_true z), fun z => h2 (of_decide_eq_false z)⟩
theorem q_T {p q : Prop} (h : p) : W.ite true p q := W.ite_t.mpr h
theorem q_F {p q : Prop} (h : q) : W.ite false p q := W.ite_f.mpr h
theorem q_join {α : Type} {m : (α → Prop) → Prop} {k : α → Prop} (h : m k) : W.join m k := h
end Dw

/-! Wp6: sorted lists of data of any kind, any number; sorted by length. -/
namespace Dw
open PySem PySem.Spec PyProof.Rows L2
open PySem.W (EachIs AllAlike Sortable dataLe dataLt alike KeyPure)
/-- sorted(x) of alike data: THE sorted list -/
def rSortedDt (K : PySem.W.Frag) : List V → Hp → VK → Prop := fun vs H Q => ∃ (a : Addr) (us : List V) (ds : List PyData), vs = [V.ref a] ∧ SqL K H a us ∧ DpAll K H us ds ∧ (us.length < 2 ∨ (AllAlike ds ∧ Sortable ds ∧ ∀ d ∈ ds, d.depth ≤ 60)) ∧
  ∀ p, H p = none → Q (.ref p) (upd H p (.lst (((us.zip ds).mergeSort (dataLe false fun b : V × PyData => b.2)).map (·.1))))
theorem DpAll.len {K : PySem.W.Frag} {H : Hp} : ∀ {us : List V} {ds : List PyData}, DpAll K H us ds → us.length = ds.length
  | [], [], _ => rfl
  | u :: us, d :: ds, h => by
    cases h with
    | cons h1 h2 => rw [List.length_cons, List.length_cons, DpAll.len h2]
theorem each_zip {X : Cx} {pins : List (Addr × Obj)} {σ : L2.St} {H : Hp} {s : Shared} (I : Inv X pins σ H s) : ∀ {us : List V} {ds : List PyData} {its : List Value}, DpAll X.K H us ds → Vals us its →
    EachIs (fun v (b : V × PyData) => RelV b.1 v) its (us.zip ds) ∧ EachIs (fun v (b : V × PyData) => ∃ as, Reads s.heap v b.2 as) its (us.zip ds)
  | [], [], _, _, r => by
    cases r
    exact ⟨.nil, .nil⟩
  | u :: us, d :: ds, _, h, r => by
    cases h with
    | cons h1 h2 =>
      cases r with
      | cons r1 r2 =>
        obtain ⟨a, b⟩ := each_zip I h2 r2
        exact ⟨.cons r1 a, .cons (Dp.reads I d u _ h1 r1) b⟩
theorem each_vals : ∀ {out : List Value} {bs : List (V × PyData)}, EachIs (fun v (b : V × PyData) => RelV b.1 v) out bs → Vals (bs.map (·.1)) out
  | _, _, .nil => .nil
  | _, _, .cons h t => .cons h (each_vals t)
theorem sort_short {α : Type} (le : α → α → Bool) : ∀ {l : List α}, l.length < 2 → l.mergeSort le = l
  | [], _ => List.mergeSort_nil
  | [x], _ => List.mergeSort_singleton x
  | x :: y :: l, h => by
    rw [List.length_cons, List.length_cons] at h
    omega
theorem perm_short {α : Type} : ∀ {its out : List α}, its.length < 2 → out.Perm its → out = its
  | [], out, _, pm => pm.eq_nil
  | [x], out, _, pm => List.perm_singleton.mp pm
  | x :: y :: l, _, h, _ => by
    rw [List.length_cons, List.length_cons] at h
    omega
theorem cr_sortedDt {X : Cx} (hu : X.A.units + 64 < cLine) : CallR X (.builtin "sorted") (rSortedDt X.K) := by
  intro pins s σ H vs us0 Q I r h
  obtain ⟨a, us, ds, rfl, hs, hd, hw, q⟩ := h
  obtain ⟨its, rv, hl, hz⟩ := I.list hs
  rw [Vals.ref1 r]
  rcases hw with hw | ⟨al, so, dp⟩
  · have hli : its.length < 2 := by rw [← rv.length]; exact hw
    refine Srt.sorted_any hl.isList (by rw [← rv.length]; exact hz) (fun h2 => absurd hli (by omega)) fun out pm => ?_
    obtain rfl := perm_short hli pm
    obtain ⟨ep, he'⟩ := PyProof.Rows.sortedAll_at s.heap out out.toArray
    have em : ((us.zip ds).mergeSort (dataLe false fun b : V × PyData => b.2)).map (·.1) = us := by
      have hlen := DpAll.len hd
      have e0 : (us.zip ds).mergeSort (dataLe false fun b : V × PyData => b.2) = us.zip ds := sort_short _ (by rw [List.length_zip]; omega)
      rw [e0]
      exact List.map_fst_zip (by omega)
    have qq := q (s.heap.objs.size + 1) (I.hok.fresh (Nat.le_succ _))
    rw [em] at qq
    exact ⟨.ref _, upd H (s.heap.objs.size + 1) (.lst _), I.laid (t' := s.toks) (fun _ _ => PyProof.Rows.sortedAll_old) (Nat.le_succ _) ⟨hz, out, ep, rv, he'⟩, rfl, qq⟩
  obtain ⟨e1, e2⟩ := each_zip I hd rv
  have hlen := DpAll.len hd
  have em : (us.zip ds).map (fun b : V × PyData => b.2) = ds := List.map_snd_zip (by omega)
  have zl : (us.zip ds).length = us.length := by rw [List.length_zip, hlen, Nat.min_self]
  refine PySem.W.sorted_data (bs := us.zip ds) (enc := fun b : V × PyData => b.2) hl.isList e1 e2 (by rw [em]; exact al) (by rw [em]; exact so) (by rw [zl]; exact hz) (fun b hb => ?_) fun out ol eo => ?_
  · have : b.2 ∈ ds := by
      rw [← em]
      exact List.mem_map.mpr ⟨b, hb, rfl⟩
    have := dp _ this
    omega
  · obtain ⟨ep, he'⟩ := PyProof.Rows.sortedAll_at s.heap its out.toArray
    have hv := each_vals eo
    have hl2 : (((us.zip ds).mergeSort (dataLe false fun b : V × PyData => b.2)).map (·.1)).length ≤ sizeLine := by
      rw [List.length_map, List.length_mergeSort, zl]
      exact hz
    exact ⟨.ref _, upd H (s.heap.objs.size + 1) (.lst _), I.laid (t' := s.toks) (fun _ _ => PyProof.Rows.sortedAll_old) (Nat.le_succ _) ⟨hl2, out, ep, hv, he'⟩, rfl, q _ (I.hok.fresh (Nat.le_succ _))⟩
/-- the sorted list, over trees -/
def sortD (xs : List D) : List D := xs.mergeSort (dataLe false D.py)
def W.sortedDt (ds : List D) (k : D → Prop) : Prop := ∃ xs, ds = [.lst xs] ∧ (∀ d ∈ xs, d.pl = true) ∧ (xs.length < 2 ∨ (AllAlike (D.pyL xs) ∧ Sortable (D.pyL xs) ∧ ∀ d ∈ xs, d.py.depth ≤ 60)) ∧ k (.lst (sortD xs))
theorem pyL_map : ∀ xs : List D, D.pyL xs = xs.map D.py
  | [] => rfl
  | x :: xs => congrArg (x.py :: ·) (pyL_map xs)
theorem repL_each {K : PySem.W.Frag} {N : No} {H : Hp} : ∀ {xs : List D} {us : List V}, RepL K N H xs us → EachIs (fun (b : V × PyData) (d : D) => Rep K N H d b.1 ∧ b.2 = d.py) (us.zip (D.pyL xs)) xs
  | [], us, h => by
    obtain rfl := (show us = [] from h)
    exact .nil
  | x :: xs, _, ⟨v, r, e, h1, h2⟩ => by
    subst e
    exact .cons ⟨h1, rfl⟩ (repL_each h2)
theorem each_repL {K : PySem.W.Frag} {N : No} {H : Hp} : ∀ {bs : List (V × PyData)} {xs : List D}, EachIs (fun (b : V × PyData) (d : D) => Rep K N H d b.1 ∧ b.2 = d.py) bs xs → RepL K N H xs (bs.map (·.1))
  | _, _, .nil => .nil
  | _, _, .cons h t => .cons h.1 (each_repL t)
theorem l_sortedDt {K : PySem.W.Frag} : LiftL K (rSortedDt K) W.sortedDt := fun N H ds vs k Q hN p w z => by
  obtain ⟨xs, rfl, hp, hw, q⟩ := w
  obtain ⟨v, rfl, h⟩ := p.one
  obtain ⟨a, us, rfl, h1, h2⟩ := h.lst
  refine ⟨a, us, D.pyL xs, rfl, h1, dpL_of (plL_of hp) h2, hw.imp (fun z => by rw [← h2.length]; exact z) fun ⟨al, so, dp⟩ => ⟨al, so, fun d hd => by
    rw [pyL_map] at hd
    obtain ⟨x, hx, rfl⟩ := List.mem_map.mp hd
    exact dp x hx⟩, fun p hpn => z.newL hN hpn ?_ q⟩
  · refine each_repL (PySem.W.sort_each (repL_each h2) fun p hp q hq => ?_)
    have e1 := PySem.W.EachIs.zip (repL_each h2) p hp
    have e2 := PySem.W.EachIs.zip (repL_each h2) q hq
    show dataLe false (fun b : V × PyData => b.2) p.1 q.1 = dataLe false D.py p.2 q.2
    show dataLe false (fun d : PyData => d) p.1.2 q.1.2 = dataLe false (fun d : PyData => d) p.2.py q.2.py
    rw [e1.2, e2.2]
end Dw

/-! Wp7: own objects as trees: fields read, methods, properties, making (with __init__). -/
namespace Dw
open PySem PySem.Spec PyProof.Rows L2
/-- field f of an object of one of the classes -/
def W.fld (cs : List Addr) (f : Str) (d : D) (k : D → Prop) : Prop := ∃ C ns ds x, C ∈ cs ∧ d = .ins C ns ds ∧ (ns.zip ds).lookup f = some x ∧ k x
/-- an object of one of the classes, m no field of it -/
def W.obj (cs : List Addr) (m : Str) (d : D) (k : Prop) : Prop := ∃ C ns ds, C ∈ cs ∧ d = .ins C ns ds ∧ ns.contains m = false ∧ k
theorem zip_lookup {K : PySem.W.Frag} {N : No} {H : Hp} {f : Str} {x : D} : ∀ {ns : List Str} {ds : List D} {vs : List V}, RepL K N H ds vs → (ns.zip ds).lookup f = some x → ∃ v, (ns.zip vs).lookup f = some v ∧ Rep K N H x v
  | [], ds, vs, _, h => by
    rw [List.zip_nil_left] at h
    cases h
  | n :: ns, [], vs, _, h => by
    rw [List.zip_nil_right] at h
    cases h
  | n :: ns, d :: ds, _, ⟨v, r, e, h1, h2⟩, h => by
    subst e
    rw [List.zip_cons_cons, List.lookup_cons] at h ⊢
    by_cases q : f == n
    · rw [q] at h ⊢
      cases h
      exact ⟨v, rfl, h1⟩
    · have q' : (f == n) = false := by simpa using q
      rw [q'] at h ⊢
      exact zip_lookup h2 h
theorem zip_none {f : Str} : ∀ {ns : List Str} {vs : List V}, ns.contains f = false → (ns.zip vs).lookup f = none
  | [], vs, _ => by
    rw [List.zip_nil_left]
    rfl
  | n :: ns, [], _ => by
    rw [List.zip_nil_right]
    rfl
  | n :: ns, v :: vs, h => by
    rw [List.zip_cons_cons, List.lookup_cons]
    rw [List.contains_cons, Bool.or_eq_false_iff] at h
    rw [h.1]
    exact zip_none h.2
theorem zip_put {f : Str} {v : V} : ∀ {ns : List Str} {vs : List V}, ns.length = vs.length → ns.contains f = false → putF f v (ns.zip vs) = (ns ++ [f]).zip (vs ++ [v])
  | [], [], _, _ => rfl
  | n :: ns, u :: vs, hl, h => by
    rw [List.contains_cons, Bool.or_eq_false_iff] at h
    have ne : ¬ n = f := fun e => by
      subst e
      have := h.1
      simp at this
    rw [List.zip_cons_cons, putF.eq_2, if_neg ne, zip_put (by simpa using hl) h.2]
    rfl
theorem repL_snoc {K : PySem.W.Frag} {N : No} {H : Hp} {d : D} {v : V} : ∀ {ds : List D} {vs : List V}, RepL K N H ds vs → Rep K N H d v → RepL K N H (ds ++ [d]) (vs ++ [v])
  | [], _, h, p => by
    obtain rfl := (show _ = [] from h)
    exact ⟨v, [], rfl, p, rfl⟩
  | x :: ds, _, ⟨u, r, e, h1, h2⟩, p => by
    subst e
    exact ⟨u, r ++ [v], rfl, h1, repL_snoc h2 p⟩
/-- a def of an own class that makes no own object from outside: self is made just now -/
def SpI (K : PySem.W.Frag) (C : Addr) (w : List D → (D → Prop) → Prop) : Sp := fun vs H Q _ =>
  ∃ (x dx : Addr) (us : List V) (ds : List D) (F : No) (k : D → Prop) (H1 : Hp), vs = .ref x :: us ∧ H1 x = none ∧ H1 dx = none ∧ dx ≠ x ∧ H = upd (upd H1 dx (.own x)) x (.ins C dx []) ∧ RepL K F H1 ds us ∧ (∀ a, F a → H1 a ≠ none) ∧ w ds k ∧
    ∀ H2 d, Sm (fun _ => False) H1 H2 → Rep K F H2 d (.ref x) → k d → Q .non H2
section
variable {M : Md} {O : List Addr} {r : List Sl} {k : D → Prop} {tl : TA} {te : TE} {Ex : XK}
theorem e_fld {cs : List Addr} {f : Str} (hc : ∀ C ∈ cs, Cls M.K C ∧ NoAttr M.K C f) (h : Dv M te O r fun d => W.fld cs f d k) : De M (tFld M.K te f) O r k := fun σ H Q R z => by
  refine h σ H _ R fun v H1 d R1 e1 p1 ⟨C, ns, ds, x, hC, e, hl, q⟩ => ?_
  subst e
  obtain ⟨a, dx, vs, rfl, n1, n2, h1, h2, h3, h4⟩ := p1.s.rep fun xs e => nomatch e
  obtain ⟨u, l1, l2⟩ := zip_lookup h4 hl
  exact ⟨a, C, dx, ns.zip vs, u, rfl, h1, (hc C hC).1, (hc C hC).2, l1, z u H1 x R1 e1 l2 q⟩
theorem post_call {w : List D → (D → Prop) → Prop} {σ : L2.St} {H0 H : Hp} {Q : VK} {ds : List D} {vs : List V} {E : XK} (R : Rp M O r σ H) (e1 : Sm M.F0 H0 H) (p : RepL M.K (nf M O) H ds vs) (q : w ds k)
    (z : ∀ v H' d, Rp M O r σ H' → Sm M.F0 H0 H' → Rep M.K (nf M O) H' d v → k d → Q v H') : SpP0 M.K w vs H Q E :=
  ⟨(), ds, nf M O, k, p, fun a x => x.elim, nf_tr R, trivial, q, fun v H2 d s i p po => z v H2 d (R.grow s) (e1.trans (sm_0 s)) p po⟩
/-- o.m(..) -/
theorem e_meth {C : Addr} {m : Str} {w : List D → (D → Prop) → Prop} (h : De M te O r fun x => W.obj [C] m x (DA M tl O r fun ds => w (x :: ds) k)) : De M (tMeth C m (SpP0 M.K w) [] Ex te tl) O r k := fun σ H Q R z => by
  refine h σ H _ R fun v H1 x R1 e1 p1 ⟨C', ns, ds, hC, e, hn, hq⟩ => ?_
  obtain rfl := List.mem_singleton.mp hC
  subst e
  obtain ⟨a, dx, vs, e, n1, n2, h1, h2, h3, h4⟩ := p1
  subst e
  refine ⟨a, dx, ns.zip vs, rfl, h1, zip_none hn, hq σ H1 _ R1 fun us H2 ys R2 e2 p2 q => ?_⟩
  rw [List.append_nil]
  exact post_call (ds := .ins C' ns ds :: ys) R2 (e1.trans e2) ⟨_, us, rfl, (show Rep M.K (nf M O) H1 (.ins C' ns ds) (.ref a) from ⟨a, dx, vs, rfl, n1, n2, h1, h2, h3, h4⟩).step e2, p2⟩ q z
/-- o.p, p a property -/
theorem e_prop {C : Addr} {m : Str} {w : List D → (D → Prop) → Prop} (h : De M te O r fun x => W.obj [C] m x (w [x] k)) : De M (tProp C (SpP0 M.K w) [] Ex te) O r k := fun σ H Q R z => by
  refine h σ H _ R fun v H1 x R1 e1 p1 ⟨C', ns, ds, hC, e, hn, hq⟩ => ?_
  obtain rfl := List.mem_singleton.mp hC
  subst e
  obtain ⟨a, dx, vs, e, n1, n2, h1, h2, h3, h4⟩ := p1
  subst e
  exact ⟨a, dx, ns.zip vs, rfl, h1, post_call (ds := [.ins C' ns ds]) R1 e1 ⟨_, [], rfl, ⟨a, dx, vs, rfl, n1, n2, h1, h2, h3, h4⟩, rfl⟩ hq z⟩
/-- C(..) -/
theorem e_make {C : Addr} {w : List D → (D → Prop) → Prop} (h : DA M tl O r fun ds => w ds k) : De M (tMake C (SpI M.K C w) [] Ex tl) O r k := fun σ H Q R z => by
  refine h σ H _ R fun vs H1 ds R1 e1 p1 q => fun x dx hx hd ne => ?_
  rw [List.append_nil]
  exact ⟨x, dx, vs, ds, nf M O, k, H1, rfl, hx, hd, ne, rfl, p1, nf_tr R1, q, fun H2 d s p po => ⟨rfl, z (.ref x) H2 d (R1.grow s) (e1.trans (sm_0 s)) p po⟩⟩
end
/-! ### the body of an __init__ -/
/-- forbidden while x is made -/
def fx (F : No) (x dx : Addr) : No := fun a => F a ∨ a = x ∨ a = dx
structure RI (K : PySem.W.Frag) (F : No) (H1 : Hp) (x dx C : Addr) (ns : List Str) (ds : List D) (r : List Sl) (σ : L2.St) (H : Hp) : Prop where
  free : H1 x = none ∧ H1 dx = none ∧ dx ≠ x
  trk : ∀ a, F a → H1 a ≠ none
  up : Sm (fun _ => False) H1 H
  at_ : ∃ vs, H x = some (.ins C dx (ns.zip vs)) ∧ ns.length = ds.length ∧ RepL K (fx F x dx) H ds vs
  own : H dx = some (.own x)
  slots : ∃ f0 tr, Rp (mdOf K pure0 () H (fx F x dx) f0 tr) [] r σ H
def DIn (K : PySem.W.Frag) (C : Addr) (ts : TS) (ns : List Str) (ds : List D) (r : List Sl) (E : List Str → List D → List Sl → Prop) : Prop :=
  ∀ (F : No) (H1 : Hp) (x dx : Addr) (σ : L2.St) (H : Hp) (Z : Ends), r[0]? = some (.d (.ref x)) → RI K F H1 x dx C ns ds r σ H →
    (∀ ns' ds' r' σ' H', RI K F H1 x dx C ns' ds' r' σ' H' → E ns' ds' r' → Z.nx σ' H') → ts Z σ H
section
variable {K : PySem.W.Frag} {C : Addr} {ns : List Str} {ds : List D} {r : List Sl} {E : List Str → List D → List Sl → Prop}
theorem ini_end (h : E ns ds r) : DIn K C tNext ns ds r E := fun F H1 x dx σ H Z h0 R z => z ns ds r σ H R h
theorem fx_trk {F : No} {H1 H : Hp} {x dx : Addr} (t : ∀ a, F a → H1 a ≠ none) (up : Sm (fun _ => False) H1 H) (hx : H x ≠ none) (hd : H dx ≠ none) : ∀ a, fx F x dx a → H a ≠ none := fun a h => by
  rcases h with h | rfl | rfl
  · cases e : H1 a with
    | none => exact absurd e (t a h)
    | some o =>
      rw [up a o (fun z => z) e]
      exact fun z => nomatch z
  · exact hx
  · exact hd
/-- slots seen from another heap -/
theorem rebase {F : No} {H H' : Hp} {r : List Sl} {σ : L2.St} {f0 tr} (R : Rp (mdOf K pure0 () H F f0 tr) [] r σ H') (H2 : Hp) (e : Sm F H' H2) (tr2 : ∀ a, F a → H2 a ≠ none) : Rp (mdOf K pure0 () H2 F f0 tr2) [] r σ H2 := by
  refine ⟨Sm.refl, trivial, (fun _ h => nomatch h), List.nodup_nil, R.len, fun j s hs => ?_, R.one⟩
  have q := R.slot j s hs
  cases s with
  | un => trivial
  | d y =>
    obtain ⟨u, e1, h1⟩ := q
    exact ⟨u, e1, h1.mono fun a o n z => e a o (fun f => n (.inl f)) z⟩
  | mu p xs => exact nomatch q.2.1
/-- a statement ahead of the others -/
theorem ini_st {t ts : TS} (h : ∀ (H : Hp) (F : No) f0 tr, DS (mdOf K pure0 () H F f0 tr) t [] r { nx := fun O r' => O = [] ∧ r'[0]? = r[0]? ∧ DIn K C ts ns ds r' E, rt := fun _ => False }) : DIn K C (tSeq t ts) ns ds r E := fun F H1 x dx σ H Z h0 R z => by
  obtain ⟨f0, tr, R0⟩ := R.slots
  refine h H (fx F x dx) f0 tr σ H _ R0 ⟨fun O1 r1 σ1 H2 R1 a ⟨e1, e2, q⟩ => ?_, fun v H2 d s1 i1 p1 q => q.elim, fun O1 r1 σ1 H2 R1 a q => q.elim, fun O1 r1 σ1 H2 R1 a q => q.elim⟩
  subst e1
  have s : Sm (fun _ => False) H H2 := fun a o n e => R1.sm a o (fun z => z) e
  obtain ⟨vs, a1, a2, a3⟩ := R.at_
  have up1 := R.up.trans s
  have x1 := s x _ (fun z => z) a1
  have d1 := s dx _ (fun z => z) R.own
  exact q F H1 x dx σ1 H2 Z (by rw [e2]; exact h0) ⟨R.free, R.trk, up1, ⟨vs, x1, a2, a3.mono fun a o n e => s a o (fun z => z) e⟩, d1, ⟨f0, _, rebase R1 H2 .refl (fx_trk R.trk up1 (by rw [x1]; exact fun z => nomatch z) (by rw [d1]; exact fun z => nomatch z))⟩⟩ z
end
section
variable {P : Program} {w : World} {K : PySem.W.Frag} {mg : Str → Option Value} {base : Heap}
/-- an __init__ by its body -/
theorem fn_init {x qual : Str} {st : Stmt} {f C : Addr} {fd : FuncData} {N ps : List Str} {k : Nat} {W : List D → (D → Prop) → Prop} (F : Fun K x qual st f fd) (T : FnScope N ps (defScope st))
    (len : ∀ ds k, W ds k → ds.length + 1 = ps.length)
    (body : ∀ (cdv : Value) (A : Around) (outer : List Env) (s : Shared) (H : Hp) (E : XK) (self : Addr) (ds : List D) (kr : D → Prop), Room k (A.deeper (envOfC qual (defScope st) s.heap.objs.size f cdv)) → W ds kr →
      ∃ t, PSs (cxOf CX0 P w K mg base N qual (defScope st) f cdv A outer s H E).nox (defBody st) t ∧ DIn K C t [] [] (startR N.length (.ref self :: ds)) (fun ns fs _ => kr (.ins C ns fs))) : FnOk P w K mg base CX0 (k + 1) f fd ps (SpI K C W) := by
  refine F.ok T (fun vs H Q E h => ?_) (fun cdv A outer s H vs Q E hr h => ?_)
  · obtain ⟨x, dx, us, ds, F1, kr, H1, rfl, _, _, _, _, p, _, q, _⟩ := h
    rw [List.length_cons, ← p.length, len ds kr q]
  · obtain ⟨x, dx, us, ds, F1, kr, H1, rfl, hx, hd, ne, rfl, p, tr1, q, z⟩ := h
    obtain ⟨t, ht, hb⟩ := body cdv A outer s _ E x ds kr hr q
    refine ⟨t, ht, ?_⟩
    have xs : (upd (upd H1 dx (.own x)) x (.ins C dx [])) x = some (.ins C dx []) := upd_same
    have dxs : (upd (upd H1 dx (.own x)) x (.ins C dx [])) dx = some (.own x) := by
      rw [upd_ne ne, upd_same]
    have up : Sm (fun _ => False) H1 (upd (upd H1 dx (.own x)) x (.ins C dx [])) := fun a o n e => by
      rw [upd_ne (ne_of_none e hx), upd_ne (ne_of_none e hd)]
      exact e
    have tr2 := fx_trk tr1 up (by rw [xs]; exact fun z => nomatch z) (by rw [dxs]; exact fun z => nomatch z)
    have pf : RepL K (fx F1 x dx) (upd (upd H1 dx (.own x)) x (.ins C dx [])) ds us := by
      refine RepL.mono (up.wide fun _ z => z.elim) (p.gen fun a h => ?_)
      rcases h with h | rfl | rfl
      · exact .inl h
      · exact .inr hx
      · exact .inr hd
    refine hb F1 H1 x dx _ _ _ rfl ⟨⟨hx, hd, ne⟩, tr1, up, ⟨[], xs, rfl, rfl⟩, dxs, ⟨fun _ z => z.elim, tr2, start_rp (M := mdOf K pure0 () _ (fx F1 x dx) (fun _ z => z.elim) tr2) (N := N) (ds := .ref x :: ds) ⟨.ref x, us, rfl, rfl, pf⟩ trivial⟩⟩ fun ns' ds' r' σ' H' R' q' => ?_
    obtain ⟨vs, a1, a2, a3⟩ := R'.at_
    exact z H' (.ins C ns' ds') R'.up ⟨x, dx, vs, rfl, fun f => tr1 x f hx, fun f => tr1 dx f hd, a1, R'.own, a2, a3.less fun a f => .inl f⟩ q'
end
end Dw

/-! Wp8: own operators: ==, bool, repr, calls of objects. -/
namespace Dw
open PySem PySem.Spec PyProof.Rows L2
section
variable {X : Cx} {k : Nat} {f C : Addr} {fd : FuncData} {ps : List Str} {sp : Sp} {E : XK}
theorem run_at {A : Around} {pins : List (Addr × Obj)} {σ : L2.St} {H : Hp} {s : Shared} {Q : VK} {us : List Value} {vs : List V} (F : FnOk X.prog X.w X.K X.mg X.base CX0 k f fd ps sp) (hr : Room k A)
    (e0 : Env0 X.prog X.w X.K X.mg X.base A X.stack s H) (hb : Binds X.K fd ps [])
    (I : Inv X pins σ H s) (r : Vals vs us) (h : sp vs H Q E) : wpAny (model X.prog X.w) A (call (.ref f) us) (EP X pins σ Q) X.xe s := by
  have hl : us.length = ps.length := by rw [← r.length]; exact F.len _ _ _ _ h
  have bb := hb s us I.kIn (by rw [List.append_nil]; exact hl)
  rw [List.append_nil] at bb
  refine wpAny_call (codeAny_mono (F.run A X.stack s H ⟨us, []⟩ us vs Q E hr e0 bb r h) fun r s' hq => ?_)
  match r, hq with
  | .ok (.ret u), hq => exact I.after hq
  | .ok .next, hq => exact False.elim hq
  | .ok .brk, hq => exact False.elim hq
  | .ok .cont, hq => exact False.elim hq
  | .error e, hq => exact False.elim hq
theorem inst_at {pins : List (Addr × Obj)} {σ : L2.St} {H : Hp} {s : Shared} {a dx : Addr} {fs : List (Str × V)} (I : Inv X pins σ H s) (h : H a = some (.ins C dx fs)) : ∃ od, PySem.W.InstAt s.heap a (PySem.W.instObj C dx) C (some od) := by
  obtain ⟨mA, o, _⟩ := ins_get I.hok h
  obtain ⟨od, es, ep, e, _⟩ := o.ns
  exact ⟨od, o.obj, rfl, rfl, e⟩
/-- x == y by x's own __eq__, y an object of a class D that does not go first -/
def rEqO (K : PySem.W.Frag) (C D : Addr) (sp : Sp) (E : XK) : R2 := fun x y H Q => ∃ a dx fs b dy gs, x = .ref a ∧ H a = some (.ins C dx fs) ∧ y = .ref b ∧ H b = some (.ins D dy gs) ∧ sp [x, y] H Q E
theorem cmp_back {pins : List (Addr × Obj)} {σ : L2.St} {Q : VK} {v : Value} {s : Shared} (h : EP X pins σ Q v s) : PySem.W.CmpBack (EP X pins σ Q) v s := by
  obtain ⟨x, H, I, r, q⟩ := h
  cases x <;> first
    | (cases v <;> first | exact ⟨_, H, I, r, q⟩ | exact (nomatch r) | exact r.elim)
theorem op_eqO {D : Addr} (F : FnOk X.prog X.w X.K X.mg X.base CX0 k f fd ps sp) (hr : Room k X.A) (hb : Binds X.K fd ps []) (nf : PySem.W.notFirst X.K C (.ref D) = true) (at_ : PySem.W.findIn X.K (.ref C) "__eq__" = some (some (.ref f))) (fn : PySem.W.isFn X.K (.ref f) = true) :
    OpR X (compareOp .Eq) (rEqO X.K C D sp E) := by
  intro pins s σ H x y v u Q I rx ry h
  obtain ⟨a, dx, fs, b, dy, gs, rfl, h1, rfl, h2, h3⟩ := h
  obtain rfl : v = .ref a := rx
  obtain rfl : u = .ref b := ry
  obtain ⟨od, i1⟩ := inst_at I h1
  obtain ⟨oe, i2⟩ := inst_at I h2
  obtain ⟨m, fr⟩ := I.fr
  show wpAny _ _ (richCompare .Eq (.ref a) (.ref b)) _ _ _
  exact PySem.W.cmp_K hr.units0 fr I.ok.mod.kin i1 i2.type nf at_ fn (thn (run_at F hr I.env0 hb I (vs := [.ref a, .ref b]) (.cons rfl (.cons rfl .nil)) h3) fun v s h => cmp_back h)
end
end Dw

/-! Wp9: own operators over trees; binary operators, !=, bool(..), classmethods, isinstance. -/
namespace Dw
open PySem PySem.Spec PyProof.Rows L2
section
variable {X : Cx} {k : Nat} {f C : Addr} {fd : FuncData} {ps : List Str} {sp : Sp} {E : XK}
/-- x op y by x's own method, y of the same class -/
def rBinO (C : Addr) (sp : Sp) (E : XK) : R2 := fun x y H Q => ∃ a dx fs b dy gs, x = .ref a ∧ H a = some (.ins C dx fs) ∧ y = .ref b ∧ H b = some (.ins C dy gs) ∧ sp [x, y] H Q E
theorem op_binO {op : Operator} (F : FnOk X.prog X.w X.K X.mg X.base CX0 k f fd ps sp) (hr : Room k X.A) (hb : Binds X.K fd ps []) (sf : PySem.W.selfFirst X.K C = true) (at_ : PySem.W.findIn X.K (.ref C) (dunder op.info.2) = some (some (.ref f))) (fn : PySem.W.isFn X.K (.ref f) = true) :
    OpR X (binaryOp op) (rBinO C sp E) := by
  intro pins s σ H x y v u Q I rx ry h
  obtain ⟨a, dx, fs, b, dy, gs, rfl, h1, rfl, h2, h3⟩ := h
  obtain rfl : v = .ref a := rx
  obtain rfl : u = .ref b := ry
  obtain ⟨od, i1⟩ := inst_at I h1
  obtain ⟨oe, i2⟩ := inst_at I h2
  obtain ⟨m, fr⟩ := I.fr
  exact PySem.W.binop_K fr I.ok.mod.kin i1 i2.type sf at_ fn (thn (run_at F hr I.env0 hb I (vs := [.ref a, .ref b]) (.cons rfl (.cons rfl .nil)) h3) fun v s h => cmp_back h)
/-- x != y by x's own __eq__, y of the same class -/
def rNeO (C : Addr) (sp : Sp) (E : XK) : R2 := fun x y H Q => ∃ a dx fs b dy gs, x = .ref a ∧ H a = some (.ins C dx fs) ∧ y = .ref b ∧ H b = some (.ins C dy gs) ∧ sp [x, y] H (fun v H2 => ∃ t, v = .bl t ∧ Q (.bl (!t)) H2) E
theorem op_neO {B : String} {bm : List Value} (F : FnOk X.prog X.w X.K X.mg X.base CX0 k f fd ps sp) (hr : Room (k + 1) X.A) (hb : Binds X.K fd ps []) (cf : CmpFacts B bm)
    (own : ∀ (h : Heap) (a dx : Addr), X.K.In h → h.get? a = some (PySem.W.instObj C dx) → h.OwnEqNoNe a C f B bm) : OpR X (compareOp .NotEq) (rNeO C sp E) := by
  intro pins s σ H x y v u Q I rx ry h
  obtain ⟨a, dx, fs, b, dy, gs, rfl, h1, rfl, h2, h3⟩ := h
  obtain rfl : v = .ref a := rx
  obtain rfl : u = .ref b := ry
  obtain ⟨od, i1⟩ := inst_at I h1
  obtain ⟨oe, i2⟩ := inst_at I h2
  have hu := hr.units
  refine compareOp_ne_ownEq cf (own s.heap a dx I.kIn i1.at_) i2.at_ rfl (by omega) (thn (run_at F hr.in1 I.env0.in1 hb I (vs := [.ref a, .ref b]) (.cons rfl (.cons rfl .nil)) h3) fun v s ⟨x, H2, I2, rv, t, e, q⟩ => ?_)
  subst e
  obtain rfl : v = .bool t := rv
  exact ⟨t, rfl, .bl (!t), H2, I2, rfl, q⟩
end
section
variable {M : Md} {O : List Addr} {r : List Sl} {k : D → Prop} {ta tb te : TE} {tl : TA} {Ex E : XK} {w : List D → (D → Prop) → Prop}
theorem e_eqO {C D' : Addr} (h : De M ta O r fun x => De M tb O r fun y => (∃ ns ds, x = .ins C ns ds) ∧ (∃ ms es, y = .ins D' ms es) ∧ w [x, y] k) : De M (tOp (rEqO M.K C D' (SpP0 M.K w) E) ta tb) O r k := fun σ H Q R z => by
  refine h σ H _ R fun v H1 x R1 e1 p1 h1 => h1 σ H1 _ R1 fun u H2 y R2 e2 p2 ⟨⟨ns, ds, ex⟩, ⟨ms, es, ey⟩, q⟩ => ?_
  have p1' := p1.step e2
  have c := post_call (E := E) (ds := [x, y]) R2 (e1.trans e2) ⟨v, [u], rfl, p1', u, [], rfl, p2, rfl⟩ q z
  subst ex
  subst ey
  obtain ⟨a, dx, vs, e, n1, n2, g1, g2, g3, g4⟩ := p1'
  obtain ⟨b, dy, ws, e', m1, m2, f1, f2, f3, f4⟩ := p2
  exact ⟨a, dx, ns.zip vs, b, dy, ms.zip ws, e, g1, e', f1, c⟩
theorem e_binO {C : Addr} (h : De M ta O r fun x => De M tb O r fun y => (∃ ns ds, x = .ins C ns ds) ∧ (∃ ms es, y = .ins C ms es) ∧ w [x, y] k) : De M (tOp (rBinO C (SpP0 M.K w) E) ta tb) O r k := fun σ H Q R z => by
  refine h σ H _ R fun v H1 x R1 e1 p1 h1 => h1 σ H1 _ R1 fun u H2 y R2 e2 p2 ⟨⟨ns, ds, ex⟩, ⟨ms, es, ey⟩, q⟩ => ?_
  have p1' := p1.step e2
  have c := post_call (E := E) (ds := [x, y]) R2 (e1.trans e2) ⟨v, [u], rfl, p1', u, [], rfl, p2, rfl⟩ q z
  subst ex
  subst ey
  obtain ⟨a, dx, vs, e, n1, n2, g1, g2, g3, g4⟩ := p1'
  obtain ⟨b, dy, ws, e', m1, m2, f1, f2, f3, f4⟩ := p2
  exact ⟨a, dx, ns.zip vs, b, dy, ms.zip ws, e, g1, e', f1, c⟩
theorem e_neO {C : Addr} (h : De M ta O r fun x => De M tb O r fun y => (∃ ns ds, x = .ins C ns ds) ∧ (∃ ms es, y = .ins C ms es) ∧ w [x, y] fun d => ∃ t, d = .bl t ∧ k (.bl (!t))) : De M (tOp (rNeO C (SpP0 M.K w) E) ta tb) O r k := fun σ H Q R z => by
  refine h σ H _ R fun v H1 x R1 e1 p1 h1 => h1 σ H1 _ R1 fun u H2 y R2 e2 p2 ⟨⟨ns, ds, ex⟩, ⟨ms, es, ey⟩, q⟩ => ?_
  have p1' := p1.step e2
  have c := post_call (E := E) (Q := fun v H2 => ∃ t, v = .bl t ∧ Q (.bl (!t)) H2) (ds := [x, y]) R2 (e1.trans e2) ⟨v, [u], rfl, p1', u, [], rfl, p2, rfl⟩ q (fun v H' d R' e' p' ⟨t, ed, q⟩ => by
    subst ed
    exact ⟨t, p', z _ H' (.bl (!t)) R' e' rfl q⟩)
  subst ex
  subst ey
  obtain ⟨a, dx, vs, e, n1, n2, g1, g2, g3, g4⟩ := p1'
  obtain ⟨b, dy, ws, e', m1, m2, f1, f2, f3, f4⟩ := p2
  exact ⟨a, dx, ns.zip vs, b, dy, ms.zip ws, e, g1, e', f1, c⟩
/-- C.m(..), m a classmethod -/
theorem e_cmeth {C : Addr} (h : De M te O r fun x => x = .ref C ∧ DA M tl O r fun ds => w (.ref C :: ds) k) : De M (ClX.tCMeth C (SpP0 M.K w) Ex te tl) O r k := fun σ H Q R z => by
  refine h σ H _ R fun v H1 x R1 e1 p1 ⟨ex, hq⟩ => ?_
  subst ex
  exact ⟨p1, hq σ H1 _ R1 fun us H2 ys R2 e2 p2 q => post_call (ds := .ref C :: ys) R2 (e1.trans e2) ⟨.ref C, us, rfl, rfl, p2⟩ q z⟩
end
end Dw

/-! ### sorted(x, key=len), x a list of tuples -/
namespace Dw
open PySem PySem.Spec PyProof.Rows L2
open PySem.W (EachIs AllAlike Sortable dataLe dataLt alike KeyPure)
def qSorted (K : PySem.W.Frag) (Q : VK) (v : V) (H1 : Hp) : Prop := ∃ (a : Addr) (bs : List (V × Nat)), v = .ref a ∧ SqL K H1 a (bs.map (·.1)) ∧ (∀ b ∈ bs, ∃ t zs, b.1 = .ref t ∧ SqT K H1 t zs ∧ zs.length = b.2) ∧
  ∀ p, H1 p = none → Q (.ref p) (upd H1 p (.lst ((bs.mergeSort (dataLe false fun b : V × Nat => PyData.int (b.2 : Int))).map (·.1))))
def tSortedLen (K : PySem.W.Frag) (te : TE) : TE := fun σ H Q => te σ H fun v H1 => qSorted K Q v H1
theorem each_pairs : ∀ {bs : List (V × Nat)} {its : List Value}, Vals (bs.map (·.1)) its → EachIs (fun v (b : V × Nat) => RelV b.1 v) its bs
  | [], _, r => by
    cases r
    exact .nil
  | b :: bs, _, r => by
    cases r with
    | cons r1 r2 => exact .cons r1 (each_pairs r2)
theorem pairs_vals : ∀ {bs : List (V × Nat)} {its : List Value}, EachIs (fun v (b : V × Nat) => RelV b.1 v) its bs → Vals (bs.map (·.1)) its
  | _, _, .nil => .nil
  | _, _, .cons h t => .cons h (pairs_vals t)
theorem istup_up {h h' : Heap} {t : Addr} {a : Array Value} (p : IsTup h t a) (k : ∀ b o, h.get? b = some o → h'.get? b = some o) : IsTup h' t a := by
  obtain ⟨o, e, r⟩ := p
  exact ⟨o, k t o e, r⟩
theorem ints_alike (bs : List (V × Nat)) : AllAlike (bs.map fun b : V × Nat => PyData.int (b.2 : Int)) := fun d hd d' hd' => by
  obtain ⟨b, _, rfl⟩ := List.mem_map.mp hd
  obtain ⟨c, _, rfl⟩ := List.mem_map.mp hd'
  rfl
theorem ints_sortable (bs : List (V × Nat)) : Sortable (bs.map fun b : V × Nat => PyData.int (b.2 : Int)) := .inr fun d hd => by
  obtain ⟨b, _, rfl⟩ := List.mem_map.mp hd
  exact ⟨(fun z => nomatch z), (fun xs z => nomatch z)⟩
theorem qs_one {K : PySem.W.Frag} {Q : VK} {vs : List V} {H1 : Hp} (h : match vs with | [v] => qSorted K Q v H1 | _ => False) : ∃ (a : Addr) (bs : List (V × Nat)), vs = [.ref a] ∧ SqL K H1 a (bs.map (·.1)) ∧ (∀ b ∈ bs, ∃ t zs, b.1 = .ref t ∧ SqT K H1 t zs ∧ zs.length = b.2) ∧
  ∀ p, H1 p = none → Q (.ref p) (upd H1 p (.lst ((bs.mergeSort (dataLe false fun b : V × Nat => PyData.int (b.2 : Int))).map (·.1)))) := by
  split at h
  · obtain ⟨a, bs, rfl, h⟩ := h
    exact ⟨a, bs, rfl, h⟩
  · exact h.elim
theorem pe_sortedLen {X : Cx} {e : Expr} {te : TE} {p p2 pos kpos : Pos} (hu : X.A.units + 64 < cLine) (hg : Gl X "sorted") (hm : X.mg "sorted" = none) (hg2 : Gl X "len") (hm2 : X.mg "len" = none) (he : PE X e te)
    (hs0 : starEach [e] X.env = (false, eval e X.env) :: starEach [] X.env := by rfl) (hpl : (backTo pos (starEach [e] X.env)).any (·.1) = false := by rfl)
    (hall : (backToKw pos (keywordEach [⟨some "key", .Name "len" p2, kpos⟩] X.env)).all (·.1.isSome) = true := by rfl) (hnone : (backToKw pos (keywordEach [⟨some "key", .Name "len" p2, kpos⟩] X.env)).any (·.1.isNone) = false := by rfl)
    (hks : (backToKw pos (keywordEach [⟨some "key", .Name "len" p2, kpos⟩] X.env)).filterMap (·.1) = [Str.ofString "key"] := by rfl) :
    PE X (.Call (.Name "sorted" p) [e] [⟨some "key", .Name "len" p2, kpos⟩] pos) (tSortedLen X.K te) := by
  refine ⟨fun pins s σ H Q I h => ?_⟩
  refine PySem.wpAny_Call_Name_kw (ld_blt I hg hm (by decide +kernel : bootBuiltins "sorted" = some (.builtin "sorted")) ?_ (by decide) (by decide))
  refine PyProof.Rows.callWith_kw (thn ((pa_cons (hs := hs0) he pa_nil).run pos pins s σ H (fun vs H1 => match vs with | [v] => qSorted X.K Q v H1 | _ => False) I h) fun us s1 ⟨vs, H1, I1, r1, hq⟩ => ?_) (by rw [hs0]; rfl) hpl hall hnone
  · obtain ⟨a, bs, rfl, hl, ht, q⟩ := qs_one hq
    rw [Vals.ref1 r1]
    refine PyProof.Rows.kwAll_cons (ld_blt I1 hg2 hm2 (by decide +kernel : bootBuiltins "len" = some (.builtin "len")) (PyProof.Rows.kwAll_nil ?_) (by decide) (by decide))
    rw [hks]
    show wpAny _ _ (call (.builtin "sorted") [.ref a] [(Str.ofString "key", .builtin "len")]) _ _ s1
    obtain ⟨its, rv, il, hz⟩ := I1.list hl
    have hzb : bs.length ≤ sizeLine := by
      rw [List.length_map] at hz
      exact hz
    refine PySem.W.sorted_key_data (bs := bs) (f := .builtin "len") (b := false) (fun b : V × Nat => PyData.int (b.2 : Int)) il.isList (each_pairs rv) (ints_alike bs) (ints_sortable bs) hzb (fun b hb => ?_) (ksk_s1 _ _) (fun x => ksk_l1 _ _) (fun x => ksk_t4 "len" x) (fun v b hv hb h tk up => ?_) fun out c h' tk up fr at_ ol eo => ?_
    · show _ + 2 + 0 < _
      omega
    · obtain ⟨t, zs, e1, e2, e3⟩ := ht b hb
      rw [e1] at hv
      obtain rfl : v = .ref t := hv
      obtain ⟨js, rj, it, hj⟩ := I1.tuple e2
      have hlen : js.toArray.size = b.2 := by rw [List.size_toArray, ← rj.length, e3]
      refine PyProof.Rows.len_tuple (istup_up it up) ?_ ?_
      · rw [hlen, ← e3]
        have : sizeLine < 2 ^ 63 := by decide +kernel
        omega
      · rw [hlen]
        exact ⟨h, _, rfl, fun _ _ z => z, .int _ _⟩
    · have hv := pairs_vals eo
      exact ⟨.ref _, upd H1 (s1.heap.objs.size + 1) (.lst _), I1.laid up (Nat.le_succ _) ⟨by rw [List.length_map, List.length_mergeSort]; exact hzb, out, c, hv, at_⟩, rfl, q _ (I1.hok.fresh (Nat.le_succ _))⟩
/-- a tuple's length -/
def D.tlen : D → Nat
  | .tup ts => ts.length
  | _ => 0
def sortL (xs : List D) : List D := xs.mergeSort (dataLe false fun d : D => PyData.int (d.tlen : Int))
def W.sortedLen (d : D) (k : D → Prop) : Prop := ∃ xs, d = .lst xs ∧ (∀ x ∈ xs, ∃ ts, x = .tup ts) ∧ k (.lst (sortL xs))
theorem len_each {K : PySem.W.Frag} {N : No} {H : Hp} : ∀ {xs : List D} {us : List V}, RepL K N H xs us → EachIs (fun (b : V × Nat) (d : D) => Rep K N H d b.1 ∧ b.2 = d.tlen) (us.zip (xs.map D.tlen)) xs
  | [], us, h => by
    obtain rfl := (show us = [] from h)
    exact .nil
  | x :: xs, _, ⟨v, r, e, h1, h2⟩ => by
    subst e
    exact .cons ⟨h1, rfl⟩ (len_each h2)
theorem each_len {K : PySem.W.Frag} {N : No} {H : Hp} : ∀ {bs : List (V × Nat)} {xs : List D}, EachIs (fun (b : V × Nat) (d : D) => Rep K N H d b.1 ∧ b.2 = d.tlen) bs xs → RepL K N H xs (bs.map (·.1))
  | _, _, .nil => .nil
  | _, _, .cons h t => .cons h.1 (each_len t)
theorem zip_tup {K : PySem.W.Frag} {N : No} {H : Hp} : ∀ {xs : List D} {us : List V}, RepL K N H xs us → (∀ x ∈ xs, ∃ ts, x = .tup ts) → ∀ b ∈ us.zip (xs.map D.tlen), ∃ t zs, b.1 = .ref t ∧ SqT K H t zs ∧ zs.length = b.2
  | [], us, h, _, b, hb => by
    rw [List.map_nil, List.zip_nil_right] at hb
    cases hb
  | x :: xs, _, ⟨v, r, e, h1, h2⟩, ht, b, hb => by
    subst e
    rw [List.map_cons, List.zip_cons_cons] at hb
    rcases List.mem_cons.mp hb with rfl | hb
    · obtain ⟨ts, rfl⟩ := ht x List.mem_cons_self
      obtain ⟨t, zs, e, g1, g2⟩ := h1
      exact ⟨t, zs, e, g1.sq, g2.length.symm⟩
    · exact zip_tup h2 (fun y hy => ht y (List.mem_cons_of_mem _ hy)) b hb
theorem e_sortedLen {M : Md} {O : List Addr} {r : List Sl} {k : D → Prop} {te : TE} (h : Dv M te O r fun d => W.sortedLen d k) : De M (tSortedLen M.K te) O r k := fun σ H Q R z => by
  refine h σ H _ R fun v H1 d R1 e1 p1 ⟨xs, ed, ht, q⟩ => ?_
  subst ed
  obtain ⟨a, vs, ev, h1, h2⟩ := p1.s.lst
  subst ev
  have hl := h2.length
  refine ⟨a, vs.zip (xs.map D.tlen), rfl, by rw [List.map_fst_zip (by rw [List.length_map]; omega)]; exact h1, zip_tup h2 ht, fun p hp => (post_of R1 e1 z).newL (nf_tr R1) hp (each_len (PySem.W.sort_each (len_each h2) fun b hb c hc => ?_)) q⟩
  have f1 := PySem.W.EachIs.zip (len_each h2) b hb
  have f2 := PySem.W.EachIs.zip (len_each h2) c hc
  show dataLe false (fun n : Nat => PyData.int (n : Int)) b.1.2 c.1.2 = dataLe false (fun n : Nat => PyData.int (n : Int)) b.2.tlen c.2.tlen
  rw [f1.2, f2.2]
end Dw

/-! Wp10: extend, f-strings, isinstance, index, bool of lists and tuples. -/
namespace Dw
open PySem PySem.Spec PyProof.Rows L2
theorem items_of {M : Model} {A : Around} {E : Value → Shared → Prop} {s : Shared} {b : Addr} {o : Obj} {its : Array Value} {n : Nat} {Q : Array Value → Shared → Prop} (hb : s.heap.get? b = some o) (od : o.data = .seq its n) (q : Q its s) : wpAny M A (Builtin.List.listItems (.ref b)) Q E s := by
  unfold Builtin.List.listItems
  refine wpAny_bind ?_
  unfold seqItems?
  refine wpAny_bind (wpAny_load hb ?_)
  rw [od]
  exact wpAny_pure (wpAny_pure q)
theorem list_extendW {prog : Program} {w : World} {A : Around} {R : PySem.Fin → Shared → Prop} {E : Value → Shared → Prop} {s : Shared} {l b : Addr} {items items2 : Array Value} {n : Nat} {o : Obj}
    (hl : s.heap.get? l = some { cls := .type "list", data := .seq items n }) (hb : s.heap.get? b = some o) (oc : o.cls = .type "list") (n2 : Nat) (od : o.data = .seq items2 n2) (hn : Builtin.List.listTooLong (items.size + items2.size) = false)
    (hs1 : items.size ≤ sizeLine) (hs2 : (items ++ items2).size ≤ sizeLine + 1)
    (q : R (.done (.ret .none)) { s with heap := s.heap.update l (Obj.mapSeq fun x => x ++ items2) }) : wpAny (model prog w) A (Builtin.«list.extend» ⟨[.ref l, .ref b], []⟩) R E s := by
  unfold Builtin.«list.extend»
  refine wpAny_bind ?_
  have e0 : selfAndOne "list.extend" ⟨[.ref l, .ref b], []⟩ = pure (.ref l, .ref b) := by rfl
  rw [e0]
  refine wpAny_pure ?_
  show wpAny _ _ (Builtin.List.listExtendWith (.ref l) (.ref b) .none) _ _ _
  unfold Builtin.List.listExtendWith
  refine wpAny_bind (wpAny_typeOf_ref hb ?_)
  rw [oc]
  rw [if_pos (by simp)]
  refine wpAny_bind (items_of hb od ?_)
  refine wpAny_bind (items_of hl rfl ?_)
  simp only [hn, Bool.and_false, Bool.false_eq_true, if_false]
  refine wpAny_bind ?_
  refine wpAny_updateSeq hl rfl ?_ hs1 hs2
  exact wpAny_pure q

/-- own.extend(list) -/
def rExtendS (K : PySem.W.Frag) : V → List V → Hp → VK → Prop := fun x vs H Q => ∃ l b xs zs, x = .ref l ∧ vs = [.ref b] ∧ H l = some (.lst xs) ∧ SqL K H b zs ∧ xs.length + zs.length ≤ sizeLine ∧ Q .non (upd H l (.lst (xs ++ zs)))
theorem mt_extendS {X : Cx} : MtM X "list.extend" (rExtendS X.K) := by
  intro pins s σ H x vs v us Q I rx r h
  obtain ⟨l, b, xs, zs, rfl, rfl, h1, h2, hz, q⟩ := h
  obtain rfl : v = .ref l := rx
  rw [Vals.ref1 r]
  obtain ⟨hl, its, n, r1, e1, g1⟩ := I.lstM h1
  obtain ⟨its2, r2, p2, z2⟩ := I.list h2
  obtain ⟨o2, n2, e2, c2, d2, q2⟩ := p2
  have l2 := r2.length
  have sz : (its.toArray ++ its2.toArray).size ≤ sizeLine := by rw [Array.size_append, List.size_toArray, List.size_toArray]; omega
  refine wpAny_call (codeAny_call_builtin F.slot_list_extend.plain F.entry_list_extend (F.slot_list_extend.check _ _ _ s (.ref l) [.ref b] [] _ ⟨_, g1, rfl⟩ (F.args_list_extend_2 _ _) ?_))
  refine list_extendW g1 e2 c2 n2 q2 (notLongL (by rw [Array.size_append] at sz; exact sz)) (by rw [List.size_toArray]; omega) (by omega) ?_
  exact ⟨.non, _, I.lset (its' := its ++ its2) h1 g1 (by simp) (r1.append r2) (by rw [List.length_append]; exact hz), rfl, q⟩
section
variable {M : Md} {O : List Addr} {r : List Sl} {k : D → Prop} {te ta : TE} {tl : TA} {E : Kn}
theorem s_extend {i : Nat} {p : Addr} {xs : List D} {ts : TS} (h : r[i]? = some (.mu p xs)) (q : De M te O r fun d => ∃ ys, d = .lst ys ∧ xs.length + ys.length ≤ sizeLine ∧ DS M ts O (r.set i (.mu p (xs ++ ys))) E) :
    DS M (tSeq (tDrop (tBM M.K "list" (rExtendS M.K) (tVar i) (tCons te tNil))) ts) O r E := ds_seq fun σ H Z R z => by
  obtain ⟨e1, hp, vs, h1, h2⟩ := R.slot i _ h
  refine ⟨.ref p, e1, .inl ⟨rfl, vs, .inl (.inl h1)⟩, ?_⟩
  refine q σ H _ R fun v H1 d R1 e2 p1 ⟨ys, ed, hz, q1⟩ => ?_
  subst ed
  obtain ⟨b, ws, ev, g1, g2⟩ := p1
  subst ev
  obtain ⟨_, _, vs', h1', h2'⟩ := R1.slot i _ h
  refine ⟨p, b, vs', ws, rfl, rfl, h1', g1.sq, by rw [← h2'.length, ← g2.length]; exact hz, ?_⟩
  exact z.nx O _ σ _ (R1.write h (h2'.append g2)) (stp_write R1 h e2) q1
/-! f-strings -/
/-! isinstance -/
def D.tyV : D → Value
  | .non => .type "NoneType"
  | .bl _ => .type "bool"
  | .int _ => .type "int"
  | .str _ => .type "str"
  | .ref _ => .none
  | .lst _ => .type "list"
  | .tup _ => .type "tuple"
  | .ins C _ _ => .ref C
  | .exc C _ _ => .none
structure ClsT (K : PySem.W.Frag) (C : Addr) : Prop where
  c : Cls K C
  a : PySem.W.findIn K (.ref C) "__class__" = some (some (.builtin "object.__class__"))
  g : PySem.W.specialIn K (.builtin "object.__class__") "__get__" = some (some (.builtin "getset_descriptor.__get__"))
  t : PySem.W.takesIn K (.builtin "object.__class__") = some true
  m : PySem.W.mroIn K C (.type "object") = some true
theorem rd_ty {K : PySem.W.Frag} {H : Hp} {a : Addr} {xs : List V} (h : SqL K H a xs) : TyX K H (.ref a) (.type "list") := by
  rcases h with (h | ⟨o, h⟩) | ⟨o, its, n, e, c, _⟩
  · exact .base (.lst h)
  · exact .base (.frz h)
  · exact .kList e c
theorem rt_ty {K : PySem.W.Frag} {H : Hp} {a : Addr} {xs : List V} (h : SqT K H a xs) : TyX K H (.ref a) (.type "tuple") := by
  rcases h with (h | ⟨o, h⟩) | ⟨o, its, n, e, c, _⟩
  · exact .base (.tup h)
  · exact .fTuple h
  · exact .kTuple e c
theorem D.ty {K : PySem.W.Frag} {N : No} {H : Hp} {d : D} {v : V} (hc : ∀ C ns ds, d = .ins C ns ds → ClsT K C) (hn : d.tyV ≠ .none) (h : RepS K N H d v) : TyX K H v d.tyV := by
  cases d with
  | non => rw [h.non]; exact .base .non
  | bl b => rw [h.bl]; exact .base (.bl b)
  | int i => rw [h.int]; exact .base (.int i)
  | str s => rw [h.str]; exact .base (.str s)
  | ref a => exact (hn rfl).elim
  | lst xs =>
    obtain ⟨a, vs, rfl, h1, h2⟩ := h.lst
    exact rd_ty h1
  | tup xs =>
    obtain ⟨a, vs, rfl, h1, h2⟩ := h.tup
    exact rt_ty h1
  | ins C ns ds =>
    obtain ⟨a, dx, vs, rfl, n1, n2, h1, h2, h3, h4⟩ := h.rep fun xs e => nomatch e
    have q := hc C ns ds rfl
    exact .base (.ins h1 q.c q.a q.g q.t q.m)
  | exc C ns ds => exact (hn rfl).elim
/-- isinstance(x, u) -/
structure W.isi (kit : Value → Value → Option Bool) (u : Value) (d : D) (k : D → Prop) : Prop where
  h : ∃ b, d.tyV ≠ .none ∧ kit d.tyV u = some b ∧ k (.bl b)
end
end Dw

/-! Wp11: bool(tuple), index. -/
namespace Dw
open PySem PySem.Spec PyProof.Rows L2
/-! x.index(y), texts -/
section
variable {M : Md} {O : List Addr} {r : List Sl} {k : D → Prop} {te ta : TE}
end
end Dw

/-! Wp12: sum(lists, start). -/
namespace Dw
open PySem PySem.Spec PyProof.Rows L2
def cat (bs : List (Addr × List Value)) : List Value := (bs.map (·.2)).flatten
def W.sumL (x y : D) (k : D → Prop) : Prop := ∃ (xss : List (List D)) (ys : List D), x = .lst (xss.map D.lst) ∧ y = .lst ys ∧ ys.length + xss.flatten.length ≤ sizeLine ∧ k (.lst (ys ++ xss.flatten))
theorem RepL.app {K : PySem.W.Frag} {N : No} {H : Hp} : ∀ {xs ys : List D} {us vs : List V}, RepL K N H xs us → RepL K N H ys vs → RepL K N H (xs ++ ys) (us ++ vs)
  | [], _, us, _, h, p => by
    obtain rfl := (show us = [] from h)
    exact p
  | x :: xs, _, _, _, ⟨u, r, e, h1, h2⟩, p => by
    subst e
    exact ⟨u, r ++ _, rfl, h1, RepL.app h2 p⟩
end Dw

/-! DwSetL: a set made of a list or a tuple. -/
namespace Dw
open PySem PySem.Spec PyProof.Rows L2
section
variable {P : Program} {w : World} {κ : Type} [DecidableEq κ] {knd : PySem.KeyKind P w κ} {key : Value → κ} {A : Around} {E : Value → Shared → Prop} {s : Shared}
/-- the loop that fills it -/
theorem fill_set {I a : Addr} {fp wr : List Addr} {G : Array GenState → Array GenState → Prop} {n : Nat} {Pv : Nat → Value → Prop} {St : Nat → Shared → Prop} {R : Result → Shared → Prop} (W : WalksS P w A.in1 I fp wr G n Pv St) (na : a ∉ fp) (xs : List Value)
    (hn : n = xs.length) (room : xs.length + 1 < scanBound) (gv : ∀ x ∈ xs, Gv knd key x) (val : ∀ i v, Pv i v → xs[i]? = some v) :
    ∀ (m i : Nat) (s : Shared), n - i = m → i ≤ n → St i s → (∃ c, c ≤ i ∧ SetG knd key s.heap a (fun j => decide (j ∈ (xs.take i).map key)) c) →
      (∀ s' c, Moved (a :: wr) G s s' → c ≤ n → SetG knd key s'.heap a (fun j => decide (j ∈ xs.map key)) c → R (.ok (.ret .none)) s') → codeAny (model P w) A (.builtin "set.update.loop" ⟨[.ref a, .ref I], []⟩) R s := by
  have nw : a ∉ wr := fun h => na (W.sub _ h)
  intro m
  induction m with
  | zero =>
    intro i s hm hi st ⟨c, hc, S⟩ done
    obtain rfl : i = n := by omega
    refine codeAny_builtin F.entry_set_update_loop ?_
    rw [Around.under_plainId F.plain_set_update_loop _]
    refine wpAny_bind (m := pyNext (.ref I)) (W.done s _ _ st fun s' mv => ?_)
    rw [List.take_of_length_le (by omega)] at S
    exact wpAny_pure (done s' c (mv.mono fun b q => List.mem_cons_of_mem _ q) hc (S.at fun o e => mv.heap a o nw e))
  | succ m ih =>
    intro i s hm hi st ⟨c, hc, S⟩ done
    have lt : i < n := by omega
    refine codeAny_builtin F.entry_set_update_loop ?_
    rw [Around.under_plainId F.plain_set_update_loop _]
    refine wpAny_bind (m := pyNext (.ref I)) (W.item i s _ _ lt st fun v s' pv st' mv => ?_)
    have hv := val i v pv
    have g := gv v (List.mem_of_getElem? hv)
    have S' : SetG knd key s'.heap a _ c := S.at fun o e => mv.heap a o nw e
    refine wpAny_bind (m := holding [v] (setAdd a v)) (wpAny_holding ?_)
    unfold setAdd
    refine wpAny_holding (wpAny_bind (knd.pyHash (k := key v) g.1 ?_))
    refine put_one (s := { s' with toks := s'.toks + 1 }) g S' (by omega) fun h' sb S2 => ?_
    have S3 : SetG knd key h' a (fun j => decide (j ∈ (xs.take (i + 1)).map key)) (if decide (key v ∈ (xs.take i).map key) = true then c else c + 1) := by
      have e : (fun j => (fun j => decide (j ∈ (xs.take i).map key)) j || decide (j = key v)) = fun j => decide (j ∈ (xs.take (i + 1)).map key) := funext fun j => by
        rw [List.take_add_one, hv, List.map_append]
        simp
      rw [e] at S2
      exact S2
    have c3 : (if decide (key v ∈ (xs.take i).map key) = true then c else c + 1) ≤ i + 1 := by split <;> omega
    refine wpAny_pure ⟨plainId_quiet F.plain_set_update_loop _, ih (i + 1) _ (by omega) lt (W.frame _ s' _ _ st' (Nat.le_succ _) fun b hb o e => (sb.2 b fun q => na (q ▸ hb)).trans e) ⟨_, c3, S3⟩ fun s2 c2 mv2 hc2 S4 => done s2 c2 (Moved.trans W.gtrans ((mv.mono fun b q => List.mem_cons_of_mem _ q).then_heap (Nat.le_succ _) fun b o hb e => (sb.2 b fun q => hb (q ▸ List.mem_cons_self)).trans e) mv2) hc2 S4⟩
/-- a set that is new -/
abbrev E0 (w : World) : Obj := { cls := .type "set", dict := none, data := .set #[] 0 (.fresh 0 0 (!w.params.followText "set-order")) }
set_option maxHeartbeats 3200000 in
/-- set(a list) -/
theorem call_setL {l : Addr} {items : Array Value} {Q : Value → Shared → Prop} (hh : A.handled = none) (hl : s.heap.IsList l items) (gv : ∀ x ∈ items.toList, Gv knd key x) (room : items.toList.length + 1 < scanBound)
    (h : ∀ (h' : Heap) (tk c : Nat), SetG knd key h' s.heap.objs.size (fun j => decide (j ∈ items.toList.map key)) c → (∀ b o, s.heap.get? b = some o → h'.get? b = some o) → Q (.ref s.heap.objs.size) { s with heap := h', toks := tk }) :
    wpAny (model P w) A (call (.type "set") [.ref l]) Q E s := by
  obtain ⟨_, _, mro⟩ := F.called_set.mro
  have made := F.called_set.made
  have sub := F.called_set.sub
  refine wpAny_call (codeAny_of_tree ?_)
  show wpAny _ _ (callAny (.type "set") _) _ _ _
  refine wpAny_pure ⟨Code.quiet_builtin _ (by decide +kernel), codeAny_builtin F.entry_type_call ?_⟩
  rw [Around.under_plain (weight_type_call_type "set" [.ref l] []) rfl]
  have q1 := F.called_set.notType
  have q2 := F.called_set.canCreate
  have q3 := F.typeCall_set_1 (.ref l)
  repeat (any_goals (first | assumption | wp_step))
  refine codeAny_mono (code_set_led1 (.ref l) (E := E) (Q₁ := fun v z => v = .ref s.heap.objs.size ∧ z = { s with heap := s.heap.push (E0 w) }) ⟨rfl, rfl⟩) fun r z hz => ?_
  rcases r with e | r
  · exact hz
  cases r with
  | ret v =>
    obtain ⟨rfl, rfl⟩ := hz
    have at0 : (s.heap.push (E0 w)).get? s.heap.objs.size = some (E0 w) := Heap.get?_push_size _ rfl
    have ty : Shared.TypeIs { s with heap := s.heap.push (E0 w) } (.ref s.heap.objs.size) "set" := ⟨_, at0, rfl⟩
    have q4 := F.called_set.init.lookup
    have q5 := F.called_set.init.bind (.ref s.heap.objs.size)
    repeat (any_goals (first | assumption | wp_step))
    refine codeAny_mono (codeAny_call_builtin (R := wants (fun v z => v = .none ∧ ∃ h' tk c, z = { s with heap := h', toks := tk } ∧ SetG knd key h' s.heap.objs.size (fun j => decide (j ∈ items.toList.map key)) c ∧ ∀ b o, s.heap.get? b = some o → h'.get? b = some o) E) F.called_set.init.plain F.entry_set_init (check_set_init_1 ty ?_)) fun r z hz => ?_
    · have ltl : l < s.heap.objs.size := by
        obtain ⟨o, ho, _⟩ := hl
        exact Heap.lt_size ho
      have there : (s.heap.push (E0 w)).IsList l items := hl.push _
      obtain ⟨⟨_, d, _, sl⟩, ho, e1, m, e2⟩ := there
      simp only at e1 e2
      subst e1 e2
      have q6 := F.sub_list_set
      have q7 := F.sub_list_frozenset
      have q8 : (Value.type "list" == Value.type "dict") = false := by decide
      have there : (s.heap.push (E0 w)).IsList l items := ⟨_, ho, rfl, m, rfl⟩
      unfold Builtin.«set.__init__» noKeywords Builtin.Frozenset.updateFrom
      generalize hPI : pyIter = PI
      wp_walk
      subst hPI
      refine wpAny_pyIter_list there (wpAny_bind (wpAny_runValue ?_))
      have sz : (s.heap.push (E0 w)).objs.size = s.heap.objs.size + 1 := Heap.size_push ..
      refine fill_set (knd := knd) (key := key) (a := s.heap.objs.size) ((Walks.list (by simp [hh]) _ l (by rw [sz]; exact Nat.ne_of_lt (Nat.lt_succ_of_lt ltl)) items).toS) (by
        rw [sz]
        simp only [List.mem_cons, List.not_mem_nil, or_false, not_or]
        exact ⟨Nat.ne_of_lt (Nat.lt_succ_self _), Nat.ne_of_gt ltl⟩) items.toList rfl room gv (fun i v e => by rw [Array.getElem?_toList]; exact e) (items.size - 0) 0 _ (by omega) (Nat.zero_le _) ⟨⟨_, Heap.get?_push_size _ rfl, rfl, rfl⟩, there.push _⟩ ⟨0, Nat.le_refl 0, setG_fresh.at fun o e => Heap.get?_push_of_some _ e⟩ fun z c mv _ S => ?_
      obtain ⟨h', g, d', tk, os⟩ := z
      obtain rfl : g = s.gens := mv.gens
      obtain rfl : d' = s.drawn := mv.drawn
      obtain rfl : os = s.os := mv.os
      refine wpAny_pure ?_
      show wpAny _ _ (ret Value.none) _ _ _
      refine wpAny_pure ⟨rfl, h', tk, c, rfl, S, fun b o e => mv.heap b o ?_ (Heap.get?_push_of_some _ (Heap.get?_push_of_some _ e))⟩
      have lt := Heap.lt_size e
      rw [sz]
      simp only [List.mem_cons, List.not_mem_nil, or_false, not_or]
      exact ⟨Nat.ne_of_lt lt, Nat.ne_of_lt (Nat.lt_succ_of_lt lt)⟩
    · rcases r with e | r
      · exact hz
      cases r with
      | ret v =>
        obtain ⟨rfl, h', tk, c, rfl, S, keep⟩ := hz
        repeat (any_goals (first | assumption | wp_step))
        exact h _ _ _ S keep
      | _ => exact hz.elim
  | _ => exact hz.elim
set_option maxHeartbeats 3200000 in
/-- set(a tuple) -/
theorem call_setT {l : Addr} {items : Array Value} {Q : Value → Shared → Prop} (hh : A.handled = none) (hl : s.heap.IsTuple l items) (gv : ∀ x ∈ items.toList, Gv knd key x) (room : items.toList.length + 1 < scanBound)
    (h : ∀ (h' : Heap) (tk c : Nat), SetG knd key h' s.heap.objs.size (fun j => decide (j ∈ items.toList.map key)) c → (∀ b o, s.heap.get? b = some o → h'.get? b = some o) → Q (.ref s.heap.objs.size) { s with heap := h', toks := tk }) :
    wpAny (model P w) A (call (.type "set") [.ref l]) Q E s := by
  obtain ⟨_, _, mro⟩ := F.called_set.mro
  have made := F.called_set.made
  have sub := F.called_set.sub
  refine wpAny_call (codeAny_of_tree ?_)
  show wpAny _ _ (callAny (.type "set") _) _ _ _
  refine wpAny_pure ⟨Code.quiet_builtin _ (by decide +kernel), codeAny_builtin F.entry_type_call ?_⟩
  rw [Around.under_plain (weight_type_call_type "set" [.ref l] []) rfl]
  have q1 := F.called_set.notType
  have q2 := F.called_set.canCreate
  have q3 := F.typeCall_set_1 (.ref l)
  repeat (any_goals (first | assumption | wp_step))
  refine codeAny_mono (code_set_led1 (.ref l) (E := E) (Q₁ := fun v z => v = .ref s.heap.objs.size ∧ z = { s with heap := s.heap.push (E0 w) }) ⟨rfl, rfl⟩) fun r z hz => ?_
  rcases r with e | r
  · exact hz
  cases r with
  | ret v =>
    obtain ⟨rfl, rfl⟩ := hz
    have at0 : (s.heap.push (E0 w)).get? s.heap.objs.size = some (E0 w) := Heap.get?_push_size _ rfl
    have ty : Shared.TypeIs { s with heap := s.heap.push (E0 w) } (.ref s.heap.objs.size) "set" := ⟨_, at0, rfl⟩
    have q4 := F.called_set.init.lookup
    have q5 := F.called_set.init.bind (.ref s.heap.objs.size)
    repeat (any_goals (first | assumption | wp_step))
    refine codeAny_mono (codeAny_call_builtin (R := wants (fun v z => v = .none ∧ ∃ h' tk c, z = { s with heap := h', toks := tk } ∧ SetG knd key h' s.heap.objs.size (fun j => decide (j ∈ items.toList.map key)) c ∧ ∀ b o, s.heap.get? b = some o → h'.get? b = some o) E) F.called_set.init.plain F.entry_set_init (check_set_init_1 ty ?_)) fun r z hz => ?_
    · have ltl : l < s.heap.objs.size := by
        obtain ⟨o, ho, _⟩ := hl
        exact Heap.lt_size ho
      have there : (s.heap.push (E0 w)).IsTuple l items := hl.push _
      obtain ⟨⟨_, d, _, sl⟩, ho, e1, m, e2⟩ := there
      simp only at e1 e2
      subst e1 e2
      have q6 := F.sub_tuple_set
      have q7 := F.sub_tuple_frozenset
      have q8 : (Value.type "tuple" == Value.type "dict") = false := by decide
      have there : (s.heap.push (E0 w)).IsTuple l items := ⟨_, ho, rfl, m, rfl⟩
      unfold Builtin.«set.__init__» noKeywords Builtin.Frozenset.updateFrom
      generalize hPI : pyIter = PI
      wp_walk
      subst hPI
      refine wpAny_pyIter_tuple there (wpAny_bind (wpAny_runValue ?_))
      have sz : (s.heap.push (E0 w)).objs.size = s.heap.objs.size + 1 := Heap.size_push ..
      refine fill_set (knd := knd) (key := key) (a := s.heap.objs.size) ((Walks.tuple (by simp [hh]) _ l (by rw [sz]; exact Nat.ne_of_lt (Nat.lt_succ_of_lt ltl)) items).toS) (by
        rw [sz]
        simp only [List.mem_cons, List.not_mem_nil, or_false, not_or]
        exact ⟨Nat.ne_of_lt (Nat.lt_succ_self _), Nat.ne_of_gt ltl⟩) items.toList rfl room gv (fun i v e => by rw [Array.getElem?_toList]; exact e) (items.size - 0) 0 _ (by omega) (Nat.zero_le _) ⟨⟨_, Heap.get?_push_size _ rfl, rfl, rfl⟩, there.push _⟩ ⟨0, Nat.le_refl 0, setG_fresh.at fun o e => Heap.get?_push_of_some _ e⟩ fun z c mv _ S => ?_
      obtain ⟨h', g, d', tk, os⟩ := z
      obtain rfl : g = s.gens := mv.gens
      obtain rfl : d' = s.drawn := mv.drawn
      obtain rfl : os = s.os := mv.os
      refine wpAny_pure ?_
      show wpAny _ _ (ret Value.none) _ _ _
      refine wpAny_pure ⟨rfl, h', tk, c, rfl, S, fun b o e => mv.heap b o ?_ (Heap.get?_push_of_some _ (Heap.get?_push_of_some _ e))⟩
      have lt := Heap.lt_size e
      rw [sz]
      simp only [List.mem_cons, List.not_mem_nil, or_false, not_or]
      exact ⟨Nat.ne_of_lt lt, Nat.ne_of_lt (Nat.lt_succ_of_lt lt)⟩
    · rcases r with e | r
      · exact hz
      cases r with
      | ret v =>
        obtain ⟨rfl, h', tk, c, rfl, S, keep⟩ := hz
        repeat (any_goals (first | assumption | wp_step))
        exact h _ _ _ S keep
      | _ => exact hz.elim
  | _ => exact hz.elim
end
end Dw

/-! DwSetC: set(numbers), set(texts) in the hand layer. -/
namespace Dw
open PySem PySem.Spec PyProof.Rows L2
def keyI (v : Value) : Int := match v with
  | .int k _ => k
  | _ => 0
theorem gv_int (P : Program) (w : World) (k : Int) (t : Tok) : Gv (intKind P w) keyI (.int k t) := ⟨intKind_is P w k t, rfl⟩
theorem keys_ints {P : Program} {w : World} : ∀ {us : List Value} {ns : List Int}, IntsAre us ns → us.map keyI = ns ∧ ∀ x ∈ us, Gv (intKind P w) keyI x
  | _, _, .nil => ⟨rfl, fun x h => nomatch h⟩
  | _, _, .cons n t h => by
    obtain ⟨e, g⟩ := keys_ints (P := P) (w := w) h
    refine ⟨by rw [List.map_cons, e]; rfl, fun x hx => ?_⟩
    rcases List.mem_cons.mp hx with rfl | hx
    · exact gv_int P w n t
    · exact g x hx
section
variable {P : Program} {w : World} {κ : Type} [DecidableEq κ] {knd : PySem.KeyKind P w κ} {key : Value → κ} {h : Heap} {a : Addr} {n : Nat}
/-- as many as differ -/
theorem SetG.count {S : κ → Bool} (R : SetG knd key h a S n) : ∃ l : List κ, l.Nodup ∧ (∀ k, k ∈ l ↔ S k = true) ∧ l.length = n := by
  obtain ⟨o, es, ep, t, _, _, _, D⟩ := R
  exact ⟨_, D.nodup, fun k => (D.mem k).symm, by rw [List.length_map, Array.length_toList]; exact D.size⟩
theorem setR_of {S : Int → Bool} (R : SetG (intKind P w) keyI h a S n) : SetR w h a S n := by
  obtain ⟨o, es, ep, t, ho, hx, hd, D⟩ := R
  have e : (fun e : Int × Value => keyI e.2) = keyOf := funext fun e => by
    obtain ⟨i, v⟩ := e
    cases v <;> rfl
  have nd := D.nodup
  have me := D.mem
  unfold ksOf at nd me
  rw [e] at nd me
  refine ⟨o, es, ep, t, ho, hx, hd, fun e he => ?_, nd, me, D.small, D.fits, D.size, D.ris, D.led⟩
  obtain ⟨g1, g2⟩ := D.good e he
  obtain ⟨t, q⟩ := Value.isInt_shape (k := keyI e.2) g1.1
  exact ⟨_, t, q, g2⟩
end
/-- set(numbers) -/
def rSetI (K : PySem.W.Frag) (w : World) : List V → Hp → VK → Prop := fun xs H Q => ∃ (p : Addr) (ns : List Int), xs = [.ref p] ∧ (SqL K H p (ns.map V.int) ∨ SqT K H p (ns.map V.int)) ∧ ns.length + 1 < scanBound ∧
  ∀ (q : Addr) (l : List Int), l.Nodup → (∀ k, k ∈ l ↔ k ∈ ns) → H q = none → Q (.ref q) (upd H q (SetO w q (fun j => decide (j ∈ ns)) l.length))
section
variable {X : Cx}
theorem cr_setI (hc : X.calm = true) : CallR X (.type "set") (rSetI X.K X.w) := by
  intro pins s σ H xs us Q I r h
  obtain ⟨p, ns, rfl, hq, room, q⟩ := h
  obtain ⟨u, rfl, ru⟩ := vals1 r
  cases ru
  have fin : ∀ (its : List Value), IntsAre its ns → ∀ (h' : Heap) (tk c : Nat), SetG (intKind X.prog X.w) keyI h' s.heap.objs.size (fun j => decide (j ∈ its.toArray.toList.map keyI)) c → (∀ b o, s.heap.get? b = some o → h'.get? b = some o) → EP X pins σ Q (.ref s.heap.objs.size) { s with heap := h', toks := tk } := fun its hi h' tk c S keep => by
    rw [List.toList_toArray, (keys_ints (P := X.prog) (w := X.w) hi).1] at S
    obtain ⟨l, l1, l2, rfl⟩ := S.count
    exact ⟨.ref s.heap.objs.size, _, I.laid (t' := tk) keep (Nat.le_refl _) (setO_new (setR_of S)), rfl, q _ l l1 (fun k => by rw [l2, decide_eq_true_eq]) (I.hok.fresh (Nat.le_refl _))⟩
  rcases hq with hq | hq
  · obtain ⟨its, rv, pl, hz⟩ := I.list hq
    have hi := ints_of_vals rv
    exact call_setL (I.ok.hd hc) pl.isList (by rw [List.toList_toArray]; exact (keys_ints hi).2) (by rw [List.toList_toArray, ← rv.length, List.length_map]; exact room) (fin its hi)
  · obtain ⟨its, rv, pt, hz⟩ := I.tuple hq
    have hi := ints_of_vals rv
    exact call_setT (I.ok.hd hc) pt (by rw [List.toList_toArray]; exact (keys_ints hi).2) (by rw [List.toList_toArray, ← rv.length, List.length_map]; exact room) (fin its hi)
end
end Dw

/-! DwSetD: sorted(set(..)), len(set(..)) over data. -/
namespace Dw
open PySem PySem.Spec PyProof.Rows L2
theorem len_subI {α : Type} [DecidableEq α] : ∀ {l B : List α}, l.Nodup → (∀ x ∈ l, x ∈ B) → l.length ≤ B.length
  | [], _, _, _ => Nat.zero_le _
  | x :: l, B, nd, h => by
    obtain ⟨n1, n2⟩ := List.nodup_cons.mp nd
    have hx := h x List.mem_cons_self
    have z := len_subI (l := l) (B := B.erase x) n2 fun y hy => (List.mem_erase_of_ne fun e => n1 (by rw [← e]; exact hy)).mpr (h y (List.mem_cons_of_mem _ hy))
    rw [List.length_erase_of_mem hx] at z
    have p := List.length_pos_of_mem hx
    show l.length + 1 ≤ _
    omega
section
variable {M : Md} {O : List Addr} {r : List Sl} {k : D → Prop} {te : TE} {P : Program} {w : World}
end
end Dw

/-! Wp13: rules in the form that the generator uses. -/
namespace Dw
open PySem PySem.Spec PyProof.Rows L2
def rSortedA (K : PySem.W.Frag) : List V → Hp → VK → Prop := fun xs H Q => rSortedW K xs H Q ∨ rSortedDt K xs H Q
theorem cr_sortedA {X : Cx} (hu : X.A.units + 64 < cLine) : CallR X (.builtin "sorted") (rSortedA X.K) := CallR.or cr_sortedW (cr_sortedDt hu)
def W.sortedA (ds : List D) (k : D → Prop) : Prop := W.sorted ds k ∨ W.sortedDt ds k
theorem l_sortedA {K : PySem.W.Frag} : LiftL K (rSortedA K) W.sortedA := fun N H ds vs k Q hN p w z => w.imp (fun w => l_sorted N H ds vs k Q hN p w z) fun w => l_sortedDt N H ds vs k Q hN p w z
/-- one more part of an f-string -/
def W.cat (acc : Str) (d : D) (k : Str → Prop) : Prop := ∃ s, d = .str s ∧ s.length ≤ sizeLine ∧ (acc ++ s).length ≤ sizeLine ∧ k (acc ++ s)
section
variable {M : Md} {O : List Addr} {r : List Sl} {te : TE} {ts : List TE} {acc : Str}
theorem W.cat.imp {d : D} {k k' : Str → Prop} (h : W.cat acc d k) (i : ∀ a, k a → k' a) : W.cat acc d k' := by
  obtain ⟨s, e, h1, h2, q⟩ := h
  exact ⟨s, e, h1, h2, i _ q⟩
theorem W.sumL.go {x y : D} {k : D → Prop} (h : W.sumL x y k) : W.sumL x y k := h
end
/-- own.extend(d) -/
def W.ext (xs : List D) (d : D) (k : List D → Prop) : Prop := ∃ ys, d = .lst ys ∧ xs.length + ys.length ≤ sizeLine ∧ k ys
theorem W.ext.imp {xs : List D} {d : D} {k k' : List D → Prop} (h : W.ext xs d k) (i : ∀ ys, k ys → k' ys) : ∃ ys, d = .lst ys ∧ xs.length + ys.length ≤ sizeLine ∧ k' ys := by
  obtain ⟨ys, e, hz, q⟩ := h
  exact ⟨ys, e, hz, i ys q⟩
section
variable {M : Md} {O : List Addr} {r : List Sl} {k : D → Prop} {te : TE} {P : Program} {w : World}
/-- isinstance by a table that says no more than the kit's -/
theorem e_isiC {kit : Value → Value → Option Bool} (hk : ∀ t u b, kit t u = some b → PySem.W.kitOne M.K t u = some b) {c : V} {u : Value} (hu : ClsV c u) (hc : ∀ C, kit (.ref C) u ≠ none → ClsT M.K C) (h : Dv M te O r fun d => W.isi kit u d k) : De M (tCB (rIsi M.K) (tCons te (tCons (tC c) tNil))) O r k := fun σ H Q R z => by
  refine h σ H _ R fun v H1 d R1 e1 p1 ⟨⟨b, hn, hk', q⟩⟩ => ?_
  exact ⟨v, c, d.tyV, u, b, rfl, hu, D.ty (fun C ns ds e => hc C (by subst e; show kit (D.tyV (.ins C ns ds)) u ≠ none; rw [hk']; exact fun z => nomatch z)) hn p1.s, hk _ _ _ hk', z (.bl b) H1 (.bl b) R1 e1 rfl q⟩
end
theorem FnOk.raw0 {P : Program} {w : World} {K : PySem.W.Frag} {mg : Str → Option Value} {base : Heap} {k : Nat} {f : Addr} {sp : Sp} {fd : FuncData} {ps : List Str} (F : FnOk P w K mg base CX0 k f fd ps sp) (b : Binds K fd ps []) : FnR P w K mg base CX0 k f sp :=
  fun A outer s H us vs Q E hr e0 r h => L2.FnOk.raw F b .nil A outer s H us vs Q E hr e0 r (by show sp (vs ++ []) H Q E; rw [List.append_nil]; exact h)
theorem pass0N {X : Cx} {E : XK} : Passes CX0 X.nox E := fun pins σ H s e s' I h => h.elim
theorem W.obj.imp {cs : List Addr} {m : Str} {d : D} {k k' : Prop} (h : W.obj cs m d k) (i : k → k') : W.obj cs m d k' := by
  obtain ⟨C, ns, ds, h1, h2, h3, q⟩ := h
  exact ⟨C, ns, ds, h1, h2, h3, i q⟩
theorem ini_last {K : PySem.W.Frag} {C : Addr} {ts : TS} {ns : List Str} {ds : List D} {r : List Sl} {E : List Str → List D → List Sl → Prop} (h : DIn K C (tSeq ts tNext) ns ds r E) : DIn K C ts ns ds r E := h
theorem W.join_go {α : Type} {f : (α → Prop) → Prop} {g : α → Prop} (h : W.join f g) : f g := h
def W.isNo (k : D → Prop) (d : D) : Prop := ∃ t, d = .bl t ∧ k (.bl (!t))
section
variable {M : Md} {O : List Addr} {r : List Sl} {k : D → Prop} {ta tb te : TE} {E : XK} {w : List D → (D → Prop) → Prop} {C : Addr}
theorem e_neO' (h : De M ta O r fun x => De M tb O r fun y => (∃ ns ds, x = .ins C ns ds) ∧ (∃ ms es, y = .ins C ms es) ∧ w [x, y] (W.isNo k)) : De M (tOp (rNeO C (SpP0 M.K w) E) ta tb) O r k := e_neO h
end
def W.nt (b : Bool) (k : Bool → Prop) : Prop := k (!b)
theorem t_not {M : Md} {O : List Addr} {r : List Sl} {tt : TT} {k : Bool → Prop} (h : DT M tt O r fun b => W.nt b k) : DT M (tNot tt) O r k := dt_not h
end Dw

/-! Wp14: comprehensions with two fors. -/
namespace Dw
open PySem PySem.Spec PyProof.Rows L2
section
variable {M : Md} {O : List Addr} {r : List Sl} {k : D → Prop} {te : TE} {wi wi1 : TI} {vs vs1 : List Nat}
end
end Dw

/-! Wp15: a class with an own == and no !=. -/
namespace Dw
open PySem PySem.Spec PyProof.Rows L2
def neIn (K : PySem.W.Frag) (C f : Addr) : Bool := match K.lookup C with
  | some ⟨.type "type", _, .cls cd, sl⟩ => (match cd.mro, sl.toList with
    | .ref C' :: bm, [_, _, _, _, some (.builtin _), _] => C' == C && bm == [.type "object"] && !cd.hasDel && PySem.W.nsOkIn K cd.ns && PySem.W.nsIn K cd.ns "__ne__" == some none && PySem.W.nsIn K cd.ns "__eq__" == some (some (.ref f)) && PySem.W.isFn K (.ref f)
    | _, _ => false)
  | _ => false
theorem ns_some_of {K : PySem.W.Frag} {h : Heap} {N : Addr} {mg : Str → Option Value} {n : Str} {v : Value} (X : K.In h) (G : h.Ns N mg) (e : PySem.W.nsIn K N n = some (some v)) : mg n = some v := by
  obtain ⟨o, es, ep, ho, hd, _, hf⟩ := G
  unfold PySem.W.nsIn at e
  split at e
  · rename_i c d es' n' sl q
    have := X _ _ q
    rw [ho] at this
    cases this
    cases hd
    split at e
    · rename_i en he
      cases e
      rw [← hf]
      unfold nsFind findBy
      rw [← Array.find?_toList, he]
      rfl
    · split at e <;> cases e
  · cases e
theorem fn_obj {K : PySem.W.Frag} {h : Heap} {f : Addr} (X : K.In h) (e : PySem.W.isFn K (.ref f) = true) : ∃ o, h.get? f = some o ∧ o.cls = .type "function" := by
  have e : PySem.W.typeIn K (.ref f) = some (.type "function") := by
    unfold PySem.W.isFn at e
    exact beq_iff_eq.mp e
  unfold PySem.W.typeIn at e
  simp only at e
  cases q : K.lookup f with
  | none =>
    rw [q] at e
    cases e
  | some o =>
    rw [q] at e
    exact ⟨o, X _ _ q, Option.some.inj e⟩
theorem own_ne {K : PySem.W.Frag} {C f : Addr} (q : neIn K C f = true) (h : Heap) (a dx : Addr) (X : K.In h) (ha : h.get? a = some (PySem.W.instObj C dx)) : h.OwnEqNoNe a C f "object" [.type "object"] := by
  unfold neIn at q
  split at q
  · rename_i dd cd sl ho
    split at q
    · rename_i C' bm k0 k1 k2 k3 n k5 hm hs
      simp only [Bool.and_eq_true, beq_iff_eq, Bool.not_eq_true'] at q
      obtain ⟨⟨⟨⟨⟨⟨rfl, rfl⟩, hdel⟩, hok⟩, hne⟩, heq⟩, hfn⟩ := q
      obtain ⟨nm, bs, mro, ns, qn, hd, sn, sub, ab, col, del⟩ := cd
      dsimp only at hm hdel hok hne heq
      subst hm hdel
      have hsl : sl = #[k0, k1, k2, k3, some (.builtin n), k5] := by
        obtain ⟨l⟩ := sl
        simp only at hs
        rw [hs]
      subst hsl
      have G : h.Ns ns (h.nsMap ns) := .of_isNs (PySem.W.isNs_of_in X hok)
      obtain ⟨of, hof, hcf⟩ := fn_obj X hfn
      exact ⟨_, of, nm, qn, ns, bs, hd, sn, sub, ab, col, dd, k0, k1, k2, k3, k5, n, h.nsMap ns, some (.builtin "object.__eq__"), ha, rfl, X _ _ ho, G, ns_some_of X G heq, hof, hcf, PySem.F.mro_object, by rw [typeLookup_type, builtinLookup_eq_fast]; kernel_rfl, PySem.W.ns_none_of X G hne⟩
    · cases q
  · cases q
end Dw

/-! Wp17: a new row of new rows; all its lists cleared. -/
namespace Dw
open PySem PySem.Spec PyProof.Rows L2
/-- H' is H, but for lists -/
def OnlyL (H H' : Hp) : Prop := ∀ a, H' a ≠ H a → ∃ us, H a = some (.lst us)
theorem OnlyL.keep {H H' : Hp} (h : OnlyL H H') {a : Addr} {o : HO} (e : H a = some o) (n : ∀ us, o ≠ .lst us) : H' a = some o := by
  by_cases q : H' a = H a
  · rw [q]
    exact e
  · obtain ⟨us, e2⟩ := h a q
    rw [e] at e2
    exact absurd (Option.some.inj e2) (n us)
/-- a row that is a new list, or a tuple -/
def RowF (K : PySem.W.Frag) (Ha H : Hp) (L : Addr) (d : D) (v : V) : Prop :=
  (∃ ss us z, d = .lst ss ∧ v = .ref z ∧ Ha z = none ∧ z ≠ L ∧ H z = some (.lst us)) ∨ ∃ ss us z, d = .tup ss ∧ v = .ref z ∧ SqT K H z us
section
variable {M : Md} {O : List Addr} {r : List Sl} {wi : TI} {te : TE} {vs : List Nat}
theorem RowF.step {Ha H H' : Hp} {L : Addr} {d : D} {v : V} {σ : L2.St} (i : M.I Ha) (e : Sm M.F0 H H') (h : RowF M.K Ha H L d v) (tup : ∀ z us, SqT M.K H z us → SqT M.K H' z us) : RowF M.K Ha H' L d v := by
  rcases h with ⟨ss, us, z, h1, h2, h3, h4, h5⟩ | ⟨ss, us, z, h1, h2, h3⟩
  · exact .inl ⟨ss, us, z, h1, h2, h3, h4, e z _ (fun f => M.tk Ha z i f h3) h5⟩
  · exact .inr ⟨ss, us, z, h1, h2, tup z us h3⟩
/-- an item: a new list, or a tuple -/
def DeE (M : Md) (te : TE) (O : List Addr) (r : List Sl) (k : D → Prop) : Prop :=
  ∀ σ H (Q : VK), Rp M O r σ H → (∀ v H' d, Rp M O r σ H' → Sm M.F0 H H' → Rep M.K (nf M O) H' d v → ((∃ ss us z, d = .lst ss ∧ v = .ref z ∧ H z = none ∧ H' z = some (.lst us)) ∨ ∃ ss, d = .tup ss) → k d → Q v H') → te σ H Q
/-- a row of such, new too -/
def DeF (M : Md) (te : TE) (O : List Addr) (r : List Sl) (k : List D → Prop) : Prop :=
  ∀ σ H (Q : VK), Rp M O r σ H → (∀ Dl acc H' hs, Rp M O r σ H' → Sm M.F0 H H' → H Dl = none → H' Dl = some (.lst acc) → RepL M.K (nf M O) H' hs acc → (∀ (i : Nat) (v : V), acc[i]? = some v → (∃ ss us z, hs[i]? = some (.lst ss) ∧ v = .ref z ∧ H z = none ∧ z ≠ Dl ∧ H' z = some (.lst us)) ∨ ∃ ss, hs[i]? = some (.tup ss)) → k hs → Q (.ref Dl) H') → te σ H Q
end
end Dw

/-! Wp18: a law's middle: rows handed over, two results without lists, a test, then the handed rows are cleared. -/
namespace Dw
open PySem PySem.Spec PyProof.Rows L2
section
variable {M : Md} {r : List Sl} {E : Kn}
/-- what is between the rows' making and the end of the clearing -/
structure Apart (Ha H : Hp) (h : Addr) (H' : Hp) : Prop where
  only : OnlyL H H'
  new : ∀ a, H' a ≠ H a → Ha a = none
  stay : ∀ a, H a ≠ none → H' a ≠ none
  row : H' h = H h
  list : ∀ a us, H a = some (.lst us) → ∃ us', H' a = some (.lst us')
theorem Apart.refl {Ha H : Hp} {h : Addr} : Apart Ha H h H := ⟨fun a q => absurd rfl q, fun a q => absurd rfl q, fun _ q => q, rfl, fun a us e => ⟨us, e⟩⟩
end
end Dw

/-! Wp16: len(set(texts)); items that are new lists or tuples. -/
namespace Dw
open PySem PySem.Spec PyProof.Rows L2
section
variable {M : Md} {O : List Addr} {r : List Sl} {k : D → Prop} {te tl tr : TE} {tt : TT} {P : Program} {w : World}
theorem DeF.imp {k k' : List D → Prop} (h : DeF M te O r k) (i : ∀ hs, k hs → k' hs) : DeF M te O r k' := fun σ H Q R z => h σ H Q R fun Dl acc H' hs a b c d e f g => z Dl acc H' hs a b c d e f (i hs g)
/-! items -/
end
end Dw

/-! Wp19: statements that only ask; own lists by [..] * n and their places; fields of an object that is being made; tuples of equal objects; defs with defaults. -/
namespace Dw
open PySem PySem.Spec PyProof.Rows L2
section
variable {M : Md} {O : List Addr} {r : List Sl} {te ti : TE} {tl : TA} {ts : TS} {E : Kn}
theorem s_drop (h : De M te O r fun _ => DS M ts O r E) : DS M (tSeq (tDrop te) ts) O r E := ds_seq (ds_drop h)
theorem s_never (h : False) : DS M tNever O r E := h.elim
/-- xs[i] = y -/
def W.put (xs : List D) (i y : D) (k : List D → Prop) : Prop := ∃ n : Nat, i = .int n ∧ n < xs.length ∧ k (xs.set n y)
theorem W.put.imp {xs : List D} {i y : D} {k k' : List D → Prop} (h : W.put xs i y k) (f : ∀ ys, k ys → k' ys) : W.put xs i y k' := by
  obtain ⟨n, e, hn, q⟩ := h
  exact ⟨n, e, hn, f _ q⟩
theorem RepL.setAt {K : PySem.W.Frag} {N : No} {H : Hp} {d : D} {v : V} : ∀ {ds : List D} {vs : List V} (n : Nat), RepL K N H ds vs → Rep K N H d v → RepL K N H (ds.set n d) (vs.set n v)
  | [], vs, n, h, _ => by
    have e : vs = [] := h
    rw [e]
    exact .nil
  | x :: ds, vs, 0, h, p => by
    obtain ⟨u, r, e1, h1, h2⟩ := h
    subst e1
    exact .cons p h2
  | x :: ds, vs, n + 1, h, p => by
    obtain ⟨u, r, e1, h1, h2⟩ := h
    subst e1
    exact .cons h1 (RepL.setAt n h2 p)
theorem s_put {i : Nat} {p : Addr} {xs : List D} (h : r[i]? = some (.mu p xs)) (q : De M te O r fun y => De M ti O r fun j => W.put xs j y fun ys => DS M ts O (r.set i (.mu p ys)) E) :
    DS M (tSeq (tAsg te (gSub (tVar i) ti rSetL)) ts) O r E := ds_seq fun σ H Z R z => by
  refine q σ H _ R fun v H1 y R1 e1 p1 q1 => ?_
  obtain ⟨s1, _⟩ := R1.slot i _ h
  refine ⟨.ref p, s1, q1 σ H1 _ R1 fun u H2 j R2 e2 p2 q2 => ?_⟩
  obtain ⟨n, rfl, hn, q3⟩ := q2
  obtain rfl : u = .int n := p2
  obtain ⟨_, hp, vs, h1, h2⟩ := R2.slot i _ h
  have hl : n < vs.length := by rw [← h2.length]; exact hn
  refine ⟨p, vs, n, n, rfl, rfl, h1, ?_, ?_⟩
  · unfold ixN
    rw [if_pos (by omega), if_pos (by omega)]
    simp
  exact z.nx O _ σ _ (R2.write h (h2.setAt n (p1.step e2))) (stp_write R2 h (e1.trans e2)) q3
/-- a new own list: x = [..] * n -/
def W.times (xs : List D) (d : D) (k : List D → Prop) : Prop := ∃ n : Nat, d = .int n ∧ n ≤ 16777216 ∧ xs.length * n ≤ sizeLine ∧ k (List.replicate n xs).flatten
theorem W.times.imp {xs : List D} {d : D} {k k' : List D → Prop} (h : W.times xs d k) (f : ∀ ys, k ys → k' ys) : W.times xs d k' := by
  obtain ⟨n, e, h1, h2, q⟩ := h
  exact ⟨n, e, h1, h2, f _ q⟩
theorem s_ownMul {i : Nat} (h : DA M tl O r fun ds => ds.length ≤ sizeLine ∧ De M te O r fun d => W.times ds d fun ys => ∀ p, p ∉ O → DS M ts (p :: O) (r.set i (.mu p ys)) E) :
    DS M (tSeq (tAsg (tOp (rMulW M.K) (tLst tl) te) (gName i)) ts) O r E := ds_seq fun σ H Z R z => by
  refine h σ H _ R fun vs H1 ds R1 e1 p1 ⟨hz, q1⟩ => ⟨by rw [← p1.length]; exact hz, fun p0 hp0 => ?_⟩
  have R1' := R1.grow (sm_new (o := .lst vs) hp0)
  have np0 : ¬ nf M O p0 := new_no R1 hp0
  refine q1 σ _ _ R1' fun u H2 d R2 e2 p2 q2 => ?_
  obtain ⟨n, rfl, hn, hl, q3⟩ := q2
  obtain rfl : u = .int n := p2
  have pr : Rep M.K (nf M O) H2 (.lst ds) (.ref p0) := (show Rep M.K (nf M O) (upd H1 p0 (.lst vs)) (.lst ds) (.ref p0) from ⟨p0, vs, rfl, .inl ⟨np0, .inl upd_same⟩, p1.mono (sm_0 (sm_new hp0))⟩).step e2
  obtain ⟨a, ws, ea, h1, h2⟩ := pr
  have hs : sizeLine = 16777216 := sizeLine_eq
  refine .inr (.inr ⟨a, n, ws, ea, rfl, h1.sq, by omega, by omega, by rw [← h2.length]; simpa using hl, fun p hp => ?_⟩)
  have nO : p ∉ O := fun z => (R2.own p z).2 hp
  have h3 := repL_flat h2 n
  have e3 : Sm M.F0 H H2 := (e1.trans (sm_0 (sm_new hp0))).trans e2
  have hn' : ((n : Int)).toNat = n := by simp
  rw [hn']
  refine z.nx _ _ _ _ ((R2.own1 hp).set (i := i) (v := .ref p) (s := .mu p (List.replicate n ds).flatten) ⟨rfl, List.mem_cons_self, _, upd_same, h3.own1 hp⟩ fun l xs e j ys hj hy => ?_) (stp_new R2 e3 hp) (q3 p nO)
  cases e
  exact nO (R2.slot j _ hy).2.1
end
/-! ### the fields of an object that is being made -/
/-- it stands at x, so far -/
def SelfAt (K : PySem.W.Frag) (F : No) (H : Hp) (C x : Addr) (ns : List Str) (ds : List D) : Prop := ∃ dx vs, H x = some (.ins C dx (ns.zip vs)) ∧ ns.length = ds.length ∧ RepL K F H ds vs
def W.fldS (ns : List Str) (ds : List D) (f : Str) (k : D → Prop) : Prop := ∃ x, (ns.zip ds).lookup f = some x ∧ k x
section
variable {K : PySem.W.Frag} {C : Addr} {ns : List Str} {ds : List D} {r : List Sl} {E : List Str → List D → List Sl → Prop}
theorem e_self {H : Hp} {F : No} {f0 tr} {i : Nat} {x : Addr} {f : Str} {k : D → Prop} (hi : r[i]? = some (.d (.ref x))) (S : SelfAt K F H C x ns ds) (hC : Cls K C) (hN : NoAttr K C f) (h : W.fldS ns ds f k) :
    De (mdOf K pure0 () H F f0 tr) (tFld K (tVar i) f) [] r k := fun σ H1 Q R z => by
  obtain ⟨u, e, hu⟩ := R.slot i _ hi
  obtain rfl := (show u = .ref x from hu)
  obtain ⟨d, l, q⟩ := h
  obtain ⟨dx, vs, h1, h2, h3⟩ := S
  obtain ⟨v, l1, l2⟩ := zip_lookup h3 l
  have s : Sm (fun _ => False) H H1 := fun a o n e => R.sm a o (fun z => z) e
  refine ⟨.ref x, e, x, C, dx, ns.zip vs, v, rfl, s x _ (fun z => z) h1, hC, hN, l1, z v H1 d R .refl ?_ q⟩
  exact (l2.gen fun a ha => ha.elim .inl fun q => nomatch q).mono fun a o n e => s a o (fun z => z) e
theorem ini_fldS {tv : TE} {ts : TS} {f : Str} (hC : Cls K C) (hN : NoAttr K C f) (hn : ns.contains f = false) (hl : ns.length < 1000)
    (h : ∀ (H : Hp) (F : No) (x : Addr) f0 tr, r[0]? = some (.d (.ref x)) → SelfAt K F H C x ns ds → De (mdOf K pure0 () H F f0 tr) tv [] r fun y => DIn K C ts (ns ++ [f]) (ds ++ [y]) r E) : DIn K C (tSeq (sFld K (tVar 0) tv f) ts) ns ds r E := fun F H1 x dx σ H Z h0 R z => by
  obtain ⟨f0, tr, R0⟩ := R.slots
  show tv σ H _
  obtain ⟨vs, a1, a2, a3⟩ := R.at_
  refine h H (fx F x dx) x f0 tr h0 ⟨dx, vs, a1, a2, a3⟩ σ H _ R0 fun v H' y R' e' p' q => ?_
  obtain ⟨u, s1, s2⟩ := R'.slot 0 _ h0
  obtain rfl := (show u = .ref x from s2)
  refine ⟨.ref x, s1, ?_⟩
  have a1' : H' x = some (.ins C dx (ns.zip vs)) := e' x _ (fun z => z) a1
  have lv : ns.length = vs.length := by rw [a2, a3.length]
  refine ⟨x, C, dx, ns.zip vs, rfl, a1', hC, hN, by rw [List.length_zip]; omega, ?_⟩
  rw [zip_put lv hn]
  have up : Sm (fx F x dx) H' (upd H' x (.ins C dx ((ns ++ [f]).zip (vs ++ [v])))) := fun a o n e => by
    rw [upd_ne fun e1 => n (.inr (.inl e1))]
    exact e
  have up1 : Sm (fun _ => False) H1 (upd H' x (.ins C dx ((ns ++ [f]).zip (vs ++ [v])))) := fun a o n e => by
    rw [upd_ne (ne_of_none e R.free.1)]
    exact e' a o n (R.up a o n e)
  have od : (upd H' x (.ins C dx ((ns ++ [f]).zip (vs ++ [v])))) dx = some (.own x) := by
    rw [upd_ne R.free.2.2]
    exact e' dx _ (fun z => z) R.own
  refine q F H1 x dx σ _ Z h0 ⟨R.free, R.trk, up1, ⟨vs ++ [v], upd_same, by simp [a2], ?_⟩, od, ⟨f0, _, rebase R' _ up (fx_trk R.trk up1 (by rw [upd_same]; exact fun z => nomatch z) (by rw [od]; exact fun z => nomatch z))⟩⟩ z
  exact repL_snoc ((a3.mono fun a o n e => e' a o (fun z => z) e).mono up) ((show Rep K (nf (mdOf K pure0 () H (fx F x dx) f0 tr) []) H' y v from p').less (M := fx F x dx) (fun a z => .inl z) |>.mono up)
/-- an expression alone -/
theorem ini_drop {te : TE} {ts : TS} (h : ∀ (H : Hp) (F : No) f0 tr, De (mdOf K pure0 () H F f0 tr) te [] r fun _ => DIn K C ts ns ds r E) : DIn K C (tSeq (tDrop te) ts) ns ds r E :=
  ini_st fun H F f0 tr => ds_drop ((h H F f0 tr).imp fun _ q => ⟨rfl, rfl, q⟩)
end
/-! ### tuples of objects, one and the same tree -/
theorem ext_sm {H H' : Hp} (e : Ext H H') : Sm (fun _ => False) H H' := fun a o _ h => e a o h
theorem sm_ext {H H' : Hp} (e : Sm (fun _ => False) H H') : Ext H H' := fun a o h => e a o (fun z => z) h
section
variable {X : Cx} {k : Nat} {f C : Addr} {fd : FuncData} {ps : List Str} {p : D → D → (D → Prop) → Prop}
end
end Dw

/-! DwEnT: enumerate over what is a list or a tuple; a walk over a text. -/
namespace PySem
open AutoSeq1 (wpAny_loadPart')
set_option maxHeartbeats 1000000 in
theorem meets_enumerate_newT {v : Value} {o : Obj} {H : Heap → Prop} (B : Begins v o H) :
    Meets (Builtin.«enumerate.__new__» ⟨[.type "enumerate", v], []⟩) (fun _ R s => H s.heap ∧
      R (.ok (.ret (.ref (s.heap.push o).objs.size))) { s with heap := (s.heap.push o).push { cls := .type "enumerate", data := .fields #[.none, .bool false, .ref s.heap.objs.size, rawInt 0, .none, .none] } }) :=
  .of_wp fun prog w A R s h => by
    obtain ⟨hp, g, d, tk, os⟩ := s; obtain ⟨hl, h⟩ := h
    have hsub := sub_enumerate
    have q1 : ∀ {A' : Around} {E : Value → Shared → Prop} {Q : Value → Shared → Prop}, Q (.ref hp.objs.size) ⟨hp.push o, g, d, tk, os⟩ → wpAny (model prog w) A' (pyIter v) Q E ⟨hp, g, d, tk, os⟩ :=
      fun q => B.iter prog w _ _ ⟨hp, g, d, tk, os⟩ _ hl q
    wp_walk using q1
    refine wpAny_stack_any fun st => wpAny_pure ?_
    split
    · rename_i c _ _ _ _ _
      cases (c == Value.type "enumerate")
      · wp_walk using q1
        exact ⟨_, rfl, h⟩
      · wp_walk using q1
        exact ⟨_, rfl, h⟩
    · wp_walk using q1
      exact ⟨_, rfl, h⟩
theorem call_enumerate_tuple {prog : Program} {w : World} {A : Around} {E : Value → Shared → Prop} {s : Shared} {l : Addr} {items : Array Value} {Q : Value → Shared → Prop} (hL : s.heap.IsTuple l items)
    (h : ∀ h', IsEnum h' (s.heap.objs.size + 1) s.heap.objs.size 0 .none → h'.IsTupleIter s.heap.objs.size l 0 → h'.objs.size = s.heap.objs.size + 2 →
      (∀ b o, s.heap.get? b = some o → h'.get? b = some o) → Q (.ref (s.heap.objs.size + 1)) { s with heap := h' }) :
    wpAny (model prog w) A (call (.type "enumerate") [.ref l]) Q E s := by
  refine callType_new F.called_enumerate (by decide) (F.typeCall_enumerate_1 _) (F.newCall_enumerate_1 _) (fun obj => F.args_object_init_2 obj _) F.entry_enumerate_new
    (meets_enumerate_newT (begins_tuple l items)) ⟨hL, ?_⟩
  have hz : (s.heap.push { cls := .type "tuple_iterator", data := .fields #[.ref l, .int 0 0] }).objs.size = s.heap.objs.size + 1 := Heap.size_push ..
  show _ ∧ _
  rw [hz]
  have he : IsEnum ((s.heap.push { cls := .type "tuple_iterator", data := .fields #[.ref l, .int 0 0] }).push
      { cls := .type "enumerate", data := .fields #[.none, .bool false, .ref s.heap.objs.size, rawInt 0, .none, .none] }) (s.heap.objs.size + 1) s.heap.objs.size 0 .none := by
    have := Heap.get?_push_size (s.heap.push { cls := .type "tuple_iterator", data := .fields #[.ref l, .int 0 0] })
      (o := { cls := .type "enumerate", data := .fields #[.none, .bool false, .ref s.heap.objs.size, rawInt 0, .none, .none] }) rfl
    rw [hz] at this; exact this
  refine ⟨⟨_, he, rfl⟩, h _ he ⟨_, Heap.get?_push_of_some _ (Heap.get?_push_size _ rfl), rfl, rfl⟩ (by rw [Heap.size_push, hz]) fun b o x => Heap.get?_push_of_some _ (Heap.get?_push_of_some _ x)⟩
theorem wpAny_pyNext_enum_endT {prog : Program} {w : World} {A : Around} {E : Value → Shared → Prop} {s : Shared} {e it l : Addr} {i : Nat} {items : Array Value} {old : Value} {Q : Option Value → Shared → Prop} (hh : A.handled = none)
    (he : IsEnum s.heap e it i old) (hit : s.heap.IsTupleIter it l i) (hl : s.heap.IsTuple l items) (hx : items[i]? = none)
    (hQ : ∀ h', Heap.ExtBut it s.heap h' → Q none { s with heap := h' }) : wpAny (model prog w) A (pyNext (.ref e)) Q E s := by
  have hT : s.TypeIs (.ref e) "enumerate" := ⟨_, he, rfl⟩
  unfold pyNext
  refine wpAny_bind (wpAny_attempt (wpAny_callSpecial?_slot (name := Str.ofString "__next__") hT F.slot_enumerate_next
    (wpAny_call_entry F.slot_enumerate_next hT F.entry_enumerate_next ?_ (F.args_enumerate_next_1 _))))
  show wpAny _ _ (field (.ref e) 2 >>= _) _ _ _
  refine wpAny_bind (wpAny_field he rfl (x := .ref it) rfl ?_)
  refine wpAny_bind (wpAny_nextOf_tuple_end hh hit hl hx fun h' x he' hx' => ?_)
  obtain ⟨o, ho, hc⟩ := hx'
  refine wpAny_bind (wpAny_isInstance (T := "StopIteration") (b := true) ⟨o, ho, hc⟩ isSubtype_stop ?_)
  exact wpAny_pure (hQ _ he')
end PySem
namespace Dw
open PySem PySem.Spec PyProof.Rows L2
/-- the tuple at a as it stands at each turn, each item in a new pair -/
def IteT (K : PySem.W.Frag) (a : Addr) : It :=
  ⟨fun i H => ∃ (xs : List V) (x : V), SqT K H a xs ∧ xs[i]? = some x, fun i H v H' => ∃ T x, v = .ref T ∧ H T = none ∧ H' = upd H T (.tup [.int (i : Nat), x]) ∧ ∀ xs, SqT K H a xs → xs[i]? = some x, fun i H => ∃ xs : List V, SqT K H a xs ∧ xs.length ≤ i⟩
theorem turn_enumT {P : Program} {w : World} {K : PySem.W.Frag} {elts : List Expr} {kk : Nat} {tpos : Pos} (a e it : Addr) :
    Turn P w K (.Tuple elts kk tpos) (IteT K a) [e, it] e (fun i h => (∃ old, IsEnum h e it ((i : Nat) : Int) old) ∧ h.IsTupleIter it a i ∧ e ≠ it) where
  mem := by simp
  obj := fun i h st b hb => by
    obtain ⟨⟨old, he⟩, ⟨o, ho, hc, hd⟩, _⟩ := st
    have e' : b = e ∨ b = it := by simpa using hb
    rcases e' with z | z
    · rw [z]; exact ⟨_, he, fun v q => nomatch q⟩
    · rw [z]; exact ⟨o, ho, fun v q => by rw [hd] at q; cases q⟩
  keep := fun i h h' st k => let ⟨⟨old, he⟩, hi, hne⟩ := st; ⟨⟨old, k e (by simp) _ he⟩, hi.at fun o q => k it (by simp) o q, hne⟩
  item := by
    intro X hP hw hK hc i pins s σ H E I hf st hg
    subst hP hw hK
    obtain ⟨⟨old, he⟩, hit, hne⟩ := st
    obtain ⟨xs, x, hq, hx⟩ := hg
    obtain ⟨its, rv, p, hz⟩ := I.tuple hq
    obtain ⟨u, hu, ru⟩ := rv.get hx
    have hel : e < s.heap.objs.size := Heap.lt_size he
    have hil : it < s.heap.objs.size := by obtain ⟨_, q, _⟩ := hit; exact Heap.lt_size q
    have hT : s.heap.IsTuple a its.toArray := p
    have hai : a ≠ it := fun z => by
      obtain ⟨o1, q1, c1, _⟩ := hit
      obtain ⟨o2, q2, c2, _⟩ := hT
      rw [z, q1] at q2
      cases q2
      rw [c1] at c2
      injection c2 with c2
      exact absurd c2 (by decide)
    have hae : a ≠ e := fun z => by
      obtain ⟨o2, q2, c2, _⟩ := hT
      have he' : s.heap.get? e = some _ := he
      rw [z, he'] at q2
      cases q2
      injection c2 with c2
      exact absurd c2 (by decide)
    have hi : i < its.toArray.size := by
      have := (List.getElem?_eq_some_iff.mp hu).1
      simpa using this
    have D := Draws.tuple (prog := X.prog) (w := X.w) (A := X.A.in1) (I.ok.hd hc) it a hai its.toArray
    refine wpAny_pyNext_enum_itemD D he ⟨hit, hT⟩ hi hne (by simpa using ⟨hne, Ne.symm hae⟩) fun x' h' tk hx' ho st' hT1 hsz hk => ?_
    obtain rfl : u = x' := by
      have hx' : its.toArray[i]? = some x' := hx'
      simp only [List.getElem?_toArray] at hx'
      rw [hu] at hx'
      exact Option.some.inj hx'
    obtain ⟨hit', _⟩ := st'
    refine ⟨_, rfl, wpAny_letOwnedTupleGo_enum (s := { s with heap := h', toks := tk + 1 }) ho fun h'' he' sb => ?_⟩
    have hT2 : h''.get? s.heap.objs.size = some { cls := .type "tuple", data := .seq #[.int i tk, u] } := (sb.2 _ (Nat.ne_of_gt hel)).trans hT1
    have new : ObjOk X.prog X.w (upd H s.heap.objs.size (.tup [.int (i : Nat), x])) h'' s.heap.objs.size (.tup [.int (i : Nat), x]) :=
      ⟨by show 2 ≤ sizeLine; decide, [.int i tk, u], .cons ⟨_, rfl⟩ (.cons ru .nil), ⟨_, hT2, rfl, _, rfl⟩⟩
    have I1 : Inv X pins σ (upd H s.heap.objs.size (.tup [.int (i : Nat), x])) { s with heap := h'', toks := tk + 1 } :=
      I.turnedNew (ch := [e, it]) (fun b ob hb q => (sb.2 b (fun z => hb (by simp [z]))).trans (hk b ob (fun z => hb (by simp [z])) (fun z => hb (by simp [z])) q)) hf (Nat.le_refl _) new
    refine ⟨.ref s.heap.objs.size, _, I1, rfl, ⟨_, x, rfl, I.hok.fresh (Nat.le_refl _), rfl, fun ys hy => by rw [I.tuple_inj hy hq]; exact hx⟩, ⟨⟨u, ?_⟩, hit'.at fun o q => (sb.2 it (Ne.symm hne)).trans q, hne⟩, fun b hb => ?_⟩
    · have e1 : ((i + 1 : Nat) : Int) = (i : Int) + 1 := by omega
      rw [e1]; exact he'
    · have hb' : b < s.heap.objs.size := by
        have e' : b = e ∨ b = it := by simpa using hb
        rcases e' with z | z
        · rw [z]; exact hel
        · rw [z]; exact hil
      rw [upd_ne (Nat.ne_of_lt hb')]
      exact (hf b hb).1
  done := by
    intro X hP hw hK hc i pins s σ H E I hf st hg
    subst hP hw hK
    obtain ⟨⟨old, he⟩, hit, hne⟩ := st
    obtain ⟨xs, hq, hx⟩ := hg
    obtain ⟨its, rv, p, hz⟩ := I.tuple hq
    have hT : s.heap.IsTuple a its.toArray := p
    obtain ⟨f0, f1, f2, f3, f4, f5⟩ := hf it (by simp)
    have hl := rv.length
    exact wpAny_pyNext_enum_endT (I.ok.hd hc) he hit hT (by simp; omega) fun h' eb => ⟨rfl, I.turned (t' := s.toks) (fun b o hb q => eb b o hb q) f0 f1 f3 f4 f5⟩
  self := fun A i s Q E st h => let ⟨⟨_, he⟩, _⟩ := st; wpAny_pyIter_enum he h
/-- over a list or a tuple, whichever it is, with numbers -/
def iEnumA (K : PySem.W.Frag) (ta : TA) : TI := fun σ H R => ta σ H fun vs H1 => ∃ a, vs = [.ref a] ∧ (((∃ xs, SqL K H1 a xs) ∧ R (Ite K a) H1) ∨ ((∃ xs, SqT K H1 a xs) ∧ R (IteT K a) H1))
theorem pi_enumA {X : Cx} {e : Expr} {ta : TA} {p pos tpos : Pos} {elts : List Expr} {kk : Nat} (hg : Gl X "enumerate") (hm : X.mg "enumerate" = none) (ha : PA X [e] ta) (hs : starEach [e] X.env = [(false, eval e X.env)] := by rfl) :
    PI X (.Tuple elts kk tpos) (.Call (.Name "enumerate" p) [e] [] pos) (iEnumA X.K ta) := by
  refine ⟨fun pins s σ H R I h => ?_⟩
  refine Call_ (ld_blt I hg hm boot_enumerate (PyProof.Rows.callWith_type1 (thn (ha.run pos pins s σ H _ I h) fun us s1 ⟨vs, H1, I1, r1, q1⟩ => ?_) hs rfl))
  obtain ⟨a, ex, q⟩ := q1
  subst ex
  cases r1 with
  | cons r rr =>
    cases rr
    cases r
    have fps : ∀ b ∈ [s1.heap.objs.size + 1, s1.heap.objs.size], FpOk X pins H1 b := fun b hb => by
      have e' : b = s1.heap.objs.size + 1 ∨ b = s1.heap.objs.size := by simpa using hb
      have hle : s1.heap.objs.size ≤ b := by
        rcases e' with z | z
        · rw [z]; exact Nat.le_add_right _ _
        · rw [z]; exact Nat.le_refl _
      exact I1.fpOk hle (I1.hok.fresh hle)
    rcases q with ⟨⟨xs, hq⟩, q⟩ | ⟨⟨xs, hq⟩, q⟩
    · obtain ⟨its, rv, p', hz⟩ := I1.list hq
      refine call_enumerate_list p'.isList fun h' he hit hsz hk => wpAny_pyIter_enum he ?_
      have I2 : Inv X pins σ H1 { s1 with heap := h' } := I1.kept (t' := s1.toks) hk
      exact ⟨s1.heap.objs.size + 1, [s1.heap.objs.size + 1, s1.heap.objs.size], _, _, H1, rfl, I2, turn_enum a (s1.heap.objs.size + 1) s1.heap.objs.size, ⟨⟨.none, he⟩, hit, Nat.succ_ne_self _⟩, fps, q⟩
    · obtain ⟨its, rv, p', hz⟩ := I1.tuple hq
      refine call_enumerate_tuple (show s1.heap.IsTuple a its.toArray from p') fun h' he hit hsz hk => wpAny_pyIter_enum he ?_
      have I2 : Inv X pins σ H1 { s1 with heap := h' } := I1.kept (t' := s1.toks) hk
      exact ⟨s1.heap.objs.size + 1, [s1.heap.objs.size + 1, s1.heap.objs.size], _, _, H1, rfl, I2, turn_enumT a (s1.heap.objs.size + 1) s1.heap.objs.size, ⟨⟨.none, he⟩, hit, Nat.succ_ne_self _⟩, fps, q⟩
def wk_enumT (K : PySem.W.Frag) (a : Addr) (xs : List D) : Wk K (IteT K a) (enumD xs) where
  G := fun N H => ∃ vs, TAt K N H a vs ∧ RepL K N H xs vs
  mono := fun N H H' e ⟨vs, h1, h2⟩ => ⟨vs, h1.mono e, h2.mono e⟩
  gen := fun N N' H e ⟨vs, h1, h2⟩ => ⟨vs, h1.gen e, h2.gen e⟩
  go := fun N H i ⟨vs, h1, h2⟩ hi => by
    rw [enumD_len] at hi
    exact ⟨vs, vs[i]'(by rw [← h2.length]; exact hi), h1.sq, List.getElem?_eq_getElem _⟩
  yld := fun N H i x H' d hN ⟨vs, h1, h2⟩ y hd => by
    obtain ⟨T, v, rfl, nT, rfl, y⟩ := y
    obtain ⟨e, q1, rfl⟩ := enumD_get hd
    obtain ⟨w, q2, q3⟩ := h2.get q1
    have := y vs h1.sq
    rw [q2] at this
    cases this
    refine ⟨sm_new nT, T, _, rfl, .inl ⟨fun z => hN T z nT, .inl upd_same⟩, .cons rfl (.one (q3.mono (sm_0 (sm_new nT))))⟩
  stop := fun N H i ⟨vs, h1, h2⟩ hi => by
    rw [enumD_len] at hi
    exact ⟨vs, h1.sq, by rw [← h2.length]; exact hi⟩
/-- the signs of a text -/
def signsD (z : Str) : List D := z.cps.toList.map fun c => .str ⟨#[c]⟩
def wk_str (K : PySem.W.Frag) (z : Str) : Wk K (Its z) (signsD z) where
  G := fun _ _ => True
  mono := fun _ _ _ _ _ => trivial
  gen := fun _ _ _ _ _ => trivial
  go := fun N H i _ hi => show i < z.cps.size by unfold signsD at hi; simpa using hi
  yld := fun N H i x H' d _ _ y hd => by
    obtain ⟨rfl, c, hc, rfl⟩ := (show H' = H ∧ ∃ c, z.cps[i]? = some c ∧ x = .str ⟨#[c]⟩ from y)
    refine ⟨.refl, ?_⟩
    unfold signsD at hd
    rw [List.getElem?_map] at hd
    obtain ⟨c', hc', rfl⟩ := Option.map_eq_some_iff.mp hd
    have : z.cps.toList[i]? = some c := by simpa using hc
    rw [this] at hc'
    cases hc'
    rfl
  stop := fun N H i _ hi => show z.cps.size ≤ i by unfold signsD at hi; simpa using hi
theorem di_enumA {M : Md} {O : List Addr} {r : List Sl} {k : List D → Prop} {te : TE} (h : De M te O r fun x => ∃ xs, (x = .lst xs ∨ x = .tup xs) ∧ k (enumD xs)) : DI M (iEnumA M.K (tCons te tNil)) O r k := fun σ H Q R z => h σ H _ R fun v H1 x R1 e1 p1 q => by
  obtain ⟨xs, c, q⟩ := q
  rcases c with rfl | rfl
  · obtain ⟨a, vs, rfl, h1, h2⟩ := p1
    exact ⟨a, rfl, .inl ⟨⟨vs, h1.sq⟩, z _ H1 _ (wk_enum M.K a xs) R1 e1 ⟨vs, h1, h2⟩ q⟩⟩
  · obtain ⟨a, vs, rfl, h1, h2⟩ := p1
    exact ⟨a, rfl, .inr ⟨⟨vs, h1.sq⟩, z _ H1 _ (wk_enumT M.K a xs) R1 e1 ⟨vs, h1, h2⟩ q⟩⟩
end Dw

/-! Wp20: walks over lists or tuples with numbers and over texts; == of tuples of objects; defs with defaults; a source of draws that is made amid a def. -/
namespace Dw
open PySem PySem.Spec PyProof.Rows L2
def W.enumA (x : D) (k : List D → Prop) : Prop := W.seq x fun xs => k (enumD xs)
def W.signs (x : D) (k : List D → Prop) : Prop := ∃ s, x = .str s ∧ k (signsD s)
section
variable {M : Md} {O : List Addr} {r : List Sl} {te ta tb : TE} {kl : List D → Prop} {k : D → Prop}
theorem i_enumA (h : De M te O r fun x => W.enumA x kl) : DI M (iEnumA M.K (tCons te tNil)) O r kl := fun σ H Q R z => h σ H _ R fun v H1 x R1 e1 p1 q => by
  obtain ⟨xs, c, q⟩ := seq_e q
  rcases c with rfl | rfl
  · obtain ⟨a, vs, rfl, h1, h2⟩ := p1
    exact ⟨a, rfl, .inl ⟨⟨vs, h1.sq⟩, z _ H1 _ (wk_enum M.K a xs) R1 e1 ⟨vs, h1, h2⟩ q⟩⟩
  · obtain ⟨a, vs, rfl, h1, h2⟩ := p1
    exact ⟨a, rfl, .inr ⟨⟨vs, h1.sq⟩, z _ H1 _ (wk_enumT M.K a xs) R1 e1 ⟨vs, h1, h2⟩ q⟩⟩
theorem i_signs (h : De M te O r fun x => W.signs x kl) : DI M (iStr te) O r kl := fun σ H Q R z => h σ H _ R fun v H1 x R1 e1 p1 q => by
  obtain ⟨s, rfl, q⟩ := q
  exact ⟨s, p1, z _ H1 _ (wk_str M.K s) R1 e1 trivial q⟩
end
/-! ### defs with defaults -/
/-- a def as it stands behind the top, whatever its defaults -/
structure FunV (K : PySem.W.Frag) (x qual : Str) (st : Stmt) (f : Addr) (fd : FuncData) : Prop where
  ex : ∃ (oc : Value) (od : Option Addr) (dV kV doc pm : Value) (an : Option Addr) (cdv ct : Value) (osl : Array (Option Value)),
    fd = PySem.W.fnOf x qual (defArgs st) (defBody st) (defScope st) dV kV doc pm an cdv ct ∧ K.lookup f = some ⟨oc, od, .func fd, osl⟩ ∧ PySem.W.codeIn K cdv qual = true
section
variable {P : Program} {w : World} {K : PySem.W.Frag} {mg : Str → Option Value} {base : Heap}
theorem FunV.ok {x qual : Str} {st : Stmt} {f : Addr} {fd : FuncData} {N ps : List Str} {k : Nat} {sp : Sp} (F : FunV K x qual st f fd) (S : FnScope N ps (defScope st)) (len : ∀ vs H Q E, sp vs H Q E → vs.length = ps.length)
    (hbody : ∀ (cdv : Value) (A : Around) (outer : List Env) (s : Shared) (H : Hp) (vs : List V) (Q : VK) (E : XK), Room k (A.deeper (envOfC qual (defScope st) s.heap.objs.size f cdv)) → sp vs H Q E →
      ∃ t, PSs (cxOf CX0 P w K mg base N qual (defScope st) f cdv A outer s H E).nox (defBody st) t ∧ t { nx := fun _ H' => Q .non H', rt := Q } (start N vs) H) : FnOk P w K mg base CX0 (k + 1) f fd ps sp := by
  obtain ⟨oc, od, dV, kV, doc, pm, an, cdv, ct, osl, rfl, lk, hcd⟩ := F.ex
  refine fn_of lk hcd S len fun A outer s H vs Q E hr hsp => ?_
  obtain ⟨t, h, q⟩ := hbody cdv A outer s H vs Q E hr hsp
  exact ⟨t, h.nox, q⟩
/-- an __init__ by its body -/
theorem fn_initV {x qual : Str} {st : Stmt} {f C : Addr} {fd : FuncData} {N ps : List Str} {k : Nat} {W : List D → (D → Prop) → Prop} (F : FunV K x qual st f fd) (T : FnScope N ps (defScope st))
    (len : ∀ ds k, W ds k → ds.length + 1 = ps.length)
    (body : ∀ (cdv : Value) (A : Around) (outer : List Env) (s : Shared) (H : Hp) (E : XK) (self : Addr) (ds : List D) (kr : D → Prop), Room k (A.deeper (envOfC qual (defScope st) s.heap.objs.size f cdv)) → W ds kr →
      ∃ t, PSs (cxOf CX0 P w K mg base N qual (defScope st) f cdv A outer s H E).nox (defBody st) t ∧ DIn K C t [] [] (startR N.length (.ref self :: ds)) (fun ns fs _ => kr (.ins C ns fs))) : FnOk P w K mg base CX0 (k + 1) f fd ps (SpI K C W) := by
  refine F.ok T (fun vs H Q E h => ?_) (fun cdv A outer s H vs Q E hr h => ?_)
  · obtain ⟨x, dx, us, ds, F1, kr, H1, rfl, _, _, _, _, p, _, q, _⟩ := h
    rw [List.length_cons, ← p.length, len ds kr q]
  · obtain ⟨x, dx, us, ds, F1, kr, H1, rfl, hx, hd, ne, rfl, p, tr1, q, z⟩ := h
    obtain ⟨t, ht, hb⟩ := body cdv A outer s _ E x ds kr hr q
    refine ⟨t, ht, ?_⟩
    have xs : (upd (upd H1 dx (.own x)) x (.ins C dx [])) x = some (.ins C dx []) := upd_same
    have dxs : (upd (upd H1 dx (.own x)) x (.ins C dx [])) dx = some (.own x) := by
      rw [upd_ne ne, upd_same]
    have up : Sm (fun _ => False) H1 (upd (upd H1 dx (.own x)) x (.ins C dx [])) := fun a o n e => by
      rw [upd_ne (ne_of_none e hx), upd_ne (ne_of_none e hd)]
      exact e
    have tr2 := fx_trk tr1 up (by rw [xs]; exact fun z => nomatch z) (by rw [dxs]; exact fun z => nomatch z)
    have pf : RepL K (fx F1 x dx) (upd (upd H1 dx (.own x)) x (.ins C dx [])) ds us := by
      refine RepL.mono (up.wide fun _ z => z.elim) (p.gen fun a h => ?_)
      rcases h with h | rfl | rfl
      · exact .inl h
      · exact .inr hx
      · exact .inr hd
    refine hb F1 H1 x dx _ _ _ rfl ⟨⟨hx, hd, ne⟩, tr1, up, ⟨[], xs, rfl, rfl⟩, dxs, ⟨fun _ z => z.elim, tr2, start_rp (M := mdOf K pure0 () _ (fx F1 x dx) (fun _ z => z.elim) tr2) (N := N) (ds := .ref x :: ds) ⟨.ref x, us, rfl, rfl, pf⟩ trivial⟩⟩ fun ns' ds' r' σ' H' R' q' => ?_
    obtain ⟨vs, a1, a2, a3⟩ := R'.at_
    exact z H' (.ins C ns' ds') R'.up ⟨x, dx, vs, rfl, fun f => tr1 x f hx, fun f => tr1 dx f hd, a1, R'.own, a2, a3.less fun a f => .inl f⟩ q'
end
section
variable {M : Md} {O : List Addr} {r : List Sl} {k : D → Prop} {tl : TA} {Ex : XK} {dd : List D} {dvs : List V}
theorem e_makeD {C : Addr} {w : List D → (D → Prop) → Prop} (hd : ∀ N H, RepL M.K N H dd dvs) (h : DA M tl O r fun ds => w (ds ++ dd) k) : De M (tMake C (SpI M.K C w) dvs Ex tl) O r k := fun σ H Q R z => by
  refine h σ H _ R fun vs H1 ds R1 e1 p1 q => fun x dx hx hd' ne => ?_
  exact ⟨x, dx, vs ++ dvs, ds ++ dd, nf M O, k, H1, rfl, hx, hd', ne, rfl, p1.append (hd _ _), nf_tr R1, q, fun H2 d s p po => ⟨rfl, z (.ref x) H2 d (R1.grow s) (e1.trans (sm_0 s)) p po⟩⟩
end
/-! ### a source of draws, made amid a def that has none -/
section
variable {K : PySem.W.Frag} {r : List Sl} {ts : TS} {E : Kn} {Ex : XK}
end
theorem a1_i {w : D → (D → Prop) → Prop} {a : D} {k : D → Prop} (h : w a k) : W.a1 w [a] k := h
theorem a2_i {w : D → D → (D → Prop) → Prop} {a b : D} {k : D → Prop} (h : w a b k) : W.a2 w [a, b] k := h
/-! ### for the heads -/
section
variable {K : PySem.W.Frag} {x qual : Str} {st : Stmt} {f T : Addr} {oc dV : Value} {od an : Option Addr} {osl : Array (Option Value)} {kV doc pm cdv ct : Value}
theorem funV_mk (l : K.lookup f = some ⟨oc, od, .func (PySem.W.fnOf x qual (defArgs st) (defBody st) (defScope st) dV kV doc pm an cdv ct), osl⟩) (c : PySem.W.codeIn K cdv qual = true) :
    FunV K x qual st f (PySem.W.fnOf x qual (defArgs st) (defBody st) (defScope st) dV kV doc pm an cdv ct) := ⟨oc, od, dV, kV, doc, pm, an, cdv, ct, osl, rfl, l, c⟩
/-- the arguments that are written, and defaults behind the first j -/
theorem bindsV {ps : List Str} {dvs : List V} {its : List Value} {oT : Obj} {m : Nat} (l : K.lookup f = some ⟨oc, od, .func (PySem.W.fnOf x qual (defArgs st) (defBody st) (defScope st) (.ref T) kV doc pm an cdv ct), osl⟩) (c : PySem.W.codeIn K cdv qual = true) (k : PySem.W.keepIn K (.ref f) = true)
    (lT : K.lookup T = some oT) (hT : oT.data = .seq its.toArray m) (rT : Vals dvs its) (n j : Nat) (hd : dvs ≠ []) (hn : n + (dvs.length - j) = ps.length)
    (h : ∀ (T : Addr) (kV doc pm : Value) (an : Option Addr) (cdv ct : Value) (us its : List Value), us.length = n → its.length = dvs.length →
      ∃ k, bindArgs (PySem.W.fnOf x qual (defArgs st) (defBody st) (defScope st) (.ref T) kV doc pm an cdv ct) ⟨us, []⟩ = seqItems? (.ref T) >>= k ∧ k (some its.toArray) = pure (ps.zip (us ++ its.drop j))) :
    ∃ ds, Vals (dvs.drop j) ds ∧ Binds K (PySem.W.fnOf x qual (defArgs st) (defBody st) (defScope st) (.ref T) kV doc pm an cdv ct) ps ds :=
  FunD.binds1 (F := (⟨⟨oc, od, .ref T, kV, doc, pm, an, cdv, ct, osl, rfl, l, c, .inr ⟨hd, T, oT, its, m, rfl, lT, hT, rT⟩, .inl rfl⟩, k⟩ : FunD K x qual (defArgs st) (defBody st) (defScope st) dvs [] f _)) n j hd hn h
theorem vals_nil {ds : List Value} (h : Vals [] ds) : ds = [] := by
  cases h
  rfl
theorem rep_tupC {a : Addr} {dd : Option Addr} {its : Array Value} {n : Nat} {sl : Array (Option Value)} {ds : List D} {vs : List V} (h : K.lookup a = some ⟨.type "tuple", dd, .seq its n, sl⟩) (hs : its.size ≤ sizeLine) (hv : Vals vs its.toList) (hr : ∀ N H, RepL K N H ds vs) : ∀ N H, Rep K N H (.tup ds) (.ref a) :=
  fun N H => ⟨a, vs, rfl, .inr (.inr ⟨_, its, n, h, rfl, rfl, hs, hv⟩), hr N H⟩
/-- the kit's table, at some classes and what is no class of a program -/
def kitOf (K : PySem.W.Frag) (Rs : List Addr) (t u : Value) : Option Bool := match t with
  | .ref C => if C ∈ Rs then PySem.W.kitOne K t u else none
  | _ => PySem.W.kitOne K t u
theorem kitOf_le {Rs : List Addr} (t u : Value) (b : Bool) (h : kitOf K Rs t u = some b) : PySem.W.kitOne K t u = some b := by
  unfold kitOf at h
  split at h
  · split at h
    · exact h
    · cases h
  · exact h
theorem kitOf_ref {Rs : List Addr} {u : Value} {p : Addr → Prop} (hp : ∀ R ∈ Rs, p R) (C : Addr) (h : kitOf K Rs (.ref C) u ≠ none) : p C := by
  by_cases e : C ∈ Rs
  · exact hp C e
  · exact absurd (if_neg e) h
theorem kitOf_self {Rs : List Addr} {R : Addr} (hR : R ∈ Rs) : kitOf K Rs (.ref R) (.ref R) = some true := by
  have e : ((Value.ref R : Value) == .ref R) = true := by simp
  show (if R ∈ Rs then PySem.W.kitOne K (.ref R) (.ref R) else none) = some true
  rw [if_pos hR]
  unfold PySem.W.kitOne
  rw [if_pos e]
end
end Dw

/-! DwExcA: own exceptions with fields, over any builtin base, made as values by position or by name; their fields; isinstance. -/
namespace Dw
open PySem Builtin Builtin.ObjectAttr
/-- a class of the program that hangs on the builtin exception B -/
structure EcO (C : Addr) (B newId : String) (o : Obj) (bm : List Value) : Prop where
  at_ : ∃ nm q N bs sn sub ab col dd k0 k1 k2 k3 k5, o = excClassObj nm q C N bs bm true sn sub ab col dd k0 k1 k2 k3 k5 newId
  hB : bm.contains (.type B) = true
  hA : bm.contains (.type "AttributeError") = false
  hN : bm.contains (.type "NameError") = false
  ho : bm.contains (.type "object") = true
section
variable {prog : Program} {w : World} {A : Around} {E : Value → Shared → Prop} {R : Result → Shared → Prop} {h : Heap} {g : Array GenState} {d : Drawn} {t : Nat} {os : OsState}
variable {nm q : Str} {C N : Addr} {bs bm bmB : List Value} {hdct : Bool} {sn : List Str} {sub : List Value} {ab : Bool} {col : Option Bool} {dd : Option Addr} {k0 k1 k2 k3 k5 : Option Value} {B newId initId : String} {rest : List Value} {kw : List (Str × Value)}
end
end Dw

/-! DwExcB: a field stored in an exception of the program, whatever its builtin base. -/
namespace Dw
open PySem Builtin Builtin.ObjectAttr
/-- a class whose mro lets a field be stored -/
structure StoreOk (mro : List Value) : Prop where
  ne : mro.isEmpty = false
  ob : mro.contains (.type "object") = true
  ps : ∀ self, refuseLoop self "__setattr__" mro = pure ()
section
variable {prog : Program} {w : World} {A : Around} {E : Value → Shared → Prop} {R : Result → Shared → Prop} {hp : Heap} {g : Array GenState} {d : Drawn} {t : Nat} {os : OsState}
variable {K : W.Frag} {name : Str} {tk : Tok} {v : Value} {x C : Addr} {fv : Array Value} {cd : ClassData}
end
end Dw

/-! DwExcC: the hand layer's rules: such an exception is made, its fields are stored and read, isinstance. -/
namespace Dw
open PySem PySem.Spec PyProof.Rows L2
/-- what the written part says of an exception class of the program -/
structure EcC (K : PySem.W.Frag) (C : Addr) (B newId : String) : Prop where
  cls : ∃ o bm, K.lookup C = some o ∧ EcO C B newId o bm ∧ StoreOk (Value.ref C :: bm)
  sa : PySem.W.findIn K (.ref C) "__setattr__" = some (some (.builtin "object.__setattr__"))
  xf : XfC K C
  kC : PySem.W.keepIn K (.ref C) = true
  hcl : (PySem.W.clsIn K C).isSome = true
  hca : PySem.W.findIn K (.ref C) "__class__" = some (some (.builtin "object.__class__"))
theorem EcC.cd {K : PySem.W.Frag} {C : Addr} {B newId : String} (T : EcC K C B newId) : ∃ cd, PySem.W.clsIn K C = some cd ∧ StoreOk cd.mro ∧ cd.hasDict = true := by
  obtain ⟨o, bm, lk, O, S⟩ := T.cls
  obtain ⟨nm, q, N, bs, sn, sub, ab, col, dd, k0, k1, k2, k3, k5, rfl⟩ := O.at_
  refine ⟨{ name := nm, bases := bs, mro := .ref C :: bm, ns := N, qualname := q, hasDict := true, slotNames := sn, subclasses := sub, abstract := ab, collection := col, hasDel := false }, ?_, S, rfl⟩
  unfold PySem.W.clsIn
  rw [lk]
section
variable {X : Cx} {pins : List (Addr × Obj)} {σ : L2.St} {H : Hp} {s : Shared} {a C dx : Addr} {B newId initId : String} {bmB : List Value} {f : Str} {y : V} {u : Value} {fs : List (Str × V)} {Q : Unit → Shared → Prop} {E : Value → Shared → Prop} {A : Around}
end
/-! ### made -/
section
variable {X : Cx} {k : Nat} {C fI : Addr} {fd : FuncData} {ps ks : List Str} {sp : Sp} {x : Str} {p pos : Pos} {e : Expr} {es : List Expr} {kws : List Keyword} {ta tk : TA} {B newId initId : String} {bmB : List Value}
end
end Dw

/-! DwExcD: exceptions as data: made, read, asked for their class. -/
namespace Dw
open PySem PySem.Spec PyProof.Rows L2
/-- __init__ with one field f -/
def spI1 (C : Addr) (f : Str) : Sp := fun vs H Q _ => ∃ a y, vs = [.ref a, y] ∧ H a = some (exo a C none) ∧ ∀ dx, H dx = none → dx ≠ a → Q .non (upd (upd H dx (exd dx [(f, y)])) a (exo a C (some dx)))
/-- __init__ with two fields, f first -/
def spI2 (C : Addr) (f g : Str) : Sp := fun vs H Q _ => ∃ a y z, vs = [.ref a, y, z] ∧ H a = some (exo a C none) ∧ ∀ dx, H dx = none → dx ≠ a → Q .non (upd (upd (upd H dx (exd dx [(f, y)])) a (exo a C (some dx))) dx (exd dx [(g, z), (f, y)]))
section
variable {M : Md} {O : List Addr} {r : List Sl} {k : D → Prop} {te : TE} {ta : TA} {C : Addr} {f g : Str} {σ : L2.St} {H : Hp}
/-- what isinstance asks of a class -/
structure IsX (K : PySem.W.Frag) (C : Addr) : Prop where
  xf : XfC K C
  hcl : (PySem.W.clsIn K C).isSome = true
  hca : PySem.W.findIn K (.ref C) "__class__" = some (some (.builtin "object.__class__"))
  hm : PySem.W.mroIn K C (.type "object") = some true
end
end Dw

/-! DwExcE: the facts of a class, to be found by evaluation. -/
namespace Dw
open PySem PySem.Spec PyProof.Rows L2
end Dw

/-! Wx1: what a def lets out, over trees: promises with exceptions, raise of own exceptions with one field, calls. -/
namespace Dw
open PySem PySem.Spec PyProof.Rows L2
/-- an exception that flies: its class and the fields of its dict -/
def RepX (K : PySem.W.Frag) (N : No) (H : Hp) (e : D) (cls : Value) (o : Option Addr) : Prop :=
  ∃ C ns ds vs, e = .exc C ns ds ∧ cls = .ref C ∧ ns.length = ds.length ∧ RepL K N H ds vs ∧ ((o = none ∧ ns = []) ∨ ∃ dx, o = some dx ∧ ¬ N dx ∧ H dx = some (.xd (ns.zip vs)))
theorem RepX.less {K : PySem.W.Frag} {N M : No} {H : Hp} {e : D} {cls : Value} {o : Option Addr} (i : ∀ a, M a → N a) (h : RepX K N H e cls o) : RepX K M H e cls o := by
  obtain ⟨C, ns, ds, vs, e1, e2, hl, hr, q⟩ := h
  exact ⟨C, ns, ds, vs, e1, e2, hl, hr.less i, q.imp id fun ⟨dx, h1, h2, h3⟩ => ⟨dx, h1, fun z => h2 (i dx z), h3⟩⟩
theorem RepX.mono {K : PySem.W.Frag} {N : No} {H H' : Hp} {e : D} {cls : Value} {o : Option Addr} (i : Sm N H H') (h : RepX K N H e cls o) : RepX K N H' e cls o := by
  obtain ⟨C, ns, ds, vs, e1, e2, hl, hr, q⟩ := h
  exact ⟨C, ns, ds, vs, e1, e2, hl, hr.mono i, q.imp id fun ⟨dx, h1, h2, h3⟩ => ⟨dx, h1, h2, i dx _ h2 h3⟩⟩
/-- a pure def that may raise: ke is what the exceptions are told, kr the answers -/
def SpE (K : PySem.W.Frag) (φ : (D → Prop) → List D → (D → Prop) → Prop) : Sp := fun vs H Q E =>
  ∃ (ds : List D) (F : No) (ke kr : D → Prop), RepL K F H ds vs ∧ (∀ a, F a → H a ≠ none) ∧ φ ke ds kr ∧ (∀ v H' d, Sm (fun _ => False) H H' → Rep K F H' d v → kr d → Q v H') ∧
    ∀ cls o H' e, Sm (fun _ => False) H H' → RepX K F H' e cls o → ke e → E cls o H'
/-- the wish W takes the exceptions of which ke holds -/
def HX (M : Md) (O : List Addr) (r : List Sl) (W : WX) (ke : D → Prop) : Prop := ∀ σ H cls o e, Rp M O r σ H → RepX M.K (nf M O) H e cls o → ke e → W cls o σ H
theorem HX.imp {M : Md} {O : List Addr} {r : List Sl} {W : WX} {ke ke' : D → Prop} (h : HX M O r W ke) (i : ∀ e, ke' e → ke e) : HX M O r W ke' := fun σ H cls o e R x q => h σ H cls o e R x (i e q)
section
variable {P : Program} {w : World} {K : PySem.W.Frag} {mg : Str → Option Value} {base : Heap}
/-- where it raises nothing -/
theorem FnOk.calm {k : Nat} {f : Addr} {fd : FuncData} {ps : List Str} {φ : (D → Prop) → List D → (D → Prop) → Prop} (F : FnOk P w K mg base (L2.CX P w) k f fd ps (SpE K φ)) : FnOk P w K mg base CX0 k f fd ps (SpP0 K (φ fun _ => False)) := by
  have up : ∀ vs H Q E, SpP0 K (φ fun _ => False) vs H Q E → SpE K φ vs H Q L2.E0 := fun vs H Q E h => by
    obtain ⟨g, ds, F1, kr, p, f0, tr, i, q, z⟩ := h
    exact ⟨ds, F1, fun _ => False, kr, p, tr, q, fun v H' d s pr kd => z v H' d s trivial pr kd, fun _ _ _ _ _ _ z => z.elim⟩
  refine ⟨fun vs H Q E h => F.len _ _ _ _ (up vs H Q E h), fun A outer s H args us vs Q E hr he hb hv hs => codeAny_mono (F.run A outer s H args us vs Q L2.E0 hr he hb hv (up vs H Q E hs)) fun r s' q => ?_⟩
  cases r with
  | error e =>
    obtain ⟨_, _, _, _, _, _, _, _, _, _, _, _, z⟩ := q
    exact z.elim
  | ok fl => cases fl <;> exact q
end
/-! ### raise C(x), C's own __init__ with one field -/
section
variable {X : Cx} {k : Nat} {C fI : Addr} {fd : FuncData} {ps : List Str} {sp : Sp} {x : Str} {p pos : Pos} {e : Expr} {es : List Expr} {ta : TA} {B newId initId : String} {bmB : List Value}
end
section
variable {M : Md} {O : List Addr} {r : List Sl} {k : D → Prop} {te : TE} {ta tl : TA} {C : Addr} {f : Str} {E : Kn} {W : WX} {ke : D → Prop}
end
end Dw

/-! Wx2: try with any number of clauses, named or not, each exception of the body caught. -/
namespace Dw
open PySem PySem.Spec PyProof.Rows L2
/-- a clause: its class or its two classes, the slot of its name, its suite -/
abbrev Clause := (Value × Option Value) × Option Nat × (Addr → Value → Option Addr → TS)
def NmOk (X : Cx) : Option Str → Option Nat → Prop
  | none, none => True
  | some n, some i => X.N.Nodup ∧ X.N[i]? = some n ∧ X.env.kindOf n = some .local
  | _, _ => False
inductive Clauses (X : Cx) : List ExceptHandler → List Clause → Prop
  | none : Clauses X [] []
  | more {x : Str} {nm : Option Str} {b : Stmt} {suite : List Stmt} {np pos' : Pos} {hds : List ExceptHandler} {c : Clause} {v : Value} {l : List Clause} (hc : Names X x v) (hv : c.1 = (v, none)) (hn : NmOk X nm c.2.1)
      (hsu : ∀ (a : Addr) (oe : Obj) (cls : Value) (o : Option Addr) (pn : List (Addr × Obj)), Zc cls o oe → (∃ vs, oe.data = .fields vs) → PSs (X.suite a ((a, oe) :: pn)) (b :: suite) (c.2.2 a cls o)) (r : Clauses X hds l) :
      Clauses X (.ExceptHandler (some (.Name x np)) nm (b :: suite) pos' :: hds) (c :: l)
  | more2 {x y : Str} {b : Stmt} {suite : List Stmt} {np np2 tp pos' : Pos} {kk : Nat} {hds : List ExceptHandler} {c : Clause} {v v2 : Value} {l : List Clause} (hc : Names X x v) (hc2 : Names X y v2) (hv : c.1 = (v, some v2)) (hn : c.2.1 = none)
      (hsu : ∀ (a : Addr) (oe : Obj) (cls : Value) (o : Option Addr) (pn : List (Addr × Obj)), Zc cls o oe → (∃ vs, oe.data = .fields vs) → PSs (X.suite a ((a, oe) :: pn)) (b :: suite) (c.2.2 a cls o)) (r : Clauses X hds l) :
      Clauses X (.ExceptHandler (some (.Tuple [.Name x np, .Name y np2] kk tp)) none (b :: suite) pos' :: hds) (c :: l)
section
variable {X : Cx} {pins : List (Addr × Obj)} {σ : L2.St} {H : Hp} {s : Shared} {Z : Ends}
/-- a caught exception on the ground: every state that differs by it alone -/
structure Caught (X : Cx) (pins : List (Addr × Obj)) (σ : L2.St) (H : Hp) (a : Addr) (cls : Value) (o : Option Addr) (B : Heap) (s : Shared) : Prop where
  fl : HandSPX.FlyingZ B (X.env :: X.outer) a (Zc cls o) s.heap
  na : H a = none
  inv : ∀ h', HandSPX.FlyingZ B (X.env :: X.outer) a (Zc cls o) h' → s.heap.UpToSlots h' → Inv X pins σ H { s with heap := h' }
theorem Caught.obj {a : Addr} {cls : Value} {o : Option Addr} {B : Heap} (ok : X.Ok) (hf : X.env.frame = some X.env.locals) (na : H a = none) (fl : HandSPX.FlyingZ B (X.env :: X.outer) a (Zc cls o) s.heap) (I : Inv X pins σ H s) :
    ∃ oe, Zc cls o oe ∧ (∃ vs, oe.data = .fields vs) ∧ s.heap.get? a = some oe ∧ Inv (X.suite a ((a, oe) :: (X.pn ++ pins))) [] σ H s := by
  obtain ⟨oe, vs, e, z, d⟩ := fl.there
  have out : a ∉ frs (X.env :: X.outer) := fun m => by
    obtain ⟨_, o', e', n⟩ := fl.2.2.1.mem m
    rw [e] at e'
    cases e'
    exact n _ d
  refine ⟨oe, z, ⟨vs, d⟩, e, I.suite e d na (fun q => out ?_) fun m => out ?_⟩
  · exact List.mem_filterMap.mpr ⟨X.env, List.mem_cons_self, by rw [hf, q]⟩
  · obtain ⟨f, mf, q⟩ := List.mem_filterMap.mp m
    exact List.mem_filterMap.mpr ⟨f, List.mem_cons_of_mem _ mf, q⟩
/-- one more object beside it -/
theorem Caught.push {a : Addr} {cls : Value} {o : Option Addr} {B : Heap} (C : Caught X pins σ H a cls o B s) (ob : Obj) : Caught X pins σ H a cls o B { s with heap := s.heap.push ob } := by
  have k : ∀ b u, s.heap.get? b = some u → (s.heap.push ob).get? b = some u := fun b u e => Heap.get?_push_of_some _ e
  obtain ⟨⟨f1, f2, f3, oe, vs, T, oT, ts, g1, g2, g3, g4, g5, g6, g7, g8, g9⟩, na, inv⟩ := C
  exact ⟨⟨fun b u e => k b u (f1 b u e), f2, f3.of_keeps fun b u e _ => ⟨u, k b u e, rfl⟩, oe, vs, T, oT, ts, k _ _ g1, g2, g3, g4, g5, g6, k _ _ g7, g8, g9⟩, na, fun h' fl up => inv h' fl ((Heap.UpToSlots.of_keeps k).trans up)⟩
variable {body : List Stmt} {h₀ : ExceptHandler} {hds : List ExceptHandler} {l : List Clause} {pos : Pos} {tb : WX → TS}
end
end Dw

/-! Wx3: try over trees. -/
namespace Dw
open PySem PySem.Spec PyProof.Rows L2
/-- f: the body, told what follows it and what its exceptions find; g: the clauses, told what follows; p: what follows -/
def W.try {S SX : Type} (f : (S → Prop) → (SX → D → Prop) → Prop) (g : (S → Prop) → SX → D → Prop) (p : S → Prop) : Prop := f p (g p)
/-- e is an exception -/
def W.exc (e : D) (k : Addr → List Str → List D → Prop) : Prop := ∃ C ns ds, e = .exc C ns ds ∧ k C ns ds
/-- does the clause for u take it -/
def W.hd (xm : Addr → Value → Option Bool) (C : Addr) (u : Value) (yes no : Prop) : Prop := ∃ b, xm C u = some b ∧ (b = true → yes) ∧ (b = false → no)
/-- of two classes -/
def W.hd2 (xm : Addr → Value → Option Bool) (C : Addr) (u u2 : Value) (yes no : Prop) : Prop := ∃ b b2, xm C u = some b ∧ xm C u2 = some b2 ∧ ((b || b2) = true → yes) ∧ ((b || b2) = false → no)
section
variable {M : Md} {O : List Addr} {r : List Sl} {σ : L2.St} {H H1 : Hp} {E : Kn} {Z : Ends}
end
section
variable {M : Md} {O : List Addr} {r : List Sl} {E : Kn} {S SX : Type}
end
/-! ### classes that are raised -/
/-- what a row must know of an exception class with one field -/
structure RaiseF (P : Program) (w : World) (K : PySem.W.Frag) (mg : Str → Option Value) (base : Heap) (x : Str) (C : Addr) (f : Str) : Prop where
  ex : ∃ (B newId initId : String) (bmB : List Value) (fI : Addr) (fd : FuncData) (ps : List Str), EcC K C B newId ∧ ExcBaseFacts B newId initId bmB ∧ FnOk P w K mg base CX0 1 fI fd ps (spI1 C f) ∧ PySem.W.findIn K (.ref C) "__init__" = some (some (.ref fI)) ∧
    PySem.W.typeIn K (.ref fI) = some (.type "function") ∧ PySem.W.typeIn K (.ref C) = some (.type "type") ∧ Binds K fd ps [] ∧ mg x = some (.ref C)
end Dw

/-! Wp21: an if-expression whose continuation is kept as a name. -/
namespace Dw
open PySem PySem.Spec PyProof.Rows L2
section
variable {M : Md} {O : List Addr} {r : List Sl} {k : D → Prop} {ta tb : TE}
theorem e_ifJ {tt : TT} {m : (D → Prop) → Prop} (h : W.join m k) (f : ∀ k' : D → Prop, m k' → DT M tt O r fun b => W.ite b (De M ta O r k') (De M tb O r k')) : De M (tIf tt ta tb) O r k := e_if (f k h)
end
end Dw

/-! Wp22: is None, stars in tuples and lists, a try whose body raises nothing. -/
namespace Dw
open PySem PySem.Spec PyProof.Rows L2
section
variable {K : PySem.W.Frag} {N : No} {H : Hp}
end
section
variable {M : Md} {O : List Addr} {r : List Sl} {te : TE} {tl : TA} {k : List D → Prop}
end
section
variable {X : Cx} {body : List Stmt} {h₀ : ExceptHandler} {hds : List ExceptHandler} {pos : Pos}
end
section
variable {M : Md} {O : List Addr} {r : List Sl} {E : Kn} {S : Type} {ts tz : TS}
end
section
variable {M : Md} {O : List Addr} {r : List Sl} {E : Kn} {ta : TA}
end
end Dw

/-! Wp23: sum of a tuple of numbers. -/
namespace Dw
open PySem PySem.Spec PyProof.Rows L2
def rSumT (K : PySem.W.Frag) : List V → Hp → VK → Prop := fun vs H Q => ∃ (a : Addr) (ns : List Int), vs = [V.ref a] ∧ SqT K H a (ns.map V.int) ∧ Q (.int ns.sum) H
def rSumA (K : PySem.W.Frag) : List V → Hp → VK → Prop := fun vs H Q => rSum K vs H Q ∨ rSumT K vs H Q
theorem cr_sumT {X : Cx} (hc : X.calm = true) : CallR X (.builtin "sum") (rSumT X.K) := by
  intro pins s σ H vs us Q I r h
  obtain ⟨a, ns, rfl, hs, q⟩ := h
  obtain ⟨its, rv, hl, _⟩ := I.tuple hs
  rw [Vals.ref1 r]
  obtain ⟨xs, e⟩ := rv.ints.allInts.items
  have hn : numsOf (intItems xs).toList = ns := by rw [← e]; exact rv.ints.numsOf
  rw [nums_intItems] at hn
  rw [e] at hl
  refine PySem.W.ktm_sumG (I.ok.hd hc) hl fun h' tk t' hk => ?_
  refine ⟨.int ns.sum, H, I.kept hk, ⟨t', ?_⟩, q⟩
  rw [preSum_eq, List.take_of_length_le (by simp), hn]
theorem cr_sumA {X : Cx} (hc : X.calm = true) : CallR X (.builtin "sum") (rSumA X.K) := CallR.or (cr_sum hc) (cr_sumT hc)
def W.sumA (ds : List D) (k : D → Prop) : Prop := ∃ ns : List Int, (ds = [.lst (ns.map D.int)] ∨ ds = [.tup (ns.map D.int)]) ∧ k (.int ns.sum)
theorem l_sumA {K : PySem.W.Frag} : LiftL K (rSumA K) W.sumA := fun N H ds vs k Q hN p w z => by
  obtain ⟨ns, h | h, q⟩ := w
  · exact .inl (l_sum N H ds vs k Q hN p ⟨ns, h, q⟩ z)
  · subst h
    obtain ⟨v, rfl, h⟩ := p.one
    obtain ⟨a, vs, rfl, h1, h2⟩ := h.tup
    rw [repL_ints h2] at h1
    exact .inr ⟨a, ns, rfl, h1, z.here (d := .int _) rfl q⟩
end Dw

/-! Wp24: one of a new list and a tuple is handed over; the list is cleared afterwards. -/
namespace Dw
open PySem PySem.Spec PyProof.Rows L2
section
variable {M : Md} {O : List Addr} {r : List Sl} {k : D → Prop}
end
section
variable {M : Md} {O : List Addr} {r : List Sl} {k k' : D → Prop}
theorem DeE.imp {te : TE} (h : DeE M te O r k) (i : ∀ d, k d → k' d) : DeE M te O r k' := fun σ H Q R z => h σ H Q R fun v H1 d R1 e1 p1 kd q => z v H1 d R1 e1 p1 kd (i d q)
end
section
variable {M : Md} {r : List Sl} {E : Kn}
end
end Dw

/-! Wy1: == of tuples of objects, alike or not. -/
namespace GQB
open PySem PySem.SeqAt GQ
open AutoSeq1 (wpAny_loadPart')
open MeetsSeq MeetsSeq2 MeetsSeq3 SeqRoads2
section
variable {prog : Program} {w : World} {A : Around} {R : Result → Shared → Prop}
theorem tuple_eqB (l b : Addr) (items items2 : Array Value) (n n2 : Nat) (dd dd2 : Option Addr) (sl sl2 : Array (Option Value)) (I : Nat → Shared → Prop)
    (turn : ∀ i (h1 : i < items.size) (h2 : i < items2.size) s, I i s → wpAny (model prog w) A.in1 (eqBool items[i] items2[i]) (fun r s' => (r = true ∧ I (i + 1) s') ∨ (r = false ∧ R (.ok (.ret (.bool false))) s')) (fun e s' => R (.error e) s') s)
    (fin : ∀ s, I (min items.size items2.size) s → R (.ok (.ret (.bool (items.size == items2.size)))) s) {s : Shared} (hl1 : s.heap.get? l = some { cls := .type "tuple", dict := dd, data := .seq items n, slots := sl }) (hb1 : s.heap.get? b = some { cls := .type "tuple", dict := dd2, data := .seq items2 n2, slots := sl2 }) (h : I 0 s) :
    wpAny (model prog w) A.in1 (Builtin.«tuple.__eq__» ⟨[.ref l, .ref b], []⟩) (FinOf prog w A R) (fun e s' => R (.error e) s') s := by
  have f2 := AutoSeq1.sub_tuple_tuple
  have hZ : (items.toList.zip items2.toList).length = min items.size items2.size := by simp
  have h0 := h
  obtain ⟨hp, g, d, tk, os⟩ := s
  wp_walk using wpAny_loadPart' hl1, wpAny_loadPart' hb1, wpAny_forIn_list _ (fun rest b s' => b.1 = none ∧ ∃ i, rest = (items.toList.zip items2.toList).drop i ∧ i ≤ min items.size items2.size ∧ I i s') _
  case turn =>
    rintro ⟨y, x⟩ rest b s' ⟨hb', i, hz, hi, hI⟩
    have hlt : i < (items.toList.zip items2.toList).length := by
      rcases Nat.lt_or_ge i (items.toList.zip items2.toList).length with h' | h'
      · exact h'
      · rw [List.drop_of_length_le h'] at hz; cases hz
    have h1 : i < items.size := by omega
    have h2 : i < items2.size := by omega
    rw [List.drop_eq_getElem_cons hlt] at hz
    injection hz with hyx hrest
    have hy : y = items[i] := by have := congrArg Prod.fst hyx; simpa using this
    have hx : x = items2[i] := by have := congrArg Prod.snd hyx; simpa using this
    subst hy hx
    refine wpAny_bind (wpAny_mono (turn i h1 h2 s' hI) (fun r s2 q2 => ?_) fun _ _ x => x)
    rcases q2 with ⟨hr, q2⟩ | ⟨hr, q2⟩
    · subst hr
      wp_walk
      exact ⟨rfl, i + 1, hrest, by omega, q2⟩
    · subst hr
      wp_walk
      exact q2
  case fin =>
    rintro ⟨b1, b2⟩ s' ⟨hb', i, hz, hi, hI⟩
    simp only at hb'
    subst hb'
    have hge : min items.size items2.size ≤ i := by
      rcases Nat.lt_or_ge i (items.toList.zip items2.toList).length with h' | h'
      · rw [List.drop_eq_getElem_cons h'] at hz; cases hz
      · exact hZ ▸ h'
    have hi' : i = min items.size items2.size := by omega
    have hR := fin s' (hi' ▸ hI)
    wp_walk
    simpa [Builtin.Tuple.tupleCompareSizes] using hR
  case h =>
    exact ⟨rfl, 0, rfl, Nat.zero_le _, h0⟩
end
end GQB
namespace GQB
open PySem PySem.SeqAt GQ
section
variable {prog : Program} {w : World} {A : Around} {E : Value → Shared → Prop} {s : Shared}
theorem rc_tupB {l b : Addr} {items items2 : Array Value} {Q : Value → Shared → Prop} (hu : A.units < cLine) (I : Nat → Shared → Prop)
    (hl : s.heap.IsTuple l items) (hb : s.heap.IsTuple b items2)
    (turn : ∀ i (h1 : i < items.size) (h2 : i < items2.size) s, I i s → wpAny (model prog w) A.in1 (eqBool items[i] items2[i]) (fun r s' => (r = true ∧ I (i + 1) s') ∨ (r = false ∧ Q (.bool false) s')) E s)
    (fin : ∀ s, I (min items.size items2.size) s → Q (.bool (items.size == items2.size)) s) (h : I 0 s) : wpAny (model prog w) A (richCompare .Eq (.ref l) (.ref b)) Q E s := by
  obtain ⟨⟨cls, dd, data, sl⟩, ho, hc, n, hd⟩ := id hl
  obtain ⟨⟨cls2, dd2, data2, sl2⟩, ho2, hc2, n2, hd2⟩ := id hb
  simp only at hc hd hc2 hd2
  subst hc hd hc2 hd2
  refine wpAny_richCompare_same_room (op := .Eq) ⟨_, ho, rfl⟩ ⟨_, ho2, rfl⟩ F.slot_tuple_eq (call_here F.slot_tuple_eq ⟨_, ho, rfl⟩ F.entry_tuple_eq (F.args_tuple_eq_2 _ _) ?_) hu
  exact tuple_eqB (R := wants (fun v s' => v ≠ .notImplemented ∧ Q v s') E) l b items items2 n n2 dd dd2 sl sl2 I (fun i h1 h2 s hi => wpAny_mono (turn i h1 h2 s hi) (fun r s' q => q.imp id fun ⟨e, q⟩ => ⟨e, (fun x => nomatch x), q⟩) fun _ _ x => x) (fun s' q => ⟨(fun x => nomatch x), fin s' q⟩) ho ho2 h
end
end GQB
namespace Dw
open PySem PySem.Spec PyProof.Rows L2 GQ
/-- two values and what == says of them -/
abbrev EqvB := V → V → Hp → Bool → Prop
def MonB (D : EqvB) : Prop := ∀ x y H H' b, Ext H H' → D x y H b → D x y H' b
def EqB (X : Cx) (n : Nat) (D : EqvB) : Prop :=
  ∀ (A : Around) (pins : List (Addr × Obj)) (s : Shared) (σ : L2.St) (H : Hp) (x y : V) (u v : Value) (b : Bool), Sub X n A → Inv X pins σ H s → RelV x u → RelV y v → D x y H b →
    wpAny (model X.prog X.w) A (eqBool u v) (fun r s' => r = b ∧ ∃ H', Inv X pins σ H' s' ∧ Ext H H') X.xe s
def PrsB (D : EqvB) (xs ys : List V) (bs : List Bool) (H : Hp) : Prop := bs.length = min xs.length ys.length ∧ ∀ (i : Nat) x y b, xs[i]? = some x → ys[i]? = some y → bs[i]? = some b → D x y H b
section
variable {X : Cx} {n : Nat} {D : EqvB}
theorem turnB (hD : MonB D) (h : EqB X n D) {A : Around} (sb : Sub X (n + 1) A) {pins : List (Addr × Obj)} {σ : L2.St} {H : Hp} {xs ys : List V} {bs : List Bool} {its its2 : List Value} (p : PrsB D xs ys bs H) (r : Vals xs its) (r2 : Vals ys its2)
    (i : Nat) (h1 : i < its.toArray.size) (h2 : i < its2.toArray.size) (s' : Shared) (l : LoopI X pins σ H s' ∧ (bs.take i).all id = true) :
    wpAny (model X.prog X.w) A.in1 (eqBool its.toArray[i] its2.toArray[i]) (fun r s2 => (r = true ∧ LoopI X pins σ H s2 ∧ (bs.take (i + 1)).all id = true) ∨ (r = false ∧ LoopI X pins σ H s2 ∧ bs.all id = false)) X.xe s' := by
  obtain ⟨⟨H1, I1, e1⟩, la⟩ := l
  have g1 : its[i]? = some its.toArray[i] := by
    have h1' : i < its.length := by simpa using h1
    rw [List.getElem?_eq_getElem h1'] <;> simp
  have g2 : its2[i]? = some its2.toArray[i] := by
    have h2' : i < its2.length := by simpa using h2
    rw [List.getElem?_eq_getElem h2'] <;> simp
  have k1 : i < xs.length := by rw [r.length]; simpa using h1
  have k2 : i < ys.length := by rw [r2.length]; simpa using h2
  have k3 : i < bs.length := by rw [p.1]; omega
  obtain ⟨u, hu, ru⟩ := r.get (List.getElem?_eq_getElem k1)
  obtain ⟨v, hv, rv⟩ := r2.get (List.getElem?_eq_getElem k2)
  rw [g1] at hu
  rw [g2] at hv
  rw [Option.some.inj hu, Option.some.inj hv]
  refine wpAny_mono (h A.in1 pins s' σ H1 _ _ u v bs[i] sb.in1 I1 ru rv (hD _ _ _ _ _ e1 (p.2 i _ _ _ (List.getElem?_eq_getElem k1) (List.getElem?_eq_getElem k2) (List.getElem?_eq_getElem k3)))) (fun r s2 q => ?_) fun _ _ x => x
  obtain ⟨hr, H2, I2, e2⟩ := q
  cases hb : bs[i] with
  | true =>
    refine .inl ⟨hr.trans hb, ⟨H2, I2, e1.trans e2⟩, ?_⟩
    rw [List.take_add_one, List.getElem?_eq_getElem k3, hb, List.all_append, la]
    rfl
  | false =>
    refine .inr ⟨hr.trans hb, ⟨H2, I2, e1.trans e2⟩, ?_⟩
    rw [List.all_eq_false]
    exact ⟨bs[i], List.getElem_mem k3, by rw [hb]; exact Bool.false_ne_true⟩
/-- == of two tuples of such values -/
def rEqTB (K : PySem.W.Frag) (D : EqvB) : R2 := fun x y H Q => ∃ a b xs ys bs, x = .ref a ∧ y = .ref b ∧ SqT K H a xs ∧ SqT K H b ys ∧ PrsB D xs ys bs H ∧ ∀ H', Ext H H' → Q (.bl (xs.length == ys.length && bs.all id)) H'
theorem op_eqTB (hD : MonB D) (h : EqB X n D) (hr : Room (n + 1) X.A) : OpR X (compareOp .Eq) (rEqTB X.K D) := by
  intro pins s σ H x y v u Q I rx ry hq
  obtain ⟨a, b, xs, ys, bs, rfl, rfl, ha, hb, p, q⟩ := hq
  cases rx
  cases ry
  obtain ⟨its, r, e, z⟩ := I.tuple ha
  obtain ⟨its2, r2, e2, z2⟩ := I.tuple hb
  have sb : Sub X (n + 1) X.A := ⟨hr, rfl⟩
  have l1 := r.length
  have l2 := r2.length
  show wpAny _ _ (richCompare .Eq (.ref a) (.ref b)) _ _ _
  refine GQB.rc_tupB (items := its.toArray) (items2 := its2.toArray) hr.units0 (fun i s' => LoopI X pins σ H s' ∧ (bs.take i).all id = true) e e2 (fun i h1 h2 s' l => wpAny_mono (turnB hD h sb p r r2 i h1 h2 s' l) (fun rr s2 w => ?_) fun _ _ x => x) (fun s' l => ?_) ⟨⟨H, I, Ext.rfl'⟩, rfl⟩
  · rcases w with ⟨w1, w2⟩ | ⟨w1, ⟨H', I', e'⟩, w3⟩
    · exact .inl ⟨w1, w2⟩
    · refine .inr ⟨w1, .bl false, H', I', rfl, ?_⟩
      have := q H' e'
      rw [w3, Bool.and_false] at this
      exact this
  · obtain ⟨⟨H', I', e'⟩, la⟩ := l
    refine ⟨.bl _, H', I', rfl, ?_⟩
    have := q H' e'
    have hl : bs.take (min its.toArray.size its2.toArray.size) = bs := List.take_of_length_le (by rw [p.1, l1, l2]; simp)
    rw [hl] at la
    rw [la, Bool.and_true, l1, l2] at this
    simpa using this
end
end Dw

/-! Wy2: == of tuples of objects by the class's own ==, alike or not, over trees. -/
namespace Dw
open PySem PySem.Spec PyProof.Rows L2 GQ
/-! a tree of texts and tuples alone -/
mutual
def D.ts : D → Bool
  | .str _ => true
  | .tup xs => D.tsL xs
  | _ => false
def D.tsL : List D → Bool
  | [] => true
  | d :: ds => d.ts && D.tsL ds
end
section
variable {X : Cx} {pins : List (Addr × Obj)} {σ : L2.St} {H : Hp} {s : Shared} {N : No}
mutual
theorem rep_ts (I : Inv X pins σ H s) : ∀ {d e : D} {v : V}, d.ts = true → e.ts = true → Rep X.K N H d v → Rep X.K N H e v → d = e
  | .str a, .str b, v, _, _, h1, h2 => by
    have e1 : v = .str a := h1
    have e2 : v = .str b := h2
    rw [e1] at e2
    cases e2
    rfl
  | .str a, .tup ys, v, _, _, h1, h2 => by
    have e1 : v = .str a := h1
    obtain ⟨p, vs, e2, _⟩ := h2
    rw [e1] at e2
    cases e2
  | .tup xs, .str b, v, _, _, h1, h2 => by
    have e2 : v = .str b := h2
    obtain ⟨p, vs, e1, _⟩ := h1
    rw [e2] at e1
    cases e1
  | .tup xs, .tup ys, v, t1, t2, h1, h2 => by
    obtain ⟨p, vs, e1, a1, a2⟩ := h1
    obtain ⟨q, ws, e2, b1, b2⟩ := h2
    rw [e1] at e2
    cases e2
    obtain rfl := I.tuple_inj a1.sq b1.sq
    exact congrArg D.tup (rep_tsL I t1 t2 a2 b2)
  | .non, _, _, t, _, _, _ => nomatch t
  | .bl _, _, _, t, _, _, _ => nomatch t
  | .int _, _, _, t, _, _, _ => nomatch t
  | .ref _, _, _, t, _, _, _ => nomatch t
  | .lst _, _, _, t, _, _, _ => nomatch t
  | .ins _ _ _, _, _, t, _, _, _ => nomatch t
  | .exc _ _ _, _, _, t, _, _, _ => nomatch t
  | .str _, .non, _, _, t, _, _ => nomatch t
  | .str _, .bl _, _, _, t, _, _ => nomatch t
  | .str _, .int _, _, _, t, _, _ => nomatch t
  | .str _, .ref _, _, _, t, _, _ => nomatch t
  | .str _, .lst _, _, _, t, _, _ => nomatch t
  | .str _, .ins _ _ _, _, _, t, _, _ => nomatch t
  | .str _, .exc _ _ _, _, _, t, _, _ => nomatch t
  | .tup _, .non, _, _, t, _, _ => nomatch t
  | .tup _, .bl _, _, _, t, _, _ => nomatch t
  | .tup _, .int _, _, _, t, _, _ => nomatch t
  | .tup _, .ref _, _, _, t, _, _ => nomatch t
  | .tup _, .lst _, _, _, t, _, _ => nomatch t
  | .tup _, .ins _ _ _, _, _, t, _, _ => nomatch t
  | .tup _, .exc _ _ _, _, _, t, _, _ => nomatch t
theorem rep_tsL (I : Inv X pins σ H s) : ∀ {ds es : List D} {vs : List V}, D.tsL ds = true → D.tsL es = true → RepL X.K N H ds vs → RepL X.K N H es vs → ds = es
  | [], [], _, _, _, _, _ => rfl
  | [], e :: es, vs, _, _, h1, h2 => by
    have e1 : vs = [] := h1
    obtain ⟨v, r, e2, _⟩ := h2
    rw [e1] at e2
    cases e2
  | d :: ds, [], vs, _, _, h1, h2 => by
    have e2 : vs = [] := h2
    obtain ⟨v, r, e1, _⟩ := h1
    rw [e2] at e1
    cases e1
  | d :: ds, e :: es, vs, t1, t2, h1, h2 => by
    obtain ⟨v, r, e1, a1, a2⟩ := h1
    obtain ⟨u, r', e2, b1, b2⟩ := h2
    rw [e1] at e2
    cases e2
    have t1 : (d.ts && D.tsL ds) = true := t1
    have t2 : (e.ts && D.tsL es) = true := t2
    rw [Bool.and_eq_true] at t1 t2
    rw [rep_ts I t1.1 t2.1 a1 b1, rep_tsL I t1.2 t2.2 a2 b2]
end
/-- objects of texts and tuples -/
def D.tsO (C : Addr) (d : D) : Prop := ∃ ns us, d = .ins C ns us ∧ D.tsL us = true
theorem rep_tsO {C : Addr} (I : Inv X pins σ H s) {d e : D} {v : V} (hd : d.tsO C) (he : e.tsO C) (h1 : Rep X.K N H d v) (h2 : Rep X.K N H e v) : d = e := by
  obtain ⟨ns, us, rfl, t1⟩ := hd
  obtain ⟨ms, ws, rfl, t2⟩ := he
  obtain ⟨a, dx, vs, e1, _, _, a1, _, a2, a3⟩ := h1
  obtain ⟨b, dy, vs', e2, _, _, b1, _, b2, b3⟩ := h2
  rw [e1] at e2
  cases e2
  rw [a1] at b1
  injection b1 with b1
  injection b1 with _ _ ez
  have l1 := a3.length
  have l2 := b3.length
  have en : ns = ms := by
    have := congrArg (List.map Prod.fst) ez
    rwa [List.map_fst_zip (by omega), List.map_fst_zip (by omega)] at this
  have ev : vs = vs' := by
    have := congrArg (List.map Prod.snd) ez
    rwa [List.map_snd_zip (by omega), List.map_snd_zip (by omega)] at this
  subst en ev
  rw [rep_tsL I t1 t2 a3 b3]
end
/-- what the own == says of two objects -/
def spEqB (R : Addr → Addr → Hp → Bool → Prop) : Sp := fun vs H Q _ => ∃ a b r, vs = [.ref a, .ref b] ∧ R a b H r ∧ ∀ H', Ext H H' → Q (.bl r) H'
def DInsB (C : Addr) (R : Addr → Addr → Hp → Bool → Prop) : EqvB := fun x y H r => ∃ a b dx dy fs gs, x = .ref a ∧ y = .ref b ∧ H a = some (.ins C dx fs) ∧ H b = some (.ins C dy gs) ∧ R a b H r
theorem monB_ins {C : Addr} {R : Addr → Addr → Hp → Bool → Prop} (hR : ∀ a b H H' r, Ext H H' → R a b H r → R a b H' r) : MonB (DInsB C R) := fun x y H H' r e d => by
  obtain ⟨a, b, dx, dy, fs, gs, hx, hy, h1, h2, q⟩ := d
  exact ⟨a, b, dx, dy, fs, gs, hx, hy, e _ _ h1, e _ _ h2, hR a b H H' r e q⟩
section
variable {X : Cx} {n : Nat}
theorem eqB_ins {CX : CXT} {C f : Addr} {fd : FuncData} {ps : List Str} {R : Addr → Addr → Hp → Bool → Prop} {E : XK} (F : FnOk X.prog X.w X.K X.mg X.base CX n f fd ps (spEqB R))
    (hs : PySem.W.findIn X.K (.ref C) "__eq__" = some (some (.ref f))) (hf : PySem.W.isFn X.K (.ref f) = true) (hb : Binds X.K fd ps []) (hx : Passes CX X E)
    (hid : ∀ (pins : List (Addr × Obj)) (σ : L2.St) (H : Hp) (s : Shared) (a : Addr) (r : Bool), Inv X pins σ H s → R a a H r → r = true) : EqB X n (DInsB C R) := by
  intro A pins s σ H x y u v r0 sb I rx ry d
  obtain ⟨a, b, dx, dy, fs, gs, rfl, rfl, ha, hb', hr⟩ := d
  cases rx
  cases ry
  by_cases hab : a = b
  · subst hab
    exact SeqAt.EqAt.same (A := A) (s := s) (.ref a) X.prog X.w X.xe _ ⟨(hid pins σ H s a r0 I hr).symm, H, I, Ext.rfl'⟩
  refine GQ.eqBool_refG hab ?_
  obtain ⟨mA, J, _⟩ := ins_get I.hok ha
  obtain ⟨mB, J', _⟩ := ins_get I.hok hb'
  obtain ⟨od, J, _⟩ := J.look
  obtain ⟨od', J', _⟩ := J'.look
  obtain ⟨m, hF⟩ := I.fr
  refine PySem.W.cmp_K (op := .Eq) (tb := .ref C) sb.room.units0 hF I.ok.mod.kin J J'.type (by simp [PySem.W.notFirst]) hs hf ?_
  have hsp : spEqB R [.ref a, .ref b] H (fun v H' => v = .bl r0 ∧ Ext H H') E := ⟨a, b, r0, rfl, hr, fun H' e => ⟨rfl, e⟩⟩
  have e0 : Env0 X.prog X.w X.K X.mg X.base A X.stack s H := by
    have e := I.env0
    exact ⟨by rw [sb.fr]; exact e.frames, e.mod, e.bs, e.bsz, e.funs, e.frf, e.hok, e.bare⟩
  have hl := F.len _ _ _ _ hsp
  have r2 : Vals [V.ref a, V.ref b] [Value.ref a, Value.ref b] := .cons rfl (.cons rfl .nil)
  refine wpAny_call (codeAny_mono (F.run A X.stack s H ⟨[.ref a, .ref b], []⟩ [.ref a, .ref b] [.ref a, .ref b] _ E sb.room e0 (by
    have := hb s [.ref a, .ref b] I.kIn (by simpa using hl)
    simpa using this) r2 hsp) fun r s' hq => ?_)
  cases r with
  | error e => exact hx pins σ H s e s' I hq
  | ok fl =>
    cases fl with
    | ret w =>
      obtain ⟨z, H', I', rz, ez, ex⟩ := I.after hq
      subst ez
      cases rz
      exact ⟨r0, rfl, rfl, H', I', ex⟩
    | next => exact False.elim hq
    | brk => exact False.elim hq
    | cont => exact False.elim hq
end
/-- the objects at a, b stand for trees of which the own == says r -/
def SaysO (K : PySem.W.Frag) (C : Addr) (p : D → D → (D → Prop) → Prop) (a b : Addr) (H : Hp) (r : Bool) : Prop := ∃ (N : No) (d e : D), (∀ x, N x → H x ≠ none) ∧ Rep K N H d (.ref a) ∧ Rep K N H e (.ref b) ∧ d.tsO C ∧ e.tsO C ∧ (d = e → r = true) ∧ p d e fun z => z = .bl r
theorem saysO_mono {K : PySem.W.Frag} {C : Addr} {p : D → D → (D → Prop) → Prop} (a b : Addr) (H H' : Hp) (r : Bool) (e : Ext H H') (h : SaysO K C p a b H r) : SaysO K C p a b H' r := by
  obtain ⟨N, d, d', t, h1, h2, q⟩ := h
  refine ⟨N, d, d', fun x hx => ?_, h1.mono (sm_0 (ext_sm e)), h2.mono (sm_0 (ext_sm e)), q⟩
  cases z : H x with
  | none => exact absurd z (t x hx)
  | some o =>
    rw [e x o z]
    exact fun z => nomatch z
/-- two tuples of objects of the class: what its == says of them, one by one -/
def W.eqTB (C : Addr) (p : D → D → (D → Prop) → Prop) (x y : D) (k : D → Prop) : Prop := ∃ (ds es : List D) (bs : List Bool), x = .tup ds ∧ y = .tup es ∧ bs.length = min ds.length es.length ∧
  (∀ (i : Nat) d e b, ds[i]? = some d → es[i]? = some e → bs[i]? = some b → d.tsO C ∧ e.tsO C ∧ (d = e → b = true) ∧ p d e fun z => z = .bl b) ∧ k (.bl (ds.length == es.length && bs.all id))
section
variable {X : Cx} {k : Nat} {f C : Addr} {fd : FuncData} {ps : List Str} {p : D → D → (D → Prop) → Prop}
theorem sp_says {K : PySem.W.Frag} {vs : List V} {H : Hp} {Q : VK} {E : XK} (h : spEqB (SaysO K C p) vs H Q E) : SpP0 K (W.a2 p) vs H Q E := by
  obtain ⟨a, b, r, rfl, ⟨N, d, e, t, h1, h2, _, _, _, q⟩, z⟩ := h
  refine ⟨(), [d, e], N, fun z => z = .bl r, ⟨_, _, rfl, h1, _, _, rfl, h2, rfl⟩, fun a x => x.elim, t, trivial, q, fun v H2 e s i pe ke => ?_⟩
  subst ke
  obtain rfl := (show v = .bl r from pe)
  exact z H2 (sm_ext s)
theorem op_eqTBo (F : FnOk X.prog X.w X.K X.mg X.base CX0 k f fd ps (SpP0 X.K (W.a2 p))) (hr : Room (k + 1) X.A) (hb : Binds X.K fd ps []) (at_ : PySem.W.findIn X.K (.ref C) "__eq__" = some (some (.ref f))) (fn : PySem.W.isFn X.K (.ref f) = true) :
    OpR X (compareOp .Eq) (rEqTB X.K (DInsB C (SaysO X.K C p))) :=
  op_eqTB (monB_ins saysO_mono) (eqB_ins (E := L2.E0) (F.imp fun _ _ _ _ h => sp_says h) at_ fn hb (fun pins σ H s e s' I h => h.elim) fun pins σ H s a r I ⟨N, d, e, t, h1, h2, o1, o2, hi, _⟩ => hi (rep_tsO I o1 o2 h1 h2)) hr
end
section
variable {M : Md} {O : List Addr} {r : List Sl} {ta tb : TE} {k : D → Prop}
theorem e_eqTB {C : Addr} {p : D → D → (D → Prop) → Prop} (h : De M ta O r fun x => De M tb O r fun y => W.eqTB C p x y k) : De M (tOp (rEqTB M.K (DInsB C (SaysO M.K C p))) ta tb) O r k := fun σ H Q R z => by
  refine h σ H _ R fun v H1 x R1 e1 p1 h1 => h1 σ H1 _ R1 fun u H2 y R2 e2 p2 q => ?_
  obtain ⟨ds, es, bs, rfl, rfl, bl, hd, q⟩ := q
  obtain ⟨a, vs, rfl, a1, a2⟩ := p1.step e2
  obtain ⟨b, ws, rfl, b1, b2⟩ := p2
  have l1 := a2.length
  have l2 := b2.length
  refine ⟨a, b, vs, ws, bs, rfl, rfl, a1.sq, b1.sq, ⟨by rw [bl, l1, l2], fun i x y b hx hy hb => ?_⟩, fun H' e => z (.bl _) H' (.bl _) (R2.grow (ext_sm e)) ((e1.trans e2).trans (sm_0 (ext_sm e))) rfl (by rw [← l1, ← l2]; exact q)⟩
  obtain ⟨d, d1, d2⟩ := a2.getV hx
  obtain ⟨d', d3, d4⟩ := b2.getV hy
  obtain ⟨o1, o2, hi, hp⟩ := hd i d d' b d1 d3 hb
  obtain ⟨ns, us, rfl, t1⟩ := id o1
  obtain ⟨ms, ws', rfl, t2⟩ := id o2
  have c1 := d2
  have c2 := d4
  obtain ⟨p1, dx, us1, rfl, n1, n2, g1, g2, g3, g4⟩ := d2
  obtain ⟨p2, dy, us2, rfl, m1, m2, f1, f2, f3, f4⟩ := d4
  exact ⟨p1, p2, dx, dy, ns.zip us1, ms.zip us2, rfl, rfl, g1, f1, nf M O, .ins C ns us, .ins C ms ws', nf_tr R2, c1, c2, o1, o2, hi, hp⟩
end
end Dw

/-! Wx4: methods that may raise; isinstance of a caught exception. -/
namespace L2
open PySem PySem.Spec PyProof.Rows
section
variable {X : Cx} {CX : CXT} {k : Nat} {f C : Addr} {fd : FuncData} {ps : List Str} {sp : Sp} {dvs : List V} {ds : List Value} {E : St → XK} {m : Str} {pos apos : Pos} {e o : Expr} {es : List Expr} {ta : TE} {t : TA}
end
end L2
namespace Dw
open PySem PySem.Spec PyProof.Rows L2
section
variable {M : Md} {O : List Addr} {r : List Sl} {k : D → Prop} {te : TE} {ta tl : TA} {Wx : WX} {ke : D → Prop}
end
end Dw

/-! Wx5: constructors that may raise; isinstance of a caught exception beside a built-in class and a tuple of classes. -/
namespace L2
open PySem PySem.Spec PyProof.Rows
section
variable {X : Cx} {CX : CXT} {k : Nat} {f C : Addr} {fd : FuncData} {ps : List Str} {sp : Sp} {dvs : List V} {ds : List Value} {E : St → XK} {x : Str} {p pos : Pos} {e : Expr} {es : List Expr} {t : TA}
end
end L2
namespace Dw
open PySem PySem.Spec PyProof.Rows L2
section
variable {M : Md} {O : List Addr} {r : List Sl} {k : D → Prop} {te : TE} {ta tl : TA} {Wx : WX} {ke : D → Prop}
end
/-! ### constructors -/
section
variable {K : PySem.W.Frag} {C : Addr} {ns : List Str} {ds : List D} {r : List Sl} {E : List Str → List D → List Sl → Prop}
def DInX (K : PySem.W.Frag) (C : Addr) (ts : TS) (ns : List Str) (ds : List D) (r : List Sl) (E : List Str → List D → List Sl → Prop) (ke : D → Prop) (Ex : XK) : Prop :=
  ∀ (F : No) (H1 : Hp) (x dx : Addr) (σ : L2.St) (H : Hp) (Z : Ends), r[0]? = some (.d (.ref x)) → RI K F H1 x dx C ns ds r σ H → (∀ cls o H2 e, Sm (fun _ => False) H1 H2 → RepX K F H2 e cls o → ke e → Ex cls o H2) →
    (∀ ns' ds' r' σ' H', RI K F H1 x dx C ns' ds' r' σ' H' → E ns' ds' r' → Z.nx σ' H') → ts Z σ H
theorem DIn.x {ts : TS} {ke : D → Prop} {Ex : XK} (h : DIn K C ts ns ds r E) : DInX K C ts ns ds r E ke Ex := fun F H1 x dx σ H Z h0 R _ z => h F H1 x dx σ H Z h0 R z
end
section
variable {P : Program} {w : World} {K : PySem.W.Frag} {mg : Str → Option Value} {base : Heap}
end
end Dw

/-! Wy3: raise of own exceptions without fields. -/
namespace Dw
open PySem PySem.Spec PyProof.Rows L2
section
variable {X : Cx} {C : Addr} {bmB : List Value} {B newId initId : String}
end
/-- what a row must know of an exception class without fields -/
structure RaiseZ (K : PySem.W.Frag) (mg : Str → Option Value) (x : Str) (C : Addr) : Prop where
  ex : ∃ (B newId initId : String) (bmB : List Value), ExcBaseFacts B newId initId bmB ∧ PySem.W.excIn K C bmB newId = true
  g : mg x = some (.ref C)
  k : PySem.W.keepIn K (.ref C) = true
  s : PySem.W.subIn K (.ref C) (.type "BaseException") = some true
  t : PySem.W.typeIn K (.ref C) = some (.type "type")
section
variable {M : Md} {O : List Addr} {r : List Sl} {k : D → Prop} {E : Kn} {Wx : WX} {ke : D → Prop} {C : Addr}
end
end Dw

/-! Wy4: own operators that may raise; ==, != of an object and a tuple; len and in by own methods. -/
namespace Dw
open PySem PySem.Spec PyProof.Rows L2
section
variable {X : Cx} {CX : CXT} {k : Nat} {f C : Addr} {fd : FuncData} {ps : List Str} {sp : Sp} {E : XK}
end
section
variable {M : Md} {O : List Addr} {r : List Sl} {k : D → Prop} {ta tb te : TE} {tl : TA} {Ex : XK} {w : List D → (D → Prop) → Prop} {Wx : WX} {ke : D → Prop} {C : Addr}
end
/-! defs of five arguments -/
def W.a5 (w : D → D → D → D → D → (D → Prop) → Prop) : List D → (D → Prop) → Prop
  | [a, b, c, d, e], k => w a b c d e k
  | _, _ => False
section
variable {M : Md} {O : List Addr} {r : List Sl} {k : D → Prop} {t1 t2 t3 t4 t5 : TE} {Ex : XK}
end
end Dw

/-! H02: where the defs of this row stand. -/
namespace Dw
open PySem PySem.Spec PyProof.Rows L2
def topW (i : Nat) : Stmt := PySem.Challenge.pw_nestprops_k19_whole_the_rest_is_the_grea.main.body.getD i (.Pass ⟨0, 0, 0, 0⟩)
abbrev sMix : Stmt := topW 71
abbrev sAny : Stmt := topW 73
abbrev sWor : Stmt := topW 74
abbrev sDeal : Stmt := topW 69
abbrev sDraw : Stmt := topW 70
abbrev sNam : Stmt := topW 11
abbrev sMsk : Stmt := topW 12
abbrev sNof : Stmt := topW 13
abbrev sLea : Stmt := topW 15
end Dw

/-! K02a: the names of some sets. -/
namespace Dw
open PySem PySem.Spec PyProof.Rows L2
abbrev nNam : List Str := ["sets", "one", "name"]
theorem scNam : FnScope nNam ["sets"] (defScope sNam) := ⟨rfl, rfl, rfl, by decide +kernel, rfl, by decide +kernel, by decide +kernel⟩
/-- x is a list or a tuple of rows of texts, zs -/
def SetsD (x : D) (zs : List (List Str)) : Prop := ∃ xs : List D, (x = .lst xs ∨ x = .tup xs) ∧ zs.length = xs.length ∧ ∀ (i : Nat) (y : D) (z : List Str), xs[i]? = some y → zs[i]? = some z → y = .lst (z.map D.str) ∨ y = .tup (z.map D.str)
/-- fewer than 64 different texts -/
def Few (zs : List (List Str)) : Prop := ∃ B : List Str, B.length < 64 ∧ ∀ z ∈ zs, ∀ y ∈ z, y ∈ B
def preNam (ds : List D) : Prop := ∃ (x : D) (zs : List (List Str)), ds = [x] ∧ SetsD x zs ∧ Few zs
def postNam (ds : List D) (d : D) : Prop := ∃ (x : D) (zs : List (List Str)) (ys : List Str), ds = [x] ∧ SetsD x zs ∧ d = .lst (ys.map D.str) ∧ ys.Nodup ∧ sortedS ys = true ∧ ∀ k, k ∈ ys ↔ ∃ z ∈ zs, k ∈ z
section
variable {P : Program} {w : World} {K : PySem.W.Frag} {mg : Str → Option Value} {base : Heap}
theorem ok_nam {f : Addr} {fd : FuncData} {k : Nat} (F : Fun K "names_in" "names_in" sNam f fd) (mS : mg "sorted" = none) : FnOk P w K mg base CX0 (k + 1) f fd ["sets"] (SpP K preNam postNam) := by
  refine fn_dw (S := pure0) F scNam (fun g ds ⟨x, zs, e, _⟩ => by rw [e]; rfl) fun cdv A outer s H E g ds F1 f0 tr hr pre => ?_
  obtain ⟨x, zs, rfl, ⟨xs, hx, hl, hz⟩, B, hB, hs⟩ := pre
  refine ⟨_, pss_one (ps_ret (pe_callB (cr_sortedX (by rfl)) (by rfl) mS (by decide +kernel) (pa_cons (pe_sx2 (own := [("one", 1), ("name", 2)]) (vs1 := [2]) (i1 := iSeq K (tVar 1)) (by rfl) scNam.nd (pi_seq (pv 0)) (blkOk_by (N := nNam) (sc := defScope sNam) (by decide +kernel)) (by decide)
    (fun _ _ _ _ _ => pg_name (i := 1) scNam.nd rfl (Or.inl rfl)) (fun _ _ _ _ _ => pts_nil) (fun _ _ _ _ _ => pi_seq (pv 1)) (fun _ _ _ _ _ => pg_name (i := 2) scNam.nd rfl (Or.inl rfl)) (fun _ _ _ _ _ => pts_nil) (fun _ _ _ _ _ => pv 2)) pa_nil))), ?_⟩
  refine ds_ret (de_sortedSx2 (js := [1]) (js1 := [2]) B hB (by decide) (by decide) (di_seq (de_var rfl ⟨xs, hx, zs, hl, hs, fun O' i y z hy hzi => ?_, fun ys y1 y2 y3 => ⟨x, zs, ys, rfl, ⟨xs, hx, hl, hz⟩, rfl, y1, y2, y3⟩⟩)))
  refine dg_name (dt_yes ⟨rfl, di_seq (de_var rfl ⟨z.map D.str, hz i y z hy hzi, by rw [List.length_map], fun O2 j u c hu hc => dg_name (dt_yes ⟨rfl, de_var rfl ?_⟩)⟩)⟩)
  rw [List.getElem?_map, hc] at hu
  exact (Option.some.inj hu).symm
end
end Dw

/-! Least: the least ones of a row, kept one by one; masks. Plain Lean, nothing of the layer. -/
namespace Dw
section
variable {α : Type}
/-- one by one: what none of the kept ones is within -/
def keep (sub : α → α → Bool) : List α → List α → List α
  | acc, [] => acc
  | acc, x :: xs => if acc.any (fun k => sub k x) = true then keep sub acc xs else keep sub (acc ++ [x]) xs
/-- the least ones of all -/
def Lst (sub : α → α → Bool) (all : List α) (m : α) : Prop := m ∈ all ∧ ∀ k ∈ all, sub k m = true → k = m
theorem keep_ok {sub : α → α → Bool} (rfl' : ∀ x, sub x x = true) (trans : ∀ x y z, sub x y = true → sub y z = true → sub x z = true) : ∀ (xs ds acc : List α), (ds ++ xs).Pairwise (fun x y => sub y x = false) →
    (∀ d ∈ ds, ∃ k ∈ acc, sub k d = true) → acc.Sublist ds → (∀ m ∈ acc, Lst sub (ds ++ xs) m) → (∀ m ∈ ds, Lst sub (ds ++ xs) m → m ∈ acc) →
    (keep sub acc xs).Sublist (ds ++ xs) ∧ ∀ m, m ∈ keep sub acc xs ↔ Lst sub (ds ++ xs) m
  | [], ds, acc, hp, hc, hs, h1, h2 => by
    rw [List.append_nil] at hp h1 h2 ⊢
    exact ⟨hs, fun m => ⟨h1 m, fun z => h2 m z.1 z⟩⟩
  | x :: xs, ds, acc, hp, hc, hs, h1, h2 => by
    have e : ds ++ x :: xs = (ds ++ [x]) ++ xs := by simp
    have before : ∀ d ∈ ds, sub x d = false := fun d hd => (List.pairwise_append.mp hp).2.2 d hd x (by simp)
    have after : ∀ y ∈ xs, sub y x = false := fun y hy => (List.pairwise_cons.mp (List.pairwise_append.mp hp).2.1).1 y hy
    unfold keep
    by_cases q : acc.any (fun k => sub k x) = true
    · rw [if_pos q]
      obtain ⟨k, hk, hkx⟩ := List.any_eq_true.mp q
      have kd : k ∈ ds := hs.subset hk
      rw [e] at hp h1 h2 ⊢
      refine keep_ok rfl' trans xs (ds ++ [x]) acc hp (fun d hd => ?_) (hs.trans (List.sublist_append_left _ _)) h1 (fun m hm z => ?_)
      · rcases List.mem_append.mp hd with hd | hd
        · exact hc d hd
        · rw [List.mem_singleton.mp hd]
          exact ⟨k, hk, hkx⟩
      · rcases List.mem_append.mp hm with hm | hm
        · exact h2 m hm z
        · have ex := List.mem_singleton.mp hm
          subst ex
          have := z.2 k (by simp [kd]) hkx
          subst this
          rw [before k kd] at hkx
          cases hkx
    · rw [if_neg q]
      have no : ∀ k ∈ acc, sub k x = false := fun k hk => by
        cases c : sub k x with
        | false => rfl
        | true => exact absurd (List.any_eq_true.mpr ⟨k, hk, c⟩) q
      have lx : Lst sub (ds ++ x :: xs) x := ⟨by simp, fun k hk hkx => by
        rcases List.mem_append.mp hk with hk | hk
        · obtain ⟨k', h3, h4⟩ := hc k hk
          have := trans _ _ _ h4 hkx
          rw [no k' h3] at this
          cases this
        · rcases List.mem_cons.mp hk with rfl | hk
          · rfl
          · rw [after k hk] at hkx
            cases hkx⟩
      rw [e] at hp h1 h2 lx ⊢
      refine keep_ok rfl' trans xs (ds ++ [x]) (acc ++ [x]) hp (fun d hd => ?_) (List.Sublist.append hs (List.Sublist.refl _)) (fun m hm => ?_) (fun m hm z => ?_)
      · rcases List.mem_append.mp hd with hd | hd
        · obtain ⟨k, h3, h4⟩ := hc d hd
          exact ⟨k, by simp [h3], h4⟩
        · rw [List.mem_singleton.mp hd]
          exact ⟨x, by simp, rfl' x⟩
      · rcases List.mem_append.mp hm with hm | hm
        · exact h1 m hm
        · rw [List.mem_singleton.mp hm]
          exact lx
      · rcases List.mem_append.mp hm with hm | hm
        · exact List.mem_append_left _ (h2 m hm z)
        · exact List.mem_append_right _ hm
/-- what is kept of a row in which no later one is within an earlier one -/
theorem keep_spec {sub : α → α → Bool} (rfl' : ∀ x, sub x x = true) (trans : ∀ x y z, sub x y = true → sub y z = true → sub x z = true) {xs : List α} (hp : xs.Pairwise (fun x y => sub y x = false)) :
    (keep sub [] xs).Sublist xs ∧ ∀ m, m ∈ keep sub [] xs ↔ Lst sub xs m :=
  keep_ok rfl' trans xs [] [] hp (fun d h => nomatch h) (List.Sublist.refl _) (fun m h => nomatch h) (fun m h => nomatch h)
/-- two rows that rise by one order and hold the same are one -/
theorem rise_eq {r : α → α → Prop} (asym : ∀ x y, r x y → r y x → False) : ∀ {xs ys : List α}, xs.Pairwise r → ys.Pairwise r → (∀ m, m ∈ xs ↔ m ∈ ys) → xs = ys
  | [], [], _, _, _ => rfl
  | [], y :: ys, _, _, h => nomatch (h y).mpr (by simp)
  | x :: xs, [], _, _, h => nomatch (h x).mp (by simp)
  | x :: xs, y :: ys, hx, hy, h => by
    obtain ⟨x1, x2⟩ := List.pairwise_cons.mp hx
    obtain ⟨y1, y2⟩ := List.pairwise_cons.mp hy
    have irr : ∀ z, ¬ r z z := fun z q => asym z z q q
    have e : x = y := by
      rcases List.mem_cons.mp ((h x).mp (by simp)) with q | q
      · exact q
      · rcases List.mem_cons.mp ((h y).mpr (by simp)) with p | p
        · exact p.symm
        · exact (asym _ _ (x1 y p) (y1 x q)).elim
    subst e
    refine congrArg (x :: ·) (rise_eq asym x2 y2 fun m => ⟨fun hm => ?_, fun hm => ?_⟩)
    · rcases List.mem_cons.mp ((h m).mp (List.mem_cons_of_mem _ hm)) with q | q
      · subst q
        exact (irr _ (x1 m hm)).elim
      · exact q
    · rcases List.mem_cons.mp ((h m).mpr (List.mem_cons_of_mem _ hm)) with q | q
      · subst q
        exact (irr _ (y1 m hm)).elim
      · exact q
end
/-! ### masks -/
section
variable {α : Type} [DecidableEq α]
/-- bit i: is the i-th name in the row -/
def maskN : List α → List α → Nat
  | [], _ => 0
  | n :: ns, one => (if n ∈ one then 1 else 0) + 2 * maskN ns one
theorem maskN_bit : ∀ (ns one : List α) (i : Nat), (maskN ns one).testBit i = match ns[i]? with
    | some n => decide (n ∈ one)
    | none => false
  | [], one, i => by
    show (0 : Nat).testBit i = _
    rw [Nat.zero_testBit]
    rfl
  | n :: ns, one, 0 => by
    show ((if n ∈ one then 1 else 0) + 2 * maskN ns one).testBit 0 = decide (n ∈ one)
    rw [Nat.testBit_zero]
    by_cases h : n ∈ one
    · rw [if_pos h, decide_eq_true h, decide_eq_true]
      omega
    · rw [if_neg h, decide_eq_false h, decide_eq_false]
      omega
  | n :: ns, one, i + 1 => by
    show ((if n ∈ one then 1 else 0) + 2 * maskN ns one).testBit (i + 1) = _
    rw [Nat.testBit_succ, show ((if n ∈ one then 1 else 0) + 2 * maskN ns one) / 2 = maskN ns one from by split <;> omega, maskN_bit ns one i]
    rfl
/-- a mask within another -/
def within (k m : Nat) : Bool := decide (m &&& k = k)
theorem within_bits {k m : Nat} : within k m = true ↔ ∀ i, k.testBit i = true → m.testBit i = true := by
  unfold within
  rw [decide_eq_true_eq]
  constructor
  · intro h i hi
    have := congrArg (fun x => Nat.testBit x i) h
    simp only [Nat.testBit_and, hi, Bool.and_true] at this
    exact this
  · intro h
    refine Nat.eq_of_testBit_eq fun i => ?_
    rw [Nat.testBit_and]
    cases hk : k.testBit i with
    | false => rw [Bool.and_false]
    | true => rw [h i hk, Bool.and_true]
theorem within_refl (m : Nat) : within m m = true := within_bits.mpr fun _ h => h
theorem within_le {k m : Nat} (h : within k m = true) : k ≤ m := by
  unfold within at h
  rw [decide_eq_true_eq] at h
  rw [← h]
  exact Nat.and_le_left
theorem within_mask {ns a b : List α} : within (maskN ns b) (maskN ns a) = true ↔ ∀ n ∈ ns, n ∈ b → n ∈ a := by
  rw [within_bits]
  constructor
  · intro h n hn hb
    obtain ⟨i, hi⟩ := List.getElem?_of_mem hn
    have := h i (by rw [maskN_bit, hi]; exact decide_eq_true hb)
    rw [maskN_bit, hi] at this
    exact of_decide_eq_true this
  · intro h i hi
    rw [maskN_bit] at hi ⊢
    cases e : ns[i]? with
    | none =>
      rw [e] at hi
      cases hi
    | some n =>
      rw [e] at hi
      exact decide_eq_true (h n (List.mem_of_getElem? e) (of_decide_eq_true hi))
/-- the names of a mask -/
def namesN : List α → Nat → List α
  | [], _ => []
  | n :: ns, m => if m.testBit 0 = true then n :: namesN ns (m / 2) else namesN ns (m / 2)
theorem namesN_mask : ∀ (ns one : List α), namesN ns (maskN ns one) = ns.filter fun n => decide (n ∈ one)
  | [], _ => rfl
  | n :: ns, one => by
    have e1 := maskN_bit (n :: ns) one 0
    have e2 : maskN (n :: ns) one / 2 = maskN ns one := by
      show ((if n ∈ one then 1 else 0) + 2 * maskN ns one) / 2 = _
      split <;> omega
    unfold namesN
    rw [e1, e2, namesN_mask ns one, List.filter_cons]
    rfl
end
end Dw

/-! K02b: a row of texts as a number. -/
namespace Dw
open PySem PySem.Spec PyProof.Rows L2
abbrev nMsk : List Str := ["one", "names", "at", "name"]
theorem scMsk : FnScope nMsk ["one", "names"] (defScope sMsk) := ⟨rfl, rfl, rfl, by decide +kernel, rfl, by decide +kernel, by decide +kernel⟩
/-- a list or a tuple of texts -/
def SeqD (y : D) (names : List Str) : Prop := y = .lst (names.map D.str) ∨ y = .tup (names.map D.str)
def preMsk (ds : List D) : Prop := ∃ (x y : D) (one names : List Str), ds = [x, y] ∧ SeqD y names ∧ (x = .lst (one.map D.str) ∨ x = .tup (one.map D.str)) ∧ names.length ≤ 64
def postMsk (ds : List D) (d : D) : Prop := ∃ (x y : D) (one names : List Str), ds = [x, y] ∧ SeqD y names ∧ (x = .lst (one.map D.str) ∨ x = .tup (one.map D.str)) ∧ d = .int (maskN names one : Int)
def pickE (one : List Str) : D → Bool
  | .tup [_, .str s] => decide (s ∈ one)
  | _ => false
def powE : D → D
  | .tup [.int i, _] => .int (1 * 2 ^ i.toNat)
  | _ => .non
theorem mask_sum (one : List Str) : ∀ (names : List Str) (n : Nat), ∃ bs : List Int, (((List.range' n names.length).zipWith (fun (i : Nat) x => D.tup [.int (i : Int), x]) (names.map D.str)).filter (pickE one)).map powE = bs.map D.int ∧ bs.sum = 2 ^ n * (maskN names one : Int)
  | [], n => ⟨[], rfl, by show (0 : Int) = 2 ^ n * ((0 : Nat) : Int); simp⟩
  | c :: names, n => by
    obtain ⟨bs, e, h⟩ := mask_sum one names (n + 1)
    have hm : (maskN (c :: names) one : Int) = (if c ∈ one then 1 else 0) + 2 * (maskN names one : Int) := by
      show (((if c ∈ one then 1 else 0) + 2 * maskN names one : Nat) : Int) = _
      split <;> simp
    have hp : (2 : Int) ^ (n + 1) = 2 ^ n * 2 := Int.pow_succ 2 n
    rw [List.length_cons, List.range'_succ, List.map_cons, List.zipWith_cons_cons, hm]
    by_cases hc : c ∈ one
    · refine ⟨2 ^ n :: bs, ?_, ?_⟩
      · rw [List.filter_cons_of_pos (by show decide (c ∈ one) = true; exact decide_eq_true hc), List.map_cons, List.map_cons, e]
        show D.int (1 * 2 ^ ((n : Nat) : Int).toNat) :: _ = _
        rw [Int.toNat_natCast, Int.one_mul]
      · rw [List.sum_cons, h, if_pos hc, hp, Int.mul_add, Int.mul_one, Int.mul_assoc]
    · refine ⟨bs, ?_, ?_⟩
      · rw [List.filter_cons_of_neg (by show ¬ decide (c ∈ one) = true; rw [decide_eq_true_eq]; exact hc), e]
      · rw [h, if_neg hc, hp, Int.zero_add, Int.mul_assoc]
section
variable {P : Program} {w : World} {K : PySem.W.Frag} {mg : Str → Option Value} {base : Heap}
theorem ok_msk {f : Addr} {fd : FuncData} {k : Nat} (F : Fun K "mask_of" "mask_of" sMsk f fd) (mS : mg "sum" = none) (mE : mg "enumerate" = none) : FnOk P w K mg base CX0 (k + 1) f fd ["one", "names"] (SpP K preMsk postMsk) := by
  refine fn_dw (S := pure0) F scMsk (fun g ds ⟨x, y, a, b, e, _⟩ => by rw [e]; rfl) fun cdv A outer s H E g ds F1 f0 tr hr pre => ?_
  obtain ⟨x, y, one, names, rfl, hy, hx, hn⟩ := pre
  refine ⟨_, pss_one (ps_ret (pe_callB (cr_sum (by rfl)) (by rfl) mS (by decide +kernel) (pa_cons (pe_lc (own := [("at", 2), ("name", 3)]) (g := gTup K 2 (gCons (gName 2) (gCons (gName 3) gNil))) (tt := tTest (tOp (rIn K false) (tVar 3) (tVar 0))) (by rfl) scMsk.nd (pi_enumA (by rfl) mE (pa_cons (pv 1) pa_nil)) (blkOk_by (N := nMsk) (sc := defScope sMsk) (by decide +kernel))
    (fun _ _ _ _ _ => pg_tup (by rfl) (pgs_cons (pg_name (i := 2) scMsk.nd rfl (Or.inl rfl)) (pgs_cons (pg_name (i := 3) scMsk.nd rfl (Or.inl rfl)) pgs_nil))) (fun _ _ _ _ _ => pts_one (pt_cmpR op_in_seq (pv 3) (pv 0) (by rfl))) (fun _ _ _ _ _ => pe_op op_shl pe_int (pv 2))) pa_nil))), ?_⟩
  refine ds_ret (de_sum (de_lcF (pickE one) powE (js := [2, 3]) (by decide) (di_enumA (de_var rfl ⟨_, hy, ?_⟩))))
  refine ⟨by rw [enumD_len, List.length_map]; exact Nat.lt_of_lt_of_le (by omega : names.length < 1000) (by decide), fun O' i d hd => ?_, ?_⟩
  · obtain ⟨y, hyy, rfl⟩ := enumD_get hd
    rw [List.getElem?_map] at hyy
    obtain ⟨c, hc, rfl⟩ := Option.map_eq_some_iff.mp hyy
    have hi : i < names.length := by
      rw [List.getElem?_eq_some_iff] at hc
      exact hc.1
    refine dg_tup rfl (dgs_cons (dg_name (dgs_cons (dg_name (dgs_nil ?_)))))
    refine dt_test (de_inS (de_var rfl (de_var rfl ⟨c, one, rfl, hx, _, rfl, rfl, fun _ => ?_⟩)))
    refine de_intC (C := CPow) (g := fun i j => i * 2 ^ j.toNat) (de_int (de_var rfl ⟨1, (i : Int), rfl, rfl, ⟨by omega, by omega, by decide⟩, rfl⟩))
  · obtain ⟨bs, e, h⟩ := mask_sum one names 0
    refine ⟨bs, ?_, x, y, one, names, rfl, hy, hx, ?_⟩
    · rw [← e]
      unfold enumD
      rw [List.range_eq_range', List.length_map]
    · rw [h, Int.pow_zero, Int.one_mul]
end
end Dw

/-! K02c: a number as a row of texts. -/
namespace Dw
open PySem PySem.Spec PyProof.Rows L2
abbrev nNof : List Str := ["mask", "names", "at", "name"]
theorem scNof : FnScope nNof ["mask", "names"] (defScope sNof) := ⟨rfl, rfl, rfl, by decide +kernel, rfl, by decide +kernel, by decide +kernel⟩
def preNof (ds : List D) : Prop := ∃ (m : Nat) (y : D) (names : List Str), ds = [.int (m : Int), y] ∧ SeqD y names ∧ names.length ≤ 64
def postNof (ds : List D) (d : D) : Prop := ∃ (m : Nat) (y : D) (names : List Str), ds = [.int (m : Int), y] ∧ SeqD y names ∧ d = .tup ((namesN names m).map D.str)
/-- a whole number's last bit -/
def rOdd : R2 := fun x y H Q => ∃ n : Nat, x = .int (n : Int) ∧ y = .int 1 ∧ Q (.int ((n % 2 : Nat) : Int)) H
theorem de_odd {M : Md} {O : List Addr} {r : List Sl} {k : D → Prop} {ta tb : TE} (h : De M ta O r fun x => De M tb O r fun y => ∃ n : Nat, x = .int (n : Int) ∧ y = .int 1 ∧ k (.int ((n % 2 : Nat) : Int))) : De M (tOp rOdd ta tb) O r k := de_op2 h fun x y c σ H v u Q R pv pu z => by
  obtain ⟨n, rfl, rfl, q⟩ := c
  exact ⟨n, pv, pu, z _ H (.int _) R .refl rfl q⟩
def bitE (m : Nat) : D → Bool
  | .tup [.int i, _] => m.testBit i.toNat
  | _ => false
def nameE : D → D
  | .tup [_, .str s] => .str s
  | _ => .non
theorem names_bits (m0 : Nat) : ∀ (names : List Str) (n : Nat), (((List.range' n names.length).zipWith (fun (i : Nat) x => D.tup [.int (i : Int), x]) (names.map D.str)).filter (bitE m0)).map nameE = (namesN names (m0 / 2 ^ n)).map D.str
  | [], n => rfl
  | c :: names, n => by
    have ih := names_bits m0 names (n + 1)
    have e : m0 / 2 ^ (n + 1) = m0 / 2 ^ n / 2 := by rw [Nat.pow_succ, Nat.div_div_eq_div_mul]
    rw [e] at ih
    have t : m0.testBit n = (m0 / 2 ^ n).testBit 0 := by
      rw [Nat.testBit_zero, Nat.testBit_eq_decide_div_mod_eq]
    rw [List.length_cons, List.range'_succ, List.map_cons, List.zipWith_cons_cons]
    unfold namesN
    by_cases h : (m0 / 2 ^ n).testBit 0 = true
    · rw [if_pos h, List.filter_cons_of_pos (by show m0.testBit ((n : Nat) : Int).toNat = true; rw [Int.toNat_natCast, t]; exact h), List.map_cons, List.map_cons, ih]
      rfl
    · rw [if_neg h, List.filter_cons_of_neg (by show ¬ m0.testBit ((n : Nat) : Int).toNat = true; rw [Int.toNat_natCast, t]; exact h), ih]
section
variable {P : Program} {w : World} {K : PySem.W.Frag} {mg : Str → Option Value} {base : Heap}
theorem ok_nof {f : Addr} {fd : FuncData} {k : Nat} (F : Fun K "names_of" "names_of" sNof f fd) (mT : mg "tuple" = none) (mE : mg "enumerate" = none) : FnOk P w K mg base CX0 (k + 1) f fd ["mask", "names"] (SpP K preNof postNof) := by
  refine fn_dw (S := pure0) F scNof (fun g ds ⟨a, b, c, e, _⟩ => by rw [e]; rfl) fun cdv A outer s H E g ds F1 f0 tr hr pre => ?_
  obtain ⟨m, y, names, rfl, hy, hn⟩ := pre
  refine ⟨_, pss_one (ps_ret (pe_callTy call_tuple_of (by rfl) mT (by decide +kernel) (pa_cons (pe_lc (own := [("at", 2), ("name", 3)]) (g := gTup K 2 (gCons (gName 2) (gCons (gName 3) gNil)))
    (tt := tTest (tOp rEq (tOp rOdd (tOp (rI (fun _ j => 0 ≤ j) fun i j => .int (i / 2 ^ j.toNat)) (tVar 0) (tVar 2)) (tC (.int 1))) (tC (.int 1)))) (by rfl) scNof.nd (pi_enumA (by rfl) mE (pa_cons (pv 1) pa_nil)) (blkOk_by (N := nNof) (sc := defScope sNof) (by decide +kernel))
    (fun _ _ _ _ _ => pg_tup (by rfl) (pgs_cons (pg_name (i := 2) scNof.nd rfl (Or.inl rfl)) (pgs_cons (pg_name (i := 3) scNof.nd rfl (Or.inl rfl)) pgs_nil))) (fun _ _ _ _ _ => pts_one (pt_cmpR op_eq (pe_op op_odd (pe_op op_shr (pv 0) (pv 2)) pe_int) pe_int (by rfl))) (fun _ _ _ _ _ => pv 3)) pa_nil))), ?_⟩
  refine ds_ret (de_tupleOf (de_lcF (bitE m) nameE (js := [2, 3]) (by decide) (di_enumA (de_var rfl ⟨_, hy, ?_⟩))))
  refine ⟨by rw [enumD_len, List.length_map]; exact Nat.lt_of_lt_of_le (by omega : names.length < 1000) (by decide), fun O' i d hd => ?_, ?_⟩
  · obtain ⟨y, hyy, rfl⟩ := enumD_get hd
    rw [List.getElem?_map] at hyy
    obtain ⟨c, hc, rfl⟩ := Option.map_eq_some_iff.mp hyy
    refine dg_tup rfl (dgs_cons (dg_name (dgs_cons (dg_name (dgs_nil ?_)))))
    refine dt_test (de_eq (de_odd (de_intC (C := fun _ j => 0 ≤ j) (g := fun i j => i / 2 ^ j.toNat) (de_var rfl (de_var rfl ⟨_, _, rfl, rfl, by omega, de_int ⟨m / 2 ^ i, ?_, rfl, de_int ⟨_, _, rfl, rfl, rfl, _, rfl, ?_, fun _ => de_var rfl rfl⟩⟩⟩)))))
    · rw [Int.toNat_natCast]
      refine congrArg D.int ?_
      push_cast
      rfl
    · show decide _ = m.testBit ((i : Nat) : Int).toNat
      rw [Int.toNat_natCast, Nat.testBit_eq_decide_div_mod_eq]
      refine decide_eq_decide.mpr ⟨fun z => ?_, fun z => by rw [z]; rfl⟩
      have z := V.int.inj z
      omega
  · refine ⟨_, .inl rfl, m, y, names, rfl, hy, ?_⟩
    have e := names_bits m names 0
    rw [Nat.pow_zero, Nat.div_one] at e
    rw [← e]
    unfold enumD
    rw [List.range_eq_range', List.length_map]
end
end Dw

/-! DwSetB: sorted(set of numbers), any number of them. -/
namespace Dw
open PySem PySem.Spec PySem.Calls PyProof.Rows L2
open PySem.W (EachIs AllAlike Sortable dataLe dataLt alike)
section
variable {P : Program} {w : World} {A : Around} {E : Value → Shared → Prop} {s : Shared} {a : Addr}
def IsI (v : Value) (k : Int) : Prop := ∃ tk, v = .int k tk
theorem each_ints : ∀ {vs : List Value} {ns : List Int}, IntsAre vs ns → EachIs IsI vs ns
  | _, _, .nil => .nil
  | _, _, .cons k t h => .cons ⟨t, rfl⟩ (each_ints h)
theorem ints_each : ∀ {vs : List Value} {ns : List Int}, EachIs IsI vs ns → IntsAre vs ns
  | _, _, .nil => .nil
  | _, _, .cons h t => by
    obtain ⟨tk, rfl⟩ := h
    exact .cons _ tk (ints_each t)
theorem ints_alike' (ns : List Int) : AllAlike (ns.map PyData.int) := fun d hd d' hd' => by
  obtain ⟨b, _, rfl⟩ := List.mem_map.mp hd
  obtain ⟨c, _, rfl⟩ := List.mem_map.mp hd'
  rfl
theorem ints_sortable' (ns : List Int) : Sortable (ns.map PyData.int) := .inr fun d hd => by
  obtain ⟨b, _, rfl⟩ := List.mem_map.mp hd
  exact ⟨(fun z => nomatch z), (fun xs z => nomatch z)⟩
theorem sorted_setB {S : Int → Bool} {n : Nat} {Q : Value → Shared → Prop} (R : SetR w s.heap a S n) (hh : A.handled = none) (hu : A.units + 2 < cLine)
    (hQ : ∀ s' p (out : Array Value) (c : Nat) (ns : List Int), (∀ b o, s.heap.get? b = some o → s'.heap.get? b = some o) → s'.gens = s.gens → s'.os = s.os → s.heap.objs.size ≤ p →
      s'.heap.get? p = some (seqObj "list" out c) → IntsAre out.toList ns → ns.Pairwise (· < ·) → (∀ k, k ∈ ns ↔ S k = true) → ns.length = n → n ≤ sizeLine → Q (.ref p) s') :
    wpAny (model P w) A (call (.builtin "sorted") [.ref a]) Q E s := by
  obtain ⟨o, es, ep, t, ho, hex, hd, g, nd, hm, hb, hf, hn, hr, hl⟩ := R
  have hz : n ≤ sizeLine := by
    have := fits_of_scanBound hb
    rw [← hn]
    exact this
  refine Calls.call_function_entry kind_sorted plain_sorted entry_sorted (args_sorted1 _) ?_
  unfold Builtin.«sorted»
  refine wpAny_bind (m := checkCount "sorted" 1 1 _) (wpAny_pure ?_)
  refine wpAny_bind (collect_set (A := A.in1) hh ⟨o, ho, hex.1, hd⟩ hf hb hr hl fun s1 vs k1 hz1 g1 o1 pm => ?_)
  have hvl : vs.length = n := by rw [pm.length_eq, List.length_map, Array.length_toList]; exact hn
  have hI : IntsAre vs (vs.map Builtin.Re.reRawOf) := L2.ints_of vs fun v hv => by
    obtain ⟨e, he, q⟩ := List.mem_map.mp (pm.mem_iff.mp hv)
    obtain ⟨k, tk, h1, _⟩ := g e he
    exact ⟨k, tk, by rw [← q]; exact h1⟩
  have pk : (vs.map Builtin.Re.reRawOf).Perm (es.toList.map keyOf) := by
    have q := pm.map Builtin.Re.reRawOf
    rw [List.map_map] at q
    exact q
  have eI := each_ints hI
  generalize vs.map Builtin.Re.reRawOf = bs at pk eI hI
  refine wpAny_bind (wpAny_newList ?_ (by rw [hvl]; exact hz))
  have hoL : (s1.heap.push (seqObj "list" vs.toArray 0)).get? s1.heap.objs.size = some (seqObj "list" vs.toArray 0) := Heap.get?_push_size _ rfl
  have er : ∀ h' : Heap, EachIs (fun v b => ∃ as, Reads h' v (PyData.int b) as) vs bs := fun h' => eI.mono fun v b ⟨tk, e⟩ => ⟨[], by rw [e]; exact .int _ _⟩
  refine wpAny_bind (wpAny_holding (wpAny_call_entry slot_list_sort ⟨_, hoL, rfl⟩ entry_list_sort (PySem.W.list_sort_vals (κ := PySem.W.dataKind (PySem.W.sortingHeap (s1.heap.push (seqObj "list" vs.toArray 0)) s1.heap.objs.size vs) (bs.map PyData.int)) hoL
    (PySem.W.SortsAt.data (PySem.W.each_map (R := fun v d => ∃ as, Reads _ v d as) PyData.int (er _)) (ints_alike' bs) (ints_sortable' bs) (fun d hd => ?_)) (by rw [hvl]; exact hz) ⟨_, rfl, ?_⟩) (args_list_sort _)))
  · obtain ⟨b, _, rfl⟩ := List.mem_map.mp hd
    exact hu
  have eo := PySem.W.sortVals_data (h' := PySem.W.sortingHeap (s1.heap.push (seqObj "list" vs.toArray 0)) s1.heap.objs.size vs) false eI (er _) (ints_alike' bs)
  generalize PySem.W.sortVals (PySem.W.dataKind (PySem.W.sortingHeap (s1.heap.push (seqObj "list" vs.toArray 0)) s1.heap.objs.size vs) (bs.map PyData.int)) false vs vs = out at eo
  have a1 := ints_each eo
  have a2 : (bs.mergeSort (dataLe false PyData.int)).Perm bs := List.mergeSort_perm _ _
  have a3 : (bs.mergeSort (dataLe false PyData.int)).Pairwise (· ≤ ·) := by
    have e : dataLe false PyData.int = fun a b : Int => decide (a ≤ b) := PySem.W.dataLe_int fun b : Int => b
    rw [e]
    have := List.pairwise_mergeSort (le := fun a b : Int => decide (a ≤ b)) (fun a b c h1 h2 => by simp at *; omega) (fun a b => by simp; omega) bs
    exact this.imp fun h => by simpa using h
  generalize bs.mergeSort (dataLe false PyData.int) = ns' at a1 a2 a3
  obtain ⟨c, hc⟩ := sortedHeap_at (vs := vs) (out := out.toArray) hoL
  have pn : ns'.Perm (es.toList.map keyOf) := a2.trans pk
  refine wpAny_pure ⟨_, rfl, hQ _ s1.heap.objs.size out.toArray c ns' (fun b u e => ?_) g1 o1 hz1 hc (by rw [List.toList_toArray]; exact a1) (lt_of_le_nodup ns' a3 (pn.nodup_iff.mpr nd)) (fun k => by rw [pn.mem_iff, ← hm k]) ?_ hz⟩
  · have q := k1 b u e
    have hlt := Heap.lt_size q
    show (sortedHeap (s1.heap.push (seqObj "list" vs.toArray 0)) s1.heap.objs.size vs out.toArray).get? b = some u
    rw [sortedHeap_old (Nat.ne_of_lt hlt) (by rw [size_push']; exact Nat.lt_succ_of_lt hlt)]
    exact Heap.get?_push_of_some _ q
  · rw [pn.length_eq, List.length_map, Array.length_toList]; exact hn
end
/-- sorted(found), any number -/
def rSortedSetB (w : World) : List V → Hp → VK → Prop := fun vs H Q => ∃ (a : Addr) (S : Int → Bool) (n : Nat), vs = [V.ref a] ∧ H a = some (SetO w a S n) ∧
  ∀ (ns : List Int) (p : Addr), ns.Pairwise (· < ·) → (∀ k : Int, k ∈ ns ↔ S k = true) → ns.length = n → H p = none → Q (.ref p) (upd H p (.lst (ns.map V.int)))
theorem cr_sortedSetB {X : Cx} (hc : X.calm = true) (hu : X.A.units + 64 < cLine) : CallR X (.builtin "sorted") (rSortedSetB X.w) := by
  intro pins s σ H vs us Q I r h
  obtain ⟨a, S, n, rfl, ha, q⟩ := h
  have R := setO_get I ha
  rw [Vals.ref1 r]
  refine sorted_setB R (I.ok.hd hc) (by omega) fun s' p out c ns k g o hp hg hi hs hm hl hz => ?_
  have hlen : (ns.map V.int).length ≤ sizeLine := by rw [List.length_map, hl]; exact hz
  have hn : H p = none := I.hok.fresh hp
  have J : Inv X pins σ (upd H p (.lst (ns.map V.int))) { s with heap := s'.heap, gens := s'.gens, drawn := s'.drawn, toks := s'.toks } :=
    I.call (ch := []) (Un.laid k hp hn) (I.hok.laid k hp ⟨hlen, out.toList, c, vals_of_ints hi, hg⟩) (by rw [g]; exact I.bare) (fun _ z => nomatch z)
  have e : s' = { s with heap := s'.heap, gens := s'.gens, drawn := s'.drawn, toks := s'.toks } := by
    cases s'
    cases s
    cases o
    rfl
  rw [e]
  exact ⟨.ref p, _, J, rfl, q ns p hs hm hl hn⟩
section
variable {M : Md} {O : List Addr} {r : List Sl} {k : D → Prop} {te : TE} {P : Program} {w : World}
theorem de_sortedSetB (h : De M te O r fun x => ∃ ns : List Int, (x = .lst (ns.map D.int) ∨ x = .tup (ns.map D.int)) ∧ ns.length + 1 < scanBound ∧
      ∀ ys : List Int, ys.Pairwise (· < ·) → (∀ k, k ∈ ys ↔ k ∈ ns) → k (.lst (ys.map D.int))) :
    De M (tCB (rSortedSetB w) (tCons (tCB (rSetI M.K w) (tCons te tNil)) tNil)) O r k := fun σ H Q R z => h σ H _ R fun v H1 x R1 e1 p1 q => by
  obtain ⟨ns, c, room, q⟩ := q
  have seq : ∃ p, v = .ref p ∧ (SqL M.K H1 p (ns.map V.int) ∨ SqT M.K H1 p (ns.map V.int)) := by
    rcases c with rfl | rfl
    · obtain ⟨a, vs, rfl, h1, h2⟩ := p1
      rw [repL_ints h2] at h1
      exact ⟨a, rfl, .inl h1.sq⟩
    · obtain ⟨a, vs, rfl, h1, h2⟩ := p1
      rw [repL_ints h2] at h1
      exact ⟨a, rfl, .inr h1.sq⟩
  obtain ⟨p, rfl, sq⟩ := seq
  refine ⟨p, ns, rfl, sq, room, fun q' l l1 l2 hq => ?_⟩
  refine ⟨q', _, _, rfl, upd_same, fun ys p' y1 y2 _ hp => ?_⟩
  have R2 := R1.grow (sm_new (o := SetO w q' (fun j => decide (j ∈ ns)) l.length) hq)
  exact z (.ref p') _ (.lst (ys.map D.int)) (R2.grow (sm_new hp)) ((e1.trans (sm_0 (sm_new hq))).trans (sm_0 (sm_new hp))) (rep_lst R2 hp (repL_of_ints ys)) (q ys y1 fun k => by rw [y2, decide_eq_true_eq])
end
end Dw

/-! K02d: the least masks. -/
namespace Dw
open PySem PySem.Spec PyProof.Rows L2
abbrev nLea : List Str := ["masks", "least", "mask", "kept"]
theorem scLea : FnScope nLea ["masks"] (defScope sLea) := ⟨rfl, rfl, rfl, by decide +kernel, rfl, by decide +kernel, by decide +kernel⟩
abbrev natD (n : Nat) : D := .int (n : Int)
def MasksD (x : D) (ms : List Nat) : Prop := x = .lst (ms.map natD) ∨ x = .tup (ms.map natD)
def preLea (ds : List D) : Prop := ∃ (x : D) (ms : List Nat), ds = [x] ∧ MasksD x ms ∧ ms.length + 1 < scanBound
def postLea (ds : List D) (d : D) : Prop := ∃ (x : D) (ms zs : List Nat), ds = [x] ∧ MasksD x ms ∧ zs.Pairwise (· < ·) ∧ (∀ k, k ∈ zs ↔ k ∈ ms) ∧ d = .lst ((keep within [] zs).map natD)
theorem keep_snoc {α : Type} (sub : α → α → Bool) (x : α) : ∀ (xs acc : List α), keep sub acc (xs ++ [x]) = if (keep sub acc xs).any (fun k => sub k x) = true then keep sub acc xs else keep sub acc xs ++ [x]
  | [], acc => by
    show keep sub acc [x] = _
    unfold keep
    rfl
  | y :: xs, acc => by
    show keep sub acc (y :: (xs ++ [x])) = _
    unfold keep
    split
    · exact keep_snoc sub x xs acc
    · exact keep_snoc sub x xs (acc ++ [y])
/-- is this kept one within m? -/
def inE (m : Nat) : D → D
  | .int k => .bl (decide (V.int (Builtin.bitAnd (m : Int) k) = V.int k))
  | _ => .non
theorem inE_nat (m k : Nat) : inE m (natD k) = .bl (within k m) := by
  refine congrArg D.bl (decide_eq_decide.mpr ⟨fun z => ?_, fun z => ?_⟩)
  · have z := V.int.inj z
    rw [PyProof.Rows.bitAnd_pp (by omega) (by omega), Int.toNat_natCast, Int.toNat_natCast] at z
    exact Int.ofNat.inj z
  · rw [PyProof.Rows.bitAnd_pp (by omega) (by omega), Int.toNat_natCast, Int.toNat_natCast, z]
theorem keep_len {α : Type} (sub : α → α → Bool) : ∀ (xs acc : List α), (keep sub acc xs).length ≤ acc.length + xs.length
  | [], acc => Nat.le_refl _
  | x :: xs, acc => by
    unfold keep
    split
    · have := keep_len sub xs acc
      rw [List.length_cons]
      omega
    · have := keep_len sub xs (acc ++ [x])
      rw [List.length_append, List.length_singleton] at this
      rw [List.length_cons]
      omega
section
variable {P : Program} {w : World} {K : PySem.W.Frag} {mg : Str → Option Value} {base : Heap}
theorem ok_lea {f : Addr} {fd : FuncData} {k : Nat} (F : Fun K "least_masks" "least_masks" sLea f fd) (mSo : mg "sorted" = none) (mSe : mg "set" = none) (mA : mg "any" = none) : FnOk P w K mg base CX0 (k + 1) f fd ["masks"] (SpP K preLea postLea) := by
  refine fn_dw (S := pure0) F scLea (fun g ds ⟨x, ms, e, _⟩ => by rw [e]; rfl) fun cdv A outer s H E g ds F1 f0 tr hr pre => ?_
  have hu := hr.units
  obtain ⟨x, ms, rfl, hx, room⟩ := pre
  have room2 := fits_of_scanBound room
  refine ⟨_, pss_cons (ps_set (i := 1) scLea.nd rfl (Or.inl rfl) (pe_lst pa_nil)) (pss_cons (ps_for PassesOwn.never rfl
    (pi_list (pe_callB (cr_sortedSetB (by rfl) hu) (by rfl) mSo (by decide +kernel) (pa_cons (pe_callTy (cr_setI (by rfl)) (by rfl) mSe (by decide +kernel) (pa_cons (pv 0) pa_nil)) pa_nil))) (pg_name (i := 2) scLea.nd rfl (Or.inr rfl))
    (pss_one (ps_if (pt_not (pt_val (pe_callB (cr_any (by rfl)) (by rfl) mA (by decide +kernel) (pa_cons (pe_lc (own := [("kept", 3)]) (g := gName 3) (tt := tYes) (by rfl) scLea.nd (pi_list (pv 1)) (blkOk_by (N := nLea) (sc := defScope sLea) (by decide +kernel))
      (fun _ _ _ _ _ => pg_name (i := 3) scLea.nd rfl (Or.inl rfl)) (fun _ _ _ _ _ => pts_nil) (fun _ _ _ _ _ => pe_cmpR op_eq (pe_op op_and (pv 2) (pv 3)) (pv 3) (nomark _))) pa_nil))))
      (pss_one (ps_expr (pe_bm PySem.F.plainAttrs_list PySem.F.slot_list_append PySem.F.type_list_append mt_append (pv 1) (pa_cons (pv 2) pa_nil)))) pss_nil))) (pss_one (ps_ret (pv 1)))), ?_⟩
  refine ds_seq (ds_own (da_nil ⟨Nat.zero_le _, fun p hp => ?_⟩))
  show DS _ _ _ _ _
  refine ds_seq (ds_for (js := [2]) (di_list (de_sortedSetB (de_var rfl ⟨ms.map fun n : Nat => (n : Int), ?_, by rw [List.length_map]; exact room, fun ys y1 y2 => ⟨_, rfl, ?_⟩⟩))))
  · rw [List.map_map]
    exact hx
  have ez : ∃ zs : List Nat, ys = zs.map fun n : Nat => (n : Int) := ⟨ys.map Int.toNat, by
    rw [List.map_map]
    refine (List.map_id ys).symm.trans (List.map_congr_left fun y hy => ?_)
    obtain ⟨m, _, rfl⟩ := List.mem_map.mp ((y2 y).1 hy)
    rfl⟩
  obtain ⟨zs, rfl⟩ := ez
  have z1 : zs.Pairwise (· < ·) := (List.pairwise_map.mp y1).imp fun h => Int.ofNat_lt.mp h
  have z2 : ∀ k, k ∈ zs ↔ k ∈ ms := fun k => by
    have z := y2 (k : Int)
    rw [List.mem_map, List.mem_map] at z
    exact ⟨fun h => by
      obtain ⟨m, hm, e⟩ := z.1 ⟨k, h, rfl⟩
      rw [← Int.ofNat.inj e]
      exact hm, fun h => by
      obtain ⟨m, hm, e⟩ := z.2 ⟨k, h, rfl⟩
      rw [← Int.ofNat.inj e]
      exact hm⟩
  have zl : zs.length < sizeLine := by
    have := len_subI (B := ms) (z1.imp fun h => Nat.ne_of_lt h) fun y hy => (z2 y).1 hy
    omega
  rw [List.map_map]
  refine ⟨fun i O r => O = [p] ∧ ∃ s2 s3 : Sl, r = [.d x, .mu p ((keep within [] (zs.take i)).map natD), s2, s3], ⟨rfl, _, _, rfl⟩, fun i y O' r' hy hv => ?_, fun O' r' hv => ?_⟩
  · obtain ⟨rfl, s2, s3, rfl⟩ := hv
    rw [List.getElem?_map] at hy
    obtain ⟨m, hm, rfl⟩ := Option.map_eq_some_iff.mp hy
    have kl := keep_len within (zs.take i) []
    have tl : (zs.take i).length < sizeLine := by rw [List.length_take]; omega
    have next : keep within [] (zs.take (i + 1)) = if (keep within [] (zs.take i)).any (fun k => within k m) = true then keep within [] (zs.take i) else keep within [] (zs.take i) ++ [m] := by
      rw [List.take_add_one, hm]
      exact keep_snoc within m _ _
    refine dg_name (ds_if (dt_not (dt_B (de_borrow 1 rfl (de_any (de_lcF (fun _ => true) (inE m) (js := [3]) (by decide) (di_list (de_var rfl ⟨_, rfl, ?_, ?_, ?_⟩))))))))
    · rw [List.length_map]
      rw [List.length_nil] at kl; omega
    · intro O2 j d hd
      rw [List.getElem?_map] at hd
      obtain ⟨c, hc, rfl⟩ := Option.map_eq_some_iff.mp hd
      exact dg_name (dt_yes ⟨rfl, fun _ => de_eq (de_intI (de_var rfl (de_var rfl ⟨_, _, rfl, rfl, de_var rfl ⟨_, _, rfl, rfl, rfl, rfl⟩⟩)))⟩)
    · refine ⟨(keep within [] (zs.take i)).map fun k => within k m, ?_, rfl, _, rfl, ?_⟩
      · rw [List.filter_eq_self.mpr fun _ _ => rfl, List.map_map, List.map_map]
        exact congrArg D.lst (List.map_congr_left fun k _ => inE_nat m k)
      rw [List.any_map]
      by_cases h : (keep within [] (zs.take i)).any (fun k => within k m) = true
      · rw [if_neg (by show ¬ (!((keep within [] (zs.take i)).any fun k => within k m)) = true; rw [h]; decide)]
        refine ds_next ⟨rfl, .d (natD m), s3, ?_⟩
        rw [next, if_pos h]
        rfl
      · rw [if_pos (by show (!((keep within [] (zs.take i)).any fun k => within k m)) = true; rw [Bool.eq_false_iff.mpr h]; rfl)]
        refine ds_append (i := 1) rfl (by rw [List.length_map]; rw [List.length_nil] at kl; omega) (de_var rfl ⟨rfl, .d (natD m), s3, ?_⟩)
        rw [next, if_neg h, List.map_append]
        rfl
  · obtain ⟨rfl, s2, s3, rfl⟩ := hv
    rw [List.length_map, List.take_length]
    exact ds_freeze 1 rfl (ds_ret (de_var rfl ⟨x, ms, zs, rfl, hx, z1, z2, rfl⟩))
end
end Dw

/-! LWa: the items in a drawn order. -/
namespace Dw
open PySem PySem.Spec PyProof.Rows L2
abbrev nMix : List Str := ["_law_deal_here", "_law_items", "_law_left", "_law_found", "_law_turn"]
theorem scMix : FnScope nMix ["_law_deal_here", "_law_items"] (defScope sMix) := ⟨rfl, rfl, rfl, by decide +kernel, rfl, by decide +kernel, by decide +kernel⟩
local macro_rules | `(tactic| walk_at "dw") => `(tactic| first
  | refine de_var rfl ?_ | refine de_int ?_ | refine de_str ?_ | refine de_bl ?_ | refine de_non ?_
  | refine de_intI ?_ | refine de_intB ?_ | refine de_intC ?_ | refine de_eq ?_ | refine de_ne ?_
  | refine da_nil ?_ | refine da_cons ?_ | refine de_max2 ?_ | refine do_none ?_ | refine do_some ?_ | refine dt_test ?_ | refine dt_B ?_ | refine dt_yes ?_
  | refine ⟨_, _, rfl, rfl, ?_⟩ | refine ⟨_, rfl, ?_⟩)
def preMix (g : Addr × Addr) (ds : List D) : Prop := ∃ (x : D) (xs : List D), ds = [.ref g.1, x] ∧ (x = .lst xs ∨ x = .tup xs) ∧ xs.length ≤ 1000
def postMix (_ : Addr × Addr) (ds : List D) (d : D) : Prop := ∃ xs ys : List D, (ds[1]? = some (.lst xs) ∨ ds[1]? = some (.tup xs)) ∧ d = .lst ys ∧ ys.Perm xs
section
variable {P : Program} {w : World} {K : PySem.W.Frag} {mg : Str → Option Value} {base : Heap}
theorem ok_mix {f fD : Addr} {fd fdD : FuncData} {k : Nat} (F : Fun K "_law_mixed" "_law_mixed" sMix f fd) (FD : FnOk P w K mg base CX0 k fD fdD ["_law_deal_here", "_law_many"] (spDraw K)) (gD : mg "_law_draw" = some (.ref fD)) (kD : PySem.W.keepIn K (.ref fD) = true) (bD : Binds K fdD ["_law_deal_here", "_law_many"] [])
    (mL : mg "list" = none) (mN : mg "len" = none) (mR : mg "range" = none) : FnOk P w K mg base CX0 (k + 1) f fd ["_law_deal_here", "_law_items"] (SpD K dealS preMix postMix) := by
  refine fn_dw (S := dealS) F scMix (fun g ds ⟨x, xs, e, _⟩ => by rw [e]; rfl) fun cdv A outer s H E g ds F1 f0 tr hr pre => ?_
  obtain ⟨x, xs, rfl, hx, hl⟩ := pre
  have h0 : (mdOf K dealS g H F1 f0 tr).F0 = dealS.F0 g := rfl
  have hI : (mdOf K dealS g H F1 f0 tr).I = dealS.I g := rfl
  refine ⟨_, pss_cons (ps_par (i := 2) (j := 3) rfl scMix.nd rfl rfl (by decide) rfl rfl (pa_cons (pe_callTy call_list_of (by rfl) mL (by decide +kernel) (pa_cons (pv 1) pa_nil)) (pa_cons (pe_lst pa_nil) pa_nil)) (by rfl))
    (pss_cons (ps_for PassesOwn.never rfl (pi_range1 (by rfl) mR (pa_cons (pe_callB call_len_seq (by rfl) mN PySem.boot_len (pa_cons (pv 2) pa_nil)) pa_nil)) (pg_name (i := 4) scMix.nd rfl (Or.inl rfl))
      (pss_one (ps_expr (pe_bm PySem.F.plainAttrs_list PySem.F.slot_list_append PySem.F.type_list_append mt_append (pv 3)
        (pa_cons (pe_bm PySem.F.plainAttrs_list PySem.F.slot_list_pop PySem.F.type_list_pop mt_popAt (pv 2)
          (pa_cons (pe_call FD hr (by rfl) gD kD bD .nil pass0 (pa_cons (pv 0) (pa_cons (pe_callB call_len_seq (by rfl) mN PySem.boot_len (pa_cons (pv 2) pa_nil)) pa_nil))) pa_nil)) pa_nil)))))
    (pss_one (ps_ret (pv 3)))), ?_⟩
  refine ds_seq (ds_parOwn (by decide) (by show 2 < 5; decide) (by show 3 < 5; decide) (de_var rfl ⟨xs, hx, fun p q hp hq hpq => ?_⟩))
  show DS _ _ _ _ _
  refine ds_seq (ds_for (js := [4]) (di_range1 (da_cons (de_borrow 2 rfl (de_len (de_var rfl ⟨xs, .inl rfl, rfl, da_nil ⟨_, rfl, ⟨by omega, by omega⟩, ?_⟩⟩))))))
  refine ⟨fun i O r => O = [q, p] ∧ ∃ (left found : List D) (s : Sl), left.length + i = xs.length ∧ found.length = i ∧ (found ++ left).Perm xs ∧ r = [.d (.ref g.1), .d x, .mu p left, .mu q found, s],
    ⟨rfl, xs, [], .un, rfl, rfl, .refl _, rfl⟩, fun i y O' r' hy hv => ?_, fun O' r' hv => ?_⟩
  · obtain ⟨rfl, left, found, s', hle, hfo, hp, rfl⟩ := hv
    obtain ⟨hi, rfl⟩ := rangeD_get hy
    refine dg_name (ds_appendPop (i := 2) (j := 3) rfl rfl (by decide) (by rw [hfo]; exact Nat.lt_of_lt_of_le (by omega : i < 1001) (by decide)) (de_call g h0 hI (da_cons (de_var rfl (da_cons (de_borrow 2 rfl (de_len (de_var rfl ⟨left, .inl rfl, rfl, da_nil ?_⟩))))))))
    refine ⟨⟨left.length, rfl, by omega, by omega⟩, fun d ⟨n, m, e, ed, m0, m1⟩ => ?_⟩
    cases e
    subst ed
    refine ⟨m.toNat, by rw [Int.toNat_of_nonneg m0], by omega, by omega, fun z hz => ⟨rfl, left.eraseIdx m.toNat, found ++ [z], _, ?_, ?_, ?_, rfl⟩⟩
    · rw [List.length_eraseIdx_of_lt (by omega)]
      omega
    · rw [List.length_append, hfo]
      rfl
    · have hm : m.toNat < left.length := by omega
      have e1 : left[m.toNat] = z := by
        rw [List.getElem?_eq_getElem hm] at hz
        exact Option.some.inj hz
      have e2 : (left[m.toNat] :: left.eraseIdx m.toNat).Perm left := by
        rw [List.eraseIdx_eq_take_drop_succ]
        refine List.perm_middle.symm.trans ?_
        rw [List.getElem_cons_drop, List.take_append_drop]
      rw [e1] at e2
      rw [List.append_assoc]
      exact ((List.Perm.append_left found e2)).trans hp
  · obtain ⟨rfl, left, found, s', hle, hfo, hp, rfl⟩ := hv
    rw [rangeD_len] at hle hfo
    have e0 : left = [] := List.length_eq_zero_iff.mp (by omega)
    subst e0
    rw [List.append_nil] at hp
    refine ds_freeze 3 rfl (ds_ret (de_var rfl ⟨xs, found, ?_, rfl, hp⟩))
    rcases hx with rfl | rfl
    · exact .inl rfl
    · exact .inr rfl
end
end Dw

/-! LWb: a name of any letters. -/
namespace Dw
open PySem PySem.Spec PyProof.Rows L2
local macro_rules | `(tactic| walk_at "dw") => `(tactic| first
  | refine de_var rfl ?_ | refine de_int ?_ | refine de_str ?_ | refine de_bl ?_ | refine de_non ?_
  | refine de_intI ?_ | refine de_intB ?_ | refine de_intC ?_ | refine de_eq ?_ | refine de_ne ?_
  | refine da_nil ?_ | refine da_cons ?_ | refine de_max2 ?_ | refine do_none ?_ | refine do_some ?_ | refine dt_test ?_ | refine dt_B ?_ | refine dt_yes ?_
  | refine ⟨_, _, rfl, rfl, ?_⟩ | refine ⟨_, rfl, ?_⟩)
def alpha : List Nat := [97, 98, 99, 100, 101, 102, 103, 104, 105, 106, 107, 108, 109, 110, 111, 112, 113, 114, 115, 116, 117, 118, 119, 120, 121, 122]
theorem alpha_is : (("abcdefghijklmnopqrstuvwxyz" : String) : Str) = tx alpha := by decide +kernel
theorem alpha_at {m : Int} (h0 : 0 ≤ m) (h1 : m < 26) : atI alpha m = some (97 + m.toNat) := by
  obtain ⟨n, rfl⟩ := Int.eq_ofNat_of_zero_le h0
  have hn : n < 26 := by omega
  have key : ∀ k, k < 26 → atI alpha ((k : Nat) : Int) = some (97 + k) := by decide +kernel
  exact key n hn
/-- small letters alone -/
def Low (l : List Nat) : Prop := ∀ c ∈ l, 97 ≤ c ∧ c ≤ 122
theorem Low.one {c : Nat} (h : 97 ≤ c ∧ c ≤ 122) : Low [c] := fun x hx => by
  rw [List.mem_singleton.mp hx]
  exact h
theorem Low.app {a b : List Nat} (h : Low a) (g : Low b) : Low (a ++ b) := fun c hc => (List.mem_append.mp hc).elim (h c) (g c)
theorem Low.flat {ls : List (List Nat)} (h : ∀ l ∈ ls, Low l) : Low ls.flatten := fun c hc => by
  obtain ⟨l, hl, hc⟩ := List.mem_flatten.mp hc
  exact h l hl c hc
theorem Low.take {l : List Nat} (n : Nat) (h : Low l) : Low (l.take n) := fun c hc => h c (List.mem_of_mem_take hc)
theorem Low.drop {l : List Nat} (n : Nat) (h : Low l) : Low (l.drop n) := fun c hc => h c (List.mem_of_mem_drop hc)
/-- the words of rules -/
def rsv : List (List Nat) := [[97, 108, 108], [97, 110, 121], [111, 102], [97, 108, 119, 97, 121, 115], [110, 101, 118, 101, 114], [110, 111, 110, 101]]
theorem rsv_is : ([("all" : Str), ("any" : Str), ("of" : Str), ("always" : Str), ("never" : Str), ("none" : Str)] : List Str) = rsv.map tx := by decide +kernel
theorem rsv_mem {w : List Nat} : (tx w ∈ rsv.map tx) ↔ w ∈ rsv := ⟨fun h => by
  obtain ⟨v, hv, e⟩ := List.mem_map.mp h
  rw [← tx_inj e]
  exact hv, fun h => List.mem_map.mpr ⟨w, h, rfl⟩⟩
abbrev nAny : List Str := ["_law_deal_here", "_law_last", "_law_letters", "_law_word", "_law_sign"]
theorem scAny : FnScope nAny ["_law_deal_here", "_law_last"] (defScope sAny) := ⟨rfl, rfl, rfl, by decide +kernel, rfl, by decide +kernel, by decide +kernel⟩
def preAny (g : Addr × Addr) (ds : List D) : Prop := ∃ c : Nat, ds = [.ref g.1, .str (tx [c])] ∧ 97 ≤ c ∧ c ≤ 122
def postAny (_ : Addr × Addr) (ds : List D) (d : D) : Prop := ∃ (c : Nat) (u : List Nat), ds[1]? = some (.str (tx [c])) ∧ d = .str (tx (u ++ [c])) ∧ Low (u ++ [c]) ∧ u.length ≤ 5 ∧ u ++ [c] ∉ rsv
/-- letters drawn, m of them -/
theorem pieces_len {ls : List (List Nat)} (h : ∀ l ∈ ls, l.length = 1) : ls.flatten.length = ls.length ∧ (ls.map List.length).sum = ls.length := by
  induction ls with
  | nil => exact ⟨rfl, rfl⟩
  | cons l ls ih =>
    obtain ⟨h1, h2⟩ := ih fun x hx => h x (by simp [hx])
    have e := h l (by simp)
    constructor
    · rw [List.flatten_cons, List.length_append, h1, e, List.length_cons]
      omega
    · rw [List.map_cons, List.sum_cons, h2, e, List.length_cons]
      omega
theorem strs_of {ys : List D} (h : ∀ (i : Nat) y, ys[i]? = some y → ∃ l : List Nat, y = .str (tx l) ∧ l.length = 1 ∧ Low l) : ∃ ls : List (List Nat), ys = ls.map (fun l => D.str (tx l)) ∧ (∀ l ∈ ls, l.length = 1 ∧ Low l) := by
  induction ys with
  | nil => exact ⟨[], rfl, fun l h => nomatch h⟩
  | cons y ys ih =>
    obtain ⟨l, rfl, h1, h2⟩ := h 0 y rfl
    obtain ⟨ls, rfl, h3⟩ := ih fun i z hz => h (i + 1) z hz
    exact ⟨l :: ls, rfl, fun x hx => (List.mem_cons.mp hx).elim (fun e => by rw [e]; exact ⟨h1, h2⟩) (h3 x)⟩
section
variable {P : Program} {w : World} {K : PySem.W.Frag} {mg : Str → Option Value} {base : Heap}
/-- "".join([letters[draw(26)] for .. in range(draw(n))]) -/
theorem de_letters {M : Md} {O : List Addr} {r : List Sl} {q : D → Prop} {g : Addr × Addr} {i a s : Nat} {n : Int} {E1 E2 : XK} (h0 : M.F0 = dealS.F0 g) (hI : M.I = dealS.I g) (n0 : 0 < n) (n1 : n ≤ 100) (hr : r[i]? = some (.d (.ref g.1)))
    (w1 : ∀ x, ((wipeR r [s]).set s (.d x))[i]? = some (.d (.ref g.1))) (w2 : ∀ x, ((wipeR r [s]).set s (.d x))[a]? = some (.d (.str (tx alpha)))) (h : ∀ u : List Nat, (u.length : Int) < n → Low u → q (.str (tx u))) :
    De M (tM1 (rJoin M.K) (tC (.str "")) (tLc (iRng1 (tCons (tCall (spDraw M.K) [] E1 (tCons (tVar i) (tCons (tC (.int n)) tNil))) tNil)) (gName s) tYes (tOp rIxS (tVar a) (tCall (spDraw M.K) [] E2 (tCons (tVar i) (tCons (tC (.int 26)) tNil)))) [s])) O r q := by
  refine de_join0 (de_lcP (js := [s]) (fun _ _ y => ∃ l : List Nat, y = .str (tx l) ∧ l.length = 1 ∧ Low l) (fun j h => h) (di_range1 (da_cons (de_draw h0 hI hr n0 (by omega) fun m m0 m1 => da_nil ⟨m, rfl, ⟨by omega, by omega⟩, ?_⟩))))
  refine ⟨by rw [rangeD_len]; exact Nat.lt_of_lt_of_le (by omega : m.toNat < 1000) (by decide), fun O' j x hx => dg_name ?_, fun ys hl hc => ?_⟩
  · refine de_ixS (de_var (w2 x) (de_draw h0 hI (w1 x) (by decide) (by decide) fun v v0 v1 => ⟨alpha, v, _, rfl, rfl, by decide, alpha_at v0 v1, _, rfl, rfl, Low.one ⟨by omega, by omega⟩⟩))
  · rw [rangeD_len] at hl
    obtain ⟨ls, rfl, h1⟩ := strs_of fun j y hy => by
      obtain ⟨z, ez⟩ : ∃ z, (rangeD 0 m.toNat)[j]? = some z := ⟨_, List.getElem?_eq_getElem (by rw [rangeD_len, ← hl]; exact (List.getElem?_eq_some_iff.mp hy).1)⟩
      exact hc j z y ez hy
    rw [List.length_map] at hl
    obtain ⟨p1, p2⟩ := pieces_len fun l hl => (h1 l hl).1
    exact ⟨ls, rfl, by omega, h _ (by omega) (Low.flat fun l hl => (h1 l hl).2)⟩
theorem not_b : ∀ w ∈ rsv, w.head? ≠ some 98 ∧ 2 ≤ w.length := by decide +kernel
theorem ok_any {f fD : Addr} {fd fdD : FuncData} {k : Nat} (F : Fun K "_law_any_word" "_law_any_word" sAny f fd) (FD : FnOk P w K mg base CX0 k fD fdD ["_law_deal_here", "_law_many"] (spDraw K)) (gD : mg "_law_draw" = some (.ref fD)) (kD : PySem.W.keepIn K (.ref fD) = true) (bD : Binds K fdD ["_law_deal_here", "_law_many"] [])
    (mR : mg "range" = none) : FnOk P w K mg base CX0 (k + 1) f fd ["_law_deal_here", "_law_last"] (SpD K dealS preAny postAny) := by
  refine fn_dw (S := dealS) F scAny (fun g ds ⟨c, e, _⟩ => by rw [e]; rfl) fun cdv A outer s H E g ds F1 f0 tr hr pre => ?_
  obtain ⟨c, rfl, c0, c1⟩ := pre
  have h0 : (mdOf K dealS g H F1 f0 tr).F0 = dealS.F0 g := rfl
  have hI : (mdOf K dealS g H F1 f0 tr).I = dealS.I g := rfl
  refine ⟨_, pss_cons (ps_set (i := 2) scAny.nd rfl (Or.inr rfl) pe_str)
    (pss_cons (ps_set (i := 3) scAny.nd rfl (Or.inl rfl) (pe_op op_add_str (pe_join pe_str (pe_lc (own := [("_law_sign", 4)]) (g := gName 4) (tt := tYes) (by rfl) scAny.nd (pi_range1 (by rfl) mR (pa_cons (pe_call FD hr (by rfl) gD kD bD .nil pass0 (pa_cons (pv 0) (pa_cons pe_int pa_nil))) pa_nil))
        (blkOk_by (N := nAny) (sc := defScope sAny) (by decide +kernel)) (fun _ _ _ _ _ => pg_name (i := 4) scAny.nd rfl (Or.inl rfl)) (fun _ _ _ _ _ => pts_nil)
        (fun _ _ _ _ _ => pe_ix ix_str (pv 2) (pe_call FD hr (by rfl) gD kD bD .nil pass0 (pa_cons (pv 0) (pa_cons pe_int pa_nil))) (fun _ _ => rfl)))) (pv 1)))
    (pss_one (ps_ret (pe_ifExp (pt_cmpR op_in_seq (pv 3) (pe_tup (pa_cons pe_str (pa_cons pe_str (pa_cons pe_str (pa_cons pe_str (pa_cons pe_str (pa_cons pe_str pa_nil))))))) (by rfl))
      (pe_op op_add_str pe_str (pe_slice sl_str (pv 3) (po_some pe_int) po_none)) (pv 3))))), ?_⟩
  refine ds_seq (ds_asg (de_str ?_))
  rw [alpha_is]
  refine ds_seq (ds_asg (de_addS (de_letters (i := 0) (a := 2) (s := 4) h0 hI (by decide) (by decide) rfl (fun _ => rfl) (fun _ => rfl) fun u hu lu => de_var rfl ⟨u, [c], rfl, rfl, ?_, ?_⟩)))
  · rw [List.length_singleton]
    exact Nat.le_trans (by omega : u.length + 1 ≤ 1000) (by decide)
  refine ds_ret (de_if (dt_test (de_inS (de_var rfl (de_tup ?_)))))
  repeat walk_at "dw"
  refine ⟨by show 6 ≤ sizeLine; decide, tx (u ++ [c]), [("all" : Str), ("any" : Str), ("of" : Str), ("always" : Str), ("never" : Str), ("none" : Str)], rfl, .inr rfl, _, rfl, ?_⟩
  rw [rsv_is]
  have lw : Low (u ++ [c]) := lu.app (Low.one ⟨c0, c1⟩)
  by_cases hm : tx (u ++ [c]) ∈ rsv.map tx
  · rw [decide_eq_true hm, if_pos rfl]
    have h2 := not_b _ (rsv_mem.mp hm)
    match u, h2, hu, lu, lw with
    | [], h2, _, _, _ => exact absurd h2.2 (by show ¬ 2 ≤ 1; decide)
    | x :: u', h2, hu, lu, lw =>
      refine de_addS (de_str (de_slS (de_var rfl ⟨x :: u' ++ [c], rfl, ?_, do_some (de_int ⟨1, rfl, do_none ⟨[98], _, ?_, rfl, ?_, c, 98 :: u', rfl, ?_, ?_, ?_, ?_⟩⟩)⟩)))
      · rw [List.length_append, List.length_singleton]
        exact Nat.le_trans (by omega : (x :: u').length + 1 ≤ 1000) (by decide)
      · exact congrArg D.str (by decide +kernel)
      · rw [cutN_from (by decide)]
        have e : ((x :: u' ++ [c]).drop (Int.toNat 1)).length = u'.length + 1 := by
          show (u' ++ [c]).length = _
          rw [List.length_append, List.length_singleton]
        rw [e, List.length_singleton]
        rw [List.length_cons] at hu
        exact Nat.le_trans (by omega : 1 + (u'.length + 1) ≤ 1000) (by decide)
      · rw [cutN_from (by decide)]
        rfl
      · refine Low.app (fun y hy => ?_) (Low.one ⟨c0, c1⟩)
        rcases List.mem_cons.mp hy with rfl | hy
        · exact ⟨by decide, by decide⟩
        · exact lu y (List.mem_cons_of_mem _ hy)
      · rw [List.length_cons] at hu ⊢
        omega
      · exact fun z => (not_b _ z).1 rfl
  · rw [decide_eq_false hm, if_neg Bool.false_ne_true]
    exact de_var rfl ⟨c, u, rfl, rfl, lw, by omega, fun z => hm (rsv_mem.mpr z)⟩
end
end Dw

/-! LWn: what makes lists of names good. -/
namespace Dw
open PySem PySem.Spec PyProof.Rows L2
def Name (w : List Nat) : Prop := Low w ∧ 1 ≤ w.length ∧ w.length ≤ 6 ∧ w ∉ rsv
instance (l : List Nat) : Decidable (Low l) := inferInstanceAs (Decidable (∀ c ∈ l, 97 ≤ c ∧ c ≤ 122))
instance (w : List Nat) : Decidable (Name w) := inferInstanceAs (Decidable (_ ∧ _ ∧ _ ∧ _))
/-- n different names -/
def Good (n : Nat) (ws : List (List Nat)) : Prop := ws.length = n ∧ ws.Nodup ∧ ∀ w ∈ ws, Name w
instance (n : Nat) (ws : List (List Nat)) : Decidable (Good n ws) := inferInstanceAs (Decidable (_ ∧ _ ∧ _))
def namesD (ws : List (List Nat)) : List D := ws.map fun l => D.str (tx l)
theorem namesD_len (ws : List (List Nat)) : (namesD ws).length = ws.length := by
  unfold namesD
  rw [List.length_map]
theorem Good.take {n m : Nat} {ws : List (List Nat)} (h : Good n ws) (hm : m ≤ n) : Good m (ws.take m) :=
  ⟨by rw [List.length_take, h.1]; omega, h.2.1.sublist (List.take_sublist _ _), fun w hw => h.2.2 w (List.mem_of_mem_take hw)⟩
theorem Good.perm {n : Nat} {ws us : List (List Nat)} (h : Good n ws) (p : us.Perm ws) : Good n us :=
  ⟨by rw [p.length_eq]; exact h.1, p.nodup_iff.mpr h.2.1, fun w hw => h.2.2 w (p.mem_iff.mp hw)⟩
/-- names told apart by a key -/
theorem good_by {α : Type} {n : Nat} {ys : List D} (key : List Nat → α) (κ : Nat → α) (hl : ys.length = n) (h : ∀ i y, i < n → ys[i]? = some y → ∃ w, y = .str (tx w) ∧ Name w ∧ key w = κ i) (inj : ∀ i j, i < n → j < n → κ i = κ j → i = j) :
    ∃ ws, ys = namesD ws ∧ Good n ws := by
  have split : ∃ ws : List (List Nat), ys = namesD ws ∧ ∀ (i : Nat) w, ws[i]? = some w → Name w ∧ key w = κ i := by
    refine ⟨ys.map fun y => match y with | .str s => s.cps.toList | _ => [], List.ext_getElem? fun i => ?_, fun i w e => ?_⟩
    · unfold namesD
      rw [List.map_map, List.getElem?_map]
      cases e : ys[i]? with
      | none => rfl
      | some y =>
        obtain ⟨w, rfl, _⟩ := h i y (by rw [← hl]; exact (List.getElem?_eq_some_iff.mp e).1) e
        rfl
    · rw [List.getElem?_map] at e
      cases e2 : ys[i]? with
      | none =>
        rw [e2] at e
        cases e
      | some y =>
        rw [e2] at e
        obtain ⟨u, rfl, h1⟩ := h i y (by rw [← hl]; exact (List.getElem?_eq_some_iff.mp e2).1) e2
        cases e
        exact h1
  obtain ⟨ws, e, hw⟩ := split
  have hn : ws.length = n := by rw [← namesD_len, ← e, hl]
  refine ⟨ws, e, hn, List.pairwise_iff_getElem.mpr fun i j hi hj hij q => ?_, fun w m => ?_⟩
  · have a1 := (hw i _ (List.getElem?_eq_getElem hi)).2
    have a2 := (hw j _ (List.getElem?_eq_getElem hj)).2
    rw [q, a2] at a1
    have := inj j i (by omega) (by omega) a1
    omega
  · obtain ⟨i, hi⟩ := List.getElem?_of_mem m
    exact (hw i w hi).1
/-- the k-th letter -/
def lt (turn : Int) (k : Nat) : Nat := 97 + ((turn + 7 * (k : Int)) % 26).toNat
theorem lt_ok (turn : Int) (k : Nat) : 97 ≤ lt turn k ∧ lt turn k ≤ 122 := by
  unfold lt
  omega
theorem lt_inj {turn : Int} {i j : Nat} (hi : i < 8) (hj : j < 8) (h : lt turn i = lt turn j) : i = j := by
  unfold lt at h
  omega
/-- no word of a rule holds one of these -/
theorem rsv_no : ∀ w ∈ rsv, 113 ∉ w ∧ 120 ∉ w ∧ 122 ∉ w ∧ 106 ∉ w ∧ 2 ≤ w.length := by decide +kernel
def deskW : List (List Nat) := [[112, 117, 116], [116, 97, 107, 101], [112, 114, 111, 112], [117, 110, 112, 114, 111, 112], [115, 116, 114, 105, 107, 101], [117, 110, 100, 111], [121, 97, 114, 100], [112, 114, 111, 112, 115], [103, 114, 111, 119], [100, 101, 112, 116, 104], [114, 101, 115, 116], [119, 97, 121], [104, 101, 114, 101], [112, 108, 97, 110]]
theorem desk_is : Txt.split "put take prop unprop strike undo yard props grow depth rest way here plan" " " = deskW.map tx := by decide +kernel
theorem desk_good : ∀ f, f < 14 → ∀ m, m ≤ 8 → Good m (((deskW ++ deskW).drop f).take m) := by decide +kernel
def plainW : List (List Nat) := [[98, 97, 115, 101], [108, 101, 102, 116], [114, 105, 103, 104, 116], [114, 111, 111, 102], [115, 111, 109, 101], [110, 101, 118, 101, 114, 115], [97, 108, 108, 111, 102], [111, 102, 97, 110, 121]]
theorem plain_is : Txt.split "base left right roof some nevers allof ofany" " " = plainW.map tx := by decide +kernel
theorem plain_good : Good 8 plainW := by decide +kernel
def pairW (p q : Nat) : List (List Nat) := [[p], [q], [p, q], [q, p], [p, p], [p, p, q], [p, q, p], [q, q]]
theorem pair_good : ∀ t, t < 26 → Good 8 (pairW (97 + t) (97 + (t + 7) % 26)) := by decide +kernel
theorem growW : ∀ t, t < 26 → Good 6 ((List.range 6).map fun k => ((97 + t) :: [113, 120, 122, 106, 107]).take (k + 1)) := by decide +kernel
end Dw

/-! LWm: rules that the def of the names wants. -/
namespace Dw
open PySem PySem.Spec PyProof.Rows L2
section
variable {M : Md} {O : List Addr} {r : List Sl} {q : D → Prop} {te : TE} {E : Kn} {ts tz : TS}
theorem ds_asgG {g : TG} {js : List Nat} (h : De M te O r fun d => DG M g js O r d fun r' => E.nx O r') : DS M (tAsg te g) O r E := fun σ H Z R z =>
  h σ H _ R fun v H1 d R1 e1 p1 q => q v σ H1 _ R1 p1 fun σ' r' R' _ q' => z.nx O r' σ' H1 R' (R1.stp e1) q'
theorem ds_par {ta : TA} {i j : Nat} (h : DA M ta O r fun ds => ∃ d e, ds = [d, e] ∧ E.nx O ((r.set i (.d d)).set j (.d e))) : DS M (tPar i j ta) O r E := fun σ H Z R z =>
  h σ H _ R fun vs H1 ds R1 e1 p1 q => by
    obtain ⟨d, e, rfl, q⟩ := q
    obtain ⟨v, t, rfl, p2, u, t2, rfl, p3, p4⟩ := p1
    obtain rfl : t2 = [] := p4
    exact ⟨v, u, rfl, z.nx O _ _ H1 ((R1.set (s := .d d) ⟨v, rfl, p2⟩ (fun p xs e => nomatch e)).set (s := .d e) ⟨u, rfl, p3⟩ (fun p xs e => nomatch e)) (R1.stp e1) q⟩
/-- what holds between two statements -/
theorem ds_mid (Q : List Addr → List Sl → Prop) (h1 : DS M ts O r { E with nx := Q }) (h2 : ∀ O r, Q O r → DS M tz O r E) : DS M (tSeq ts tz) O r E := ds_seq (h1.imp h2 (fun _ h => h) (fun _ _ h => h) fun _ _ h => h)
/-- an own list becomes data behind a block -/
theorem ds_after (i : Nat) (h : DS M ts O r { E with nx := fun O' r' => ∃ p xs, r'[i]? = some (.mu p xs) ∧ E.nx (O'.erase p) (r'.set i (.d (.lst xs))) }) : DS M ts O r E := fun σ H Z R z =>
  h σ H Z R ⟨fun O1 r1 σ1 H1 R1 a ⟨p, xs, e, q⟩ => z.nx (O1.erase p) _ σ1 H1 (R1.freeze e) ⟨a.1, fun x hx => a.2.1 x (List.mem_of_mem_erase hx), a.2.2⟩ q, z.rt, z.bk, z.ct⟩
/-- letters[(turn + 7 * k) % 26] -/
theorem de_let7 {a t s : Nat} {turn : Int} {j : Nat} (ha : r[a]? = some (.d (.str (tx alpha)))) (ht : r[t]? = some (.d (.int turn))) (hs : r[s]? = some (.d (.int (0 + (j : Int))))) (hj : j < 1000) (h : q (.str (tx [lt turn j]))) :
    De M (tOp rIxS (tVar a) (tOp (rI (fun x j => 0 < j) fun i j => V.int (i % j)) (tOp (rI0 fun i j => V.int (i + j)) (tVar t) (tOp (rI CMul fun i j => V.int (i * j)) (tC (V.int 7)) (tVar s))) (tC (V.int 26)))) O r q := by
  refine de_ixS (de_var ha (de_intC (C := fun x j => 0 < j) (g := fun i j => i % j) (de_intI (de_var ht (de_intC (C := CMul) (g := fun i j => i * j) (de_int (de_var hs ⟨_, _, rfl, rfl, .inl ⟨by omega, by omega⟩, _, _, rfl, rfl, de_int ⟨_, _, rfl, rfl, by decide, alpha, _, 97 + ((turn + 7 * (0 + (j : Int))) % 26).toNat, rfl, rfl, by decide, alpha_at (by omega) (by omega), ?_⟩⟩)))))))
  have e : 97 + ((turn + 7 * (0 + (j : Int))) % 26).toNat = lt turn j := by
    unfold lt
    rw [Int.zero_add]
  rw [e]
  exact h
theorem cutD_to {xs : List D} {b : Int} (h : 0 ≤ b) : cutD xs none (some b) = xs.take b.toNat := by
  unfold cutD
  rw [sIx_at _ _ h]
  show (xs.drop 0).take (min b.toNat xs.length - 0) = _
  rw [List.drop_zero, Nat.sub_zero]
  by_cases e : b.toNat ≤ xs.length
  · rw [Nat.min_eq_left e]
  · rw [Nat.min_eq_right (by omega), List.take_of_length_le (Nat.le_refl _), List.take_of_length_le (by omega)]
theorem cutD_at {xs : List D} {a b : Int} (ha : 0 ≤ a) (hab : a ≤ b) (hb : b ≤ xs.length) : cutD xs (some a) (some b) = (xs.drop a.toNat).take (b - a).toNat := by
  unfold cutD
  rw [sIx_at _ _ ha, sIx_at _ _ (Int.le_trans ha hab), Nat.min_eq_left (by omega), Nat.min_eq_left (by omega)]
  congr 1
  omega
theorem namesD_take (ws : List (List Nat)) (n : Nat) : (namesD ws).take n = namesD (ws.take n) := by
  unfold namesD
  rw [List.map_take]
theorem namesD_drop (ws : List (List Nat)) (n : Nat) : (namesD ws).drop n = namesD (ws.drop n) := by
  unfold namesD
  rw [List.map_drop]
theorem strs_names (ws : List (List Nat)) : (ws.map tx).map D.str = namesD ws := by
  unfold namesD
  rw [List.map_map]
  rfl
/-- drawn into another order: names still -/
theorem names_perm {ws : List (List Nat)} {ys : List D} (p : ys.Perm (namesD ws)) : ∃ us, ys = namesD us ∧ us.Perm ws := by
  let back : D → List Nat := fun y => match y with
    | .str s => s.cps.toList
    | _ => []
  have e1 : (namesD ws).map back = ws := by
    unfold namesD
    rw [List.map_map]
    show ws.map (fun l => l) = ws
    exact List.map_id _
  refine ⟨ys.map back, ?_, by rw [← e1]; exact (p.map back).trans (by rw [e1])⟩
  unfold namesD
  rw [List.map_map]
  refine (List.map_id ys).symm.trans (List.map_congr_left fun y hy => ?_)
  have hy2 := p.mem_iff.mp hy
  unfold namesD at hy2
  obtain ⟨l, _, rfl⟩ := List.mem_map.mp hy2
  rfl
end
theorem name_core {core : List Nat} {a L : Nat} {e z : List Nat} (lc : Low core) (hc : core.length < 4) (ha : a ≤ core.length) (hL : 97 ≤ L ∧ L ≤ 122) (he : (core = [] ∧ e = []) ∨ ∃ c ∈ [113, 120, 122, 106], e = [c]) (hz : z = [] ∨ z = [122]) :
    Name (((core.take a ++ (L :: e)) ++ core.drop a) ++ z) ∧ (((core.take a ++ (L :: e)) ++ core.drop a) ++ z)[a]? = some L := by
  have lz : Low z ∧ z.length ≤ 1 := by
    rcases hz with rfl | rfl
    · exact ⟨fun c h => (nomatch h), Nat.zero_le _⟩
    · exact ⟨Low.one ⟨by decide, by decide⟩, Nat.le_refl _⟩
  have le : Low e ∧ e.length ≤ 1 := by
    rcases he with ⟨_, rfl⟩ | ⟨c, hc, rfl⟩
    · exact ⟨fun c h => (nomatch h), Nat.zero_le _⟩
    · refine ⟨Low.one ?_, Nat.le_refl _⟩
      simp only [List.mem_cons, List.not_mem_nil, or_false] at hc
      omega
  have lt1 : (core.take a).length = a := by rw [List.length_take]; omega
  have l1 : (((core.take a ++ (L :: e)) ++ core.drop a) ++ z).length = core.length + e.length + z.length + 1 := by
    rw [List.length_append, List.length_append, List.length_append, List.length_drop, lt1, List.length_cons]
    omega
  refine ⟨⟨((Low.app (lc.take a) (Low.app (Low.one hL) le.1)).app (lc.drop a)).app lz.1, by omega, by omega, fun hr => ?_⟩, ?_⟩
  · have no := rsv_no _ hr
    rcases he with ⟨rfl, rfl⟩ | ⟨c, hc, rfl⟩
    · rcases hz with rfl | rfl
      · have := no.2.2.2.2
        rw [l1] at this
        simp at this
      · exact no.2.2.1 (by simp)
    · have hm : c ∈ ((core.take a ++ (L :: [c])) ++ core.drop a) ++ z := by simp
      simp only [List.mem_cons, List.not_mem_nil, or_false] at hc
      rcases hc with rfl | rfl | rfl | rfl
      · exact no.1 hm
      · exact no.2.1 hm
      · exact no.2.2.1 hm
      · exact no.2.2.2.1 hm
  · rw [List.append_assoc, List.append_assoc, List.getElem?_append_right (by omega), lt1, Nat.sub_self]
    rfl
theorem atI_nat {α : Type} {xs : List α} {k : Nat} {x : α} (h : xs[k]? = some x) : atI xs (0 + (k : Int)) = some x := by
  have hk : k < xs.length := (List.getElem?_eq_some_iff.mp h).1
  unfold atI ixN
  rw [Int.zero_add, if_pos (by omega), if_pos (by omega)]
  show xs[(k : Int).toNat]? = _
  rw [Int.toNat_natCast]
  exact h
theorem name_five {core : List Nat} {L : Nat} (lc : Low core) (hc : core.length < 4) (hL : 97 ≤ L ∧ L ≤ 122) : Name ((core ++ [113, 106, 120, 113, 106]).take 5 ++ [L]) ∧ ((core ++ [113, 106, 120, 113, 106]).take 5 ++ [L])[5]? = some L := by
  have l5 : ((core ++ [113, 106, 120, 113, 106]).take 5).length = 5 := by
    rw [List.length_take, List.length_append]
    show min 5 (core.length + 5) = 5
    omega
  have l6 : ((core ++ [113, 106, 120, 113, 106]).take 5 ++ [L]).length = 6 := by rw [List.length_append, l5]; rfl
  have lq : Low [113, 106, 120, 113, 106] := by decide
  refine ⟨⟨(Low.take 5 (lc.app lq)).app (Low.one hL), by omega, by omega, fun hr => (rsv_no _ hr).1 (List.mem_append_left _ ?_)⟩, ?_⟩
  · have e : (core ++ [113, 106, 120, 113, 106])[core.length]? = some 113 := by
      rw [List.getElem?_append_right (Nat.le_refl _), Nat.sub_self]
      rfl
    refine List.mem_of_getElem? (i := core.length) ?_
    rw [List.getElem?_take, if_pos (by omega)]
    exact e
  · rw [List.getElem?_append_right (by omega), l5]
    rfl
theorem name_grow {t k : Nat} (ht : t < 26) (hk : k < 6) : Name (((97 + t) :: [113, 120, 122, 106, 107]).take (k + 1)) ∧ (((97 + t) :: [113, 120, 122, 106, 107]).take (k + 1)).length = k + 1 :=
  ⟨(growW t ht).2.2 _ (List.mem_map.mpr ⟨k, List.mem_range.mpr hk, rfl⟩), by rw [List.length_take]; show min (k + 1) 6 = k + 1; omega⟩
theorem desk_cut {f m : Int} (f0 : 0 ≤ f) (f1 : f < 14) (m0 : 0 ≤ m) (m8 : m ≤ 8) : ∃ ws, cutD (List.replicate (Int.toNat 2) (namesD deskW)).flatten (some f) (some (f + m)) = namesD ws ∧ Good m.toNat ws := by
  have e : (List.replicate (Int.toNat 2) (namesD deskW)).flatten = namesD (deskW ++ deskW) := by
    show (List.replicate 2 (namesD deskW)).flatten = _
    unfold namesD
    rw [List.map_append]
    simp [List.replicate]
  refine ⟨((deskW ++ deskW).drop f.toNat).take m.toNat, ?_, desk_good f.toNat (by omega) m.toNat (by omega)⟩
  rw [e, cutD_at f0 (by omega) (by rw [namesD_len]; show f + m ≤ ((28 : Nat) : Int); omega), namesD_drop, namesD_take]
  congr 2
  omega
end Dw

/-! LWc: distinct names. -/
namespace Dw
open PySem PySem.Spec PyProof.Rows L2
abbrev nWor : List Str := ["_law_deal_here", "_law_many", "_law_letters", "_law_form", "_law_core", "_law_at", "_law_turn", "_law_own", "_law_found", "_law_words_here", "_law_first", "_law_p", "_law_q", "_law_k"]
theorem scWor : FnScope nWor ["_law_deal_here", "_law_many"] (defScope sWor) := ⟨rfl, rfl, rfl, by decide +kernel, rfl, by decide +kernel, by decide +kernel⟩
local macro_rules | `(tactic| walk_at "dw") => `(tactic| first
  | refine de_var rfl ?_ | refine de_int ?_ | refine de_str ?_ | refine de_bl ?_ | refine de_non ?_
  | refine de_intI ?_ | refine de_intB ?_ | refine de_intC ?_ | refine de_eq ?_ | refine de_ne ?_
  | refine da_nil ?_ | refine da_cons ?_ | refine de_max2 ?_ | refine do_none ?_ | refine do_some ?_ | refine dt_test ?_ | refine dt_B ?_ | refine dt_yes ?_
  | refine ⟨_, _, rfl, rfl, ?_⟩ | refine ⟨_, rfl, ?_⟩)
theorem nil_is : (("" : String) : Str) = tx [] := by decide +kernel
def preWor (g : Addr × Addr) (ds : List D) : Prop := ∃ m : Int, ds = [.ref g.1, .int m] ∧ 0 ≤ m ∧ m ≤ 8
def postWor (_ : Addr × Addr) (ds : List D) (d : D) : Prop := ∃ (m : Int) (ws : List (List Nat)), ds[1]? = some (.int m) ∧ d = .lst (namesD ws) ∧ Good m.toNat ws
def WorI (g : Addr × Addr) (many form at_ turn : Int) (core : List Nat) (O : List Addr) (r : List Sl) : Prop :=
  O = [] ∧ ∃ (ws : List (List Nat)) (s7 s9 s10 s11 s12 s13 : Sl), Good many.toNat ws ∧ r = [.d (.ref g.1), .d (.int many), .d (.str (tx alpha)), .d (.int form), .d (.str (tx core)), .d (.int at_), .d (.int turn), s7, .d (.lst (namesD ws)), s9, s10, s11, s12, s13]
section
variable {P : Program} {w : World} {K : PySem.W.Frag} {mg : Str → Option Value} {base : Heap}
set_option maxHeartbeats 4000000 in
theorem ok_wor {f fD fM fA : Addr} {fd fdD fdM fdA : FuncData} {k : Nat} (F : Fun K "_law_words" "_law_words" sWor f fd) (FD : FnOk P w K mg base CX0 k fD fdD ["_law_deal_here", "_law_many"] (spDraw K)) (gD : mg "_law_draw" = some (.ref fD)) (kD : PySem.W.keepIn K (.ref fD) = true) (bD : Binds K fdD ["_law_deal_here", "_law_many"] [])
    (FM : FnOk P w K mg base CX0 k fM fdM ["_law_deal_here", "_law_items"] (SpD K dealS preMix postMix)) (gM : mg "_law_mixed" = some (.ref fM)) (kM : PySem.W.keepIn K (.ref fM) = true) (bM : Binds K fdM ["_law_deal_here", "_law_items"] [])
    (FA : FnOk P w K mg base CX0 k fA fdA ["_law_deal_here", "_law_last"] (SpD K dealS preAny postAny)) (gA : mg "_law_any_word" = some (.ref fA)) (kA : PySem.W.keepIn K (.ref fA) = true) (bA : Binds K fdA ["_law_deal_here", "_law_last"] [])
    (mR : mg "range" = none) (mN : mg "len" = none) (mI : mg "int" = none) : FnOk P w K mg base CX0 (k + 1) f fd ["_law_deal_here", "_law_many"] (SpD K dealS preWor postWor) := by
  refine fn_dw (S := dealS) F scWor (fun g ds ⟨m, e, _⟩ => by rw [e]; rfl) fun cdv A outer s H E g ds F1 f0 tr hr pre => ?_
  have h0 : (mdOf K dealS g H F1 f0 tr).F0 = dealS.F0 g := rfl
  have hI : (mdOf K dealS g H F1 f0 tr).I = dealS.I g := rfl
  refine ⟨_, (pss_cons (ps_asg (pe_tup (pa_cons pe_str (pa_cons (pe_call FD hr (by rfl) gD kD bD .nil pass0 (pa_cons (pv 0) (pa_cons pe_int pa_nil))) pa_nil))) (pg_tup rfl (pgs_cons (pg_name (i := 2) scWor.nd rfl (Or.inr rfl)) (pgs_cons (pg_name (i := 3) scWor.nd rfl (Or.inl rfl)) pgs_nil)))) (pss_cons (ps_set (i := 4) scWor.nd rfl (Or.inr rfl) (pe_join pe_str (pe_lc (own := [("_law_k", 13)]) (g := gName 13) (tt := tYes) (by rfl) scWor.nd (pi_range1 (by rfl) mR (pa_cons (pe_call FD hr (by rfl) gD kD bD .nil pass0 (pa_cons (pv 0) (pa_cons pe_int pa_nil))) pa_nil)) (blkOk_by (N := nWor) (sc := defScope sWor) (by decide +kernel)) (fun _ _ _ _ _ => (pg_name (i := 13) scWor.nd rfl (Or.inl rfl))) (fun _ _ _ _ _ => pts_nil) (fun _ _ _ _ _ => (pe_ix ix_str (pv 2) (pe_call FD hr (by rfl) gD kD bD .nil pass0 (pa_cons (pv 0) (pa_cons pe_int pa_nil))) (fun _ _ => rfl)))))) (pss_cons (ps_asg (pe_tup (pa_cons (pe_call FD hr (by rfl) gD kD bD .nil pass0 (pa_cons (pv 0) (pa_cons (pe_op op_add (pe_callB call_len_str (by rfl) mN PySem.boot_len (pa_cons (pv 4) pa_nil)) pe_int) pa_nil))) (pa_cons (pe_call FD hr (by rfl) gD kD bD .nil pass0 (pa_cons (pv 0) (pa_cons pe_int pa_nil))) pa_nil))) (pg_tup rfl (pgs_cons (pg_name (i := 5) scWor.nd rfl (Or.inr rfl)) (pgs_cons (pg_name (i := 6) scWor.nd rfl (Or.inr rfl)) pgs_nil)))) (pss_cons (ps_set (i := 7) scWor.nd rfl (Or.inr rfl) (pe_lc (own := [("_law_k", 13)]) (g := gName 13) (tt := tYes) (by rfl) scWor.nd (pi_range1 (by rfl) mR (pa_cons (pv 1) pa_nil)) (blkOk_by (N := nWor) (sc := defScope sWor) (by decide +kernel)) (fun _ _ _ _ _ => (pg_name (i := 13) scWor.nd rfl (Or.inl rfl))) (fun _ _ _ _ _ => pts_nil) (fun _ _ _ _ _ => (pe_op op_add_str (pe_ix ix_str (pv 2) (pe_op op_mod (pe_op op_add (pv 6) (pe_op op_mul pe_int (pv 13))) pe_int) (fun _ _ => rfl)) (pe_ix (show IxR _ (rIxL K) from ix_list) (pe_lst (pa_cons (pe_ix ix_str pe_str (pe_call FD hr (by rfl) gD kD bD .nil pass0 (pa_cons (pv 0) (pa_cons pe_int pa_nil))) (fun _ _ => rfl)) (pa_cons pe_str pa_nil))) (pe_callTy call_int1 (by rfl) mI (by decide +kernel) (pa_cons (pe_cmpR op_eq (pv 4) pe_str (nomark _)) pa_nil)) (fun _ _ => rfl)))))) (pss_cons (ps_setLc (i := 8) (own := [("_law_k", 13)]) (g := gName 13) (tt := tYes) rfl scWor.nd rfl rfl (sw_true rfl rfl rfl (by decide +kernel)) (pi_range1 (by rfl) mR (pa_cons (pv 1) pa_nil)) (blkOk_by (N := nWor) (sc := defScope sWor) (by decide +kernel)) (fun _ _ _ _ _ => (pg_name (i := 13) scWor.nd rfl (Or.inl rfl))) (fun _ _ _ _ _ => pts_nil) (fun _ _ _ _ _ => (pe_op op_add_str (pe_op op_add_str (pe_op op_add_str (pe_slice sl_str (pv 4) po_none (po_some (pv 5))) (pe_ix (show IxR _ (rIxL K) from ix_list) (pv 7) (pv 13) (fun _ _ => rfl))) (pe_slice sl_str (pv 4) (po_some (pv 5)) po_none)) (pe_op op_mulS pe_str (pe_op op_mod (pv 13) pe_int))))) (pss_cons (ps_if (pt_cmpR op_eq (pv 3) pe_int (nomark _)) (pss_cons (ps_set (i := 9) scWor.nd rfl (Or.inl rfl) (pe_split pe_str pe_str)) (pss_cons (ps_set (i := 10) scWor.nd rfl (Or.inl rfl) (pe_call FD hr (by rfl) gD kD bD .nil pass0 (pa_cons (pv 0) (pa_cons pe_int pa_nil)))) (pss_one (ps_set (i := 8) scWor.nd rfl (Or.inl rfl) (pe_slice sl_list (pe_op op_rep (pv 9) pe_int) (po_some (pv 10)) (po_some (pe_op op_add (pv 10) (pv 1)))))))) pss_nil) (pss_cons (ps_if (PW.pt (pw_and (pt_cmpR op_eq (pv 3) pe_int (nomark _)) (pw_and1 (pt_cmpR op_lt (pv 1) pe_int (nomark _))))) (pss_one (ps_setLc (i := 8) (own := [("_law_k", 13)]) (g := gName 13) (tt := tYes) rfl scWor.nd rfl rfl (sw_true rfl rfl rfl (by decide +kernel)) (pi_range1 (by rfl) mR (pa_cons (pv 1) pa_nil)) (blkOk_by (N := nWor) (sc := defScope sWor) (by decide +kernel)) (fun _ _ _ _ _ => (pg_name (i := 13) scWor.nd rfl (Or.inl rfl))) (fun _ _ _ _ _ => pts_nil) (fun _ _ _ _ _ => (pe_slice sl_str (pe_op op_add_str (pe_ix ix_str (pv 2) (pv 6) (fun _ _ => rfl)) pe_str) po_none (po_some (pe_op op_add (pv 13) pe_int)))))) pss_nil) (pss_cons (ps_if (pt_cmpR op_eq (pv 3) pe_int (nomark _)) (pss_one (ps_setLc (i := 8) (own := [("_law_k", 13)]) (g := gName 13) (tt := tYes) rfl scWor.nd rfl rfl (sw_true rfl rfl rfl (by decide +kernel)) (pi_range1 (by rfl) mR (pa_cons (pv 1) pa_nil)) (blkOk_by (N := nWor) (sc := defScope sWor) (by decide +kernel)) (fun _ _ _ _ _ => (pg_name (i := 13) scWor.nd rfl (Or.inl rfl))) (fun _ _ _ _ _ => pts_nil) (fun _ _ _ _ _ => (pe_op op_add_str (pe_slice sl_str (pe_op op_add_str (pv 4) pe_str) po_none (po_some pe_int)) (pe_ix ix_str (pv 2) (pe_op op_mod (pe_op op_add (pv 6) (pe_op op_mul pe_int (pv 13))) pe_int) (fun _ _ => rfl)))))) pss_nil) (pss_cons (ps_if (pt_cmpR op_eq (pv 3) pe_int (nomark _)) (pss_one (ps_setLc (i := 8) (own := [("_law_k", 13)]) (g := gName 13) (tt := tYes) rfl scWor.nd rfl rfl (sw_true rfl rfl rfl (by decide +kernel)) (pi_range1 (by rfl) mR (pa_cons (pv 1) pa_nil)) (blkOk_by (N := nWor) (sc := defScope sWor) (by decide +kernel)) (fun _ _ _ _ _ => (pg_name (i := 13) scWor.nd rfl (Or.inl rfl))) (fun _ _ _ _ _ => pts_nil) (fun _ _ _ _ _ => (pe_call FA hr (by rfl) gA kA bA .nil pass0 (pa_cons (pv 0) (pa_cons (pe_ix ix_str (pv 2) (pe_op op_mod (pe_op op_add (pv 6) (pe_op op_mul pe_int (pv 13))) pe_int) (fun _ _ => rfl)) pa_nil)))))) pss_nil) (pss_cons (ps_if (pt_cmpR op_eq (pv 3) pe_int (nomark _)) (pss_one (ps_set (i := 8) scWor.nd rfl (Or.inl rfl) (pe_slice sl_list (pe_split pe_str pe_str) po_none (po_some (pv 1))))) pss_nil) (pss_cons (ps_if (pt_cmpR op_eq (pv 3) pe_int (nomark _)) (pss_cons (ps_par (i := 11) (j := 12) rfl scWor.nd rfl rfl (by decide) rfl rfl (pa_cons (pe_ix ix_str (pv 2) (pv 6) (fun _ _ => rfl)) (pa_cons (pe_ix ix_str (pv 2) (pe_op op_mod (pe_op op_add (pv 6) pe_int) pe_int) (fun _ _ => rfl)) pa_nil)) (by rfl)) (pss_one (ps_set (i := 8) scWor.nd rfl (Or.inl rfl) (pe_slice sl_list (pe_lst (pa_cons (pv 11) (pa_cons (pv 12) (pa_cons (pe_op op_add_str (pv 11) (pv 12)) (pa_cons (pe_op op_add_str (pv 12) (pv 11)) (pa_cons (pe_op op_add_str (pv 11) (pv 11)) (pa_cons (pe_op op_add_str (pe_op op_add_str (pv 11) (pv 11)) (pv 12)) (pa_cons (pe_op op_add_str (pe_op op_add_str (pv 11) (pv 12)) (pv 11)) (pa_cons (pe_op op_add_str (pv 12) (pv 12)) pa_nil))))))))) po_none (po_some (pv 1)))))) pss_nil) (pss_one (ps_ret (pe_call FM hr (by rfl) gM kM bM .nil pass0 (pa_cons (pv 0) (pa_cons (pv 8) pa_nil)))))))))))))))), ?_⟩
  obtain ⟨many, rfl, m0, m8⟩ := pre
  refine ds_seq (ds_asgG (js := [2, 3]) (de_tup (da_cons (de_str (da_cons (de_draw (i := 0) h0 hI rfl (by decide) (by decide) fun form fo0 fo1 => da_nil ⟨by show 2 ≤ sizeLine; decide, ?_⟩))))))
  refine dg_tup rfl (dgs_cons (dg_name (dgs_cons (dg_name (dgs_nil ?_)))))
  rw [alpha_is]
  refine ds_seq (ds_asg (de_letters (i := 0) (a := 2) (s := 13) h0 hI (by decide) (by decide) rfl (fun _ => rfl) (fun _ => rfl) fun core hc lc => ?_))
  have c1000 : core.length ≤ 1000 := by omega
  have cline : core.length ≤ sizeLine := Nat.le_trans c1000 (by decide)
  refine ds_seq (ds_asgG (js := [5, 6]) (de_tup (da_cons (de_call g h0 hI (da_cons (de_var rfl (da_cons (de_intI (de_lenS (de_var rfl ⟨tx core, rfl, by rw [tx_len]; exact cline, de_int ⟨_, _, rfl, rfl, da_nil ?_⟩⟩))))))))))
  rw [tx_len]
  refine ⟨⟨_, rfl, by omega, by omega⟩, fun d ⟨n, at_, e, ed, a0, a1⟩ => ?_⟩
  cases e
  subst ed
  refine da_cons (de_draw (i := 0) h0 hI rfl (by decide) (by decide) fun turn t0 t1 => da_nil ⟨by show 2 ≤ sizeLine; decide, ?_⟩)
  refine dg_tup rfl (dgs_cons (dg_name (dgs_cons (dg_name (dgs_nil ?_)))))
  -- own
  refine ds_seq (ds_asg (de_lcP (js := [13]) (fun k _ y => ∃ e : List Nat, y = .str (tx (lt turn k :: e)) ∧ ((core = [] ∧ e = []) ∨ ∃ c ∈ [113, 120, 122, 106], e = [c])) (fun j h => h) (di_range1 (da_cons (de_var rfl (da_nil ⟨many, rfl, ⟨by omega, by omega⟩, ?_⟩))))))
  refine ⟨by rw [rangeD_len]; exact Nat.lt_of_lt_of_le (by omega : many.toNat < 1000) (by decide), fun O' k x hx => ?_, fun own hol hown => ?_⟩
  · obtain ⟨hk, rfl⟩ := rangeD_get hx
    refine dg_name (de_addS (de_let7 (a := 2) (t := 6) (s := 13) rfl rfl rfl (by omega) ?_))
    refine de_ixL (de_lst (da_cons (de_ixS (de_str (de_draw (i := 0) h0 hI rfl (by decide) (by decide) fun v v0 v1 => ?_)))))
    have pick : ∃ c ∈ [113, 120, 122, 106], atI [113, 120, 122, 106] v = some c := by
      have z : v = 0 ∨ v = 1 ∨ v = 2 ∨ v = 3 := by omega
      rcases z with rfl | rfl | rfl | rfl <;> exact ⟨_, by decide, rfl⟩
    obtain ⟨c, hcm, hc2⟩ := pick
    refine ⟨[113, 120, 122, 106], v, c, congrArg D.str (by decide +kernel), rfl, by decide, hc2, ?_⟩
    refine da_cons (de_str (da_nil ⟨by show 2 ≤ sizeLine; decide, de_int1 (de_eq (de_var rfl (de_str ⟨_, _, rfl, rfl, rfl, _, rfl, ?_⟩)))⟩))
    rw [nil_is]
    by_cases hcore : core = []
    · have e1 : decide (V.str (tx core) = V.str (tx [])) = true := decide_eq_true (by rw [hcore])
      rw [e1]
      exact ⟨_, 1, .str (tx []), rfl, rfl, rfl, [lt turn k], [], rfl, rfl, by show 1 ≤ sizeLine; decide, [], rfl, .inl ⟨hcore, rfl⟩⟩
    · have e1 : decide (V.str (tx core) = V.str (tx [])) = false := decide_eq_false fun z => hcore (tx_inj (V.str.inj z))
      rw [e1]
      exact ⟨_, 0, .str (tx [c]), rfl, rfl, rfl, [lt turn k], [c], rfl, rfl, by show 2 ≤ sizeLine; decide, [c], rfl, .inr ⟨c, hcm, rfl⟩⟩
  rw [rangeD_len] at hol
  have own_at : ∀ k : Nat, k < many.toNat → ∃ e : List Nat, own[k]? = some (.str (tx (lt turn k :: e))) ∧ ((core = [] ∧ e = []) ∨ ∃ c ∈ [113, 120, 122, 106], e = [c]) := fun k hk => by
    have h1 : own[k]? = some own[k] := List.getElem?_eq_getElem (by omega)
    obtain ⟨x, hx⟩ : ∃ x, (rangeD 0 many.toNat)[k]? = some x := ⟨_, List.getElem?_eq_getElem (by rw [rangeD_len]; exact hk)⟩
    obtain ⟨e, he, hc⟩ := hown k x _ hx h1
    exact ⟨e, by rw [h1, he], hc⟩
  -- found
  refine ds_mid (WorI g many form at_ turn core) (ds_asg (de_lcP (js := [13]) (fun k _ y => ∃ w : List Nat, y = .str (tx w) ∧ Name w ∧ w[at_.toNat]? = some (lt turn k)) (fun j h => h) (di_range1 (da_cons (de_var rfl (da_nil ⟨many, rfl, ⟨by omega, by omega⟩, ?_⟩)))))) fun O1 r1 hv => ?_
  · refine ⟨by rw [rangeD_len]; exact Nat.lt_of_lt_of_le (by omega : many.toNat < 1000) (by decide), fun O' k x hx => ?_, fun ys hys hyc => ?_⟩
    · obtain ⟨hk, rfl⟩ := rangeD_get hx
      obtain ⟨e, oe, he⟩ := own_at k hk
      have b1 : ∀ n : Nat, n ≤ 1000 → n ≤ sizeLine := fun n h => Nat.le_trans h (by decide)
      have e1 : e.length ≤ 1 := by
        rcases he with ⟨_, rfl⟩ | ⟨c, _, rfl⟩
        · exact Nat.zero_le _
        · exact Nat.le_refl _
      refine dg_name (de_addS (de_addS (de_addS (de_slS (de_var rfl ⟨core, rfl, cline, do_none (do_some (de_var rfl ⟨at_, rfl, ?_⟩))⟩)))))
      rw [cutN_to a0]
      refine de_ixL (de_var rfl (de_var rfl ⟨own, _, _, rfl, rfl, atI_nat oe, _, _, rfl, rfl, ?_, ?_⟩))
      · refine b1 _ ?_
        rw [List.length_take, List.length_cons]
        omega
      refine de_slS (de_var rfl ⟨core, rfl, cline, do_some (de_var rfl ⟨at_, rfl, do_none ⟨_, _, rfl, rfl, ?_, ?_⟩⟩)⟩)
      · refine b1 _ ?_
        rw [cutN_from a0, List.length_append, List.length_take, List.length_cons, List.length_drop]
        omega
      rw [cutN_from a0]
      refine de_mulS (de_str (de_intC (C := fun x j => 0 < j) (g := fun i j => i % j) (de_var rfl (de_int ⟨_, _, rfl, rfl, by decide, [122], decide (k % 2 = 1), congrArg D.str (by decide +kernel), ?_, _, _, rfl, rfl, ?_, ?_⟩))))
      · refine congrArg D.int ?_
        by_cases h : k % 2 = 1
        · rw [decide_eq_true h, if_pos rfl]
          omega
        · rw [decide_eq_false h, if_neg Bool.false_ne_true]
          omega
      · refine b1 _ ?_
        rw [List.length_append, List.length_append, List.length_take, List.length_cons, List.length_drop]
        have : (if decide (k % 2 = 1) = true then [122] else [] : List Nat).length ≤ 1 := by split <;> decide
        omega
      · obtain ⟨n1, n2⟩ := name_core (a := at_.toNat) (e := e) (z := if decide (k % 2 = 1) = true then [122] else []) lc (by omega) (by omega) (lt_ok turn k) he (by
          split
          · exact .inr rfl
          · exact .inl rfl)
        exact ⟨_, rfl, n1, n2⟩
    · rw [rangeD_len] at hys
      obtain ⟨ws, rfl, hg⟩ := good_by (fun w => w[at_.toNat]?) (fun k => some (lt turn k)) hys (fun i y hi hy => by
        obtain ⟨x, hx⟩ : ∃ x, (rangeD 0 many.toNat)[i]? = some x := ⟨_, List.getElem?_eq_getElem (by rw [rangeD_len]; exact hi)⟩
        exact hyc i x y hx hy) fun i j hi hj e => lt_inj (by omega) (by omega) (Option.some.inj e)
      exact ⟨rfl, ws, _, _, _, _, _, _, hg, rfl⟩
  obtain ⟨rfl, ws, s7, s9, s10, s11, s12, s13, hg, rfl⟩ := hv
  -- form 0
  refine ds_mid (WorI g many form at_ turn core) (ds_ifN (dt_test (de_eq (de_var rfl (de_int ⟨_, _, rfl, rfl, rfl, _, rfl, fun _ => ?_⟩)))) ⟨rfl, ws, _, _, _, _, _, _, hg, rfl⟩) fun O1 r1 hv => ?_
  · refine ds_after 9 (ds_seq (ds_ownSplit (i := 9) (by decide +kernel) (by decide +kernel) (by decide +kernel) fun p hp => ?_))
    rw [desk_is, strs_names]
    refine ds_seq (ds_asg (de_draw (i := 0) h0 hI rfl (by decide) (by decide) fun first fi0 fi1 => ?_))
    refine ds_asg (de_slL (de_repO 9 rfl (de_int ⟨2, rfl, by decide, by decide, by rw [namesD_len]; decide, _, rfl, do_some (de_var rfl ⟨first, rfl, do_some (de_intI (de_var rfl (de_var rfl ⟨_, _, rfl, rfl, _, rfl, ?_⟩)))⟩)⟩)))
    obtain ⟨us, eu, gu⟩ := desk_cut fi0 fi1 m0 m8
    rw [eu]
    exact ⟨p, namesD deskW, rfl, by simp, us, _, _, _, _, _, _, gu, rfl⟩
  obtain ⟨rfl, ws, s7, s9, s10, s11, s12, s13, hg, rfl⟩ := hv
  -- form 1
  refine ds_mid (WorI g many form at_ turn core) (ds_ifN (dt_andN (dt_test (de_eq (de_var rfl (de_int ⟨_, _, rfl, rfl, rfl, _, rfl, fun _ => dt_test (de_intB (de_var rfl (de_int ⟨_, _, rfl, rfl, _, rfl, fun h7 => ?_⟩)))⟩))))) ⟨rfl, ws, _, _, _, _, _, _, hg, rfl⟩) fun O1 r1 hv => ?_
  · have m7 : many < 7 := of_decide_eq_true h7
    refine ds_asg (de_lcP (js := [13]) (fun k _ y => ∃ w : List Nat, y = .str (tx w) ∧ Name w ∧ w.length = k + 1) (fun j h => h) (di_range1 (da_cons (de_var rfl (da_nil ⟨many, rfl, ⟨by omega, by omega⟩, ?_⟩)))))
    refine ⟨by rw [rangeD_len]; exact Nat.lt_of_lt_of_le (by omega : many.toNat < 1000) (by decide), fun O' k x hx => ?_, fun ys hys hyc => ?_⟩
    · obtain ⟨hk, rfl⟩ := rangeD_get hx
      refine dg_name (de_slS (de_addS (de_ixS (de_var rfl (de_var rfl ⟨alpha, turn, _, rfl, rfl, by decide, alpha_at t0 t1, de_str ⟨_, [113, 120, 122, 106, 107], rfl, congrArg D.str (by decide +kernel), by show 6 ≤ sizeLine; decide, _, rfl, by show 6 ≤ sizeLine; decide, do_none (do_some (de_intI (de_var rfl (de_int ⟨_, _, rfl, rfl, _, rfl, ?_⟩))))⟩⟩)))))
      rw [cutN_to (by omega)]
      have e : (0 + (k : Int) + 1).toNat = k + 1 := by omega
      rw [e]
      obtain ⟨g1, g2⟩ := name_grow (t := turn.toNat) (k := k) (by omega) (by omega)
      exact ⟨_, rfl, g1, g2⟩
    · rw [rangeD_len] at hys
      obtain ⟨us, rfl, hg⟩ := good_by List.length (fun k => k + 1) hys (fun i y hi hy => by
        obtain ⟨x, hx⟩ : ∃ x, (rangeD 0 many.toNat)[i]? = some x := ⟨_, List.getElem?_eq_getElem (by rw [rangeD_len]; exact hi)⟩
        exact hyc i x y hx hy) fun i j hi hj e => by omega
      exact ⟨rfl, us, _, _, _, _, _, _, hg, rfl⟩
  obtain ⟨rfl, ws, s7, s9, s10, s11, s12, s13, hg, rfl⟩ := hv
  -- form 2
  refine ds_mid (WorI g many form at_ turn core) (ds_ifN (dt_test (de_eq (de_var rfl (de_int ⟨_, _, rfl, rfl, rfl, _, rfl, fun _ => ?_⟩)))) ⟨rfl, ws, _, _, _, _, _, _, hg, rfl⟩) fun O1 r1 hv => ?_
  · refine ds_asg (de_lcP (js := [13]) (fun k _ y => ∃ w : List Nat, y = .str (tx w) ∧ Name w ∧ w[5]? = some (lt turn k)) (fun j h => h) (di_range1 (da_cons (de_var rfl (da_nil ⟨many, rfl, ⟨by omega, by omega⟩, ?_⟩)))))
    refine ⟨by rw [rangeD_len]; exact Nat.lt_of_lt_of_le (by omega : many.toNat < 1000) (by decide), fun O' k x hx => ?_, fun ys hys hyc => ?_⟩
    · obtain ⟨hk, rfl⟩ := rangeD_get hx
      have lcq : (core ++ [113, 106, 120, 113, 106]).length ≤ sizeLine := by
        rw [List.length_append]
        exact Nat.le_trans (by show core.length + 5 ≤ 1000; omega) (by decide)
      refine dg_name (de_addS (de_slS (de_addS (de_var rfl (de_str ⟨core, [113, 106, 120, 113, 106], rfl, congrArg D.str (by decide +kernel), by rw [← List.length_append]; exact lcq, _, rfl, lcq, do_none (do_some (de_int ⟨5, rfl, ?_⟩))⟩)))))
      refine de_let7 (a := 2) (t := 6) (s := 13) rfl rfl rfl (by omega) ⟨_, _, rfl, rfl, ?_, ?_⟩
      · rw [cutN_to (by decide), List.length_take]
        exact Nat.le_trans (by show min 5 _ + 1 ≤ 1000; omega) (by decide)
      · rw [cutN_to (by decide)]
        obtain ⟨g1, g2⟩ := name_five (L := lt turn k) lc (by omega) (lt_ok turn k)
        exact ⟨_, rfl, g1, g2⟩
    · rw [rangeD_len] at hys
      obtain ⟨us, rfl, hg⟩ := good_by (fun w => w[5]?) (fun k => some (lt turn k)) hys (fun i y hi hy => by
        obtain ⟨x, hx⟩ : ∃ x, (rangeD 0 many.toNat)[i]? = some x := ⟨_, List.getElem?_eq_getElem (by rw [rangeD_len]; exact hi)⟩
        exact hyc i x y hx hy) fun i j hi hj e => lt_inj (by omega) (by omega) (Option.some.inj e)
      exact ⟨rfl, us, _, _, _, _, _, _, hg, rfl⟩
  obtain ⟨rfl, ws, s7, s9, s10, s11, s12, s13, hg, rfl⟩ := hv
  -- form 3
  refine ds_mid (WorI g many form at_ turn core) (ds_ifN (dt_test (de_eq (de_var rfl (de_int ⟨_, _, rfl, rfl, rfl, _, rfl, fun _ => ?_⟩)))) ⟨rfl, ws, _, _, _, _, _, _, hg, rfl⟩) fun O1 r1 hv => ?_
  · refine ds_asg (de_lcP (js := [13]) (fun k _ y => ∃ w : List Nat, y = .str (tx w) ∧ Name w ∧ w.getLast? = some (lt turn k)) (fun j h => h) (di_range1 (da_cons (de_var rfl (da_nil ⟨many, rfl, ⟨by omega, by omega⟩, ?_⟩)))))
    refine ⟨by rw [rangeD_len]; exact Nat.lt_of_lt_of_le (by omega : many.toNat < 1000) (by decide), fun O' k x hx => ?_, fun ys hys hyc => ?_⟩
    · obtain ⟨hk, rfl⟩ := rangeD_get hx
      refine dg_name (de_call g h0 hI (da_cons (de_var rfl (da_cons (de_let7 (a := 2) (t := 6) (s := 13) rfl rfl rfl (by omega) (da_nil ⟨⟨lt turn k, rfl, lt_ok turn k⟩, fun d hd => ?_⟩))))))
      obtain ⟨c, u, ec, rfl, lw, lu, nr⟩ := hd
      have e2 : lt turn k = c := by
        have := tx_inj (D.str.inj (Option.some.inj ec))
        exact List.head_eq_of_cons_eq this
      subst e2
      refine ⟨_, rfl, ⟨lw, ?_, ?_, nr⟩, by simp⟩
      · rw [List.length_append, List.length_singleton]
        omega
      · rw [List.length_append, List.length_singleton]
        omega
    · rw [rangeD_len] at hys
      obtain ⟨us, rfl, hg⟩ := good_by List.getLast? (fun k => some (lt turn k)) hys (fun i y hi hy => by
        obtain ⟨x, hx⟩ : ∃ x, (rangeD 0 many.toNat)[i]? = some x := ⟨_, List.getElem?_eq_getElem (by rw [rangeD_len]; exact hi)⟩
        exact hyc i x y hx hy) fun i j hi hj e => lt_inj (by omega) (by omega) (Option.some.inj e)
      exact ⟨rfl, us, _, _, _, _, _, _, hg, rfl⟩
  obtain ⟨rfl, ws, s7, s9, s10, s11, s12, s13, hg, rfl⟩ := hv
  -- form 4
  refine ds_mid (WorI g many form at_ turn core) (ds_ifN (dt_test (de_eq (de_var rfl (de_int ⟨_, _, rfl, rfl, rfl, _, rfl, fun _ => ?_⟩)))) ⟨rfl, ws, _, _, _, _, _, _, hg, rfl⟩) fun O1 r1 hv => ?_
  · refine ds_asg (de_slL (de_splitC (by decide +kernel) (by decide +kernel) ⟨_, rfl, do_none (do_some (de_var rfl ⟨many, rfl, ?_⟩))⟩))
    rw [plain_is, strs_names, cutD_to m0, namesD_take]
    exact ⟨rfl, _, _, _, _, _, _, _, plain_good.take (by omega), rfl⟩
  obtain ⟨rfl, ws, s7, s9, s10, s11, s12, s13, hg, rfl⟩ := hv
  -- form 5
  refine ds_mid (WorI g many form at_ turn core) (ds_ifN (dt_test (de_eq (de_var rfl (de_int ⟨_, _, rfl, rfl, rfl, _, rfl, fun _ => ?_⟩)))) ⟨rfl, ws, _, _, _, _, _, _, hg, rfl⟩) fun O1 r1 hv => ?_
  · refine ds_seq (ds_par (da_cons (de_ixS (de_var rfl (de_var rfl ⟨alpha, turn, _, rfl, rfl, by decide, alpha_at t0 t1, da_cons (de_ixS (de_var rfl (de_intC (C := fun x j => 0 < j) (g := fun i j => i % j) (de_intI (de_var rfl (de_int ⟨_, _, rfl, rfl, de_int ⟨_, _, rfl, rfl, by decide, alpha, _, _, rfl, rfl, by decide, alpha_at (by omega) (by omega), da_nil ⟨_, _, rfl, ?_⟩⟩⟩))))))⟩)))))
    have gp := pair_good turn.toNat (by omega)
    have e7 : ((turn + 7) % 26).toNat = (turn.toNat + 7) % 26 := by omega
    rw [e7]
    generalize 97 + turn.toNat = p at gp ⊢
    generalize 97 + (turn.toNat + 7) % 26 = q at gp ⊢
    have add2 : ∀ {a b : List Nat}, a.length ≤ 3 → b.length ≤ 3 → a.length + b.length ≤ sizeLine := fun ha hb => Nat.le_trans (by omega : _ ≤ 6) (by decide)
    refine ds_asg (de_slL (de_lst (da_cons (de_var rfl (da_cons (de_var rfl (da_cons (de_addS (de_var rfl (de_var rfl ⟨[p], [q], rfl, rfl, add2 (Nat.le_of_ble_eq_true rfl) (Nat.le_of_ble_eq_true rfl), ?_⟩))))))))))
    refine da_cons (de_addS (de_var rfl (de_var rfl ⟨[q], [p], rfl, rfl, add2 (Nat.le_of_ble_eq_true rfl) (Nat.le_of_ble_eq_true rfl), ?_⟩)))
    refine da_cons (de_addS (de_var rfl (de_var rfl ⟨[p], [p], rfl, rfl, add2 (Nat.le_of_ble_eq_true rfl) (Nat.le_of_ble_eq_true rfl), ?_⟩)))
    refine da_cons (de_addS (de_addS (de_var rfl (de_var rfl ⟨[p], [p], rfl, rfl, add2 (Nat.le_of_ble_eq_true rfl) (Nat.le_of_ble_eq_true rfl), de_var rfl ⟨_, [q], rfl, rfl, add2 (Nat.le_of_ble_eq_true rfl) (Nat.le_of_ble_eq_true rfl), ?_⟩⟩))))
    refine da_cons (de_addS (de_addS (de_var rfl (de_var rfl ⟨[p], [q], rfl, rfl, add2 (Nat.le_of_ble_eq_true rfl) (Nat.le_of_ble_eq_true rfl), de_var rfl ⟨_, [p], rfl, rfl, add2 (Nat.le_of_ble_eq_true rfl) (Nat.le_of_ble_eq_true rfl), ?_⟩⟩))))
    refine da_cons (de_addS (de_var rfl (de_var rfl ⟨[q], [q], rfl, rfl, add2 (Nat.le_of_ble_eq_true rfl) (Nat.le_of_ble_eq_true rfl), da_nil ⟨by show 8 ≤ sizeLine; decide, _, rfl, do_none (do_some (de_var rfl ⟨many, rfl, ?_⟩))⟩⟩)))
    rw [cutD_to m0]
    exact ⟨rfl, (pairW p q).take many.toNat, s7, s9, s10, .d (.str (tx [p])), .d (.str (tx [q])), s13, gp.take (by omega), by rw [← namesD_take]; rfl⟩
  obtain ⟨rfl, ws, s7, s9, s10, s11, s12, s13, hg, rfl⟩ := hv
  refine ds_ret (de_call g h0 hI (da_cons (de_var rfl (da_cons (de_var rfl (da_nil ⟨⟨_, namesD ws, rfl, .inl rfl, ?_⟩, fun d hd => ?_⟩))))))
  · rw [namesD_len, hg.1]
    omega
  · obtain ⟨xs, ys, hx, rfl, hp⟩ := hd
    rcases hx with hx | hx
    · cases hx
      obtain ⟨us, rfl, pu⟩ := names_perm hp
      exact ⟨many, us, rfl, rfl, hg.perm pu⟩
    · cases hx
end
end Dw

/-! P05h: what the four defs that have hand proofs ask. -/
namespace Dw
open PySem PySem.Spec PyProof.Rows L2
/-- what is asked, from a promise by what holds before and behind -/
def W.pp (pre : List D → Prop) (post : List D → D → Prop) (ds : List D) (k : D → Prop) : Prop := pre ds ∧ ∀ d, post ds d → k d
def p_names_in (x : D) (k : D → Prop) : Prop := W.pp preNam postNam [x] k
def p_mask_of (x y : D) (k : D → Prop) : Prop := W.pp preMsk postMsk [x, y] k
def p_names_of (x y : D) (k : D → Prop) : Prop := W.pp preNof postNof [x, y] k
def p_least_masks (x : D) (k : D → Prop) : Prop := W.pp preLea postLea [x] k
/-- the items in some order -/
def p__law_mixed (x : D) (k : D → Prop) : Prop := ∃ xs, (x = .lst xs ∨ x = .tup xs) ∧ xs.length ≤ 1000 ∧ ∀ ys, ys.Perm xs → k (.lst ys)
/-- distinct names -/
def p__law_words (x : D) (k : D → Prop) : Prop := ∃ m : Int, x = .int m ∧ 0 ≤ m ∧ m ≤ 8 ∧ ∀ ws, Good m.toNat ws → k (.lst (namesD ws))
/-- the law gives True at every script -/
def spLaw (K : PySem.W.Frag) : Sp := fun vs H Q _ => ∃ (a : Addr) (ns : List Int), vs = [.ref a] ∧ SqL K H a (ns.map V.int) ∧ ns.length ≤ 63 ∧ ∀ H', Q (.bl true) H'
section
variable {P : Program} {w : World} {K : PySem.W.Frag} {mg : Str → Option Value} {base : Heap}
theorem fn_pp {k : Nat} {f : Addr} {fd : FuncData} {ps : List Str} {pre : List D → Prop} {post : List D → D → Prop} {wf : List D → (D → Prop) → Prop} (F : FnOk P w K mg base CX0 k f fd ps (SpP K pre post)) (h : ∀ ds k, wf ds k → W.pp pre post ds k) : FnOk P w K mg base CX0 k f fd ps (SpP0 K wf) :=
  F.imp fun vs H Q E ⟨g, ds, F, kr, p, f0, tr, i, q, z⟩ => ⟨g, ds, F, p, f0, tr, i, (h ds kr q).1, fun v H' d s i' p' po => z v H' d s i' p' ((h ds kr q).2 d po)⟩
/-- the same for a def that has the source of draws -/
theorem fn_ppD {k : Nat} {f : Addr} {fd : FuncData} {ps : List Str} {pre : dealS.G → List D → Prop} {post : dealS.G → List D → D → Prop} {wf : List D → (D → Prop) → Prop} (F : FnOk P w K mg base CX0 k f fd ps (SpD K dealS pre post)) (h : ∀ g ds k, dealW wf g ds k → pre g ds ∧ ∀ d, post g ds d → k d) : FnOk P w K mg base CX0 k f fd ps (SpDl K wf) :=
  F.imp fun vs H Q E ⟨g, ds, F, kr, p, f0, tr, i, q, z⟩ => ⟨g, ds, F, p, f0, tr, i, (h g ds kr q).1, fun v H' d s i' p' po => z v H' d s i' p' ((h g ds kr q).2 d po)⟩
theorem mix_dw {k : Nat} {f : Addr} {fd : FuncData} {ps : List Str} (F : FnOk P w K mg base CX0 k f fd ps (SpD K dealS preMix postMix)) : FnOk P w K mg base CX0 k f fd ps (SpDl K (W.a1 p__law_mixed)) :=
  fn_ppD F fun g ds k ⟨r, e, h⟩ => by
    obtain ⟨x, rfl, h⟩ := a1_e h
    obtain ⟨xs, hx, hl, q⟩ := h
    subst e
    refine ⟨⟨x, xs, rfl, hx, hl⟩, fun d ⟨xs', ys, hx', ed, pm⟩ => ?_⟩
    subst ed
    have e2 : xs' = xs := by
      rcases hx' with e | e <;> rcases hx with rfl | rfl <;> cases e <;> rfl
    subst e2
    exact q ys pm
theorem wor_dw {k : Nat} {f : Addr} {fd : FuncData} {ps : List Str} (F : FnOk P w K mg base CX0 k f fd ps (SpD K dealS preWor postWor)) : FnOk P w K mg base CX0 k f fd ps (SpDl K (W.a1 p__law_words)) :=
  fn_ppD F fun g ds k ⟨r, e, h⟩ => by
    obtain ⟨x, rfl, h⟩ := a1_e h
    obtain ⟨m, rfl, h0, h8, q⟩ := h
    subst e
    refine ⟨⟨m, rfl, h0, h8⟩, fun d ⟨m', ws, e, ed, gd⟩ => ?_⟩
    cases e
    subst ed
    exact q ws gd
end
end Dw

/-! WGs: if and for in the body of a generator def. -/
namespace PySem
section
variable {M : Model} {A : Around} {R : GenEnd} {Y : Protocol} {n : Nat} {s₀ : Shared} {c : Code} {fs : List Frame} {s : Shared} {env : Env}
  {K : Flow → Sem Fin} {J : Value → Sem Fin} {gd : Bool → Bool} {lv : List Value → List Value}
theorem seg_If {test : Expr} {body orelse : List Stmt} {pos : Pos}
    (h : wpAny M (A.over c fs) (isTrue test env (eval test env)) (fun b s' => Seg M A R Y n s₀ c ((if b = true then execs body env else execs orelse env).wrap K J gd lv) fs s') (fun x s' => Seg M A R Y n s₀ c (J x) fs s') s) :
    Seg M A R Y n s₀ c ((exec (.If test body orelse pos) env).wrap K J gd lv) fs s := by
  show Seg M A R Y n s₀ c (.at pos fun _ => ((isTrue test env (eval test env)) >>= fun b => if b = true then execs body env else execs orelse env).wrap K J gd lv) fs s
  exact seg_at (seg_bind_wrap h)
theorem seg_For {target iter : Expr} {body orelse : List Stmt} {pos : Pos} (hs : ∀ x, foldedSetIterable iter env x = pure x)
    (h : wpAny M (A.over c fs) (eval iter env) (fun x s₁ => wpAny M (A.over c fs) (pyIter x) (fun it s₂ => ∀ p, Seg M A R Y n s₀ (.forLoop target it body orelse env) (M.den (.forLoop target it body orelse env))
      (.ret (fun r => ((match r with | .ok f => (.pure f : Sem Flow) | .error e => .raise e).onRaise fun (x : Value) => do
        if (← field x 1) == Value.none then unsupported "frame.own-activation:exception-without-traceback"
        setFlight x env.frame).wrap K J gd lv) none (gd false) (lv []) c p [] :: fs) s₂) (fun x s' => Seg M A R Y n s₀ c (J x) fs s') s₁) (fun x s' => Seg M A R Y n s₀ c (J x) fs s') s) :
    Seg M A R Y n s₀ c ((exec (.For target iter body orelse pos) env).wrap K J gd lv) fs s := by
  rw [exec_For]
  refine seg_bind_wrap (wpAny_standAt ?_)
  refine seg_bind_wrap (wpAny_mono h (fun x s₁ h₁ => ?_) fun _ _ z => z)
  refine seg_bind_wrap (wpAny_of_eq (hs x) ?_)
  refine seg_bind_wrap (wpAny_standAt ?_)
  refine seg_bind_wrap (wpAny_holding (wpAny_mono h₁ (fun it s₂ h₂ => ?_) fun _ _ z => z))
  exact seg_call h₂
end
section
variable {prog : Program} {w : World} {A : Around} {R : GenEnd} {Y : Protocol} {n : Nat} {s₀ : Shared} {fs : List Frame} {s : Shared} {env : Env}
abbrev noteGo (env : Env) (x : Value) : Sem Unit := do noteFrame x env; theTreesLotGoes x
theorem seg_forLoop {target : Expr} {it : Value} {body : List Stmt}
    (h : wpAny (model prog w) (A.over (.forLoop target it body [] env) fs) (pyNext it) (fun r s₁ => match r with
        | none => Seg (model prog w) A R Y n s₀ (.forLoop target it body [] env) (.pure (.again (.block [] env))) fs s₁
        | some v => wpAny (model prog w) (A.over (.forLoop target it body [] env) fs) (letOwnedTupleGo target it v) (fun _ s₂ => wpAny (model prog w) (A.over (.forLoop target it body [] env) fs) (assign target env v) (fun _ s₃ =>
          Seg (model prog w) A R Y n s₀ (.forLoop target it body [] env) ((execs body env).wrap (fun f => match f with
            | .next | .cont => .pure (.again (.forLoop target it body [] env))
            | .brk => .pure (.done .next)
            | .ret v => .pure (.done (.ret v))) (fun e => (noteGo env e).wrap (fun _ => .raise e) .raise id id) id id) fs s₃)
          (fun x s' => Seg (model prog w) A R Y n s₀ (.forLoop target it body [] env) ((noteGo env x).wrap (fun _ => .raise x) .raise id id) fs s') s₂)
          (fun x s' => Seg (model prog w) A R Y n s₀ (.forLoop target it body [] env) ((noteGo env x).wrap (fun _ => .raise x) .raise id id) fs s') s₁)
      (fun x s' => Seg (model prog w) A R Y n s₀ (.forLoop target it body [] env) ((noteGo env x).wrap (fun _ => .raise x) .raise id id) fs s') s) :
    Seg (model prog w) A R Y n s₀ (.forLoop target it body [] env) ((model prog w).den (.forLoop target it body [] env)) fs s := by
  show Seg _ A R Y n s₀ _ ((forTurn target it body [] env).onRaise (noteGo env)) fs s
  unfold forTurn
  rw [Sem.onRaise_eq_wrap]
  have ee : (fun x : Value => (noteGo env x).bind fun _ => (Sem.raise x : Sem Fin)) = fun x => (noteGo env x).wrap (fun _ => .raise x) .raise id id := by
    funext x
    rw [Sem.bind_eq_wrap]
  rw [ee]
  refine seg_bind_wrap (wpAny_standAt ?_)
  refine seg_bind_wrap (wpAny_onRaise (wpAny_mono h (fun r s₁ h₁ => ?_) fun _ _ z => wpAny_standAt z))
  cases r with
  | none => exact h₁
  | some v =>
    refine seg_bind_wrap (wpAny_mono h₁ (fun _ s₂ h₂ => ?_) fun _ _ z => z)
    refine seg_bind_wrap (wpAny_mono h₂ (fun _ s₃ h₃ => ?_) fun _ _ z => z)
    rw [Sem.bind_eq_wrap', Sem.wrap_wrap]
    exact Eq.mpr (congrArg (fun t => Seg (model prog w) A R Y n s₀ (.forLoop target it body [] env) t fs s₃) (Sem.wrap_congr (execs body env) _ _ (fun f => by cases f <;> rfl) (fun e => by rfl))) h₃
end
end PySem
namespace L2
open PySem PySem.Spec PyProof.Rows GenW
section
variable {X : Cx} {test : Expr} {body orelse : List Stmt} {pos : Pos} {tc : TT} {tb te : TGn}
def tGIf (c : TT) (tb te : TGn) : TGn := fun D ys σ H => c σ H fun b H1 => if b = true then tb D ys σ H1 else te D ys σ H1
theorem gs_if (hc : PT X test tc) (hb : GSs X body tb) (he : GSs X orelse te) : GS X (.If test body orelse pos) (tGIf tc tb te) := by
  refine ⟨fun A S ip R n ys s₀ c fs K J gd lv s σ H D g hn k hI ht => ?_⟩
  obtain ⟨acc, cc, r, I⟩ := hI
  refine seg_If ?_
  rw [g.over]
  refine wpAny_mono (hc.run _ s σ H _ I ht) (fun b s' hb' => ?_) fun x s' hx => k.exc n s₀ x s' hx
  obtain ⟨H2, I2, q2⟩ := hb'
  cases b with
  | true =>
    rw [if_pos rfl] at q2 ⊢
    exact hb.run A S ip R n ys s₀ c fs K J gd lv s' σ H2 D g hn k ⟨acc, cc, r, I2⟩ q2
  | false =>
    rw [if_neg Bool.false_ne_true] at q2 ⊢
    exact he.run A S ip R n ys s₀ c fs K J gd lv s' σ H2 D g hn k ⟨acc, cc, r, I2⟩ q2
end
/-! ### for -/
def tGFor (wi : TI) (g : TG) (tb : TGn) : TGn := fun D ys σ H => wi σ H fun J H1 => ∃ W : Nat → Nat → List V → St → Hp → Prop, (∃ m, W 0 m ys σ H1) ∧ ∀ i m ys σ H, W i m ys σ H →
  (J.stop i H ∧ D.nx ys σ H) ∨ (J.go i H ∧ ∃ N : List V → St → Hp → Prop, (∀ ys' σ' H', N ys' σ' H' → ∃ m', m' < m ∧ W (i + 1) m' ys' σ' H') ∧ ∀ x H', J.yld i H x H' → g x σ H' fun σ2 H2 => tb { D with nx := N, ct := N, bk := D.nx } ys σ2 H2)
section
variable {X : Cx} {tg iter : Expr} {body : List Stmt} {pos : Pos} {wi : TI} {g : TG} {tb : TGn}
theorem gs_for (hp : PassesOwn (model X.prog X.w) X.A X.env X.xe) (hc : X.calm = true) (hi : PI X tg iter wi) (hg : PG X tg g) (hb : GSs X body tb)
    (hs : ∀ x, foldedSetIterable iter X.env x = pure x := by intro _; rfl) : GS X (.For tg iter body [] pos) (tGFor wi g tb) := by
  refine ⟨fun A S ip R n ys s₀ c fs K J gd lv s σ H D g' hn k hI ht => ?_⟩
  obtain ⟨acc, cc, r, I⟩ := hI
  refine seg_For hs ?_
  rw [g'.over]
  refine wpAny_mono (hi.run _ s σ H _ I ht) (fun v s1 h1 => wpAny_mono h1 (fun itv s2 h2 => ?_) fun x s' hx => k.exc n s₀ x s' hx) fun x s' hx => k.exc n s₀ x s' hx
  obtain ⟨it, fp, tn, Jt, H2, e, I2, T, st2, f2, W, ⟨m0, w0⟩, turn⟩ := h2
  subst e
  intro p
  have gl := fun (kk : Result → Sem PySem.Fin) => gc_loop (k := kk) (c' := .forLoop tg (.ref it) body [] X.env) (l := lv []) (kp := []) (p := p) g' rfl rfl
  have stat : ∀ {H' : Hp} {o : Obj}, (∀ b ∈ fp, H' b = none) → ∀ b ∈ fp, FpOk X ((S, o) :: ip) H' b := fun {H' o} hn b hb => by
    obtain ⟨_, f1, f3, f4, f5, f6⟩ := f2 b hb
    refine ⟨hn b hb, f1, f3, f4, f5, fun q hq => ?_⟩
    rcases List.mem_append.mp hq with hq | hq
    · exact f6 q (List.mem_append_left _ hq)
    · rcases List.mem_cons.mp hq with rfl | hq
      · exact f6 (S, lstObj acc cc) (List.mem_append_right _ List.mem_cons_self)
      · exact f6 q (List.mem_append_right _ (List.mem_cons_of_mem _ hq))
  have fS : ∀ b ∈ fp, S ≠ b := fun b hb => (f2 b hb).2.2.2.2.2 (S, lstObj acc cc) (List.mem_append_right _ List.mem_cons_self)
  have loop : ∀ (m i n : Nat) (ys : List V) (s₀ s : Shared) (σ : St) (H : Hp), n + ys.length = sizeLine → W i m ys σ H → GI X S ip ys σ H s → tn i s.heap → (∀ b ∈ fp, H b = none) →
      Seg (model X.prog X.w) A R (GY X S) n s₀ (.forLoop tg (.ref it) body [] X.env) ((model X.prog X.w).den (.forLoop tg (.ref it) body [] X.env))
        (.ret (fun r => ((match r with | .ok f => (.pure f : Sem Flow) | .error e => .raise e).onRaise (cameBack X.env)).wrap K J gd lv) none (gd false) (lv []) c p [] :: fs) s := by
    intro m
    induction m using Nat.strongRecOn with
    | ind m ih =>
      intro i n ys s₀ s σ H hn w hI st fr
      have ee : ∀ (n : Nat) (s₀ : Shared) (x : Value) (s' : Shared), X.xe x s' → Seg (model X.prog X.w) A R (GY X S) n s₀ (.forLoop tg (.ref it) body [] X.env)
          ((noteGo X.env x).wrap (fun _ => .raise x) .raise id id)
          (.ret (fun r => ((match r with | .ok f => (.pure f : Sem Flow) | .error e => .raise e).onRaise (cameBack X.env)).wrap K J gd lv) none (gd false) (lv []) c p [] :: fs) s' := fun n s₀ x s' hx => by
        refine seg_wrap ?_
        rw [(gl _).over]
        refine wpAny_bind (wpAny_mono (hp x s' hx) (fun _ s'' hcb => wpAny_theTreesLotGoes ?_) fun y s'' hcb => ?_)
        · exact seg_leaf (.error x) (seg_cameBack g' k hcb)
        · exact seg_leaf (.error y) (seg_cameBack g' k hcb)
      refine seg_forLoop ?_
      rw [(gl _).over]
      obtain ⟨acc, cc, r, I⟩ := hI
      rcases turn i m ys σ H w with ⟨stop, qn⟩ | ⟨go, N, hN, step⟩
      · refine wpAny_mono (T.done X rfl rfl rfl hc i _ s σ H X.xe I (stat fr) st stop) (fun r4 s4 h4 => ?_) fun x s' hx => ee n s₀ x s' hx
        obtain ⟨rfl, I4⟩ := h4
        refine seg_again rfl ?_
        show Seg _ A R _ n s₀ _ (((execs [] X.env).onRaise (noteGo X.env)) >>= fun f => pure (PySem.Fin.done f)) _ s4
        rw [Sem.onRaise_eq_wrap, Sem.bind_eq_wrap', Sem.wrap_wrap]
        refine seg_execs_nil ?_
        exact seg_leaf (.ok .next) (k.ok n ys s₀ s4 .next hn ⟨σ, H, ⟨acc, cc, r, I4⟩, qn⟩)
      · refine wpAny_mono (T.item X rfl rfl rfl hc i _ s σ H X.xe I (stat fr) st go) (fun r4 s4 h4 => ?_) fun x s' hx => ee n s₀ x s' hx
        obtain ⟨u, rfl, h4⟩ := h4
        refine wpAny_mono h4 (fun _ s5 h5 => ?_) fun x s' hx => ee n s₀ x s' hx
        obtain ⟨x, H5, I5, r5, y5, st5, fr5⟩ := h5
        have I5' := I5.pinned (stat fr5) (T.obj _ _ st5)
        refine wpAny_mono (hg.run _ s5 σ H5 x u _ I5' r5 (step x H5 y5)) (fun _ s6 h6 => ?_) fun x s' hx => ee n s₀ x s' hx
        obtain ⟨σ6, H6, I6, q6⟩ := h6
        have pf : ∀ q ∈ ip ++ pinsAt fp s5.heap, q.1 ≠ S := fun q hq => by
          rcases List.mem_append.mp hq with hq | hq
          · exact g'.ip q hq
          · exact fun z => fS q.1 (of_pinsAt hq).1 z.symm
        have gb : GC X S (ip ++ pinsAt fp s5.heap) A (.forLoop tg (.ref it) body [] X.env) (.ret (fun r => ((match r with | .ok f => (.pure f : Sem Flow) | .error e => .raise e).onRaise (cameBack X.env)).wrap K J gd lv) none (gd false) (lv []) c p [] :: fs) id :=
          { gl _ with ip := pf }
        have back : ∀ {ys' : List V} {σ' : St} {H' : Hp} {s3 : Shared}, GI X S (ip ++ pinsAt fp s5.heap) ys' σ' H' s3 → GI X S ip ys' σ' H' s3 ∧ tn (i + 1) s3.heap ∧ ∀ b ∈ fp, H' b = none := fun {ys' σ' H' s3} G => by
          obtain ⟨acc', c', r', I7⟩ := G
          have I7 : Inv X (((S, lstObj acc' c') :: ip) ++ pinsAt fp s5.heap) σ' H' s3 := I7
          refine ⟨⟨acc', c', r', I7.unpinned⟩, T.keep _ _ _ st5 fun b hb o e => (I7.pin (b, o) (List.mem_append_right _ (List.mem_append_right _ (mem_pinsAt hb e)))).1, fun b hb => ?_⟩
          obtain ⟨o, e, d⟩ := T.obj _ _ st5 b hb
          exact (I7.pin (b, o) (List.mem_append_right _ (List.mem_append_right _ (mem_pinsAt hb e)))).2.1
        refine hb.run A S (ip ++ pinsAt fp s5.heap) R n ys s₀ _ _ _ _ id id s6 σ6 H6 { D with nx := N, ct := N, bk := D.nx } gb hn ⟨fun n' ys' s₀' s3 f hn' hs => ?_, fun n' s₀' x s3 hx => ee n' s₀' x s3 hx⟩ ⟨acc, cc, r, I6⟩ q6
        cases f with
        | next =>
          obtain ⟨σ3, H3, I3, n3⟩ := hs
          obtain ⟨m', hm, w3⟩ := hN ys' σ3 H3 n3
          obtain ⟨b1, b2, b3⟩ := back I3
          exact seg_again rfl (ih m' hm (i + 1) n' ys' s₀' s3 σ3 H3 hn' w3 b1 b2 b3)
        | cont =>
          obtain ⟨σ3, H3, I3, n3⟩ := hs
          obtain ⟨m', hm, w3⟩ := hN ys' σ3 H3 n3
          obtain ⟨b1, b2, b3⟩ := back I3
          exact seg_again rfl (ih m' hm (i + 1) n' ys' s₀' s3 σ3 H3 hn' w3 b1 b2 b3)
        | brk =>
          obtain ⟨σ3, H3, I3, n3⟩ := hs
          exact seg_leaf (.ok .next) (k.ok n' ys' s₀' s3 .next hn' ⟨σ3, H3, (back I3).1, n3⟩)
        | ret v =>
          obtain ⟨v3, σ3, H3, I3, r3, n3⟩ := hs
          exact seg_leaf (.ok (.ret v)) (k.ok n' ys' s₀' s3 (.ret v) hn' ⟨v3, σ3, H3, (back I3).1, r3, n3⟩)
  exact loop m0 0 n ys s₀ s2 σ H2 hn w0 ⟨acc, cc, r, I2⟩ st2 fun b hb => (f2 b hb).1
end
end L2

/-! Wg1: an object that keeps a table of what it found: its promises, what it asks. -/
namespace Dw
open PySem PySem.Spec PyProof.Rows L2
/-- the object, its dict, its table; the value of its field -/
structure GrG where
  a : Addr
  dx : Addr
  d : Addr
  pv : V
abbrev keyG (c p n : Nat) : List L2.Key := [.inl (c : Int), .inl (p : Int), .inl (n : Int)]
/-- a table of right entries, each key once -/
def TabG (F : Nat → Nat → Nat → Nat) (kvs : List (List L2.Key × V)) : Prop := (kvs.map (·.1)).Nodup ∧ ∀ kv ∈ kvs, ∃ c p n : Nat, c < 256 ∧ p < 256 ∧ n < 64 ∧ kv = (keyG c p n, .int ((F c p n : Nat) : Int))
theorem keyG_inj {c p n c' p' n' : Nat} (h : keyG c p n = keyG c' p' n') : c = c' ∧ p = p' ∧ n = n' := by
  injection h with h1 h
  injection h with h2 h
  injection h with h3 _
  injection h1 with h1
  injection h2 with h2
  injection h3 with h3
  omega
theorem valV_mem {kvs : List (List L2.Key × V)} {key : List L2.Key} {v : V} (h : valV kvs key = some v) : (key, v) ∈ kvs := by
  unfold valV at h
  obtain ⟨p, hp, rfl⟩ := Option.map_eq_some_iff.mp h
  have h1 := List.mem_of_find?_eq_some hp
  have h2 := List.find?_some hp
  have e : p.1 = key := by simpa using h2
  rw [← e]
  exact h1
theorem valV_none {kvs : List (List L2.Key × V)} {key : List L2.Key} (h : valV kvs key = none) : key ∉ kvs.map (·.1) := fun hm => by
  obtain ⟨p, hp, e⟩ := List.mem_map.mp hm
  unfold valV at h
  have := List.find?_eq_none.mp (Option.map_eq_none_iff.mp h) p hp
  exact this (by simpa using e)
theorem TabG.val {F : Nat → Nat → Nat → Nat} {kvs : List (List L2.Key × V)} {c p n : Nat} {v : V} (h : TabG F kvs) (hv : valV kvs (keyG c p n) = some v) : v = .int ((F c p n : Nat) : Int) := by
  obtain ⟨c', p', n', _, _, _, e⟩ := h.2 _ (valV_mem hv)
  injection e with e1 e2
  obtain ⟨rfl, rfl, rfl⟩ := keyG_inj e1
  exact e2
theorem nodup_in {α : Type} [DecidableEq α] : ∀ {ys B : List α}, ys.Nodup → (∀ y ∈ ys, y ∈ B) → ys.length ≤ B.length
  | [], B, _, _ => Nat.zero_le _
  | y :: ys, B, n, h => by
    have hy := h y List.mem_cons_self
    have n' := List.nodup_cons.mp n
    have := nodup_in (B := B.erase y) n'.2 fun z hz => (List.mem_erase_of_ne (a := z) (b := y) fun e => n'.1 (by rw [← e]; exact hz)).mpr (h z (List.mem_cons_of_mem _ hz))
    rw [List.length_erase_of_mem hy] at this
    have pos := List.length_pos_of_mem hy
    rw [List.length_cons]
    omega
theorem nodup_le {l : List Nat} {b : Nat} (nd : l.Nodup) (h : ∀ x ∈ l, x < b) : l.length ≤ b := by
  have := nodup_in (B := List.range b) nd fun x hx => List.mem_range.mpr (h x hx)
  rwa [List.length_range] at this
theorem TabG.len {F : Nat → Nat → Nat → Nat} {kvs : List (List L2.Key × V)} (h : TabG F kvs) : kvs.length ≤ 4194304 := by
  obtain ⟨nd, hm⟩ := h
  let f : List L2.Key → Nat := fun k => match k with
    | [.inl c, .inl p, .inl n] => c.toNat * 16384 + p.toNat * 64 + n.toNat
    | _ => 0
  have l : (kvs.map fun kv => f kv.1).length ≤ 4194304 := by
    refine nodup_le ?_ fun x hx => ?_
    · have e : (kvs.map fun kv => f kv.1) = (kvs.map (·.1)).map f := by rw [List.map_map]; rfl
      rw [e]
      refine List.pairwise_map.mpr (nd.imp_of_mem fun {a b} ha hb ne q => ne ?_)
      obtain ⟨x, hx, rfl⟩ := List.mem_map.mp ha
      obtain ⟨y, hy, rfl⟩ := List.mem_map.mp hb
      obtain ⟨c, p, n, c1, p1, n1, rfl⟩ := hm x hx
      obtain ⟨c', p', n', c2, p2, n2, rfl⟩ := hm y hy
      have q : ((c : Int)).toNat * 16384 + ((p : Int)).toNat * 64 + ((n : Int)).toNat = ((c' : Int)).toNat * 16384 + ((p' : Int)).toNat * 64 + ((n' : Int)).toNat := q
      simp only [Int.toNat_natCast] at q
      have e1 : c = c' := by omega
      have e2 : p = p' := by omega
      have e3 : n = n' := by omega
      subst e1 e2 e3
      rfl
    · obtain ⟨kv, hk, rfl⟩ := List.mem_map.mp hx
      obtain ⟨c, p, n, c1, p1, n1, rfl⟩ := hm kv hk
      show ((c : Int)).toNat * 16384 + ((p : Int)).toNat * 64 + ((n : Int)).toNat < _
      simp only [Int.toNat_natCast]
      omega
  rwa [List.length_map] at l
theorem TabG.put {F : Nat → Nat → Nat → Nat} {kvs : List (List L2.Key × V)} {c p n : Nat} (h : TabG F kvs) (hv : valV kvs (keyG c p n) = none) (c1 : c < 256) (p1 : p < 256) (n1 : n < 64) : TabG F (putK kvs (keyG c p n) (.int ((F c p n : Nat) : Int))) := by
  rw [putK_new _ hv]
  refine ⟨?_, fun kv hk => ?_⟩
  · rw [List.map_append]
    refine List.nodup_append.mpr ⟨h.1, List.nodup_cons.mpr ⟨List.not_mem_nil, List.nodup_nil⟩, fun a ha b hb e => ?_⟩
    have hb : b = keyG c p n := List.mem_singleton.mp hb
    subst hb
    subst e
    exact valV_none hv ha
  · rcases List.mem_append.mp hk with hk | hk
    · exact h.2 kv hk
    · exact ⟨c, p, n, c1, p1, n1, List.mem_singleton.mp hk⟩
section
variable {P : Program} {w : World} {K : PySem.W.Frag} {mg : Str → Option Value} {base : Heap}
/-- where nothing is asked nothing is to be shown -/
theorem FnOk.never {k : Nat} {f : Addr} {fd : FuncData} {ps : List Str} {sp : Sp} (h : ∀ vs H Q E, sp vs H Q E → False) : FnOk P w K mg base CX0 k f fd ps sp :=
  ⟨fun vs H Q E q => (h vs H Q E q).elim, fun A outer s H args us vs Q E _ _ _ _ q => (h vs H Q E q).elim⟩
end
section
variable {M : Md} {O : List Addr} {r : List Sl} {k : D → Prop} {C : Addr} {gr : D → Nat → Nat → Nat → Nat} {P : D} {g : GrG} {i j : Nat}
end
end Dw

/-! Wg2: such an object made, and asked at once. -/
namespace Dw
open PySem PySem.Spec PyProof.Rows L2
section
variable {P : Program} {w : World} {K : PySem.W.Frag} {mg : Str → Option Value} {base : Heap}
end
section
variable {M : Md} {O : List Addr} {r : List Sl} {k : D → Prop} {C : Addr} {gr : D → Nat → Nat → Nat → Nat}
end
end Dw

/-! Wg3: calls with keywords. -/
namespace Dw
open PySem PySem.Spec PyProof.Rows L2
section
variable {X : Cx} {CX : CXT} {k n : Nat} {f : Addr} {fd : FuncData} {ps ks : List Str} {sp : Sp} {x : Str} {p pos : Pos} {e : Expr} {es : List Expr} {kws : List Keyword} {t tk : TA} {g : List Value → List Value → List Value} {gV : List V → List V → List V}
end
section
variable {M : Md} {O : List Addr} {r : List Sl} {k : D → Prop} {tl tk : TA} {n m : Nat} {Ex : XK} {gV : List V → List V → List V} {gD : List D → List D → List D}
end
/-! ### the keyword-only defaults of a def, for the heads -/
def kwdA (K : PySem.W.Frag) (a : Addr) : Value := match K.lookup a with
  | some ⟨_, _, .func fd, _⟩ => fd.kwdefaults
  | _ => .bool false
def kwD (K : PySem.W.Frag) (a : Addr) : Addr := match kwdA K a with
  | .ref D => D
  | _ => 0
theorem kwd_ok {K : PySem.W.Frag} {f : Addr} {x qual : Str} {ag : Arguments} {bd : List Stmt} {sc : Scope} {oc dV kV doc pm : Value} {od an : Option Addr} {cdv ct : Value} {sl : Array (Option Value)}
    (l : K.lookup f = some ⟨oc, od, .func (PySem.W.fnOf x qual ag bd sc dV kV doc pm an cdv ct), sl⟩) : kV = kwdA K f := by
  unfold kwdA
  rw [l]
end Dw

/-! Wy5: list(range(n)). -/
namespace Dw
open PySem PySem.Spec PyProof.Rows L2
def W.listR (x : D) (k : D → Prop) : Prop := ∃ n : Nat, x = .int n ∧ n ≤ 16777216 ∧ k (.lst ((List.range n).map fun i => .int (i : Nat)))
theorem repL_rg {K : PySem.W.Frag} {N : No} {H : Hp} : ∀ l : List Nat, RepL K N H (l.map fun i => .int (i : Nat)) (l.map fun i => V.int (0 + (i : Nat)))
  | [] => rfl
  | a :: l => ⟨_, _, rfl, by show V.int (0 + (a : Nat)) = V.int a; rw [Int.zero_add], repL_rg l⟩
section
variable {M : Md} {O : List Addr} {r : List Sl} {k : D → Prop} {te : TE}
theorem e_listRg (h : De M te O r fun x => W.listR x k) : De M (tLstRg (tRg1 te)) O r k := fun σ H Q R z => h σ H _ R fun v H1 x R1 e1 p1 ⟨n, ex, hn, q⟩ => by
  subst ex
  obtain rfl := (show v = .int n from p1)
  refine ⟨n, rfl, ⟨by omega, by omega, by omega, by omega, by omega⟩, fun a ha => ?_⟩
  have e : rgV 0 (n : Int) = (List.range n).map fun i => V.int (0 + (i : Nat)) := by
    unfold rgV
    have : ((n : Int) - 0).toNat = n := by omega
    rw [this]
  rw [e]
  exact z _ _ _ (R1.grow (sm_new ha)) (e1.trans (sm_0 (sm_new ha))) (rep_lst R1 ha (repL_rg _)) q
end
end Dw

/-! Wy6: defs of six arguments. -/
namespace Dw
open PySem PySem.Spec PyProof.Rows L2
section
variable {M : Md} {O : List Addr} {r : List Sl} {k : D → Prop} {t1 t2 t3 t4 t5 t6 : TE} {Ex : XK}
end
end Dw

/-! Wy7: sorted of tuples the first of which is empty. -/
namespace Dw
open PySem PySem.Spec PyProof.Rows L2
open PySem.W (EachIs AllAlike alike alikeAll dataLe dataLt SortsAt dataKind)
open PySem.Calls
section
variable {prog : Program} {w : World} {A : Around} {s : Shared}
theorem lt_tupsE {E : Value → Shared → Prop} {Q : Bool → Shared → Prop} {xs ys : List PyData} {a b : Value} {as bs : List Addr} (ra : Reads s.heap a (.tuple xs) as) (rb : Reads s.heap b (.tuple ys) bs) (al : alikeAll xs ys = true)
    (hu : A.units + min (PyData.tuple xs).depth (PyData.tuple ys).depth < cLine) (q : Q (dataLt (.tuple xs) (.tuple ys)) s) : wpAny (model prog w) A (oneLt' true a b) Q E s := by
  cases ra with
  | @tuple l o vs n _ _ h1 h2 h3 h4 =>
    cases rb with
    | @tuple l' o' ws m _ _ k1 k2 k3 k4 =>
      obtain ⟨cls, dd, data, sl⟩ := o
      obtain ⟨cls2, dd2, data2, sl2⟩ := o'
      simp only at h2 h3 k2 k3
      subst h2 h3 k2 k3
      have n1 : vs.size = xs.length := by simpa using SeqAt.ReadsAll.length _ _ _ h4
      have n2 : ws.size = ys.length := by simpa using SeqAt.ReadsAll.length _ _ _ k4
      rw [PySem.W.dataLt_tuple, ← PySem.W.firstLt_toks xs ys al, ← n1, ← n2] at q
      rw [oneLt'_eq, if_pos rfl]
      refine wpAny_bind (wpAny_cRoomFor (SeqAt.room_here hu) ?_)
      have eqs := fun (j : Nat) (j1 : j < vs.size) (j2 : j < ws.size) => PySem.W.eqAt_alikeAll xs ys A.in1 s vs.toList ws.toList _ _ h4 k4 al (SeqAt.room_in hu) j (by simpa using j1) (by simpa using j2)
      have lts := fun (j : Nat) (j1 : j < vs.size) (j2 : j < ws.size) => PySem.W.rcLt_alikeAll xs ys A.in1 s vs.toList ws.toList _ _ h4 k4 al (SeqAt.room_in hu) j (by simpa using j1) (by simpa using j2)
      refine wpAny_bind (wpAny_callSpecialIfBound?_slot (T := "tuple") ⟨_, h1, rfl⟩ PySem.F.slot_tuple_lt ?_)
      refine call_meets PySem.F.slot_tuple_lt ⟨_, h1, rfl⟩ PySem.F.entry_tuple_lt (PySem.F.args_tuple_lt_2 _ _)
        (SeqAt.tuple_ltAt l l' vs ws n m dd dd2 sl sl2 (SeqAt.pairEq xs ys) fun j => dataLt (xs.getD j .none) (ys.getD j .none)) ⟨h1, k1, fun j j1 j2 => ?_, fun j j1 j2 hj => ?_, ?_⟩
      · simpa using eqs j j1 j2
      · simpa using lts j j1 j2 hj
      · exact wpAny_truthy_bool q
theorem firsts_any {M : Model} {E : Value → Shared → Prop} : ∀ (vs : List Value) {ds : List PyData} {Q : List (Option Value) → Shared → Prop}, EachIs (fun v d => ∃ as, Reads s.heap v d as) vs ds → (∀ d, d ∈ ds → ∃ xs, d = .tuple xs) →
    (∀ fs, fs.length = vs.length → (ds.head? = some (.tuple []) → fs.head? = some none) → Q fs s) → wpAny M A (vs.mapM firstOfTuple') Q E s
  | [], ds, Q, e, ht, h => by
    cases e
    rw [List.mapM_nil]
    exact wpAny_pure (h [] rfl fun z => nomatch z)
  | v :: vs, d :: ds, Q, e, ht, h => by
    cases e with
    | cons h1 t =>
      obtain ⟨as, r⟩ := h1
      obtain ⟨xs, rfl⟩ := ht d List.mem_cons_self
      rw [List.mapM_cons]
      refine wpAny_bind ?_
      rw [PySem.W.kas_first_eq]
      refine wpAny_bind (PySem.W.Looks.here (PySem.W.looks_reads r) ?_)
      rw [show PySem.W.dataType (.tuple xs) = .type "tuple" from rfl, if_neg (by first | decide | simp)]
      cases r with
      | @tuple l o us n _ _ k1 k2 k3 k4 =>
        refine wpAny_bind (listItems_at k1 k3 (wpAny_pure ?_))
        refine wpAny_bind (firsts_any vs t (fun d hd => ht d (List.mem_cons_of_mem _ hd)) fun fs fl _ => wpAny_pure (h _ (by rw [List.length_cons, List.length_cons, fl]) fun z => ?_))
        have ez : PyData.tuple xs = .tuple [] := Option.some.inj z
        cases ez
        have n1 : us.size = 0 := by simpa using SeqAt.ReadsAll.length _ _ _ k4
        rw [List.head?_cons, Array.getElem?_eq_none (by omega)]
theorem kind_tupsE {M : Model} {E : Value → Shared → Prop} {vs : List Value} {ds : List PyData} {Q : SortKind → Shared → Prop} (e : EachIs (fun v d => ∃ as, Reads s.heap v d as) vs ds) (ht : ∀ d, d ∈ ds → ∃ xs, d = .tuple xs) (h0 : ds.head? = some (.tuple [])) (h : Q oneType' s) :
    wpAny M A (keyKind' vs.toArray) Q E s := by
  rw [keyKind'_eq, List.mapM_toArray, map_eq_pure_bind]
  refine wpAny_bind (wpAny_bind (firsts_any vs e ht fun fs fl f0 => wpAny_pure ?_))
  have f0 := f0 h0
  obtain ⟨f, rest, rfl⟩ : ∃ f rest, fs = f :: rest := by
    cases fs with
    | nil => cases f0
    | cons f rest => exact ⟨f, rest, rfl⟩
  obtain rfl : f = none := Option.some.inj f0
  obtain ⟨v, vr, rfl⟩ : ∃ v vr, vs = v :: vr := by
    cases vs with
    | nil => cases fl
    | cons v vr => exact ⟨v, vr, rfl⟩
  rw [if_neg (by simp), if_neg (by simp)]
  rw [oneTypeOnly'_eq, List.mapM_toArray, map_eq_pure_bind]
  refine wpAny_bind (wpAny_bind (wpAny_bind (PySem.W.kas_mapM (r := Value.type "tuple") _ (fun u hu Q' hq => ?_) (wpAny_pure ?_))))
  · obtain ⟨d, hd, as, r⟩ := e.left u hu
    obtain ⟨xs, rfl⟩ := ht d hd
    exact (PySem.W.looks_reads r).here hq
  · have all : ((List.map (fun _ => Value.type "tuple") (v :: vr)).toArray.all fun x => x == Value.type "tuple") = true := by
      simp only [List.all_toArray, List.all_map, List.all_eq_true]
      intro _ _
      rfl
    have one : (List.map (fun _ => Value.type "tuple") (v :: vr)).toArray[0]? = some (Value.type "tuple") := by simp
    rw [one]
    simp only [all, if_true]
    exact wpAny_pure (wpAny_pure h)
theorem sorts_tupsE {vs : List Value} {ds : List PyData} (e : EachIs (fun v d => ∃ as, Reads s.heap v d as) vs ds) (hal : AllAlike ds) (ht : ∀ d, d ∈ ds → ∃ xs, d = .tuple xs) (h0 : ds.head? = some (.tuple [])) (hu : ∀ d, d ∈ ds → A.units + d.depth < cLine) :
    SortsAt prog w A s (dataKind s.heap ds) vs := by
  refine ⟨fun v hv => ?_, oneType', ?_, fun _ E Q hq => kind_tupsE e ht h0 hq⟩
  · obtain ⟨d, hd, as, r⟩ := e.left v hv
    exact ⟨_, PySem.W.dataKind_some hal hd r⟩
  · intro E x y a b Q ha hb hq
    obtain ⟨d, as, hd, ra, rfl⟩ := PySem.W.dataKind_inv ha
    obtain ⟨d', as', hd', rb, rfl⟩ := PySem.W.dataKind_inv hb
    have al := hal d hd d' hd'
    have ro : A.units + min d.depth d'.depth < cLine := by
      have := hu d hd
      omega
    obtain ⟨xs, rfl⟩ := ht d hd
    obtain ⟨ys, rfl⟩ := ht d' hd'
    rw [keyLt'_oneType]
    exact lt_tupsE ra rb (by simpa [alike] using al) ro hq
end
section
variable {prog : Program} {w : World} {A : Around} {E : Value → Shared → Prop} {s : Shared} {β : Type} {R : Value → β → Prop} {vs : List Value} {bs : List β} {enc : β → PyData}
theorem sorted_tupsE {l : Addr} {Q : Value → Shared → Prop} (hl : s.heap.IsList l vs.toArray) (e : EachIs R vs bs) (er : EachIs (fun v b => ∃ as, Reads s.heap v (enc b) as) vs bs) (hal : AllAlike (bs.map enc)) (ht : ∀ d, d ∈ bs.map enc → ∃ xs, d = .tuple xs) (h0 : (bs.map enc).head? = some (.tuple [])) (hL : bs.length ≤ sizeLine)
    (hu : ∀ b, b ∈ bs → A.units + 2 + (enc b).depth < cLine) (h : ∀ out, out.length = bs.length → EachIs R out (bs.mergeSort (dataLe false enc)) → Q (.ref (s.heap.objs.size + 1)) { s with heap := sortedAll s.heap vs (List.toArray out) }) :
    wpAny (model prog w) A (call (.builtin "sorted") [.ref l]) Q E s := by
  have er2 : EachIs (fun v b => ∃ as, Reads (PySem.W.sortingHeap (PySem.W.copyHeap s.heap vs) (s.heap.objs.size + 1) vs) v (enc b) as) vs bs :=
    er.mono fun _ _ ⟨as, r⟩ => ⟨as, PyProof.Rows.Reads.keeps (fun _ _ => PySem.W.sorting_copy_old) r⟩
  have so : SortsAt prog w A.in1.in1 { s with heap := PySem.W.sortingHeap (PySem.W.copyHeap s.heap vs) (s.heap.objs.size + 1) vs } (dataKind (PySem.W.sortingHeap (PySem.W.copyHeap s.heap vs) (s.heap.objs.size + 1) vs) (bs.map enc)) vs :=
    sorts_tupsE (s := { s with heap := PySem.W.sortingHeap (PySem.W.copyHeap s.heap vs) (s.heap.objs.size + 1) vs }) (PySem.W.each_map (R := fun v d => ∃ as, Reads (PySem.W.sortingHeap (PySem.W.copyHeap s.heap vs) (s.heap.objs.size + 1) vs) v d as) enc er2) hal ht h0 (PySem.W.bound_map hu)
  refine PySem.W.sorted_vals hl so (by rw [e.length]; exact hL) (h _ ?_ (PySem.W.sortVals_data false e er2 hal))
  rw [PySem.W.sortVals_length false rfl]
  exact e.length
end
/-- sorted(x), x a list of alike tuples, the first one empty -/
def rSortedE (K : PySem.W.Frag) : List V → Hp → VK → Prop := fun vs H Q => ∃ (a : Addr) (us : List V) (ds : List PyData), vs = [V.ref a] ∧ SqL K H a us ∧ DpAll K H us ds ∧ AllAlike ds ∧ (∀ d, d ∈ ds → ∃ xs, d = .tuple xs) ∧ ds.head? = some (.tuple []) ∧ (∀ d ∈ ds, d.depth ≤ 60) ∧
  ∀ p, H p = none → Q (.ref p) (upd H p (.lst (((us.zip ds).mergeSort (dataLe false fun b : V × PyData => b.2)).map (·.1))))
theorem cr_sortedE {X : Cx} (hu : X.A.units + 64 < cLine) : CallR X (.builtin "sorted") (rSortedE X.K) := by
  intro pins s σ H vs us0 Q I r h
  obtain ⟨a, us, ds, rfl, hs, hd, al, ht, h0, dp, q⟩ := h
  obtain ⟨its, rv, hl, hz⟩ := I.list hs
  rw [Vals.ref1 r]
  obtain ⟨e1, e2⟩ := each_zip I hd rv
  have hlen := DpAll.len hd
  have em : (us.zip ds).map (fun b : V × PyData => b.2) = ds := List.map_snd_zip (by omega)
  have zl : (us.zip ds).length = us.length := by rw [List.length_zip, hlen, Nat.min_self]
  refine sorted_tupsE (bs := us.zip ds) (enc := fun b : V × PyData => b.2) hl.isList e1 e2 (by rw [em]; exact al) (by rw [em]; exact ht) (by rw [em]; exact h0) (by rw [zl]; exact hz) (fun b hb => ?_) fun out ol eo => ?_
  · have : b.2 ∈ ds := by
      rw [← em]
      exact List.mem_map.mpr ⟨b, hb, rfl⟩
    have := dp _ this
    omega
  · obtain ⟨ep, he'⟩ := PyProof.Rows.sortedAll_at s.heap its out.toArray
    have hv := each_vals eo
    have hl2 : (((us.zip ds).mergeSort (dataLe false fun b : V × PyData => b.2)).map (·.1)).length ≤ sizeLine := by
      rw [List.length_map, List.length_mergeSort, zl]
      exact hz
    exact ⟨.ref _, upd H (s.heap.objs.size + 1) (.lst _), I.laid (t' := s.toks) (fun _ _ => PyProof.Rows.sortedAll_old) (Nat.le_succ _) ⟨hl2, out, ep, hv, he'⟩, rfl, q _ (I.hok.fresh (Nat.le_succ _))⟩
def W.sortedE (ds : List D) (k : D → Prop) : Prop := ∃ xs, ds = [.lst xs] ∧ (∀ d ∈ xs, d.pl = true) ∧ AllAlike (D.pyL xs) ∧ (∀ d ∈ xs, ∃ ts, d = .tup ts) ∧ xs.head? = some (.tup []) ∧ (∀ d ∈ xs, d.py.depth ≤ 60) ∧ k (.lst (sortD xs))
theorem l_sortedE {K : PySem.W.Frag} : LiftL K (rSortedE K) W.sortedE := fun N H ds vs k Q hN p w z => by
  obtain ⟨xs, rfl, hp, al, ht, h0, dp, q⟩ := w
  obtain ⟨v, rfl, h⟩ := p.one
  obtain ⟨a, us, rfl, h1, h2⟩ := h.lst
  refine ⟨a, us, D.pyL xs, rfl, h1, dpL_of (plL_of hp) h2, al, fun d hd => ?_, ?_, fun d hd => ?_, fun p hpn => z.newL hN hpn ?_ q⟩
  · rw [pyL_map] at hd
    obtain ⟨x, hx, rfl⟩ := List.mem_map.mp hd
    obtain ⟨ts, rfl⟩ := ht x hx
    exact ⟨_, rfl⟩
  · rw [pyL_map, List.head?_map, h0]
    rfl
  · rw [pyL_map] at hd
    obtain ⟨x, hx, rfl⟩ := List.mem_map.mp hd
    exact dp x hx
  · refine each_repL (PySem.W.sort_each (repL_each h2) fun p hp q hq => ?_)
    have e1 := PySem.W.EachIs.zip (repL_each h2) p hp
    have e2 := PySem.W.EachIs.zip (repL_each h2) q hq
    show dataLe false (fun d : PyData => d) p.1.2 q.1.2 = dataLe false (fun d : PyData => d) p.2.py q.2.py
    rw [e1.2, e2.2]
end Dw

/-! Wy8: zip over lists and tuples, mixed. -/
namespace Dw
open PySem PySem.Spec PyProof.Rows L2
/-- a tuple or a list in the picture -/
def SqX (K : PySem.W.Frag) (H : Hp) : Bool → Addr → List V → Prop
  | true, a, xs => SqT K H a xs
  | false, a, xs => SqL K H a xs
def IterX (h : Heap) : Bool → Addr → Addr → Nat → Prop
  | true, it, a, i => h.IsTupleIter it a i
  | false, it, a, i => h.IsListIter it a i
theorem IterX.at {h h' : Heap} {t : Bool} {it a : Addr} {i : Nat} (x : IterX h t it a i) (k : ∀ o, h.get? it = some o → h'.get? it = some o) : IterX h' t it a i := by
  cases t with
  | true => exact Heap.IsTupleIter.at x k
  | false => exact Heap.IsListIter.at x k
theorem IterX.obj {h : Heap} {t : Bool} {it a : Addr} {i : Nat} (x : IterX h t it a i) : ∃ o, h.get? it = some o ∧ ∀ v, o.data ≠ .cell v := by
  cases t with
  | true =>
    obtain ⟨o, e, _, d⟩ := x
    exact ⟨o, e, fun v q => by rw [d] at q; cases q⟩
  | false =>
    obtain ⟨o, e, _, d⟩ := x
    exact ⟨o, e, fun v q => by rw [d] at q; cases q⟩
section
variable {prog : Program} {w : World} {A : Around}
end
def SAt (K : PySem.W.Frag) (N : No) (H : Hp) (t : Bool) (a : Addr) (vs : List V) : Prop := match t with
  | true => TAt K N H a vs
  | false => LAt K N H a vs
theorem SAt.mono {K : PySem.W.Frag} {N : No} {H H' : Hp} {t : Bool} {a : Addr} {vs : List V} (h : SAt K N H t a vs) (e : Sm N H H') : SAt K N H' t a vs := by
  cases t with
  | true => exact (show TAt K N H a vs from h).mono e
  | false => exact (show LAt K N H a vs from h).mono e
theorem SAt.sq {K : PySem.W.Frag} {N : No} {H : Hp} {t : Bool} {a : Addr} {vs : List V} (h : SAt K N H t a vs) : SqX K H t a vs := by
  cases t with
  | true => exact (show TAt K N H a vs from h).sq
  | false => exact (show LAt K N H a vs from h).sq
section
variable {M : Md} {O : List Addr} {r : List Sl} {te tb : TE} {kl : List D → Prop}
end
end Dw

/-! Wy9: a list of anything == []. -/
namespace Dw
open PySem PySem.Spec PyProof.Rows L2
end Dw

/-! Wy10: an own list that begins as a comprehension. -/
namespace Dw
open PySem PySem.Spec PyProof.Rows L2
section
variable {M : Md} {O : List Addr} {r : List Sl} {wi : TI} {g : TG} {tt : TT} {te : TE} {vs js : List Nat} {E : Kn}
end
end Dw

/-! Wy11: is and is not of truths. -/
namespace Dw
open PySem PySem.Spec PyProof.Rows L2
section
variable {K : PySem.W.Frag} {N : No} {H : Hp}
end
end Dw

/-! Wy12: t[::-1] of a tuple. -/
namespace HT
open PySem PySem.Spec PyProof.Rows
section
variable {prog : Program} {w : World} {A : Around} {E : Value → Shared → Prop} {s : Shared}
end
end HT
namespace Dw
open PySem PySem.Spec PyProof.Rows L2
section
variable {X : Cx} {te : TE}
end
section
variable {M : Md} {O : List Addr} {r : List Sl} {k : D → Prop} {te : TE}
end
end Dw

/-! Wy13: exceptions with two fields, raised; a op b op c. -/
namespace Dw
open PySem PySem.Spec PyProof.Rows L2
/-- what a row must know of an exception class with two fields -/
structure RaiseF2 (P : Program) (w : World) (K : PySem.W.Frag) (mg : Str → Option Value) (base : Heap) (x : Str) (C : Addr) (f g : Str) : Prop where
  ex : ∃ (B newId initId : String) (bmB : List Value) (fI : Addr) (fd : FuncData) (ps : List Str), EcC K C B newId ∧ ExcBaseFacts B newId initId bmB ∧ FnOk P w K mg base CX0 1 fI fd ps (spI2 C f g) ∧ PySem.W.findIn K (.ref C) "__init__" = some (some (.ref fI)) ∧
    PySem.W.typeIn K (.ref fI) = some (.type "function") ∧ PySem.W.typeIn K (.ref C) = some (.type "type") ∧ Binds K fd ps [] ∧ mg x = some (.ref C)
section
variable {M : Md} {O : List Addr} {r : List Sl} {k : D → Prop} {te ta' tb tc : TE} {ta tl : TA} {C : Addr} {f g : Str} {E : Kn} {W : WX} {ke : D → Prop}
end
section
variable {M : Md} {O : List Addr} {r : List Sl} {k : D → Prop} {ta' tb tc : TE}
end
end Dw

/-! Wy14: an own list handed to a def that answers a plain value. -/
namespace Dw
open PySem PySem.Spec PyProof.Rows L2
section
variable {M : Md} {O : List Addr} {r : List Sl} {k : D → Prop} {tl : TA} {Ex : XK}
end
end Dw
namespace Dw
open PySem PySem.Spec PyProof.Rows L2
section
variable {M : Md} {O : List Addr} {r : List Sl} {k : List Sl → Prop}
end
end Dw
namespace Dw
open PySem PySem.Spec PyProof.Rows L2
section
variable {K : PySem.W.Frag} {C : Addr} {ns : List Str} {ds : List D} {r : List Sl} {E : List Str → List D → List Sl → Prop}
end
end Dw

/-! Wg4: generator defs whose body is `for x in e: if c: yield v`, over trees; list(g(..)). -/
namespace Dw
open PySem PySem.Spec PyProof.Rows L2
section
variable {M : Md} {O : List Addr} {r : List Sl} {σ : L2.St} {H : Hp}
/-- no word of slot i any more -/
theorem Rp.forget {i : Nat} (R : Rp M O r σ H) : Rp M O (r.set i .un) σ H := by
  refine ⟨R.sm, R.inv, R.own, R.nod, by rw [List.length_set]; exact R.len, fun j t ht => ?_, fun j l p xs ys h1 h2 => ?_⟩
  · by_cases e : i = j
    · subst e
      by_cases hi : i < r.length
      · rw [List.getElem?_set_self hi] at ht
        cases ht
        trivial
      · rw [List.getElem?_eq_none (by rw [List.length_set]; omega)] at ht
        cases ht
    · rw [List.getElem?_set_ne e] at ht
      exact R.slot j t ht
  · have a : ∀ {m : Nat} {zs : List D}, (r.set i .un)[m]? = some (.mu p zs) → r[m]? = some (.mu p zs) := fun {m zs} h => by
      by_cases e : i = m
      · subst e
        by_cases hi : i < r.length
        · rw [List.getElem?_set_self hi] at h
          cases h
        · rw [List.getElem?_eq_none (by rw [List.length_set]; omega)] at h
          cases h
      · rw [List.getElem?_set_ne e] at h
        exact h
    exact R.one j l p xs ys (a h1) (a h2)
end
section
variable {M : Md} {r : List Sl} {j : Nat} {wi : TI} {tt : TT} {te : TE} {kl : List D → Prop}
/-- the text of `for x in e: if c: yield v` -/
abbrev tForIf (wi : TI) (j : Nat) (tt : TT) (te : TE) : TGn := tGThen (tGFor wi (gName j) (tGThen (tGIf tt (tGThen (tGYield te) tG0) tG0) tG0)) tG0
theorem gen_for (h : DI M wi [] r fun xs => xs.length < sizeLine ∧ ∃ R : Nat → List D → Prop, R 0 [] ∧
    (∀ (i : Nat) (x : D) (ys : List D), xs[i]? = some x → R i ys → DT M tt [] (r.set j (.d x)) fun b => if b = true then De M te [] (r.set j (.d x)) fun y => R (i + 1) (ys ++ [y]) else R (i + 1) ys) ∧ ∀ ys, R xs.length ys → kl ys)
    {σ : L2.St} {H : Hp} {Z : GEnds} (R0 : Rp M [] r σ H) (z : ∀ σ' H' ys vs, Sm M.F0 H H' → RepL M.K (nf M []) H' ys vs → kl ys → Z.nx vs σ' H') : tForIf wi j tt te Z [] σ H := by
  refine h σ H _ R0 fun J H1 xs W R1 e1 g1 q => ?_
  obtain ⟨hz, R, r0, turn, fin⟩ := q
  refine ⟨fun i m vs σ2 H2 => m = xs.length - i ∧ i ≤ xs.length ∧ ∃ ys, R i ys ∧ ys.length ≤ i ∧ RepL M.K (nf M []) H2 ys vs ∧ Rp M [] (r.set j .un) σ2 H2 ∧ Sm M.F0 H H2 ∧ W.G (nf M []) H2,
    ⟨xs.length, by simp, Nat.zero_le _, [], r0, Nat.le_refl _, .nil, R1.forget, e1, g1⟩, ?_⟩
  rintro i m vs σ2 H2 ⟨rfl, hi, ys, hR, hy, pa, R2, e2, g2⟩
  by_cases hlt : i < xs.length
  · refine .inr ⟨W.go _ _ i g2 hlt, fun vs' σ' H' => ∃ ys', R (i + 1) ys' ∧ ys'.length ≤ i + 1 ∧ RepL M.K (nf M []) H' ys' vs' ∧ Rp M [] (r.set j .un) σ' H' ∧ Sm M.F0 H H' ∧ W.G (nf M []) H', fun vs' σ' H' p => ⟨xs.length - (i + 1), by omega, rfl, hlt, p⟩, fun x H3 y => ?_⟩
    obtain ⟨s3, p3⟩ := W.yld _ _ i x H3 _ (nf_tr R2) g2 y (List.getElem?_eq_getElem hlt)
    have R3 := R2.grow s3
    have tn := turn i _ ys (List.getElem?_eq_getElem hlt) hR
    refine dg_name (k := fun r2 => r2 = r.set j (.d _)) (by rw [List.set_set]) x σ2 H3 _ R3 p3 fun σ4 r4 R4 w4 q4 => ?_
    subst q4
    have back : ∀ {H' : Hp}, Rp M [] (r.set j (.d xs[i])) σ4 H' → Rp M [] (r.set j .un) σ4 H' := fun R => by
      have := R.forget (i := j)
      rwa [List.set_set] at this
    refine tn σ4 H3 _ R4 fun b H5 R5 e5 q5 => ?_
    have e35 : Sm M.F0 H2 H5 := (sm_0 s3).trans e5
    cases b with
    | false =>
      rw [if_neg Bool.false_ne_true] at q5 ⊢
      exact ⟨ys, q5, by omega, pa.step e35, back R5, e2.trans e35, W.mono _ _ _ (e35.wide nf0) g2⟩
    | true =>
      rw [if_pos rfl] at q5 ⊢
      refine (show vs.length < sizeLine ∧ te σ4 H5 _ from ⟨by rw [← pa.length]; omega, q5 σ4 H5 _ R5 fun v H6 d R6 e6 p6 q6 => ?_⟩)
      have e26 : Sm M.F0 H2 H6 := e35.trans e6
      exact ⟨ys ++ [d], q6, by rw [List.length_append, List.length_singleton]; omega, (pa.step e26).append (.one p6), back R6, e2.trans e26, W.mono _ _ _ (e26.wide nf0) g2⟩
  · have e : i = xs.length := by omega
    subst e
    exact .inl ⟨W.stop _ _ _ g2 (Nat.le_refl _), z σ2 H2 ys vs e2 pa (fin ys hR)⟩
/-- the same, by the words of a comprehension -/
theorem gen_comp {k : D → Prop} (body : D → (Option D → Prop) → Prop) (h : DI M wi [] r fun xs => xs.length < sizeLine ∧ W.comp body xs [] k)
    (step : ∀ (x : D) (q : Option D → Prop), body x q → DT M tt [] (r.set j (.d x)) fun b => if b = true then De M te [] (r.set j (.d x)) fun y => q (some y) else q none)
    {σ : L2.St} {H : Hp} {Z : GEnds} (R0 : Rp M [] r σ H) (z : ∀ σ' H' ys vs, Sm M.F0 H H' → RepL M.K (nf M []) H' ys vs → k (.lst ys) → Z.nx vs σ' H') : tForIf wi j tt te Z [] σ H :=
  gen_for (kl := fun ys => k (.lst ys)) (fun σ H Q R z => h σ H Q R fun J H1 xs Wq R1 e1 g1 q => z J H1 xs Wq R1 e1 g1 ⟨q.1, fun i ys => W.comp body (xs.drop i) ys k, q.2, fun i x ys hx hc => by
    have il := List.getElem?_eq_some_iff.mp hx
    have hc : W.comp body (xs.drop i) ys k := hc
    rw [List.drop_eq_getElem_cons il.1, il.2] at hc
    have hc : body x fun o => W.comp body (xs.drop (i + 1)) (ys ++ o.toList) k := hc
    refine (step x _ hc).imp fun b hb => ?_
    cases b with
    | true =>
      rw [if_pos rfl] at hb ⊢
      exact hb
    | false =>
      rw [if_neg Bool.false_ne_true] at hb ⊢
      have hb : W.comp body (xs.drop (i + 1)) (ys ++ []) k := hb
      rw [List.append_nil] at hb
      exact hb, fun ys hc => by
    have hc : W.comp body (xs.drop xs.length) ys k := hc
    rw [List.drop_length] at hc
    exact hc⟩) R0 z
end
/-! ### the promise -/
/-- a generator def over trees: what it asks of its arguments and of all that is handed out -/
def SpGn (K : PySem.W.Frag) (w : List D → (D → Prop) → Prop) : SpG := fun vs H Q _ => ∃ (ds : List D) (F1 : No) (k : D → Prop), RepL K F1 H ds vs ∧ (∀ a, F1 a → H a ≠ none) ∧ w ds k ∧ ∀ out H' os, Sm (fun _ => False) H H' → RepL K F1 H' os out → k (.lst os) → Q out H'
section
variable {P : Program} {w : World} {K : PySem.W.Frag} {mg : Str → Option Value} {base : Heap}
theorem fn_gn {x qual : Str} {st : Stmt} {f : Addr} {fd : FuncData} {N ps : List Str} {k : Nat} {φ : List D → (D → Prop) → Prop} (F : FunV K x qual st f fd) (T : GScope N ps (defScope st)) (len : ∀ ds k, φ ds k → ds.length = ps.length)
    (body : ∀ (cdv : Value) (A : Around) (outer : List Env) (s : Shared) (H : Hp) (E : XK) (pn : List (Addr × Obj)) (ds : List D) (kr : D → Prop) (F1 : No) (f0 : ∀ a, pure0.F0 () a → F1 a) (tr : ∀ a, F1 a → H a ≠ none), Room k (A.deeper (envOfC qual (defScope st) s.heap.objs.size f cdv)) → φ ds kr →
      ∃ t, GSs (gcxOf P w K mg base N qual (defScope st) f cdv A outer s H E pn) (defBody st) t ∧ ∀ (σ : L2.St) (Z : GEnds), Rp (mdOf K pure0 () H F1 f0 tr) [] (startR N.length ds) σ H → (∀ σ' H' os out, Sm (fun _ => False) H H' → RepL K F1 H' os out → kr (.lst os) → Z.nx out σ' H') → t Z [] σ H) : GFn P w K mg base (k + 1) f fd ps (SpGn K φ) := by
  obtain ⟨oc, od, dV, kV, doc, pm, an, cdv, ct, osl, rfl, lk, hcd⟩ := F.ex
  refine gfn_of lk hcd T (fun vs H Q E h => ?_) fun A outer s H vs Q E pn hr h => ?_
  · obtain ⟨ds, F1, kr, p, _, q, _⟩ := h
    rw [← p.length, len ds kr q]
  · obtain ⟨ds, F1, kr, p, tr, q, z⟩ := h
    obtain ⟨t, ht, hd⟩ := body cdv A outer s H E pn ds kr F1 (fun _ z => z.elim) tr hr q
    exact ⟨t, ht, hd _ _ (start_rp (M := mdOf K pure0 () H F1 (fun _ z => z.elim) tr) p trivial) fun σ' H' os out s1 p1 q1 => z out H' os s1 p1 q1⟩
end
/-! ### list(g(.., k = v)) -/
section
variable {X : Cx} {k n : Nat} {f : Addr} {fd : FuncData} {ps ks : List Str} {sp : SpG} {x : Str} {p pos : Pos} {e : Expr} {es : List Expr} {kws : List Keyword} {t tk : TA} {g : List Value → List Value → List Value} {gV : List V → List V → List V} {E : XK}
def tCallGK (n m : Nat) (sp : SpG) (gV : List V → List V → List V) (E : XK) (t tk : TA) : TGen := fun σ H cont => t σ H fun vs H1 => tk σ H1 fun zs H2 => vs.length = n ∧ zs.length = m ∧ sp (gV vs zs) H2 cont E
theorem run_gkw {pins : List (Addr × Obj)} {σ : L2.St} {H : Hp} {s : Shared} {us ws : List Value} {vs zs : List V} {cont : List V → Hp → Prop} {E1 : Value → Shared → Prop} (F : GFn X.prog X.w X.K X.mg X.base k f fd ps sp) (hr : Room k X.A) (hb : KBn X.K fd ps n ks g gV)
    (I : Inv X pins σ H s) (r : Vals vs us) (rz : Vals zs ws) (l1 : vs.length = n) (l2 : zs.length = ks.length) (h : sp (gV vs zs) H cont E) :
    wpAny (model X.prog X.w) X.A (call (.ref f) us (ks.zip ws)) (fun u s' => ∃ H1 sc ex, Inv X pins σ H1 sc ∧ ExOk X pins ex ∧ GMade X.prog X.w k X.stack H1 sc ex cont E u s') E1 s := by
  refine wpAny_call (codeAny_mono (F.run X.A X.stack s H ⟨us, ks.zip ws⟩ (g us ws) (gV vs zs) cont E hr I.env0 (hb.to s us ws I.kIn (r.length.symm.trans l1) (rz.length.symm.trans l2)) (hb.rel r rz) h) fun r s' hq => ?_)
  cases r with
  | error e => exact False.elim hq
  | ok fl =>
    cases fl with
    | ret u => exact ⟨H, s, [], I, .nil, hq⟩
    | next => exact False.elim hq
    | brk => exact False.elim hq
    | cont => exact False.elim hq
theorem pgen_callK (F : GFn X.prog X.w X.K X.mg X.base k f fd ps sp) (hr : Room k X.A) (hg : Gl X x) (hm : X.mg x = some (.ref f)) (hk : PySem.W.keepIn X.K (.ref f) = true) (hb : KBn X.K fd ps n ks g gV) (ha : PA X (e :: es) t) (hkw : PK X kws tk)
    (hall : (backToKw pos (keywordEach kws X.env)).all (·.1.isSome) = true := by rfl) (hks : (backToKw pos (keywordEach kws X.env)).filterMap (·.1) = ks := by rfl) (hdb : (x == ("__debug__" : Str)) = false := by decide)
    (he : starEach (e :: es) X.env = (false, eval e X.env) :: starEach es X.env := by rfl) (hpl : ((backTo pos (starEach (e :: es) X.env)).any (·.1) || (backToKw pos (keywordEach kws X.env)).any (·.1.isNone)) = false := by rfl) :
    PGen X k (.Call (.Name x p) (e :: es) kws pos) (tCallGK n ks.length sp gV E t tk) E :=
  ⟨fun pins s σ H cont I h => wpAny_Call_Name_kw (ld_glob I hg hm (PySem.W.callWith_KW (h₀ := X.base) I.ok.mod.kin hk hall (thn (ha.run pos pins s σ H _ I h) fun us s1 ⟨vs, H1, I1, r, q⟩ => thn (hkw.run pos pins s1 σ H1 _ I1 q) fun ws s2 ⟨zs, H2, I2, rz, l1, l2, q2⟩ => ⟨I2.kIn, by
    rw [hks]
    exact run_gkw F hr hb I2 r rz l1 l2 q2⟩) hpl he) hdb)⟩
theorem passGn : Passes (L2.CX X.prog X.w) X (fun _ _ _ => False) := fun pins σ H s e s' I h => by
  obtain ⟨_, _, _, _, _, _, _, _, _, _, _, _, z⟩ := h
  exact z.elim
theorem noStopGn {K : PySem.W.Frag} : NoStop K (fun _ _ _ => False) := fun _ _ _ h => h.elim
end
section
variable {M : Md} {O : List Addr} {r : List Sl} {k : D → Prop} {tl tk : TA} {n m : Nat} {Ex : XK} {gV : List V → List V → List V} {gD : List D → List D → List D}
theorem e_listGK {φ : List D → (D → Prop) → Prop} (hg : ∀ N H ds zs vs us, RepL M.K N H ds vs → RepL M.K N H zs us → RepL M.K N H (gD ds zs) (gV vs us)) (h : DA M tl O r fun ds => DA M tk O r fun zs => ds.length = n ∧ zs.length = m ∧ φ (gD ds zs) k) :
    De M (tListG (tCallGK n m (SpGn M.K φ) gV Ex tl tk)) O r k := fun σ H Q R z =>
  h σ H _ R fun vs H1 ds R1 e1 p1 h1 => h1 σ H1 _ R1 fun us H2 zs R2 e2 p2 ⟨l1, l2, q⟩ => ⟨p1.length.symm.trans l1, p2.length.symm.trans l2, gD ds zs, nf M O, k, hg _ _ _ _ _ _ (p1.step e2) p2, nf_tr R2, q, fun out H3 os s3 po ko p hp =>
    (post_of (R2.grow s3) ((e1.trans e2).trans (sm_0 s3)) z).newL (nf_tr (R2.grow s3)) hp po ko⟩
end
end Dw
namespace Dw
open PySem PySem.Spec PyProof.Rows L2
/-! a keyword-only default that is a truth, for the heads -/
def kwB (K : PySem.W.Frag) (D : Addr) (x : Str) (b : Bool) : Bool := match PySem.W.nsIn K D x with
  | some (some (.bool c)) => decide (c = b)
  | _ => false
theorem kwB_ok {K : PySem.W.Frag} {D : Addr} {x : Str} {b : Bool} (h : kwB K D x b = true) : PySem.W.nsIn K D x = some (some (.bool b)) := by
  unfold kwB at h
  split at h
  · next e =>
    rw [of_decide_eq_true h] at e
    exact e
  · cases h
end Dw

namespace Dw
open PySem PySem.Spec PyProof.Rows L2
/-- the classes of the program, what isinstance says -/
structure Cn where
  Yard : Addr
  Rule : Addr
  Plan : Addr
  kit : Value → Value → Option Bool
def p_in_order (x0 x1 : D) (kr : D → Prop) : Prop := W.seq x0 fun xs6 => xs6.length < sizeLine ∧ W.comp (fun v1 q2 => p_names_of v1 x1 fun v3 => q2 (some v3)) xs6 [] fun v5 => W.sortedA [v5] fun v4 => W.sortedLen v4 fun v8 => W.tupleOf [v8] fun v7 => kr v7
def p_least_sets (x0 : D) (kr : D → Prop) : Prop := p_names_in x0 fun v1 => W.seq x0 fun xs8 => xs8.length < sizeLine ∧ W.comp (fun v2 q3 => p_mask_of v2 v1 fun v4 => q3 (some v4)) xs8 [] fun v7 => p_least_masks v7 fun v6 => p_in_order v6 v1 fun v5 => kr v5
def p_Rule___init__ (c : Cn) (x1 : D) (kr : D → Prop) : Prop := p_names_in x1 fun v2 => W.tupleOf [v2] fun v1 => kr (.ins c.Rule ["least", "names"] [x1, v1])
def p_Rule_of_sets (c : Cn) (x0 x1 : D) (kr : D → Prop) : Prop := p_least_sets x1 fun v2 => (p_Rule___init__ c) v2 fun v1 => kr v1
def p_Rule___eq__ (c : Cn) (x0 x1 : D) (kr : D → Prop) : Prop := W.join (fun k1 : D → Prop => W.isi c.kit (Value.ref c.Rule) x1 fun v7 => W.truth v7 fun b3 => W.ite b3 (W.fld [c.Rule] "least" x0 fun v5 => W.fld [c.Rule] "least" x1 fun v6 => W.eq v5 v6 fun v4 => k1 v4) (k1 (D.bl false))) fun v2 => kr v2
def p_is_name (x0 : D) (kr : D → Prop) : Prop := W.join (fun k7 : Bool → Prop => (W.isIn false) x0 (D.tup [(D.str "all"), (D.str "any"), (D.str "of"), (D.str "always"), (D.str "never"), (D.str "none")]) fun v10 => W.truth v10 fun b9 => W.ite b9 (k7 true) (W.len [x0] fun v13 => W.lt v13 (D.int 1) fun v12 => W.truth v12 fun b11 => W.ite b11 (k7 true) (W.len [x0] fun v16 => W.gt v16 (D.int 6) fun v15 => W.truth v15 fun b14 => k7 b14))) fun b8 => W.ite b8 (kr (D.bl false)) (W.signs x0 fun xs6 => xs6.length < sizeLine ∧ W.comp (fun v1 q2 => (W.isIn false) v1 (D.str "abcdefghijklmnopqrstuvwxyz") fun v3 => q2 (some v3)) xs6 [] fun v5 => W.all [v5] fun v4 => kr v4)
def p_support_table (c : Cn) (x0 x1 : D) (kr : D → Prop) : Prop := W.len [x0] fun v5 => W.shl (D.int 1) v5 fun v4 => W.times [(D.int 0)] v4 fun l2 => W.enumA x1 fun xs52 => W.forL (S := (List D)) (fun y10 s11 n12 b13 => W.un2 y10 fun v14 v15 => W.fld [c.Rule] "least" v15 fun v30 => W.seq v30 fun xs29 => W.forL (S := (List D)) (fun y18 s19 n20 b21 => p_mask_of y18 x0 fun v22 => W.ix (D.lst s19) v22 fun v26 => W.shl (D.int 1) v14 fun v27 => W.bor v26 v27 fun v25 => W.put s19 v22 v25 fun l23 => n20 l23) xs29 s11 fun s28 => n12 s28) xs52 l2 fun s31 => W.len [x0] fun v51 => W.range1 v51 fun xs50 => W.forL (S := (D)) (fun y33 s34 n35 b36 => W.enumA s34 fun xs47 => xs47.length < sizeLine ∧ W.comp (fun x40 q39 => W.un2 x40 fun v37 v38 => W.shl (D.int 1) y33 fun v45 => W.inv v45 fun v44 => W.band v37 v44 fun v43 => W.ix s34 v43 fun v42 => W.bor v38 v42 fun v41 => q39 (some v41)) xs47 [] fun v46 => n35 v46) xs50 (D.lst s31) fun s48 => W.tupleOf [s48] fun v49 => kr v49
def p_supported_in (c : Cn) (x0 x1 x2 : D) (kr : D → Prop) : Prop := W.fld [c.Plan] "support" x0 fun v3 => W.ix v3 x1 fun v2 => W.bor v2 x2 fun v1 => kr v1
def p_falling_in (c : Cn) (x0 x1 x2 : D) (kr : D → Prop) : Prop := (p_supported_in c) x0 x1 x2 fun v3 => W.inv v3 fun v2 => W.band x1 v2 fun v1 => kr v1
def p_stands_in (c : Cn) (x0 x1 x2 : D) (kr : D → Prop) : Prop := (p_falling_in c) x0 x1 x2 fun v2 => W.eq v2 (D.int 0) fun v1 => kr v1
def p_rest_in (c : Cn) (x0 x1 x2 : D) (kr : D → Prop) : Prop := (p_falling_in c) x0 x1 x2 fun v1 => ∃ m11, W.whileN (S := (D × D)) (fun s2 q5 => W.ne s2.2 (D.int 0) fun v7 => W.truth v7 fun b6 => q5 b6) (fun s2 n3 b4 => W.bxor s2.1 s2.2 fun v8 => (p_falling_in c) x0 v8 x2 fun v9 => n3 (v8, v9)) (fun s10 => kr s10.1) m11 (x1, v1)
def p_mask_of_g (x0 x1 : D) (kr : D → Prop) : Prop := W.enumA x1 fun xs10 => xs10.length < sizeLine ∧ W.comp (fun x4 q3 => W.un2 x4 fun v1 v2 => (W.isIn false) v2 x0 fun v7 => W.truth v7 fun b6 => W.ite b6 (W.shl (D.int 1) v1 fun v5 => q3 (some v5)) (q3 none)) xs10 [] fun v9 => W.sumA [v9] fun v8 => kr v8
def p_names_of_g (x0 x1 : D) (kr : D → Prop) : Prop := W.enumA x1 fun xs11 => xs11.length < sizeLine ∧ W.comp (fun x4 q3 => W.un2 x4 fun v1 v2 => W.shr x0 v1 fun v8 => W.band v8 (D.int 1) fun v7 => W.eq v7 (D.int 1) fun v6 => W.truth v6 fun b5 => W.ite b5 (q3 (some v2)) (q3 none)) xs11 [] fun v10 => W.tupleOf [v10] fun v9 => kr v9
def p_in_order_g (x0 x1 : D) (kr : D → Prop) : Prop := W.seq x0 fun xs6 => xs6.length < sizeLine ∧ W.comp (fun v1 q2 => p_names_of_g v1 x1 fun v3 => q2 (some v3)) xs6 [] fun v5 => W.sortedE [v5] fun v4 => W.sortedLen v4 fun v8 => W.tupleOf [v8] fun v7 => kr v7
def p_masks_in_order (x0 : D) (kr : D → Prop) : Prop := W.listR x0 fun v1 => W.shl (D.int 1) x0 fun v9 => W.listR v9 fun v8 => p_in_order_g v8 v1 fun v7 => W.seq v7 fun xs6 => xs6.length < sizeLine ∧ W.comp (fun v2 q3 => p_mask_of_g v2 v1 fun v4 => q3 (some v4)) xs6 [] fun v5 => kr v5
def p_check_count (x0 : D) (kr : D → Prop) : Prop := W.join (fun k1 : Bool → Prop => W.len [x0] fun v5 => W.lt v5 (D.int 1) fun v4 => W.truth v4 fun b3 => W.ite b3 (k1 true) (W.len [x0] fun v8 => W.gt v8 (D.int 8) fun v7 => W.truth v7 fun b6 => k1 b6)) fun b2 => W.ite b2 (False) (kr .non)
def p_check_names (x0 : D) (kr : D → Prop) : Prop := W.enumA x0 fun xs22 => W.forL (S := (List D)) (fun y5 s6 n7 b8 => W.un2 y5 fun v9 v10 => W.join (fun k12 : Bool → Prop => W.ix v10 (D.int 0) fun v17 => p_is_name v17 fun v16 => W.truth v16 fun b15 => W.nt b15 fun b14 => W.ite b14 (k12 true) (W.ix v10 (D.int 0) fun v20 => (W.isIn false) v20 (D.lst s6) fun v19 => W.truth v19 fun b18 => k12 b18)) fun b13 => W.ite b13 (False) (W.ix v10 (D.int 0) fun v11 => s6.length < sizeLine ∧ n7 (s6 ++ [v11]))) xs22 [] fun s21 => kr .non
def p_check_rules (c : Cn) (x0 : D) (kr : D → Prop) : Prop := W.seq x0 fun xs5 => xs5.length < sizeLine ∧ W.comp (fun v1 q2 => W.ix v1 (D.int 0) fun v3 => q2 (some v3)) xs5 [] fun v4 => W.enumA x0 fun xs30 => W.forL (S := (Unit)) (fun y8 s9 n10 b11 => W.un2 y8 fun v12 v13 => W.ix v13 (D.int 1) fun v28 => W.fld [c.Rule] "names" v28 fun v27 => W.seq v27 fun xs26 => xs26.length < sizeLine ∧ W.comp (fun v14 q15 => W.join (fun k16 : D → Prop => (W.isIn false) v14 v4 fun v21 => W.truth v21 fun b18 => W.ite b18 (W.ix v13 (D.int 0) fun v20 => W.ne v14 v20 fun v19 => k16 v19) (k16 (D.bl false))) fun v17 => q15 (some v17)) xs26 [] fun v25 => W.all [v25] fun v24 => W.truth v24 fun b23 => W.nt b23 fun b22 => W.ite b22 (False) (n10 ())) xs30 () fun s29 => kr .non
def p_Plan___init__ (c : Cn) (x1 : D) (kr : D → Prop) : Prop := p_check_count x1 fun v7 => p_check_names x1 fun v8 => (p_check_rules c) x1 fun v9 => W.seq x1 fun xs12 => xs12.length < sizeLine ∧ W.comp (fun v1 q2 => W.ix v1 (D.int 0) fun v3 => q2 (some v3)) xs12 [] fun v11 => W.tupleOf [v11] fun v10 => W.seq x1 fun xs15 => xs15.length < sizeLine ∧ W.comp (fun v4 q5 => W.ix v4 (D.int 1) fun v6 => q5 (some v6)) xs15 [] fun v14 => W.tupleOf [v14] fun v13 => W.fldS ["names", "_rules"] [v10, v13] "names" fun v17 => W.fldS ["names", "_rules"] [v10, v13] "_rules" fun v18 => (p_support_table c) v17 v18 fun v16 => kr (.ins c.Plan ["names", "_rules", "support"] [v10, v13, v16])
def p_Plan___eq__ (c : Cn) (x0 x1 : D) (kr : D → Prop) : Prop := W.join (fun k1 : D → Prop => W.isi c.kit (Value.ref c.Plan) x1 fun v11 => W.truth v11 fun b3 => W.ite b3 (W.fld [c.Plan] "names" x0 fun v9 => W.fld [c.Plan] "names" x1 fun v10 => W.eq v9 v10 fun v8 => W.truth v8 fun b4 => W.ite b4 (W.fld [c.Plan] "_rules" x0 fun v6 => W.fld [c.Plan] "_rules" x1 fun v7 => W.eqTB c.Rule (p_Rule___eq__ c) v6 v7 fun v5 => k1 v5) (k1 (D.bl false))) (k1 (D.bl false))) fun v2 => kr v2
def p_check_parts (c : Cn) (x0 x1 : D) (kr : D → Prop) : Prop := W.seq x1 fun xs10 => W.forL (S := (Unit)) (fun y2 s3 n4 b5 => W.fld [c.Plan] "names" x0 fun v8 => (W.isIn true) y2 v8 fun v7 => W.truth v7 fun b6 => W.ite b6 (False) (n4 ())) xs10 () fun s9 => kr .non
def p_parts_mask (c : Cn) (x0 x1 : D) (kr : D → Prop) : Prop := (p_check_parts c) x0 x1 fun v1 => W.fld [c.Plan] "names" x0 fun v3 => p_mask_of x1 v3 fun v2 => kr v2
def p_Yard___init__ (c : Cn) (x1 x2 : D) (kr : D → Prop) : Prop := (p_check_parts c) x1 x2 fun v1 => W.fld [c.Plan] "names" x1 fun v3 => p_mask_of x2 v3 fun v2 => W.fldS ["plan", "mask"] [x1, v2] "mask" fun v5 => W.fld [c.Plan] "names" x1 fun v6 => p_names_of v5 v6 fun v4 => kr (.ins c.Yard ["plan", "mask", "parts"] [x1, v2, v4])
def p_yard_of (c : Cn) (x0 x1 : D) (kr : D → Prop) : Prop := W.fld [c.Plan] "names" x0 fun v3 => p_names_of x1 v3 fun v2 => (p_Yard___init__ c) x0 v2 fun v1 => kr v1
def p_Yard_stands (c : Cn) (x0 : D) (kr : D → Prop) : Prop := W.fld [c.Yard] "plan" x0 fun v2 => W.fld [c.Yard] "mask" x0 fun v3 => (p_stands_in c) v2 v3 (D.int 0) fun v1 => kr v1
def p_Yard_rest (c : Cn) (x0 : D) (kr : D → Prop) : Prop := W.fld [c.Yard] "plan" x0 fun v2 => W.fld [c.Yard] "plan" x0 fun v4 => W.fld [c.Yard] "mask" x0 fun v5 => (p_rest_in c) v4 v5 (D.int 0) fun v3 => (p_yard_of c) v2 v3 fun v1 => kr v1
def p_Yard_stands_under (c : Cn) (x0 x1 : D) (kr : D → Prop) : Prop := W.fld [c.Yard] "plan" x0 fun v2 => W.fld [c.Yard] "mask" x0 fun v3 => W.fld [c.Yard] "plan" x0 fun v5 => (p_parts_mask c) v5 x1 fun v4 => (p_stands_in c) v2 v3 v4 fun v1 => kr v1
def p_Yard_rest_under (c : Cn) (x0 x1 : D) (kr : D → Prop) : Prop := W.fld [c.Yard] "plan" x0 fun v2 => W.fld [c.Yard] "plan" x0 fun v4 => W.fld [c.Yard] "mask" x0 fun v5 => W.fld [c.Yard] "plan" x0 fun v7 => (p_parts_mask c) v7 x1 fun v6 => (p_rest_in c) v4 v5 v6 fun v3 => (p_yard_of c) v2 v3 fun v1 => kr v1
def p_Yard___eq__ (c : Cn) (x0 x1 : D) (kr : D → Prop) : Prop := W.join (fun k1 : D → Prop => W.isi c.kit (Value.ref c.Yard) x1 fun v11 => W.truth v11 fun b3 => W.ite b3 (W.fld [c.Yard] "plan" x0 fun v9 => W.fld [c.Yard] "plan" x1 fun v10 => (∃ ns ds, v9 = .ins c.Plan ns ds) ∧ (∃ ms es, v10 = .ins c.Plan ms es) ∧ (p_Plan___eq__ c) v9 v10 fun v8 => W.truth v8 fun b4 => W.ite b4 (W.fld [c.Yard] "parts" x0 fun v6 => W.fld [c.Yard] "parts" x1 fun v7 => W.eq v6 v7 fun v5 => k1 v5) (k1 (D.bl false))) (k1 (D.bl false))) fun v2 => kr v2
def p_check_plans (c : Cn) (x0 x1 : D) (kr : D → Prop) : Prop := W.fld [c.Yard] "plan" x0 fun v3 => W.fld [c.Yard] "plan" x1 fun v4 => (∃ ns ds, v3 = .ins c.Plan ns ds) ∧ (∃ ms es, v4 = .ins c.Plan ms es) ∧ (p_Plan___eq__ c) v3 v4 (W.isNo fun v2 => W.truth v2 fun b1 => W.ite b1 (False) (kr .non))
def p_Yard___or__ (c : Cn) (x0 x1 : D) (kr : D → Prop) : Prop := (p_check_plans c) x0 x1 fun v1 => W.fld [c.Yard] "plan" x0 fun v3 => W.fld [c.Yard] "mask" x0 fun v5 => W.fld [c.Yard] "mask" x1 fun v6 => W.bor v5 v6 fun v4 => (p_yard_of c) v3 v4 fun v2 => kr v2
def p_Yard___sub__ (c : Cn) (x0 x1 : D) (kr : D → Prop) : Prop := (p_check_plans c) x0 x1 fun v1 => W.fld [c.Yard] "plan" x0 fun v3 => W.fld [c.Yard] "mask" x0 fun v5 => W.fld [c.Yard] "mask" x1 fun v7 => W.inv v7 fun v6 => W.band v5 v6 fun v4 => (p_yard_of c) v3 v4 fun v2 => kr v2
def p_all_yards (c : Cn) (x0 x1 : D) (kr : D → Prop) : Prop := W.fld [c.Plan] "names" x0 fun v13 => W.len [v13] fun v12 => p_masks_in_order v12 fun v11 => W.seq v11 fun xs10 => xs10.length < sizeLine ∧ W.comp (fun v1 q2 => W.join (fun k3 : Bool → Prop => W.truth x1 fun b6 => W.nt b6 fun b5 => W.ite b5 (k3 true) ((p_stands_in c) x0 v1 (D.int 0) fun v8 => W.truth v8 fun b7 => k3 b7)) fun b4 => W.ite b4 ((p_yard_of c) x0 v1 fun v9 => q2 (some v9)) (q2 none)) xs10 [] kr
def p__law_some (x1 x2 : D) (kr : D → Prop) : Prop := W.seq x1 fun xs7 => xs7.length < sizeLine ∧ W.comp (fun v1 q2 => W.draw x2 fun v5 => W.eq v5 (D.int 0) fun v4 => W.truth v4 fun b3 => W.ite b3 (q2 (some v1)) (q2 none)) xs7 [] fun v6 => kr v6
def p__law_sets (x1 : D) (kr : D → Prop) : Prop := W.draw (D.int 12) fun v1 => W.join (fun k57 : Bool → Prop => W.eq v1 (D.int 0) fun v60 => W.truth v60 fun b59 => W.ite b59 (k57 true) (W.len [x1] fun v63 => W.eq v63 (D.int 0) fun v62 => W.truth v62 fun b61 => k57 b61)) fun b58 => W.ite b58 (W.draw (D.int 3) fun v3 => W.ix (D.lst [(D.lst [(D.tup [])]), (D.lst [(D.tup [])]), (D.lst [])]) v3 fun v2 => kr v2) (p__law_mixed x1 fun v6 => W.part (D.int 5) fun o7 => W.sl v6 none o7 fun v5 => W.join (fun k50 : Bool → Prop => W.eq v1 (D.int 1) fun v53 => W.truth v53 fun b52 => W.ite b52 (W.len [x1] fun v56 => W.gt v56 (D.int 1) fun v55 => W.truth v55 fun b54 => k50 b54) (k50 false)) fun b51 => W.ite b51 (W.part (D.int 4) fun o25 => W.sl v5 none o25 fun v24 => W.len [v24] fun v23 => W.range1 v23 fun xs22 => W.forL (S := (List D)) (fun y9 s10 n11 b12 => W.part y9 fun o20 => W.sl v5 none o20 fun v19 => W.seq v19 fun xs18 => xs18.length < sizeLine ∧ W.comp (fun v13 q14 => W.ix v5 y9 fun v15 => q14 (some (D.tup [v15, v13]))) xs18 [] fun v17 => W.ext s10 v17 fun ys16 => n11 (s10 ++ ys16)) xs22 [] fun s21 => kr (D.lst s21)) ((W.isIn false) v1 (D.tup [(D.int 2), (D.int 3)]) fun v49 => W.truth v49 fun b48 => W.ite b48 (W.tupleOf [x1] fun v29 => W.seq v5 fun xs31 => xs31.length < sizeLine ∧ W.comp (fun v26 q27 => q27 (some (D.tup [v26]))) xs31 [] fun v30 => W.sub v1 (D.int 2) fun v32 => W.ix (D.lst [(D.lst [v29]), v30]) v32 fun v28 => kr v28) (W.draw (D.int 6) fun v47 => W.ix (D.lst [(D.int 1), (D.int 1), (D.int 1), (D.int 2), (D.int 2), (D.int 3)]) v47 fun v46 => W.range1 v46 fun xs45 => W.forL (S := (List D)) (fun y34 s35 n36 b37 => p__law_mixed x1 fun v40 => W.draw (D.int 6) fun v43 => W.ix (D.lst [(D.int 1), (D.int 1), (D.int 2), (D.int 2), (D.int 2), (D.int 3)]) v43 fun v42 => W.part v42 fun o41 => W.sl v40 none o41 fun v39 => W.tupleOf [v39] fun v38 => s35.length < sizeLine ∧ n36 (s35 ++ [v38])) xs45 [] fun s44 => kr (D.lst s44))))
def p__law_rows (x1 : D) (kr : D → Prop) : Prop := W.draw (D.int 8) fun v1 => W.join (fun k2 : D → Prop => W.eq v1 (D.int 6) fun v5 => W.truth v5 fun b4 => W.ite b4 (W.draw x1 fun v6 => k2 v6) (W.ix (D.lst [(D.int 0), (D.int 0), (D.int 0), (D.int 0), (D.int 0), (D.int 1), (D.int 0), (D.int 2)]) v1 fun v7 => k2 v7)) fun v3 => W.sub x1 v3 fun v10 => W.max2 [(D.int 1), v10] fun v9 => p__law_words v9 fun v8 => W.seq v8 fun xs21 => xs21.length < sizeLine ∧ W.comp (fun v11 q16 => W.seq v8 fun xs19 => xs19.length < sizeLine ∧ W.comp (fun v12 q13 => W.ne v12 v11 fun v15 => W.truth v15 fun b14 => W.ite b14 (q13 (some v12)) (q13 none)) xs19 [] fun v18 => p__law_sets v18 fun v17 => q16 (some (D.tup [v11, v17]))) xs21 [] fun v20 => kr v20
def p__law_plan (c : Cn) (x0 : D) (kr : D → Prop) : Prop := W.seq x0 fun xs8 => xs8.length < sizeLine ∧ W.comp (fun x4 q3 => W.un2 x4 fun v1 v2 => (p_Rule_of_sets c) (.ref c.Rule) v2 fun v5 => q3 (some (D.tup [v1, v5]))) xs8 [] fun v7 => (p_Plan___init__ c) v7 fun v6 => kr v6
def p__law_right (c : Cn) (x0 x1 x2 x3 : D) (kr : D → Prop) : Prop := W.obj [c.Yard] "rest_under" x0 ((p_Yard_rest_under c) x0 x2 fun v3 => (∃ ns ds, x0 = .ins c.Yard ns ds) ∧ (∃ ms es, x1 = .ins c.Yard ms es) ∧ (p_Yard___or__ c) x0 x1 fun v5 => W.obj [c.Yard] "rest_under" v5 ((p_Yard_rest_under c) v5 x2 fun v4 => W.join (fun k62 : Bool → Prop => W.obj [c.Yard] "stands_under" v3 ((p_Yard_stands_under c) v3 x2 fun v66 => W.truth v66 fun b65 => W.nt b65 fun b64 => W.ite b64 (k62 true) (W.obj [c.Yard] "rest_under" v3 ((p_Yard_rest_under c) v3 x2 fun v69 => (∃ ns ds, v69 = .ins c.Yard ns ds) ∧ (∃ ms es, v3 = .ins c.Yard ms es) ∧ (p_Yard___eq__ c) v69 v3 (W.isNo fun v68 => W.truth v68 fun b67 => W.ite b67 (k62 true) ((∃ ns ds, v3 = .ins c.Yard ns ds) ∧ (∃ ms es, x0 = .ins c.Yard ms es) ∧ (p_Yard___sub__ c) v3 x0 fun v72 => W.fld [c.Yard] "plan" x0 fun v74 => (p_Yard___init__ c) v74 (D.tup []) fun v73 => (∃ ns ds, v72 = .ins c.Yard ns ds) ∧ (∃ ms es, v73 = .ins c.Yard ms es) ∧ (p_Yard___eq__ c) v72 v73 (W.isNo fun v71 => W.truth v71 fun b70 => k62 b70))))))) fun b63 => W.ite b63 (kr (D.bl false)) (W.join (fun k52 : Bool → Prop => (∃ ns ds, v3 = .ins c.Yard ns ds) ∧ (∃ ms es, v4 = .ins c.Yard ms es) ∧ (p_Yard___or__ c) v3 v4 fun v56 => (∃ ns ds, v56 = .ins c.Yard ns ds) ∧ (∃ ms es, v4 = .ins c.Yard ms es) ∧ (p_Yard___eq__ c) v56 v4 (W.isNo fun v55 => W.truth v55 fun b54 => W.ite b54 (k52 true) (W.obj [c.Yard] "rest_under" x0 ((p_Yard_rest_under c) x0 x3 fun v60 => (∃ ns ds, v3 = .ins c.Yard ns ds) ∧ (∃ ms es, v60 = .ins c.Yard ms es) ∧ (p_Yard___or__ c) v3 v60 fun v59 => W.obj [c.Yard] "rest_under" x0 ((p_Yard_rest_under c) x0 x3 fun v61 => (∃ ns ds, v59 = .ins c.Yard ns ds) ∧ (∃ ms es, v61 = .ins c.Yard ms es) ∧ (p_Yard___eq__ c) v59 v61 (W.isNo fun v58 => W.truth v58 fun b57 => k52 b57)))))) fun b53 => W.ite b53 (kr (D.bl false)) (W.join (fun k41 : Bool → Prop => W.obj [c.Yard] "rest_under" x1 ((p_Yard_rest_under c) x1 x2 fun v47 => (∃ ns ds, v3 = .ins c.Yard ns ds) ∧ (∃ ms es, v47 = .ins c.Yard ms es) ∧ (p_Yard___or__ c) v3 v47 fun v46 => W.obj [c.Yard] "stands_under" v46 ((p_Yard_stands_under c) v46 x2 fun v45 => W.truth v45 fun b44 => W.nt b44 fun b43 => W.ite b43 (k41 true) (W.obj [c.Yard] "rest_under" x0 ((p_Yard_rest_under c) x0 x3 fun v51 => W.obj [c.Yard] "rest_under" v51 ((p_Yard_rest_under c) v51 x2 fun v50 => (∃ ns ds, v50 = .ins c.Yard ns ds) ∧ (∃ ms es, v3 = .ins c.Yard ms es) ∧ (p_Yard___eq__ c) v50 v3 (W.isNo fun v49 => W.truth v49 fun b48 => k41 b48))))))) fun b42 => W.ite b42 (kr (D.bl false)) (W.join (fun k28 : Bool → Prop => W.obj [c.Yard] "stands_under" x0 ((p_Yard_stands_under c) x0 x2 fun v32 => (∃ ns ds, v3 = .ins c.Yard ns ds) ∧ (∃ ms es, x0 = .ins c.Yard ms es) ∧ (p_Yard___eq__ c) v3 x0 fun v33 => W.ne v32 v33 fun v31 => W.truth v31 fun b30 => W.ite b30 (k28 true) (W.join (fun k34 : Bool → Prop => W.obj [c.Yard] "stands_under" x0 ((p_Yard_stands_under c) x0 x2 fun v37 => W.truth v37 fun b36 => W.ite b36 (W.obj [c.Yard] "stands_under" x0 ((p_Yard_stands_under c) x0 x3 fun v40 => W.truth v40 fun b39 => W.nt b39 fun b38 => k34 b38)) (k34 false))) fun b35 => k28 b35))) fun b29 => W.ite b29 (kr (D.bl false)) (W.join (fun k18 : D → Prop => W.obj [c.Yard] "rest" x0 ((p_Yard_rest c) x0 fun v26 => W.obj [c.Yard] "rest_under" x0 ((p_Yard_rest_under c) x0 (D.tup []) fun v27 => (∃ ns ds, v26 = .ins c.Yard ns ds) ∧ (∃ ms es, v27 = .ins c.Yard ms es) ∧ (p_Yard___eq__ c) v26 v27 fun v25 => W.truth v25 fun b20 => W.ite b20 (W.obj [c.Yard] "stands" x0 ((p_Yard_stands c) x0 fun v22 => W.obj [c.Yard] "rest" x0 ((p_Yard_rest c) x0 fun v24 => (∃ ns ds, v24 = .ins c.Yard ns ds) ∧ (∃ ms es, x0 = .ins c.Yard ms es) ∧ (p_Yard___eq__ c) v24 x0 fun v23 => W.eq v22 v23 fun v21 => k18 v21))) (k18 (D.bl false))))) fun v19 => kr v19))))))
def p_law (c : Cn) (x0 : D) (kr : D → Prop) : Prop := W.part (D.int 2) fun o78 => W.sl x0 none o78 fun v77 => W.len [v77] fun v76 => W.add (D.int 2) v76 fun v75 => W.range1 v75 fun xs74 => W.forL (S := (Unit)) (fun y11 s12 n13 b14 => W.draw (D.int 6) fun v17 => W.ix (D.lst [(D.int 3), (D.int 4), (D.int 4), (D.int 5), (D.int 5), (D.int 6)]) v17 fun v16 => p__law_rows v16 fun v15 => (p__law_plan c) v15 fun v21 => W.seq v15 fun xs23 => xs23.length < sizeLine ∧ W.comp (fun v18 q19 => W.ix v18 (D.int 0) fun v20 => q19 (some v20)) xs23 [] fun v22 => p__law_some v22 (D.int 3) fun v24 => W.seq v22 fun xs33 => xs33.length < sizeLine ∧ W.comp (fun v25 q26 => (W.isIn true) v25 v24 fun v28 => W.truth v28 fun b27 => W.ite b27 (q26 (some v25)) (q26 none)) xs33 [] fun v32 => p__law_some v32 (D.int 3) fun v31 => W.add v24 v31 fun v30 => p__law_mixed v30 fun v29 => (p_all_yards c) v21 (D.bl false) fun v34 => p__law_mixed v34 fun v71 => W.part (D.int 8) fun o72 => W.sl v71 none o72 fun v70 => W.seq v70 fun xs69 => W.forL (S := (Unit)) (fun y38 s39 n40 b41 => W.len [v34] fun v67 => W.draw v67 fun v66 => W.ix v34 v66 fun v65 => (p__law_right c) y38 v65 v24 v29 fun v64 => W.truth v64 fun b63 => W.nt b63 fun b62 => W.ite b62 (kr (D.bl false)) (W.obj [c.Yard] "rest_under" y38 ((p_Yard_rest_under c) y38 v24 fun v43 => W.seq v34 fun xs61 => W.forL (S := (Unit)) (fun y45 s46 n47 b48 => W.join (fun k50 : Bool → Prop => (∃ ns ds, y45 = .ins c.Yard ns ds) ∧ (∃ ms es, y38 = .ins c.Yard ms es) ∧ (p_Yard___or__ c) y45 y38 fun v54 => (∃ ns ds, v54 = .ins c.Yard ns ds) ∧ (∃ ms es, y38 = .ins c.Yard ms es) ∧ (p_Yard___eq__ c) v54 y38 fun v53 => W.truth v53 fun b52 => W.ite b52 (W.obj [c.Yard] "stands_under" y45 ((p_Yard_stands_under c) y45 v24 fun v56 => W.truth v56 fun b55 => W.ite b55 ((∃ ns ds, y45 = .ins c.Yard ns ds) ∧ (∃ ms es, v43 = .ins c.Yard ms es) ∧ (p_Yard___or__ c) y45 v43 fun v59 => (∃ ns ds, v59 = .ins c.Yard ns ds) ∧ (∃ ms es, v43 = .ins c.Yard ms es) ∧ (p_Yard___eq__ c) v59 v43 (W.isNo fun v58 => W.truth v58 fun b57 => k50 b57)) (k50 false))) (k50 false)) fun b51 => W.ite b51 (kr (D.bl false)) (n47 ())) xs61 () fun s60 => n40 ()))) xs69 () fun s68 => n13 ()) xs74 () fun s73 => kr (D.bl true)
end Dw
/- borrowed -/

/-! Wq2: what is asked, shown: comprehensions, rows of texts. -/
namespace Dw
open PySem PySem.Spec PyProof.Rows L2
theorem q_compA {body : D → (Option D → Prop) → Prop} {k : D → Prop} {α : Type} (F : α → D) (g : α → Option D) : ∀ {l : List α} {acc : List D}, (∀ a ∈ l, ∀ q, q (g a) → body (F a) q) → k (.lst (acc ++ l.filterMap g)) → W.comp body (l.map F) acc k
  | [], acc, _, h => by
    rw [List.filterMap_nil, List.append_nil] at h
    exact h
  | a :: l, acc, hb, h => by
    refine hb a List.mem_cons_self _ ?_
    refine q_compA F g (fun b hm => hb b (List.mem_cons_of_mem _ hm)) ?_
    rw [List.append_assoc]
    cases e : g a with
    | none =>
      rw [List.filterMap_cons_none e] at h
      exact h
    | some d =>
      rw [List.filterMap_cons_some e] at h
      exact h
/-- a comprehension over a row -/
theorem q_comp {body : D → (Option D → Prop) → Prop} {k : D → Prop} {α : Type} (F : α → D) (g : α → Option D) {l : List α} (hz : l.length < sizeLine) (hb : ∀ a ∈ l, ∀ q, q (g a) → body (F a) q) (h : k (.lst (l.filterMap g))) : (l.map F).length < sizeLine ∧ W.comp body (l.map F) [] k :=
  ⟨by rw [List.length_map]; exact hz, q_compA F g hb h⟩
theorem q_seq {x : D} {xs : List D} {k : List D → Prop} (hx : x = .lst xs ∨ x = .tup xs) (h : k xs) : W.seq x k := by
  rcases hx with rfl | rfl <;> exact h
theorem any_str {s : Str} : ∀ {ss : List Str}, ((ss.map D.str).any fun z => z.alike (.str s)) = decide (s ∈ ss)
  | [] => rfl
  | t :: ss => by
    rw [List.map_cons, List.any_cons, any_str]
    have e : D.alike (.str t) (.str s) = decide (s = t) := by
      show (t == s) = decide (s = t)
      by_cases h : s = t
      · simp [h]
      · rw [decide_eq_false h]
        exact beq_false_of_ne fun z => h z.symm
    rw [e]
    by_cases h : s = t <;> simp [h]
theorem flat_strs (ss : List Str) : (ss.map D.str).all D.flatB = true := by
  rw [List.all_eq_true]
  intro x hx
  obtain ⟨s, _, rfl⟩ := List.mem_map.mp hx
  rfl
theorem q_inS {neg : Bool} {s : Str} {y : D} {ss : List Str} {k : D → Prop} (hy : y = .lst (ss.map D.str) ∨ y = .tup (ss.map D.str)) (h : k (.bl (neg != decide (s ∈ ss)))) : W.isIn neg (.str s) y k :=
  .inl ⟨_, hy, rfl, flat_strs ss, by rw [any_str]; exact h⟩
theorem filterMap_some {α β : Type} (f : α → β) (l : List α) : l.filterMap (fun a => some (f a)) = l.map f := by
  induction l with
  | nil => rfl
  | cons a l ih => simp
theorem filterMap_if {α : Type} (p : α → Bool) (F : α → D) (l : List α) : l.filterMap (fun a => if p a then some (F a) else none) = (l.filter p).map F := by
  induction l with
  | nil => rfl
  | cons a l ih =>
    by_cases h : p a = true
    · rw [List.filterMap_cons_some (by rw [if_pos h]), ih, List.filter_cons_of_pos h]; rfl
    · rw [List.filterMap_cons_none (by rw [if_neg h]), ih, List.filter_cons_of_neg h]
/-- texts of signs that may be shown -/
def Oks (ss : List Str) : Prop := ∀ s ∈ ss, PyData.strOk s = true
theorem deep_strs {ss : List Str} (h : Oks ss) : (∀ x ∈ ss.map D.str, x.pl = true) ∧ ∀ x ∈ ss.map D.str, x.py.depth ≤ 0 := by
  constructor
  · intro x hx
    obtain ⟨s, hs, rfl⟩ := List.mem_map.mp hx
    exact h s hs
  · intro x hx
    obtain ⟨s, _, rfl⟩ := List.mem_map.mp hx
    exact Nat.le_refl _
theorem deepT {n : Nat} {xs : List D} (h1 : ∀ x ∈ xs, x.pl = true) (h2 : ∀ x ∈ xs, x.py.depth ≤ n) (hn : n + 1 ≤ 64) : (D.tup xs).deep :=
  ⟨plL_of h1, Nat.le_trans (Nat.succ_le_succ (depthAll_le h2)) hn⟩
/-- a row of texts beside the empty row -/
theorem Oks.filter {ss : List Str} (h : Oks ss) (p : Str → Bool) : Oks (ss.filter p) := fun s hs => h s (List.mem_filter.mp hs).1
theorem q_allF {α : Type} {p : α → Bool} {l : List α} {k : D → Prop} (h : k (.bl (l.all p))) : W.all [.lst (l.map fun a => .bl (p a))] k := ⟨l.map p, by rw [List.map_map]; rfl, by rw [List.all_map]; exact h⟩
/-! sorted rows of tuples of texts -/
open PySem.W (AllAlike Sortable dataLe alike alikeAll) in
theorem alike_strs : ∀ (a b : List Str), alikeAll (a.map PyData.str) (b.map PyData.str) = true
  | [], [] => rfl
  | [], b :: bs => rfl
  | a :: as, [] => rfl
  | a :: as, b :: bs => by
    have := alike_strs as bs
    simp [List.map_cons, alikeAll, alike, this]
def tupS (ss : List Str) : D := .tup (ss.map D.str)
theorem pyL_strs (ss : List Str) : D.pyL (ss.map D.str) = ss.map PyData.str := by
  rw [pyL_map, List.map_map]
  rfl
theorem tupS_py (ss : List Str) : (tupS ss).py = .tuple (ss.map PyData.str) := congrArg PyData.tuple (pyL_strs ss)
open PySem.W (AllAlike Sortable dataLe alike alikeAll) in
/-- sorted of tuples of texts: one at most, or none of them empty -/
theorem q_sortT {zs : List (List Str)} {k : D → Prop} (ok : ∀ z ∈ zs, Oks z) (hw : zs.length < 2 ∨ ∀ z ∈ zs, z ≠ []) (h : k (.lst (sortD (zs.map tupS)))) : W.sortedA [.lst (zs.map tupS)] k := by
  refine .inr ⟨zs.map tupS, rfl, fun d hd => ?_, hw.imp (fun z => by rw [List.length_map]; exact z) fun hw => ⟨?_, .inl ?_, ?_⟩, h⟩
  · obtain ⟨z, hz, rfl⟩ := List.mem_map.mp hd
    exact plL_of (deep_strs (ok z hz)).1
  · intro d hd e he
    rw [pyL_map] at hd he
    obtain ⟨d', hd', rfl⟩ := List.mem_map.mp hd
    obtain ⟨e', he', rfl⟩ := List.mem_map.mp he
    obtain ⟨a, _, rfl⟩ := List.mem_map.mp hd'
    obtain ⟨b, _, rfl⟩ := List.mem_map.mp he'
    rw [tupS_py, tupS_py, alike]
    exact alike_strs a b
  · intro d hd
    rw [pyL_map] at hd
    obtain ⟨d', hd', rfl⟩ := List.mem_map.mp hd
    obtain ⟨a, ha, rfl⟩ := List.mem_map.mp hd'
    rw [tupS_py]
    cases e : a with
    | nil => exact absurd e (hw a ha)
    | cons s ss => exact ⟨_, _, rfl⟩
  · intro d hd
    obtain ⟨a, ha, rfl⟩ := List.mem_map.mp hd
    exact Nat.le_trans (Nat.succ_le_succ (depthAll_le (deep_strs (ok a ha)).2)) (by decide)
theorem q_sortLen {xs : List D} {k : D → Prop} (hx : ∀ x ∈ xs, ∃ ts, x = .tup ts) (h : k (.lst (sortL xs))) : W.sortedLen (.lst xs) k := ⟨xs, rfl, hx, h⟩
theorem mem_sortD {xs : List D} {x : D} : x ∈ sortD xs ↔ x ∈ xs := List.mem_mergeSort
theorem q_lenT {xs : List D} {n : Nat} {k : D → Prop} (e : xs.length = n) (h : k (.int (n : Int))) : W.len [.tup xs] k := by
  subst e
  exact h
theorem q_lenL {xs : List D} {n : Nat} {k : D → Prop} (e : xs.length = n) (h : k (.int (n : Int))) : W.len [.lst xs] k := by
  subst e
  exact h
end Dw

/-! M05: what k05's defs ask, shown for rows of names. -/
namespace Dw
open PySem PySem.Spec PyProof.Rows L2
/-- a row of texts, a list or a tuple -/
def Row (x : D) (ss : List Str) : Prop := x = .lst (ss.map D.str) ∨ x = .tup (ss.map D.str)
/-- one of the rows lies within b -/
def holdsN (zs : List (List Str)) (b : List Str) : Bool := zs.any fun z => z.all fun s => decide (s ∈ b)
theorem m_in_order {ms : List Nat} {names : List Str} {k : D → Prop} (hn : names.length ≤ 64) (hz : ms.length < sizeLine) (ok : ∀ m ∈ ms, Oks (namesN names m)) (hw : ms.length < 2 ∨ ∀ m ∈ ms, namesN names m ≠ [])
    (h : k (.tup (sortL (sortD (ms.map fun m => tupS (namesN names m)))))) : p_in_order (.lst (ms.map natD)) (.lst (names.map D.str)) k := by
  unfold p_in_order
  refine q_seq (.inl rfl) (q_comp natD (fun m => some (tupS (namesN names m))) hz (fun m hm q hq => ?_) ?_)
  · refine ⟨⟨m, _, names, rfl, .inl rfl, hn⟩, fun d hd => ?_⟩
    obtain ⟨m', y', names', e, hy', rfl⟩ := hd
    have e1 : m = m' := by
      have := List.cons.inj e
      have z := D.int.inj this.1
      omega
    have e2 : names = names' := by
      have := (List.cons.inj (List.cons.inj e).2).1
      subst this
      rcases hy' with q | q
      · exact List.map_inj_right (fun a b z => D.str.inj z) |>.mp (D.lst.inj q)
      · cases q
    subst e1
    subst e2
    exact hq
  · rw [filterMap_some]
    have em : (ms.map fun m => tupS (namesN names m)) = (ms.map fun m => namesN names m).map tupS := by rw [List.map_map]; rfl
    rw [em] at h ⊢
    refine q_sortT (fun z hz => ?_) (hw.imp (fun z => by rw [List.length_map]; exact z) fun hw z hz => ?_) (q_sortLen (fun x hx => ?_) h)
    · obtain ⟨m, hm, rfl⟩ := List.mem_map.mp hz
      exact ok m hm
    · obtain ⟨m, hm, rfl⟩ := List.mem_map.mp hz
      exact hw m hm
    · obtain ⟨z, _, rfl⟩ := List.mem_map.mp (mem_sortD.mp hx)
      exact ⟨_, rfl⟩
end Dw

/-! M05b: least_sets. -/
namespace Dw
open PySem PySem.Spec PyProof.Rows L2
def lstS (ss : List Str) : D := .lst (ss.map D.str)
theorem map_str_inj {a b : List Str} (h : a.map D.str = b.map D.str) : a = b := List.map_inj_right (fun _ _ z => D.str.inj z) |>.mp h
theorem nodup_sub {α : Type} [DecidableEq α] : ∀ {ys B : List α}, ys.Nodup → (∀ y ∈ ys, y ∈ B) → ys.length ≤ B.length
  | [], B, _, _ => Nat.zero_le _
  | y :: ys, B, n, h => by
    have hy := h y List.mem_cons_self
    have n' := List.nodup_cons.mp n
    have := nodup_sub (B := B.erase y) n'.2 fun z hz => (List.mem_erase_of_ne (a := z) (b := y) fun e => n'.1 (by rw [← e]; exact hz)).mpr (h z (List.mem_cons_of_mem _ hz))
    rw [List.length_erase_of_mem hy] at this
    have pos := List.length_pos_of_mem hy
    rw [List.length_cons]
    omega
theorem setsD_row {x : D} {zs : List (List Str)} {F : List Str → D} (hF : F = lstS ∨ F = tupS) (hx : x = .lst (zs.map F) ∨ x = .tup (zs.map F)) : SetsD x zs := by
  refine ⟨zs.map F, hx, by rw [List.length_map], fun i y z hy hz => ?_⟩
  rw [List.getElem?_map, hz] at hy
  cases hy
  rcases hF with rfl | rfl
  · exact .inl rfl
  · exact .inr rfl
theorem setsD_inj {x : D} {zs zs' : List (List Str)} (h : SetsD x zs) (h' : SetsD x zs') : zs = zs' := by
  obtain ⟨xs, hx, hl, hi⟩ := h
  obtain ⟨xs', hx', hl', hi'⟩ := h'
  have e : xs = xs' := by
    rcases hx with rfl | rfl <;> rcases hx' with e | e <;> cases e <;> rfl
  subst e
  refine List.ext_getElem? fun i => ?_
  by_cases h1 : i < xs.length
  · have a1 : zs[i]? = some (zs[i]'(by omega)) := List.getElem?_eq_getElem _
    have a2 : zs'[i]? = some (zs'[i]'(by omega)) := List.getElem?_eq_getElem _
    have a3 : xs[i]? = some (xs[i]'h1) := List.getElem?_eq_getElem _
    have q1 := hi i _ _ a3 a1
    have q2 := hi' i _ _ a3 a2
    rw [a1, a2]
    congr 1
    rcases q1 with q1 | q1 <;> rcases q2 with q2 | q2 <;> rw [q1] at q2 <;> first
      | exact map_str_inj (D.lst.inj q2)
      | exact map_str_inj (D.tup.inj q2)
      | cases q2
  · rw [List.getElem?_eq_none (by omega), List.getElem?_eq_none (by omega)]
theorem mem_namesN {α : Type} [DecidableEq α] : ∀ {ns : List α} {m : Nat} {n : α}, n ∈ namesN ns m → n ∈ ns
  | [], _, _, h => h
  | a :: ns, m, n, h => by
    unfold namesN at h
    split at h
    · rcases List.mem_cons.mp h with rfl | h
      · exact List.mem_cons_self
      · exact List.mem_cons_of_mem _ (mem_namesN h)
    · exact List.mem_cons_of_mem _ (mem_namesN h)
theorem seqD_inj {y : D} {a b : List Str} (h : SeqD y a) (h' : SeqD y b) : a = b := by
  rcases h with rfl | rfl <;> rcases h' with q | q <;> first
    | exact map_str_inj (D.lst.inj q)
    | exact map_str_inj (D.tup.inj q)
    | cases q
theorem m_maskA {x y : D} {one names : List Str} {k : D → Prop} (hy : SeqD y names) (hx : Row x one) (hn : names.length ≤ 64) (h : k (natD (maskN names one))) : p_mask_of x y k := by
  refine ⟨⟨x, y, one, names, rfl, hy, hx, hn⟩, fun d ⟨x', y', one', names', e, hy', hx', ed⟩ => ?_⟩
  have e1 : x = x' := (List.cons.inj e).1
  have e2 : y = y' := (List.cons.inj (List.cons.inj e).2).1
  subst e1
  subst e2
  obtain rfl := seqD_inj hy hy'
  obtain rfl := seqD_inj hx hx'
  subst ed
  exact h
theorem m_mask {x : D} {one names : List Str} {k : D → Prop} (hx : Row x one) (hn : names.length ≤ 64) (h : k (natD (maskN names one))) : p_mask_of x (.lst (names.map D.str)) k := m_maskA (.inl rfl) hx hn h
theorem m_namesA {y : D} {names : List Str} {m : Nat} {k : D → Prop} (hy : SeqD y names) (hn : names.length ≤ 64) (h : k (.tup ((namesN names m).map D.str))) : p_names_of (natD m) y k := by
  refine ⟨⟨m, y, names, rfl, hy, hn⟩, fun d ⟨m', y', names', e, hy', ed⟩ => ?_⟩
  have e1 : m = m' := by
    have := D.int.inj (List.cons.inj e).1
    omega
  have e2 : y = y' := (List.cons.inj (List.cons.inj e).2).1
  subst e1
  subst e2
  obtain rfl := seqD_inj hy hy'
  subst ed
  exact h
theorem natD_inj {a b : List Nat} (h : a.map natD = b.map natD) : a = b := List.map_inj_right (fun x y z => by
  have := D.int.inj z
  omega) |>.mp h
/-- what least_sets gives: the least of the sets, as rising masks over the names that occur, told as texts and sorted -/
theorem m_least_sets {x : D} {zs : List (List Str)} {F : List Str → D} {k : D → Prop} (hF : F = lstS ∨ F = tupS) (hx : x = .lst (zs.map F) ∨ x = .tup (zs.map F)) (few : ∃ B : List Str, B.length < 64 ∧ Oks B ∧ ∀ z ∈ zs, ∀ n ∈ z, n ∈ B) (hz : zs.length < 64)
    (h : ∀ (ys : List Str) (kept : List Nat), ys.Nodup → sortedS ys = true → (∀ n, n ∈ ys ↔ ∃ z ∈ zs, n ∈ z) → kept.Pairwise (· < ·) → (∀ m, m ∈ kept ↔ Lst within (zs.map (maskN ys)) m) → k (.tup (sortL (sortD (kept.map fun m => tupS (namesN ys m)))))) : p_least_sets x k := by
  obtain ⟨B, hB, okB, hzB⟩ := few
  unfold p_least_sets
  refine ⟨⟨x, zs, rfl, setsD_row hF hx, B, hB, hzB⟩, fun d ⟨x', zs', ys, e, hs, ed, nd, so, hy⟩ => ?_⟩
  obtain rfl := (List.cons.inj e).1
  obtain rfl := setsD_inj (setsD_row hF hx) hs
  subst ed
  have yB : ∀ y ∈ ys, y ∈ B := fun y hy' => by
    obtain ⟨z, hz1, hz2⟩ := (hy y).mp hy'
    exact hzB z hz1 y hz2
  have ly : ys.length ≤ 64 := Nat.le_of_lt (Nat.lt_of_le_of_lt (nodup_sub nd yB) hB)
  have s64 : (64 : Nat) < sizeLine := by decide
  refine q_seq hx (q_comp F (fun z => some (natD (maskN ys z))) (by omega) (fun z _ q hq => m_mask ?_ ly hq) ?_)
  · rcases hF with rfl | rfl
    · exact .inl rfl
    · exact .inr rfl
  rw [filterMap_some]
  have em : (zs.map fun z => natD (maskN ys z)) = (zs.map (maskN ys)).map natD := by rw [List.map_map]; rfl
  rw [em]
  have sb : (64 : Nat) < scanBound := by decide +kernel
  refine ⟨⟨_, zs.map (maskN ys), rfl, .inl rfl, by rw [List.length_map]; omega⟩, fun d ⟨x', ms', z2, e, hm, r2, m2, ed⟩ => ?_⟩
  have e1 := (List.cons.inj e).1
  subst e1
  have e2 : zs.map (maskN ys) = ms' := by
    rcases hm with q | q <;> first
      | exact natD_inj (D.lst.inj q)
      | cases q
  subst e2
  subst ed
  have asc : z2.Pairwise (fun a b => within b a = false) := r2.imp fun {a b} hab => by
    rw [Bool.eq_false_iff]
    intro w
    have := within_le w
    omega
  obtain ⟨sl, ks⟩ := keep_spec (sub := within) (fun m => within_bits.mpr fun i h => h) (fun a b c h1 h2 => within_bits.mpr fun i h => within_bits.mp h2 i (within_bits.mp h1 i h)) asc
  have kr : (keep within [] z2).Pairwise (· < ·) := r2.sublist sl
  have km : ∀ m, m ∈ keep within [] z2 ↔ Lst within (zs.map (maskN ys)) m := fun m => by
    rw [ks m]
    unfold Lst
    rw [m2 m]
    exact and_congr_right fun _ => forall_congr' fun c => by rw [m2 c]
  refine m_in_order ly ?_ (fun m _ s hs => okB s (yB s (mem_namesN hs))) ?_ (h ys _ nd so hy kr km)
  · have n2 : z2.Nodup := r2.imp fun {a b} hab => Nat.ne_of_lt hab
    have l2 := nodup_sub (B := zs.map (maskN ys)) n2 fun m hm => (m2 m).mp hm
    rw [List.length_map] at l2
    have := sl.length_le
    omega
  · by_cases z0 : (0 : Nat) ∈ keep within [] z2
    · left
      have all0 : ∀ m ∈ keep within [] z2, m = 0 := fun m hm => ((km m).mp hm).2 0 ((km 0).mp z0).1 (within_bits.mpr fun i hi => by
        rw [Nat.zero_testBit] at hi
        cases hi) |>.symm
      match e : keep within [] z2, kr, all0 with
      | [], _, _ => exact Nat.zero_lt_two
      | [a], _, _ => exact Nat.one_lt_two
      | a :: b :: l, kr, all0 =>
        have h1 := all0 a List.mem_cons_self
        have h2 := all0 b (List.mem_cons_of_mem _ List.mem_cons_self)
        have h3 := (List.pairwise_cons.mp kr).1 b List.mem_cons_self
        omega
    · right
      intro m hm e
      obtain ⟨hm1, _⟩ := (km m).mp hm
      obtain ⟨z, _, rfl⟩ := List.mem_map.mp hm1
      have e0 : maskN ys z = 0 := by
        rw [namesN_mask, List.filter_eq_nil_iff] at e
        refine Nat.eq_of_testBit_eq fun i => ?_
        rw [maskN_bit, Nat.zero_testBit]
        cases q : ys[i]? with
        | none => rfl
        | some n =>
          have := e n (List.mem_of_getElem? q)
          simpa using this
      rw [e0] at hm
      exact z0 hm
end Dw

/-! M05c: rules: made, asked, given and lacking a name. -/
namespace Dw
open PySem PySem.Spec PyProof.Rows L2
def unS : D → Str
  | .str s => s
  | _ => Str.empty
def unT : D → List Str
  | .tup ds => ds.map unS
  | _ => []
theorem unT_tupS (z : List Str) : unT (tupS z) = z := by
  show (z.map D.str).map unS = z
  rw [List.map_map]
  have : unS ∘ D.str = id := rfl
  rw [this, List.map_id]
/-- rows as sorted and then sorted by length leaves them -/
def srt (zs : List (List Str)) : List (List Str) := (sortL (sortD (zs.map tupS))).map unT
theorem srt_perm (zs : List (List Str)) : (srt zs).Perm zs := by
  have p : (sortL (sortD (zs.map tupS))).Perm (zs.map tupS) := (List.mergeSort_perm _ _).trans (List.mergeSort_perm _ _)
  have q := p.map unT
  rw [List.map_map] at q
  have e : unT ∘ tupS = id := funext unT_tupS
  rw [e, List.map_id] at q
  exact q
theorem srt_map (zs : List (List Str)) : sortL (sortD (zs.map tupS)) = (srt zs).map tupS := by
  have p : (sortL (sortD (zs.map tupS))).Perm (zs.map tupS) := (List.mergeSort_perm _ _).trans (List.mergeSort_perm _ _)
  unfold srt
  rw [List.map_map]
  refine (List.map_id' _).symm.trans (List.map_congr_left fun x hx => ?_)
  obtain ⟨z, _, rfl⟩ := List.mem_map.mp (p.mem_iff.mp hx)
  show tupS z = tupS (unT (tupS z))
  rw [unT_tupS]
/-- rows are the least of the sets, as the program writes them -/
def IsLeast (zs rows : List (List Str)) : Prop := ∃ (ys : List Str) (kept : List Nat), ys.Nodup ∧ sortedS ys = true ∧ (∀ n, n ∈ ys ↔ ∃ z ∈ zs, n ∈ z) ∧ kept.Pairwise (· < ·) ∧ (∀ m, m ∈ kept ↔ Lst within (zs.map (maskN ys)) m) ∧ rows = srt (kept.map (namesN ys))
def IsNames (rows : List (List Str)) (ys : List Str) : Prop := ys.Nodup ∧ sortedS ys = true ∧ ∀ n, n ∈ ys ↔ ∃ z ∈ rows, n ∈ z
def ruleD (c : Cn) (rows : List (List Str)) (ys : List Str) : D := .ins c.Rule ["least", "names"] [.tup (rows.map tupS), .tup (ys.map D.str)]
/-- few names, all sound -/
def FewOk (zs : List (List Str)) : Prop := ∃ B : List Str, B.length < 64 ∧ Oks B ∧ ∀ z ∈ zs, ∀ n ∈ z, n ∈ B
theorem IsLeast.few {zs rows : List (List Str)} (h : IsLeast zs rows) (f : FewOk zs) : FewOk rows := by
  obtain ⟨ys, kept, _, _, hy, _, _, rfl⟩ := h
  obtain ⟨B, h1, h2, h3⟩ := f
  refine ⟨B, h1, h2, fun z hz n hn => ?_⟩
  obtain ⟨m, _, rfl⟩ := List.mem_map.mp ((srt_perm _).mem_iff.mp hz)
  obtain ⟨z, hz1, hz2⟩ := (hy n).mp (mem_namesN hn)
  exact h3 z hz1 n hz2
theorem IsLeast.len {zs rows : List (List Str)} (h : IsLeast zs rows) : rows.length ≤ zs.length := by
  obtain ⟨ys, kept, _, _, hy, kp, hk, rfl⟩ := h
  rw [(srt_perm _).length_eq, List.length_map]
  have := nodup_sub (B := zs.map (maskN ys)) (kp.imp fun {a b} hab => Nat.ne_of_lt hab) fun m hm => ((hk m).mp hm).1
  rw [List.length_map] at this
  exact this
theorem m_init {c : Cn} {rows : List (List Str)} {k : D → Prop} (f : FewOk rows) (h : ∀ ys, IsNames rows ys → k (ruleD c rows ys)) : p_Rule___init__ c (.tup (rows.map tupS)) k := by
  obtain ⟨B, hB, okB, hzB⟩ := f
  refine ⟨⟨_, rows, rfl, setsD_row (.inr rfl) (.inr rfl), B, hB, hzB⟩, fun d ⟨x', zs', ys, e, hs, ed, nd, so, hy⟩ => ?_⟩
  have e1 := (List.cons.inj e).1
  subst e1
  obtain rfl := setsD_inj (setsD_row (.inr rfl) (.inr rfl)) hs
  subst ed
  exact h ys ⟨nd, so, hy⟩
theorem m_least {x : D} {zs : List (List Str)} {F : List Str → D} {k : D → Prop} (hF : F = lstS ∨ F = tupS) (hx : x = .lst (zs.map F) ∨ x = .tup (zs.map F)) (f : FewOk zs) (hz : zs.length < 64) (h : ∀ rows, IsLeast zs rows → k (.tup (rows.map tupS))) : p_least_sets x k :=
  m_least_sets hF hx f hz fun ys kept a b c' d e => by
    have em : (kept.map fun m => tupS (namesN ys m)) = (kept.map (namesN ys)).map tupS := by rw [List.map_map]; rfl
    rw [em, srt_map]
    exact h _ ⟨ys, kept, a, b, c', d, e, rfl⟩
theorem m_of_sets {c : Cn} {x0 x : D} {zs : List (List Str)} {F : List Str → D} {k : D → Prop} (hF : F = lstS ∨ F = tupS) (hx : x = .lst (zs.map F) ∨ x = .tup (zs.map F)) (f : FewOk zs) (hz : zs.length < 64) (h : ∀ rows ys, IsLeast zs rows → IsNames rows ys → k (ruleD c rows ys)) : p_Rule_of_sets c x0 x k :=
  m_least hF hx f hz fun rows hr => m_init (hr.few f) fun ys hy => h rows ys hr hy
theorem m_fld_least {c : Cn} {rows : List (List Str)} {ys : List Str} {k : D → Prop} (h : k (.tup (rows.map tupS))) : W.fld [c.Rule] "least" (ruleD c rows ys) k := ⟨c.Rule, _, _, _, List.mem_singleton.mpr rfl, rfl, rfl, h⟩
theorem m_fld_names {c : Cn} {rows : List (List Str)} {ys : List Str} {k : D → Prop} (h : k (.tup (ys.map D.str))) : W.fld [c.Rule] "names" (ruleD c rows ys) k := ⟨c.Rule, _, _, _, List.mem_singleton.mpr rfl, rfl, rfl, h⟩
end Dw

/-! M05d: rules as texts. -/
namespace Dw
open PySem PySem.Spec PyProof.Rows L2
def joinC (z : List Str) : Str := Txt.join " , " z
/-- short enough to be joined -/
def Fit (z : List Str) : Prop := (z.map (·.length)).sum + z.length * 3 ≤ 100000 ∧ (joinC z).length ≤ 100000
def showS (z : List Str) : Str := if z.length = 0 then "always" else if z.length = 1 then z.headD "" else "all ( " ++ joinC z ++ " )"
def showR (rows : List (List Str)) : Str := if rows.length = 0 then "never" else if rows.length = 1 then (rows.map showS).headD "" else "any ( " ++ joinC (rows.map showS) ++ " )"
/-- all that is shown of the rule is short -/
def FitR (rows : List (List Str)) : Prop := (∀ z ∈ rows, Fit z) ∧ Fit (rows.map showS) ∧ rows.length < sizeLine
end Dw

/-! M05e: rules as texts, the law's side. -/
namespace Dw
open PySem PySem.Spec PyProof.Rows L2
theorem deep_rows {rows : List (List Str)} (ok : ∀ z ∈ rows, Oks z) : (D.tup (rows.map tupS)).deep := by
  refine deepT (n := 1) (fun x hx => ?_) (fun x hx => ?_) (by decide)
  · obtain ⟨z, hz, rfl⟩ := List.mem_map.mp hx
    exact plL_of (deep_strs (ok z hz)).1
  · obtain ⟨z, hz, rfl⟩ := List.mem_map.mp hx
    exact Nat.succ_le_succ (depthAll_le (deep_strs (ok z hz)).2)
end Dw

/-! M05f: rising rows of texts are told by what they hold. -/
namespace Dw
open PySem PySem.Spec PyProof.Rows L2
def ltS (a b : Str) : Prop := a.cps.toList < b.cps.toList
theorem str_ext {a b : Str} (h : a.cps.toList = b.cps.toList) : a = b := by
  cases a with
  | mk x =>
    cases b with
    | mk y =>
      have : x = y := Array.toList_inj.mp h
      rw [this]
theorem rise_pw : ∀ (x : Str) (l : List Str), risingS x l = true → (x :: l).Pairwise (fun a b => a.cps.toList ≤ b.cps.toList)
  | x, [], _ => List.pairwise_singleton _ _
  | x, y :: l, h => by
    rw [risingS.eq_2, Bool.and_eq_true, ltCps_eq] at h
    have hxy : x.cps.toList ≤ y.cps.toList := by
      have := h.1
      simpa using this
    have ih := rise_pw y l h.2
    refine List.pairwise_cons.mpr ⟨fun z hz => ?_, ih⟩
    rcases List.mem_cons.mp hz with rfl | hz
    · exact hxy
    · exact List.le_trans hxy ((List.pairwise_cons.mp ih).1 z hz)
theorem sorted_pw {l : List Str} (n : l.Nodup) (h : sortedS l = true) : l.Pairwise ltS := by
  have p : l.Pairwise (fun a b => a.cps.toList ≤ b.cps.toList) := by
    cases l with
    | nil => exact .nil
    | cons x l => exact rise_pw x l h
  refine List.Pairwise.imp (fun {a b} z => ?_) (p.and n)
  show a.cps.toList < b.cps.toList
  refine Classical.byContradiction fun q => z.2 (str_ext (List.le_antisymm z.1 ?_))
  exact List.not_lt.mp q
end Dw

/-! M05g: the fields of a rule beside what is due. -/
namespace Dw
open PySem PySem.Spec PyProof.Rows L2
/-- what is short and sound enough to be shown and asked -/
structure Good05 (rows : List (List Str)) (ys : List Str) : Prop where
  few : FewOk rows
  names : IsNames rows ys
  len : rows.length < 1000
  lens : ∀ z ∈ rows, z.length < 1000
  flat : rows.flatten.length < 2900
  fit : FitR rows
  shown : (showR rows).length ≤ 300000
  oks : Oks (rows.map showS)
  one : [] ∈ rows → rows = [[]]
  okR : ∃ n B, D.ok n B (.tup (rows.map tupS)) ∧ n ≤ 60 ∧ B ≤ sizeLine
  okY : ∃ n B, D.ok n B (.tup (ys.map D.str)) ∧ n ≤ 60 ∧ B ≤ sizeLine
end Dw

/-! M05h: the least of all subsets, as the law finds them. -/
namespace Dw
open PySem PySem.Spec PyProof.Rows L2
theorem q_un2 {a b : D} {k : D → D → Prop} (h : k a b) : W.un2 (.tup [a, b]) k := h
end Dw

/-! M05i: all subsets. -/
namespace Dw
open PySem PySem.Spec PyProof.Rows L2
theorem pl_nat {n : Nat} (h : n < 2 ^ 60) : (D.int (n : Int)).pl = true := by
  show decide ((n : Int).natAbs.log2 < 1920) = true
  rw [Int.natAbs_natCast, decide_eq_true_eq]
  by_cases z : n = 0
  · subst z
    decide
  · refine (Nat.log2_lt z).mpr (Nat.lt_of_lt_of_le h (Nat.pow_le_pow_right (by decide) (by decide)))
end Dw

/-! M05j: all subsets in the law's order. -/
namespace Dw
open PySem PySem.Spec PyProof.Rows L2
/-- the place of a text in a row -/
def ixS : List Str → Str → Nat
  | [], _ => 0
  | a :: l, s => if a = s then 0 else ixS l s + 1
def place (ns z : List Str) : D := .tup [.int (z.length : Int), .lst (z.map fun s => natD (ixS ns s))]
open PySem.W (AllAlike Sortable alike alikeAll) in
theorem alike_ints : ∀ (a b : List Int), alikeAll (a.map PyData.int) (b.map PyData.int) = true
  | [], [] => rfl
  | [], b :: bs => rfl
  | a :: as, [] => rfl
  | a :: as, b :: bs => by
    have := alike_ints as bs
    simp [List.map_cons, alikeAll, alike, this]
end Dw

/-! Least2: the least of rows, told as sublists of one row. Plain Lean. -/
namespace Dw
section
variable {α : Type} [DecidableEq α]
/-- a lies within b -/
def subL (a b : List α) : Bool := a.all fun s => decide (s ∈ b)
theorem subL_iff {a b : List α} : subL a b = true ↔ ∀ n ∈ a, n ∈ b := by
  unfold subL
  rw [List.all_eq_true]
  exact forall_congr' fun n => forall_congr' fun _ => by rw [decide_eq_true_eq]
theorem subL_refl (a : List α) : subL a a = true := subL_iff.mpr fun _ h => h
/-- what of ns is in z -/
def canon (ns z : List α) : List α := ns.filter fun n => decide (n ∈ z)
theorem mem_canon {ns z : List α} {n : α} : n ∈ canon ns z ↔ n ∈ ns ∧ n ∈ z := by
  unfold canon
  rw [List.mem_filter, decide_eq_true_eq]
theorem canon_of {ns z : List α} (nd : ns.Nodup) (h : z.Sublist ns) : canon ns z = z := by
  induction h with
  | slnil => rfl
  | @cons z ns a h ih =>
    have n' := List.nodup_cons.mp nd
    unfold canon
    rw [List.filter_cons_of_neg (by rw [decide_eq_true_eq]; exact fun q => n'.1 (h.subset q))]
    exact ih n'.2
  | @cons_cons z ns a h ih =>
    have n' := List.nodup_cons.mp nd
    unfold canon
    rw [List.filter_cons_of_pos (by rw [decide_eq_true_eq]; exact List.mem_cons_self)]
    refine congrArg (a :: ·) ((List.filter_congr fun s hs => ?_).trans (ih n'.2))
    refine decide_eq_decide.mpr ⟨fun q => ?_, fun q => List.mem_cons_of_mem _ q⟩
    rcases List.mem_cons.mp q with rfl | q
    · exact absurd hs n'.1
    · exact q
/-- one of the least of the sets, as a sublist of ns -/
def LeastIn (ns : List α) (zs : List (List α)) (z : List α) : Prop := ∃ z0 ∈ zs, z = canon ns z0 ∧ ∀ z1 ∈ zs, (∀ n ∈ z1, n ∈ z0) → ∀ n ∈ z0, n ∈ z1
theorem mem_kept {r : α → α → Prop} (asym : ∀ x y, r x y → r y x → False) {ns ys : List α} {zs : List (List α)} {kept : List Nat} (py : ys.Pairwise r) (pn : ns.Pairwise r) (hy : ∀ n, n ∈ ys ↔ ∃ z ∈ zs, n ∈ z) (hz : ∀ z ∈ zs, ∀ n ∈ z, n ∈ ns)
    (hk : ∀ m, m ∈ kept ↔ Lst within (zs.map (maskN ys)) m) (z : List α) : z ∈ kept.map (namesN ys) ↔ LeastIn ns zs z := by
  have key : ∀ z0 ∈ zs, namesN ys (maskN ys z0) = canon ns z0 := fun z0 h0 => by
    rw [namesN_mask]
    refine rise_eq asym (py.filter _) (pn.filter _) fun n => ?_
    rw [List.mem_filter, decide_eq_true_eq, mem_canon]
    exact ⟨fun h => ⟨hz z0 h0 n h.2, h.2⟩, fun h => ⟨(hy n).mpr ⟨z0, h0, h.2⟩, h.2⟩⟩
  have wi : ∀ z1 ∈ zs, ∀ z0 : List α, within (maskN ys z1) (maskN ys z0) = true ↔ ∀ n ∈ z1, n ∈ z0 := fun z1 h1 z0 => by
    rw [within_mask]
    exact ⟨fun h n hn => h n ((hy n).mpr ⟨z1, h1, hn⟩) hn, fun h n _ hn => h n hn⟩
  constructor
  · intro h
    obtain ⟨m, hm, rfl⟩ := List.mem_map.mp h
    obtain ⟨h1, h2⟩ := (hk m).mp hm
    obtain ⟨z0, h0, rfl⟩ := List.mem_map.mp h1
    refine ⟨z0, h0, key z0 h0, fun z1 hz1 hw => ?_⟩
    have := h2 _ (List.mem_map.mpr ⟨z1, hz1, rfl⟩) ((wi z1 hz1 z0).mpr hw)
    exact (wi z0 h0 z1).mp (by rw [this]; exact within_refl _)
  · rintro ⟨z0, h0, rfl, hm⟩
    refine List.mem_map.mpr ⟨maskN ys z0, (hk _).mpr ⟨List.mem_map.mpr ⟨z0, h0, rfl⟩, fun k hk' hw => ?_⟩, key z0 h0⟩
    obtain ⟨z1, h1, rfl⟩ := List.mem_map.mp hk'
    have a := hm z1 h1 ((wi z1 h1 z0).mp hw)
    have b := within_le ((wi z0 h0 z1).mpr a)
    have c := within_le hw
    omega
/-- some set lies within z -/
def anyIn (zs : List (List α)) (z : List α) : Bool := zs.any fun y => subL y z
/-- every set contains one of the least -/
theorem least_below {ns : List α} {zs : List (List α)} (hz : ∀ z ∈ zs, ∀ n ∈ z, n ∈ ns) : ∀ (b : Nat) (z : List α), z ∈ zs → (canon ns z).length ≤ b → ∃ y, LeastIn ns zs y ∧ ∀ n ∈ y, n ∈ z
  | b, z, hzm, hb => by
    by_cases h : ∀ z1 ∈ zs, (∀ n ∈ z1, n ∈ z) → ∀ n ∈ z, n ∈ z1
    · exact ⟨canon ns z, ⟨z, hzm, rfl, h⟩, fun n hn => (mem_canon.mp hn).2⟩
    · have h : ∃ z1 ∈ zs, (∀ n ∈ z1, n ∈ z) ∧ ∃ n ∈ z, n ∉ z1 := by
        refine Classical.byContradiction fun q => h fun z1 h1 h2 n hn => Classical.byContradiction fun w => q ⟨z1, h1, h2, n, hn, w⟩
      obtain ⟨z1, h1, h2, n, hn, hn1⟩ := h
      have lt : (canon ns z1).length < (canon ns z).length := by
        have sl : (canon ns z1).Sublist (canon ns z) := by
          have e : canon ns z1 = (canon ns z).filter fun n => decide (n ∈ z1) := by
            unfold canon
            rw [List.filter_filter]
            refine List.filter_congr fun m _ => ?_
            by_cases q : m ∈ z1
            · simp [q, h2 m q]
            · simp [q]
          rw [e]
          exact List.filter_sublist
        refine Nat.lt_of_le_of_ne sl.length_le fun e => ?_
        have e2 := sl.eq_of_length e
        have : n ∈ canon ns z1 := by
          rw [e2]
          exact mem_canon.mpr ⟨hz z hzm n hn, hn⟩
        exact hn1 (mem_canon.mp this).2
      match b, hb with
      | 0, hb => omega
      | b + 1, hb =>
        obtain ⟨y, hy1, hy2⟩ := least_below hz b z1 h1 (by omega)
        exact ⟨y, hy1, fun n hn => h2 n (hy2 n hn)⟩
/-- the least hold exactly where the sets do -/
theorem any_least {ns : List α} {zs rows : List (List α)} (hz : ∀ z ∈ zs, ∀ n ∈ z, n ∈ ns) (hr : ∀ y, y ∈ rows ↔ LeastIn ns zs y) (p : List α) : anyIn rows p = anyIn zs p := by
  rw [Bool.eq_iff_iff]
  unfold anyIn
  rw [List.any_eq_true, List.any_eq_true]
  constructor
  · rintro ⟨y, hy, hs⟩
    obtain ⟨z0, h0, rfl, _⟩ := (hr y).mp hy
    exact ⟨z0, h0, subL_iff.mpr fun n hn => subL_iff.mp hs n (mem_canon.mpr ⟨hz z0 h0 n hn, hn⟩)⟩
  · rintro ⟨z, hzm, hs⟩
    obtain ⟨y, hy1, hy2⟩ := least_below hz _ z hzm (Nat.le_refl _)
    exact ⟨y, (hr y).mpr hy1, subL_iff.mpr fun n hn => subL_iff.mp hs n (hy2 n hn)⟩
end
end Dw

/-! OrdR: the orders of rows of texts. -/
namespace Dw
open PySem PySem.W PyProof.Rows
/-- the texts of a row, as rows of numbers -/
def keyR (z : List Str) : List (List Nat) := z.map fun s => s.cps.toList
/-- shorter, or as long and less by its texts -/
def ltR (a b : List Str) : Prop := a.length < b.length ∨ (a.length = b.length ∧ keyR a < keyR b)
theorem ltR_asym (a b : List Str) (h : ltR a b) (g : ltR b a) : False := by
  rcases h with h | h <;> rcases g with g | g
  · omega
  · omega
  · omega
  · exact List.lt_asymm h.2 g.2
theorem keyR_inj {a b : List Str} (h : keyR a = keyR b) : a = b := by
  refine List.map_inj_right (fun x y e => ?_) |>.mp h
  cases x with
  | mk x =>
    cases y with
    | mk y =>
      have : x = y := Array.toList_inj.mp e
      rw [this]
theorem rowLt_strs : ∀ xs ys : List Str, rowLt (xs.map .str) (ys.map .str) = decide (keyR xs < keyR ys)
  | [], [] => by
    have e : rowLt [] [] = false := lex_irrefl _
    simp [e, keyR]
  | [], y :: ys => by
    have e : rowLt [] (PyData.str y :: ys.map .str) = true := by
      unfold rowLt
      rw [PySem.W.toks_all_cons]
      simp only [keyToksAll]
      rw [lex_diff (O := itemOrd) (by simp)]
      rfl
    simpa [keyR] using e
  | x :: xs, [] => by
    have e : rowLt (PyData.str x :: xs.map .str) [] = false := by
      unfold rowLt
      rw [PySem.W.toks_all_cons]
      simp only [PySem.W.keyToksAll]
      rw [lex_diff (O := itemOrd) (by simp)]
      rfl
    simpa [keyR] using e
  | x :: xs, y :: ys => by
    have e : rowLt (PyData.str x :: xs.map .str) (PyData.str y :: ys.map .str) = if x = y then rowLt (xs.map .str) (ys.map .str) else decide (x.cps.toList < y.cps.toList) := by
      unfold rowLt
      rw [PySem.W.dataLt_cons (by simp [alike]), PySem.W.dataLt_str]
      simp only [PyData.eqv, beq_iff_eq]
    show rowLt (PyData.str x :: xs.map .str) (PyData.str y :: ys.map .str) = _
    rw [e]
    by_cases h : x = y
    · rw [if_pos h, rowLt_strs xs ys, h]
      refine decide_eq_decide.mpr ?_
      simp [keyR, List.cons_lt_cons_iff]
    · have h' : x.cps.toList ≠ y.cps.toList := fun q => h (List.cons.inj (keyR_inj (a := [x]) (b := [y]) (by show [x.cps.toList] = [y.cps.toList]; rw [q]))).1
      rw [if_neg h]
      refine decide_eq_decide.mpr ?_
      simp [keyR, h', List.cons_lt_cons_iff]
theorem lt_tupS (a b : List Str) : dataLt (.tuple (a.map .str)) (.tuple (b.map .str)) = decide (keyR a < keyR b) := by
  rw [PySem.W.dataLt_tuple]
  exact rowLt_strs a b
/-! stable sorting -/
theorem two_sub {α : Type} {x y : α} : ∀ {l : List α}, x ∈ l → y ∈ l → x ≠ y → [x, y].Sublist l ∨ [y, x].Sublist l
  | a :: l, hx, hy, ne => by
    rcases List.mem_cons.mp hx with ex | hx' <;> rcases List.mem_cons.mp hy with ey | hy'
    · exact absurd (ex.trans ey.symm) ne
    · subst ex
      exact .inl (List.Sublist.cons_cons _ (List.singleton_sublist.mpr hy'))
    · subst ey
      exact .inr (List.Sublist.cons_cons _ (List.singleton_sublist.mpr hx'))
    · exact (two_sub hx' hy' ne).imp (List.Sublist.cons _) (List.Sublist.cons _)
theorem not_both {α : Type} {x y : α} : ∀ {l : List α}, l.Nodup → [x, y].Sublist l → [y, x].Sublist l → False
  | a :: l, nd, h1, h2 => by
    have n' := List.nodup_cons.mp nd
    cases h1 with
    | cons _ h1 =>
      cases h2 with
      | cons _ h2 => exact not_both n'.2 h1 h2
      | cons_cons _ h2 => exact n'.1 (h1.subset (by simp))
    | cons_cons _ h1 =>
      cases h2 with
      | cons _ h2 => exact n'.1 (h2.subset (by simp))
      | cons_cons _ h2 => exact n'.1 (h1.subset (by simp))
end Dw

/-! M05k: the two orders are one; the law's least ones are the rule's. -/
namespace Dw
open PySem PySem.Spec PyProof.Rows L2
open PySem.W (dataLe dataLt)
theorem tot {α : Type} {le : α → α → Bool} (h : ∀ a b, le a b = true ∨ le b a = true) (a b : α) : (le a b || le b a) = true := by
  rw [Bool.or_eq_true]
  exact h a b
theorem tupS_inj {a b : List Str} (e : tupS a = tupS b) : a = b := by rw [← unT_tupS a, ← unT_tupS b, e]
theorem le_tupS (a b : List Str) : dataLe false D.py (tupS a) (tupS b) = !decide (keyR b < keyR a) := by
  show (!dataLt (tupS b).py (tupS a).py) = _
  rw [tupS_py, tupS_py, lt_tupS]
theorem key_tri {a b : List Str} (h1 : ¬ keyR a < keyR b) (h2 : ¬ keyR b < keyR a) : a = b :=
  keyR_inj (List.le_antisymm (List.not_lt.mp h2) (List.not_lt.mp h1))
theorem srt_rise {zs : List (List Str)} (nd : zs.Nodup) : (srt zs).Pairwise ltR := by
  have nd1 : (srt zs).Nodup := (srt_perm zs).nodup_iff.mpr nd
  have ndt : (zs.map tupS).Nodup := List.pairwise_map.mpr (nd.imp fun h e => h (tupS_inj e))
  have T1 := PySem.W.sortLe_total (PyProof.Rows.listOrd PyProof.Rows.itemOrd) false (fun d : D => PySem.W.keyToks d.py)
  have T2 := PySem.W.sortLe_total (PyProof.Rows.listOrd PyProof.Rows.itemOrd) false (fun d : D => PySem.W.keyToks (PyData.int (d.tlen : Int)))
  have p1 : (sortD (zs.map tupS)).Pairwise (fun a b => dataLe false D.py a b = true) := List.pairwise_mergeSort T1.trans (tot T1.total) _
  have p2 : (sortL (sortD (zs.map tupS))).Pairwise (fun a b => dataLe false (fun d : D => PyData.int (d.tlen : Int)) a b = true) := List.pairwise_mergeSort T2.trans (tot T2.total) _
  have tl : ∀ a b : D, dataLe false (fun d : D => PyData.int (d.tlen : Int)) a b = decide ((a.tlen : Int) ≤ b.tlen) := fun a b => congrFun (congrFun (PySem.W.dataLe_int fun d : D => (d.tlen : Int)) a) b
  have tt : ∀ a : List Str, (tupS a).tlen = a.length := fun a => List.length_map ..
  refine List.pairwise_iff_forall_sublist.mpr fun {a b} hab => ?_
  have hab2 : [tupS a, tupS b].Sublist (sortL (sortD (zs.map tupS))) := by
    rw [srt_map]
    exact hab.map tupS
  have hl := List.pairwise_iff_forall_sublist.mp p2 hab2
  rw [tl, tt, tt, decide_eq_true_eq] at hl
  by_cases hl2 : a.length = b.length
  · refine .inr ⟨hl2, Classical.byContradiction fun q => ?_⟩
    have ne : a ≠ b := fun e => by
      have := nd1.sublist hab
      rw [e] at this
      exact (List.nodup_cons.mp this).1 List.mem_cons_self
    have mm : ∀ x, [x].Sublist [a, b] → tupS x ∈ sortD (zs.map tupS) := fun x hx => mem_sortD.mpr (List.mem_map.mpr ⟨x, (srt_perm zs).mem_iff.mp ((hx.trans hab).subset List.mem_cons_self), rfl⟩)
    have ha := mm a (List.singleton_sublist.mpr List.mem_cons_self)
    have hb := mm b (List.singleton_sublist.mpr (List.mem_cons_of_mem _ List.mem_cons_self))
    have hba : [tupS b, tupS a].Sublist (sortD (zs.map tupS)) := by
      rcases two_sub ha hb (fun e => ne (tupS_inj e)) with h | h
      · have h := List.pairwise_iff_forall_sublist.mp p1 h
        rw [le_tupS, Bool.not_eq_true', decide_eq_false_iff_not] at h
        exact absurd (key_tri q h) ne
      · exact h
    have le2 : dataLe false (fun d : D => PyData.int (d.tlen : Int)) (tupS b) (tupS a) = true := by
      rw [tl, tt, tt, decide_eq_true_eq]
      omega
    have h := List.pair_sublist_mergeSort T2.trans (tot T2.total) le2 hba
    have h2 : [b, a].Sublist (srt zs) := by
      have := h.map unT
      rw [List.map_cons, List.map_cons, unT_tupS, unT_tupS] at this
      exact this
    exact not_both nd1 hab h2
  · left
    omega
theorem ltS_asym (x y : Str) (h1 : ltS x y) (h2 : ltS y x) : False := List.lt_asymm h1 h2
/-- what a rule's least sets are, told in names of a row -/
theorem IsLeast.mem {ns : List Str} {zs rows : List (List Str)} (h : IsLeast zs rows) (pw : ns.Pairwise ltS) (hz : ∀ z ∈ zs, ∀ n ∈ z, n ∈ ns) : rows.Pairwise ltR ∧ ∀ z, z ∈ rows ↔ LeastIn ns zs z := by
  obtain ⟨ys, kept, nd, so, hy, kp, hk, rfl⟩ := h
  have mk := mem_kept (fun a b => ltS_asym a b) (sorted_pw nd so) pw hy hz hk
  refine ⟨srt_rise ?_, fun z => ((srt_perm _).mem_iff).trans (mk z)⟩
  -- masks told apart stay apart
  refine List.pairwise_map.mpr (kp.imp_of_mem fun {a b} ha hb hab e => ?_)
  obtain ⟨z1, h1, rfl⟩ := List.mem_map.mp ((hk a).mp ha).1
  obtain ⟨z2, h2, rfl⟩ := List.mem_map.mp ((hk b).mp hb).1
  rw [namesN_mask, namesN_mask] at e
  have same : maskN ys z1 = maskN ys z2 := by
    refine Nat.eq_of_testBit_eq fun i => ?_
    rw [maskN_bit, maskN_bit]
    cases q : ys[i]? with
    | none => rfl
    | some n =>
      have hn := List.mem_of_getElem? q
      refine decide_eq_decide.mpr ?_
      have m1 : n ∈ ys.filter (fun n => decide (n ∈ z1)) ↔ n ∈ z1 := by simp [hn]
      have m2 : n ∈ ys.filter (fun n => decide (n ∈ z2)) ↔ n ∈ z2 := by simp [hn]
      rw [← m1, ← m2, e]
  omega
end Dw

/-! M05l: the law's drawn sets. -/
namespace Dw
open PySem PySem.Spec PyProof.Rows L2
theorem q_draw {n : Int} {k : D → Prop} (h0 : 0 < n) (h1 : n < 1073741824) (h : ∀ m : Nat, (m : Int) < n → k (.int (m : Int))) : W.draw (.int n) k := ⟨⟨h0, h1⟩, fun m m0 m1 => by
  obtain ⟨i, rfl⟩ := Int.eq_ofNat_of_zero_le m0
  exact h i m1⟩
/-- a loop, by what holds before each turn -/
theorem q_forI {S : Type} {body : D → S → (S → Prop) → (S → Prop) → Prop} {p : S → Prop} (I : List D → S → Prop) (fin : ∀ s, I [] s → p s) (turn : ∀ x xs s (n : S → Prop), I (x :: xs) s → (∀ s', I xs s' → n s') → body x s n p) : ∀ {xs : List D} {s : S}, I xs s → W.forL body xs s p
  | [], s, h => fin s h
  | x :: xs, s, h => turn x xs s (fun s' => W.forL body xs s' p) h fun s' h' => q_forI I fin turn h'
theorem cut_to {α : Type} {f : α → D} {us : List α} {n : Nat} : cutD (us.map f) none (some (n : Int)) = (us.take n).map f := by
  rw [cutD_to (by omega), Int.toNat_natCast, List.map_take]
theorem perm_strs {us : List Str} {ys : List D} (h : ys.Perm (us.map D.str)) : ∃ vs : List Str, vs.Perm us ∧ ys = vs.map D.str := by
  refine ⟨ys.map unS, ?_, ?_⟩
  · have := h.map unS
    rw [List.map_map] at this
    have e : unS ∘ D.str = id := rfl
    rw [e, List.map_id] at this
    exact this
  · rw [List.map_map]
    refine (List.map_id ys).symm.trans (List.map_congr_left fun d hd => ?_)
    obtain ⟨s, _, rfl⟩ := List.mem_map.mp (h.mem_iff.mp hd)
    rfl
theorem q_mixed {us : List Str} {x : D} {k : D → Prop} (hx : x = .lst (us.map D.str) ∨ x = .tup (us.map D.str)) (hl : us.length ≤ 1000) (h : ∀ vs : List Str, vs.Perm us → k (.lst (vs.map D.str))) : p__law_mixed x k :=
  ⟨us.map D.str, hx, by rw [List.length_map]; exact hl, fun ys pm => by
    obtain ⟨vs, hv, rfl⟩ := perm_strs pm
    exact h vs hv⟩
theorem q_in23 {m : Nat} {k : D → Prop} (h : k (.bl (decide (m = 2 ∨ m = 3)))) : W.isIn false (.int (m : Int)) (.tup [.int 2, .int 3]) k := by
  refine .inl ⟨_, .inr rfl, rfl, rfl, ?_⟩
  have e : (false != ([D.int 2, .int 3].any fun z => z.alike (.int (m : Int)))) = decide (m = 2 ∨ m = 3) := by
    show (false != (((2 : Int) == (m : Int)) || (((3 : Int) == (m : Int)) || false))) = _
    by_cases h2 : m = 2
    · subst h2
      rfl
    · by_cases h3 : m = 3
      · subst h3
        rfl
      · have a : ((2 : Int) == (m : Int)) = false := beq_false_of_ne (by omega)
        have b : ((3 : Int) == (m : Int)) = false := beq_false_of_ne (by omega)
        rw [a, b]
        simp [h2, h3]
  rw [e]
  exact h
/-- sets of names of ns, few -/
def SomeSets (ns : List Str) (n : Nat) (zs : List (List Str)) : Prop := zs.length ≤ n ∧ ∀ z ∈ zs, z.length ≤ 8 ∧ ∀ s ∈ z, s ∈ ns
theorem q_none {k : D → Prop} (h1 : k (.lst [.tup []])) (h2 : k (.lst [])) : W.draw (D.int 3) fun v3 => W.ix (D.lst [(D.lst [(D.tup [])]), (D.lst [(D.tup [])]), (D.lst [])]) v3 fun v2 => k v2 :=
  q_draw (by decide) (by decide) fun m hm => by
    match m, hm with
    | 0, _ => exact q_ixL (i := 0) rfl h1
    | 1, _ => exact q_ixL (i := 1) rfl h1
    | 2, _ => exact q_ixL (i := 2) rfl h2
    | m + 3, hm => omega
theorem q_ixN {a b c d e f : Int} {m : Nat} {k : D → Prop} (hm : (m : Int) < 6) (h : ∀ n : Nat, 1 ≤ n → n ≤ 3 → k (.int (n : Int))) (ha : 1 ≤ a ∧ a ≤ 3) (hb : 1 ≤ b ∧ b ≤ 3) (hc : 1 ≤ c ∧ c ≤ 3) (hd : 1 ≤ d ∧ d ≤ 3) (he : 1 ≤ e ∧ e ≤ 3) (hf : 1 ≤ f ∧ f ≤ 3) :
    W.ix (D.lst [.int a, .int b, .int c, .int d, .int e, .int f]) (.int (m : Int)) k := by
  have go : ∀ x : Int, 1 ≤ x ∧ x ≤ 3 → k (.int x) := fun x hx => by
    obtain ⟨i, rfl⟩ := Int.eq_ofNat_of_zero_le (by omega : 0 ≤ x)
    exact h i (by omega) (by omega)
  match m, hm with
  | 0, _ => exact q_ixL (i := 0) rfl (go _ ha)
  | 1, _ => exact q_ixL (i := 1) rfl (go _ hb)
  | 2, _ => exact q_ixL (i := 2) rfl (go _ hc)
  | 3, _ => exact q_ixL (i := 3) rfl (go _ hd)
  | 4, _ => exact q_ixL (i := 4) rfl (go _ he)
  | 5, _ => exact q_ixL (i := 5) rfl (go _ hf)
  | m + 6, hm => omega
theorem q_range {n : Nat} {k : List D → Prop} (hn : n < 2 ^ 60) (h : k ((List.range n).map natD)) : W.range1 (.int (n : Int)) k := by
  refine ⟨⟨by omega, by omega⟩, ?_⟩
  have e : rangeD 0 (Int.toNat (n : Int)) = (List.range n).map natD := by
    rw [Int.toNat_natCast]
    refine List.ext_getElem? fun i => ?_
    by_cases hi : i < n
    · obtain ⟨x, hx⟩ : ∃ x, (rangeD 0 n)[i]? = some x := ⟨_, List.getElem?_eq_getElem (by rw [rangeD_len]; exact hi)⟩
      rw [hx, (rangeD_get hx).2, List.getElem?_map, List.getElem?_range hi]
      simp
    · rw [List.getElem?_eq_none (by rw [rangeD_len]; omega), List.getElem?_eq_none (by rw [List.length_map, List.length_range]; omega)]
  rw [e]
  exact h
theorem q_tupleOf {xs : List D} {k : D → Prop} (h : k (.tup xs)) : W.tupleOf [.lst xs] k := h
theorem q_part {i : Int} {k : Option Int → Prop} (h : k (some i)) : W.part (.int i) k := h
theorem q_slTo {α : Type} {f : α → D} {us : List α} {n : Nat} {k : D → Prop} (h : k (.lst ((us.take n).map f))) : W.sl (.lst (us.map f)) none (some (n : Int)) k := by
  show k (.lst (cutD _ _ _))
  rw [cut_to]
  exact h
theorem q_bool {b : Bool} {k : Bool → Prop} (t : k true) (f : k false) : k b := by
  cases b
  · exact f
  · exact t
theorem q_joinB {m : (Bool → Prop) → Prop} {p q : Prop} (hm : ∀ k : Bool → Prop, k true → k false → m k) (hp : p) (hq : q) : W.join m fun b => W.ite b p q :=
  hm _ (q_T hp) (q_F hq)
theorem SomeSets.mono {ns : List Str} {n m : Nat} {zs : List (List Str)} (h : SomeSets ns n zs) (le : n ≤ m) : SomeSets ns m zs := ⟨Nat.le_trans h.1 le, h.2⟩
theorem SomeSets.append {ns : List Str} {n m : Nat} {zs ys : List (List Str)} (h : SomeSets ns n zs) (g : SomeSets ns m ys) : SomeSets ns (n + m) (zs ++ ys) := ⟨by rw [List.length_append]; exact Nat.add_le_add h.1 g.1, fun z hz => (List.mem_append.mp hz).elim (h.2 z) (g.2 z)⟩
theorem SomeSets.one {ns z : List Str} (hl : z.length ≤ 8) (h : ∀ s ∈ z, s ∈ ns) : SomeSets ns 1 [z] := ⟨Nat.le_refl _, fun y hy => by
  rw [List.mem_singleton.mp hy]
  exact ⟨hl, h⟩⟩
theorem some_map {ns : List Str} {l : List Str} {n : Nat} {f : Str → List Str} (hl : l.length ≤ n) (h : ∀ s ∈ l, (f s).length ≤ 8 ∧ ∀ t ∈ f s, t ∈ ns) : SomeSets ns n (l.map f) := ⟨by rw [List.length_map]; exact hl, fun z hz => by
  obtain ⟨s, hs, rfl⟩ := List.mem_map.mp hz
  exact h s hs⟩
theorem m_sets {ns : List Str} {k : D → Prop} (hl : ns.length ≤ 8) (h : ∀ zs : List (List Str), SomeSets ns 20 zs → k (.lst (zs.map tupS))) : p__law_sets (.lst (ns.map D.str)) k := by
  have s1 : (2000 : Nat) < sizeLine := by decide
  have s60 : (2000 : Nat) < 2 ^ 60 := by decide
  have one : k (.lst [.tup []]) := h [[]] ((SomeSets.one (z := []) (by decide) fun s hs => nomatch hs).mono (by decide))
  have nil : k (.lst []) := h [] ⟨by decide, fun z hz => nomatch hz⟩
  have el : (ns.map D.str).length = ns.length := List.length_map _
  unfold p__law_sets
  refine q_draw (by decide) (by decide) fun m hm => q_joinB (fun k t f => q_eqI (q_t (q_dec (fun _ => t) fun _ => q_lenL el (q_eqI (q_t (q_bool t f)))))) (q_none one nil) (q_mixed (.inl rfl) (by omega) fun us pm => ?_)
  have s5 : (us.take 5).length ≤ 5 := by rw [List.length_take]; omega
  have m5 : ∀ s ∈ us.take 5, s ∈ ns := fun s hs => pm.mem_iff.mp (List.mem_of_mem_take hs)
  refine q_part (q_slTo (n := 5) (q_joinB (fun k t f => q_eqI (q_t (q_dec (fun _ => q_lenL el (q_ii (q_t (q_bool t f)))) fun _ => f))) ?_ ?_))
  · -- pairs
    generalize us.take 5 = l at s5 m5
    have tl : (l.take 4).length ≤ 4 := by rw [List.length_take]; omega
    refine q_part (q_slTo (n := 4) (q_lenL (n := (l.take 4).length) (by rw [List.length_map]) (q_range (by omega) (q_forI (fun xs s => ∃ zs, s = zs.map tupS ∧ SomeSets ns (20 - 5 * xs.length) zs ∧ xs.length ≤ 4 ∧ ∀ x ∈ xs, ∃ i : Nat, x = natD i ∧ i < l.length) ?_ ?_ ?_))))
    · rintro s ⟨zs, rfl, ss, _⟩
      exact h zs (ss.mono (by omega))
    · rintro x xs s n ⟨zs, rfl, ss, hl4, hx⟩ hn
      obtain ⟨i, rfl, hi⟩ := hx x List.mem_cons_self
      rw [List.length_cons] at ss hl4
      have ti : (l.take i).length ≤ 5 := by rw [List.length_take]; omega
      refine q_part (q_slTo (n := i) (q_seq (.inl rfl) (q_comp D.str (fun s => some (tupS [l[i], s])) (by omega) (fun s hs q hq => q_ixL (i := i) (d := .str l[i]) ?_ hq) ?_)))
      · rw [List.getElem?_map, List.getElem?_eq_getElem hi]
        rfl
      · rw [filterMap_some]
        have sz := ss.1
        refine ⟨_, rfl, by rw [List.length_map, List.length_map]; omega, hn _ ⟨zs ++ (l.take i).map fun s => [l[i], s], ?_, ?_, by omega, fun x hm => hx x (List.mem_cons_of_mem _ hm)⟩⟩
        · rw [List.map_append, List.map_map]
          rfl
        · refine (ss.append (some_map (n := 5) ti fun s hs => ⟨by show 2 ≤ 8; omega, fun t ht => ?_⟩)).mono (by omega)
          rcases List.mem_cons.mp ht with rfl | ht
          · exact m5 _ (List.getElem_mem hi)
          · rw [List.mem_singleton.mp ht]
            exact m5 s (List.mem_of_mem_take hs)
    · refine ⟨[], rfl, ⟨Nat.zero_le _, fun z hz => nomatch hz⟩, by rw [List.length_map, List.length_range]; exact tl, fun x hx => ?_⟩
      obtain ⟨i, hi, rfl⟩ := List.mem_map.mp hx
      refine ⟨i, rfl, ?_⟩
      have := List.mem_range.mp hi
      rw [List.length_take] at this
      omega
  · generalize us.take 5 = l at s5 m5
    refine q_in23 (q_t (q_dec (fun h23 => ?_) fun h23 => ?_))
    · have all : k (.lst [tupS ns]) := h [ns] ((SomeSets.one hl fun s hs => hs).mono (by decide))
      have singles : k (.lst (l.map fun s => tupS [s])) := by
        have := h (l.map fun s => [s]) (some_map (by omega) fun s hs => ⟨by show 1 ≤ 8; omega, fun t ht => by rw [List.mem_singleton.mp ht]; exact m5 s hs⟩)
        rw [List.map_map] at this
        exact this
      refine q_tupleOf (q_seq (.inl rfl) (q_comp D.str (fun s => some (tupS [s])) (by omega) (fun s hs q hq => hq) ?_))
      rw [filterMap_some]
      rcases h23 with rfl | rfl
      · exact q_ii (q_ixL (i := 0) rfl all)
      · exact q_ii (q_ixL (i := 1) rfl singles)
    · refine q_draw (by decide) (by decide) fun m2 hm2 => q_ixN hm2 (fun t t1 t3 => q_range (by omega) (q_forI (fun xs s => ∃ zs, s = zs.map tupS ∧ SomeSets ns (3 - xs.length) zs ∧ xs.length ≤ 3) ?_ ?_ ?_)) (by decide) (by decide) (by decide) (by decide) (by decide) (by decide)
      · rintro s ⟨zs, rfl, ss, _⟩
        exact h zs (ss.mono (by omega))
      · rintro x xs s n ⟨zs, rfl, ss, hl3⟩ hn
        rw [List.length_cons] at ss hl3
        refine q_mixed (.inl rfl) (by omega) fun vs pv => q_draw (by decide) (by decide) fun m3 hm3 => q_ixN hm3 (fun t t1 t3 => q_part (q_slTo (n := t) ?_)) (by decide) (by decide) (by decide) (by decide) (by decide) (by decide)
        have sz := ss.1
        refine (show (zs.map tupS).length < sizeLine ∧ n (zs.map tupS ++ [tupS (vs.take t)]) from ⟨by rw [List.length_map]; omega, hn _ ⟨zs ++ [vs.take t], by rw [List.map_append]; rfl, ?_, by omega⟩⟩)
        refine (ss.append (SomeSets.one ?_ fun s hs => pv.mem_iff.mp (List.mem_of_mem_take hs))).mono (by omega)
        rw [List.length_take]
        omega
      · exact ⟨[], rfl, ⟨Nat.zero_le _, fun z hz => nomatch hz⟩, by rw [List.length_map, List.length_range]; exact t3⟩
end Dw

/-! TxtF: texts put together are sound and short. -/
namespace Dw
open PySem PySem.Builtin PySem.Builtin.Str PyProof.Rows
end Dw

/-! M05m: rules met are short and sound; given and lacking hold where they should. -/
namespace Dw
open PySem PySem.Spec PyProof.Rows L2
theorem ok_name5 {w : List Nat} (h : Name w) : D.ok 0 70 (.str (tx w)) := by
  refine ⟨?_, Nat.le_refl _, ?_⟩
  · show PyData.strOk (tx w) = true
    show (tx w).cps.all (· < 0x110000) = true
    rw [Array.all_eq_true']
    intro c hc
    have := h.1 c (by simpa [tx] using hc)
    exact decide_eq_true (by omega)
  · show (reprText (tx w)).length ≤ 70
    refine Nat.le_trans (PySem.StrLaws.reprText_len (tx w) fun c hc => ?_) ?_
    · have := h.1 c (by simpa [tx] using hc)
      omega
    · rw [tx_len]
      have := h.2.2.1
      omega
def NameS (s : Str) : Prop := ∃ w, Name w ∧ s = tx w
theorem NameS.ok {s : Str} (h : NameS s) : D.ok 0 70 (.str s) := by
  obtain ⟨w, hw, rfl⟩ := h
  exact ok_name5 hw
theorem NameS.len {s : Str} (h : NameS s) : s.length ≤ 6 := by
  obtain ⟨w, hw, rfl⟩ := h
  rw [tx_len]
  exact hw.2.2.1
theorem NameS.strOk {s : Str} (h : NameS s) : PyData.strOk s = true := h.ok.1
/-! where rules hold -/
end Dw

/-! M05p: rows compared; short ways in laws of rules. -/
namespace Dw
open PySem PySem.Spec PyProof.Rows L2
theorem q_addI {a b : Nat} {k : D → Prop} (h : k (.int ((a + b : Nat) : Int))) : W.add (.int (a : Int)) (.int (b : Int)) k := by
  show k (.int ((a : Int) + (b : Int)))
  rw [← Int.natCast_add]
  exact h
theorem q_addL {α : Type} {f : α → D} {a b : List α} {k : D → Prop} (hz : a.length + b.length ≤ sizeLine) (h : k (.lst ((a ++ b).map f))) : W.add (.lst (a.map f)) (.lst (b.map f)) k := by
  refine (show (a.map f).length + (b.map f).length ≤ sizeLine ∧ k (.lst (a.map f ++ b.map f)) from ⟨by rw [List.length_map, List.length_map]; exact hz, ?_⟩)
  rw [← List.map_append]
  exact h
theorem q_nt {b : Bool} {k : Bool → Prop} (h : k (!b)) : W.nt b k := h
theorem q_isRule {c : Cn} {rows : List (List Str)} {ys : List Str} {k : D → Prop} (hk : c.kit (.ref c.Rule) (.ref c.Rule) = some true) (h : k (.bl true)) : W.isi c.kit (.ref c.Rule) (ruleD c rows ys) k := ⟨⟨true, (fun z => nomatch z), hk, h⟩⟩
/-! rows of texts compared -/
theorem eqv_strs : ∀ (a b : List Str), PyData.eqvAll (a.map PyData.str) (b.map PyData.str) = decide (a = b)
  | [], [] => rfl
  | [], b :: bs => by rw [decide_eq_false (fun z => nomatch z)]; rfl
  | a :: as, [] => by rw [decide_eq_false (fun z => nomatch z)]; rfl
  | a :: as, b :: bs => by
    rw [List.map_cons, List.map_cons, PySem.W.eqv_all_cons, eqv_strs as bs, Bool.eq_iff_iff, Bool.and_eq_true, decide_eq_true_eq, decide_eq_true_eq]
    have e : PyData.eqv (.str a) (.str b) = true ↔ a = b := by simp [PyData.eqv]
    rw [e]
    exact ⟨fun ⟨h1, h2⟩ => by rw [h1, h2], fun h => List.cons.inj h⟩
theorem eqv_tupS (a b : List Str) : PyData.eqv (tupS a).py (tupS b).py = decide (a = b) := by
  rw [tupS_py, tupS_py]
  exact eqv_strs a b
theorem eqv_rowsL : ∀ (a b : List (List Str)), PyData.eqvAll (D.pyL (a.map tupS)) (D.pyL (b.map tupS)) = decide (a = b)
  | [], [] => rfl
  | [], b :: bs => by rw [decide_eq_false (fun z => nomatch z)]; rfl
  | a :: as, [] => by rw [decide_eq_false (fun z => nomatch z)]; rfl
  | a :: as, b :: bs => by
    show PyData.eqvAll ((tupS a).py :: D.pyL (as.map tupS)) ((tupS b).py :: D.pyL (bs.map tupS)) = _
    rw [PySem.W.eqv_all_cons, eqv_rowsL as bs, eqv_tupS, Bool.eq_iff_iff, Bool.and_eq_true, decide_eq_true_eq, decide_eq_true_eq, decide_eq_true_eq]
    exact ⟨fun ⟨h1, h2⟩ => by rw [h1, h2], fun h => List.cons.inj h⟩
theorem q_eqR {a b : List (List Str)} {k : D → Prop} (ha : ∀ z ∈ a, Oks z) (hb : ∀ z ∈ b, Oks z) (h : k (.bl (decide (a = b)))) : W.eq (.tup (a.map tupS)) (.tup (b.map tupS)) k := by
  refine .inr ⟨deep_rows ha, deep_rows hb, ?_⟩
  have e : PyData.eqv (D.tup (a.map tupS)).py (D.tup (b.map tupS)).py = decide (a = b) := eqv_rowsL a b
  rw [e]
  exact h
end Dw

/-! M05cg: rules with a name given or lacking; what only the law of these asks. -/
namespace Dw
open PySem PySem.Spec PyProof.Rows L2
end Dw

/-! Masks: what a mask leaves of another, what remains that holds itself, tables over all masks. Plain Lean, nothing of the layer. -/
namespace Dw
/-- a is within b, bit by bit -/
def Sub (a b : Nat) : Prop := ∀ i, a.testBit i = true → b.testBit i = true
theorem Sub.rfl' {a : Nat} : Sub a a := fun _ h => h
theorem Sub.trans {a b c : Nat} (h : Sub a b) (g : Sub b c) : Sub a c := fun i hi => g i (h i hi)
theorem Sub.anti {a b : Nat} (h : Sub a b) (g : Sub b a) : a = b := Nat.eq_of_testBit_eq fun i => by
  cases e : a.testBit i with
  | true => exact (h i e).symm
  | false =>
    cases f : b.testBit i with
    | false => rfl
    | true =>
      rw [g i f] at e
      cases e
theorem sub_within {a b : Nat} : within a b = true ↔ Sub a b := within_bits
theorem Sub.le {a b : Nat} (h : Sub a b) : a ≤ b := within_le (sub_within.mpr h)
/-- m without s -/
def less (m s : Nat) : Nat := m ^^^ (m &&& s)
theorem less_bit (m s i : Nat) : (less m s).testBit i = (m.testBit i && !s.testBit i) := by
  unfold less
  rw [Nat.testBit_xor, Nat.testBit_and]
  cases m.testBit i <;> cases s.testBit i <;> rfl
theorem or_add_and (a b : Nat) : (a ||| b) + (a &&& b) = a + b := by
  induction a using Nat.strongRecOn generalizing b with
  | ind a ih =>
    by_cases h0 : a = 0
    · subst h0
      simp
    · have h1 := ih (a / 2) (by omega) (b / 2)
      have e1 : (a ||| b) = 2 * (a / 2 ||| b / 2) + (a % 2 ||| b % 2) := by
        refine Nat.eq_of_testBit_eq fun i => ?_
        cases i with
        | zero =>
          rw [Nat.testBit_or, Nat.testBit_zero, Nat.testBit_zero, Nat.testBit_zero]
          have ha := Nat.mod_two_eq_zero_or_one a
          have hb := Nat.mod_two_eq_zero_or_one b
          rcases ha with ha | ha <;> rcases hb with hb | hb <;> simp [ha, hb] <;> omega
        | succ i =>
          rw [Nat.testBit_or, Nat.testBit_succ, Nat.testBit_succ, Nat.testBit_succ]
          have : (2 * (a / 2 ||| b / 2) + (a % 2 ||| b % 2)) / 2 = (a / 2 ||| b / 2) := by
            have ha := Nat.mod_two_eq_zero_or_one a
            have hb := Nat.mod_two_eq_zero_or_one b
            rcases ha with ha | ha <;> rcases hb with hb | hb <;> simp [ha, hb] <;> omega
          rw [this, Nat.testBit_or]
      have e2 : (a &&& b) = 2 * (a / 2 &&& b / 2) + (a % 2 &&& b % 2) := by
        refine Nat.eq_of_testBit_eq fun i => ?_
        cases i with
        | zero =>
          rw [Nat.testBit_and, Nat.testBit_zero, Nat.testBit_zero, Nat.testBit_zero]
          have ha := Nat.mod_two_eq_zero_or_one a
          have hb := Nat.mod_two_eq_zero_or_one b
          rcases ha with ha | ha <;> rcases hb with hb | hb <;> simp [ha, hb] <;> omega
        | succ i =>
          rw [Nat.testBit_and, Nat.testBit_succ, Nat.testBit_succ, Nat.testBit_succ]
          have : (2 * (a / 2 &&& b / 2) + (a % 2 &&& b % 2)) / 2 = (a / 2 &&& b / 2) := by
            have ha := Nat.mod_two_eq_zero_or_one a
            have hb := Nat.mod_two_eq_zero_or_one b
            rcases ha with ha | ha <;> rcases hb with hb | hb <;> simp [ha, hb] <;> omega
          rw [this, Nat.testBit_and]
      have e3 : (a % 2 ||| b % 2) + (a % 2 &&& b % 2) = a % 2 + b % 2 := by
        have ha := Nat.mod_two_eq_zero_or_one a
        have hb := Nat.mod_two_eq_zero_or_one b
        rcases ha with ha | ha <;> rcases hb with hb | hb <;> simp [ha, hb]
      omega
theorem less_sub (m s : Nat) : less m s = m - (m &&& s) := by
  have h := or_add_and (less m s) (m &&& s)
  have e1 : (less m s ||| (m &&& s)) = m := Nat.eq_of_testBit_eq fun i => by
    rw [Nat.testBit_or, less_bit, Nat.testBit_and]
    cases m.testBit i <;> cases s.testBit i <;> rfl
  have e2 : (less m s &&& (m &&& s)) = 0 := Nat.eq_of_testBit_eq fun i => by
    rw [Nat.testBit_and, less_bit, Nat.testBit_and, Nat.zero_testBit]
    cases m.testBit i <;> cases s.testBit i <;> rfl
  rw [e1, e2] at h
  omega
theorem less_le (m s : Nat) : Sub (less m s) m := fun i h => by
  rw [less_bit, Bool.and_eq_true] at h
  exact h.1
theorem less_nil {m s : Nat} : less m s = 0 ↔ Sub m s := by
  constructor
  · intro h i hi
    have := congrArg (fun x => x.testBit i) h
    simp only [less_bit, hi, Nat.zero_testBit, Bool.true_and, Bool.not_eq_false'] at this
    exact this
  · intro h
    refine Nat.eq_of_testBit_eq fun i => ?_
    rw [less_bit, Nat.zero_testBit]
    cases e : m.testBit i with
    | false => rfl
    | true => rw [h i e]; rfl
theorem xor_less {m s : Nat} : m ^^^ less m s = (m &&& s) := Nat.eq_of_testBit_eq fun i => by
  rw [Nat.testBit_xor, less_bit, Nat.testBit_and]
  cases m.testBit i <;> cases s.testBit i <;> rfl
theorem sub_or_l {a b : Nat} : Sub a (a ||| b) := fun i h => by rw [Nat.testBit_or, h]; rfl
theorem sub_or_r {a b : Nat} : Sub b (a ||| b) := fun i h => by rw [Nat.testBit_or, h, Bool.or_true]
theorem or_sub {a b c d : Nat} (h : Sub a c) (g : Sub b d) : Sub (a ||| b) (c ||| d) := fun i hi => by
  rw [Nat.testBit_or, Bool.or_eq_true] at hi ⊢
  exact hi.imp (h i) (g i)
theorem and_sub_l {a b : Nat} : Sub (a &&& b) a := fun i h => by
  rw [Nat.testBit_and, Bool.and_eq_true] at h
  exact h.1
theorem sub_and {a b c : Nat} (h : Sub a b) (g : Sub a c) : Sub a (b &&& c) := fun i hi => by rw [Nat.testBit_and, h i hi, g i hi]; rfl
/-! ### what remains -/
/-- more is held up by more -/
def Mono (sup : Nat → Nat) : Prop := ∀ a b, Sub a b → Sub (sup a) (sup b)
/-- k holds itself, with p held from outside -/
def Holds (sup : Nat → Nat) (p k : Nat) : Prop := Sub k (sup k ||| p)
/-- r: the greatest part of m that holds itself under p -/
structure IsRest (sup : Nat → Nat) (m p r : Nat) : Prop where
  le : Sub r m
  ok : Holds sup p r
  top : ∀ k, Sub k m → Holds sup p k → Sub k r
section
variable {sup : Nat → Nat} {m p r m' p' r' q x : Nat}
theorem IsRest.eq (h : IsRest sup m p r) (g : IsRest sup m p r') : r = r' := (g.top r h.le h.ok).anti (h.top r' g.le g.ok)
theorem Holds.more (hm : Mono sup) (h : Holds sup p r) (g : Sub p p') : Holds sup p' r := h.trans (or_sub .rfl' g)
theorem IsRest.mono (hm : Mono sup) (h : IsRest sup m p r) (g : IsRest sup m' p' r') (h1 : Sub m m') (h2 : Sub p p') : Sub r r' := g.top r (h.le.trans h1) (h.ok.more hm h2)
theorem IsRest.self (h : Holds sup p m) : IsRest sup m p m := ⟨.rfl', h, fun k hk _ => hk⟩
theorem less_mono (h : Sub m m') : Sub (less m x) (less m' x) := fun i hi => by
  rw [less_bit, Bool.and_eq_true] at hi ⊢
  exact ⟨h i hi.1, hi.2⟩
/-- a fall after a fall is one fall, when no prop is added -/
theorem IsRest.step (hm : Mono sup) (h : IsRest sup m p r) (g : IsRest sup (less r x) q r') (hq : Sub q p) : IsRest sup (less m x) q r' :=
  ⟨g.le.trans (less_mono h.le), g.ok, fun k hk ok => g.top k (fun i hi => by
    have h1 := hk i hi
    rw [less_bit, Bool.and_eq_true] at h1
    rw [less_bit, Bool.and_eq_true]
    exact ⟨h.top k (fun j hj => (less_le m x) j (hk j hj)) (ok.more hm hq) i hi, h1.2⟩) ok⟩
/-- one turn: what is not held goes -/
theorem IsRest.turn (hm : Mono sup) (h : IsRest sup (m &&& (sup m ||| p)) p r) : IsRest sup m p r :=
  ⟨h.le.trans and_sub_l, h.ok, fun k hk ok => h.top k (sub_and hk (ok.trans (or_sub (hm k m hk) .rfl'))) ok⟩
end
end Dw
namespace Dw
/-! ### tables over all masks of n bits -/
/-- bit i of the m-th number tells f m i -/
def TabOf (n : Nat) (f : Nat → Nat → Prop) (t : List Nat) : Prop := t.length = 2 ^ n ∧ ∀ m, m < 2 ^ n → ∀ i, (t.getD m 0).testBit i = true ↔ f m i
theorem TabOf.imp {n : Nat} {f g : Nat → Nat → Prop} {t : List Nat} (h : TabOf n f t) (e : ∀ m i, m < 2 ^ n → (f m i ↔ g m i)) : TabOf n g t := ⟨h.1, fun m hm i => (h.2 m hm i).trans (e m i hm)⟩
theorem tab_zero {n : Nat} : TabOf n (fun _ _ => False) (List.replicate (2 ^ n) 0) := ⟨List.length_replicate, fun m hm i => by
  rw [List.getD_eq_getElem?_getD, List.getElem?_replicate, if_pos hm]
  simp⟩
theorem tab_put {n : Nat} {f : Nat → Nat → Prop} {t : List Nat} {m0 a : Nat} (h : TabOf n f t) (h0 : m0 < 2 ^ n) : TabOf n (fun m i => f m i ∨ (m = m0 ∧ i = a)) (t.set m0 (t.getD m0 0 ||| 2 ^ a)) := by
  refine ⟨by rw [List.length_set]; exact h.1, fun m hm i => ?_⟩
  rw [List.getD_eq_getElem?_getD]
  by_cases e : m0 = m
  · subst e
    rw [List.getElem?_set_self (by rw [h.1]; exact h0), Option.getD_some, Nat.testBit_or, Bool.or_eq_true, h.2 m0 h0 i, Nat.testBit_two_pow]
    simp [eq_comm]
  · rw [List.getElem?_set_ne e, ← List.getD_eq_getElem?_getD, h.2 m hm i]
    constructor
    · exact .inl
    · rintro (h | ⟨q, _⟩)
      · exact h
      · exact absurd q.symm e
/-- one step of the sums over what is within -/
def zstep (t : List Nat) (a : Nat) : List Nat := t.mapIdx fun m w => w ||| t.getD (less m (2 ^ a)) 0
theorem tab_step {n a : Nat} {f : Nat → Nat → Prop} {t : List Nat} (h : TabOf n f t) : TabOf n (fun m i => f m i ∨ f (less m (2 ^ a)) i) (zstep t a) := by
  refine ⟨by unfold zstep; rw [List.length_mapIdx]; exact h.1, fun m hm i => ?_⟩
  have hl : less m (2 ^ a) < 2 ^ n := by
    have := Sub.le (less_le m (2 ^ a))
    omega
  have e : (zstep t a).getD m 0 = t.getD m 0 ||| t.getD (less m (2 ^ a)) 0 := by
    have hx : t[m]? = some (t.getD m 0) := by
      rw [List.getD_eq_getElem?_getD, List.getElem?_eq_getElem (by rw [h.1]; exact hm)]
      rfl
    unfold zstep
    rw [List.getD_eq_getElem?_getD (l := t.mapIdx _), List.getElem?_mapIdx, hx]
    rfl
  rw [e, Nat.testBit_or, Bool.or_eq_true, h.2 m hm i, h.2 _ hl i]
/-- after k steps -/
def zsum (k : Nat) (f : Nat → Nat → Prop) (m i : Nat) : Prop := ∃ s, Sub s m ∧ (∀ j, k ≤ j → s.testBit j = m.testBit j) ∧ f s i
theorem zsum_zero {f : Nat → Nat → Prop} {m i : Nat} : zsum 0 f m i ↔ f m i := ⟨fun ⟨s, _, e, h⟩ => by
  have : s = m := Nat.eq_of_testBit_eq fun j => e j (Nat.zero_le _)
  rw [← this]
  exact h, fun h => ⟨m, .rfl', fun _ _ => rfl, h⟩⟩
theorem zsum_succ {f : Nat → Nat → Prop} {k m i : Nat} : (zsum k f m i ∨ zsum k f (less m (2 ^ k)) i) ↔ zsum (k + 1) f m i := by
  constructor
  · rintro (⟨s, h1, h2, h3⟩ | ⟨s, h1, h2, h3⟩)
    · exact ⟨s, h1, fun j hj => h2 j (by omega), h3⟩
    · refine ⟨s, h1.trans (less_le _ _), fun j hj => ?_, h3⟩
      rw [h2 j (by omega), less_bit, Nat.testBit_two_pow]
      have : decide (k = j) = false := decide_eq_false (by omega)
      rw [this]
      simp
  · rintro ⟨s, h1, h2, h3⟩
    by_cases e : s.testBit k = m.testBit k
    · refine .inl ⟨s, h1, fun j hj => ?_, h3⟩
      by_cases ej : k = j
      · rw [← ej]; exact e
      · exact h2 j (by omega)
    · have sk : s.testBit k = false := by
        cases q : s.testBit k with
        | false => rfl
        | true =>
          rw [q, h1 k q] at e
          exact absurd rfl e
      refine .inr ⟨s, fun j hj => ?_, fun j hj => ?_, h3⟩
      · rw [less_bit, h1 j hj, Nat.testBit_two_pow]
        have : decide (k = j) = false := decide_eq_false fun z => by
          rw [← z, sk] at hj
          cases hj
        rw [this]
        rfl
      · rw [less_bit, Nat.testBit_two_pow]
        by_cases ej : k = j
        · subst ej
          rw [sk]
          simp
        · rw [h2 j (by omega), decide_eq_false ej]
          simp
theorem zsum_all {f : Nat → Nat → Prop} {n m i : Nat} (hm : m < 2 ^ n) : zsum n f m i ↔ ∃ s, Sub s m ∧ f s i := by
  constructor
  · rintro ⟨s, h1, _, h3⟩
    exact ⟨s, h1, h3⟩
  · rintro ⟨s, h1, h3⟩
    refine ⟨s, h1, fun j hj => ?_, h3⟩
    have e : m.testBit j = false := Nat.testBit_lt_two_pow (Nat.lt_of_lt_of_le hm (Nat.pow_le_pow_right (by decide) hj))
    rw [e]
    cases q : s.testBit j with
    | false => rfl
    | true =>
      rw [h1 j q] at e
      cases e
/-- masks of names -/
theorem mask_lt {α : Type} [DecidableEq α] : ∀ (ns one : List α), maskN ns one < 2 ^ ns.length
  | [], _ => Nat.one_pos
  | n :: ns, one => by
    have h := mask_lt ns one
    show (if n ∈ one then 1 else 0) + 2 * maskN ns one < 2 ^ (ns.length + 1)
    rw [Nat.pow_succ]
    split <;> omega
end Dw

/-! MP: masks as whole numbers; tables of plans. -/
namespace Dw
open PySem PySem.Spec PyProof.Rows L2
/-! ### short ways -/
theorem q_bor {a b : Nat} {k : D → Prop} (h : k (natD (a ||| b))) : W.bor (natD a) (natD b) k := q_ii (by
  rw [Bits.bitOr_pp (by omega) (by omega), Int.toNat_natCast, Int.toNat_natCast]
  exact h)
theorem q_band {a b : Nat} {k : D → Prop} (h : k (natD (a &&& b))) : W.band (natD a) (natD b) k := q_ii (by
  rw [bitAnd_pp (by omega) (by omega), Int.toNat_natCast, Int.toNat_natCast]
  exact h)
theorem q_bxor {a b : Nat} {k : D → Prop} (h : k (natD (a ^^^ b))) : W.bxor (natD a) (natD b) k := q_ii (by
  rw [Bits.bitXor_pp (by omega) (by omega), Int.toNat_natCast, Int.toNat_natCast]
  exact h)
theorem q_inv {s : Nat} {k : D → Prop} (h : k (.int (Builtin.bitNot (s : Int)))) : W.inv (natD s) k := ⟨_, rfl, h⟩
theorem q_bandN {m s : Nat} {k : D → Prop} (h : k (natD (less m s))) : W.band (natD m) (.int (Builtin.bitNot (s : Int))) k := q_ii (by
  rw [bitAnd_not, bitAnd_pp (by omega) (by omega), Int.toNat_natCast, Int.toNat_natCast]
  have e : ((m : Int) - ((m &&& s : Nat) : Int)) = ((less m s : Nat) : Int) := by
    rw [less_sub]
    have : m &&& s ≤ m := Nat.and_le_left
    omega
  rw [e]
  exact h)
theorem q_shl1 {a : Nat} {k : D → Prop} (ha : a ≤ 1000000) (h : k (natD (2 ^ a))) : W.shl (D.int 1) (natD a) k := q_iiC ⟨by omega, by omega, by decide⟩ (by
  have e : (1 : Int) * 2 ^ ((a : Int)).toNat = ((2 ^ a : Nat) : Int) := by
    rw [Int.toNat_natCast, Int.one_mul]
    push_cast
    rfl
  rw [e]
  exact h)
theorem q_times0 {n : Nat} {k : List D → Prop} (hn : n ≤ 16777216) (hs : n ≤ sizeLine) (h : k ((List.replicate n 0).map natD)) : W.times [(D.int 0)] (natD n) k := ⟨n, rfl, hn, by simpa using hs, by
  have e : (List.replicate n [D.int 0]).flatten = (List.replicate n 0).map natD := by
    rw [List.flatten_replicate_singleton, List.map_replicate]
    rfl
  rw [e]
  exact h⟩
theorem q_eqN {a b : Nat} {k : D → Prop} (h : k (.bl (decide (a = b)))) : W.eq (natD a) (natD b) k := q_eqI (by
  have e : decide ((a : Int) = (b : Int)) = decide (a = b) := decide_eq_decide.mpr ⟨fun z => by omega, fun z => by omega⟩
  rw [e]
  exact h)
theorem q_neN {a b : Nat} {k : D → Prop} (h : k (.bl (!decide (a = b)))) : W.ne (natD a) (natD b) k := q_neI (by
  have e : decide ((a : Int) = (b : Int)) = decide (a = b) := decide_eq_decide.mpr ⟨fun z => by omega, fun z => by omega⟩
  rw [e]
  exact h)
/-- a loop over a row, by what holds when i of it are done -/
theorem q_forA {α S : Type} {body : D → S → (S → Prop) → (S → Prop) → Prop} {p : S → Prop} (F : α → D) {l : List α} (I : Nat → S → Prop) {s0 : S} (h0 : I 0 s0)
    (turn : ∀ i a s (n : S → Prop), l[i]? = some a → I i s → (∀ s', I (i + 1) s' → n s') → body (F a) s n p) (fin : ∀ s, I l.length s → p s) : W.forL body (l.map F) s0 p := by
  have go : ∀ (l2 l1 : List α) (s : S), l = l1 ++ l2 → I l1.length s → W.forL body (l2.map F) s p := by
    intro l2
    induction l2 with
    | nil =>
      intro l1 s e h
      rw [List.append_nil] at e
      subst e
      exact fin s h
    | cons a l2 ih =>
      intro l1 s e h
      refine turn l1.length a s _ (by rw [e, List.getElem?_append_right (Nat.le_refl _), Nat.sub_self]; rfl) h fun s' h' => ih (l1 ++ [a]) s' (by rw [e]; simp) ?_
      rw [List.length_append, List.length_singleton]
      exact h'
  exact go l [] s0 rfl h0
/-- a walk with numbers -/
theorem enumD_map {α : Type} (F : α → D) (l : List α) : enumD (l.map F) = l.zipIdx.map fun p => D.tup [natD p.2, F p.1] := by
  refine List.ext_getElem? fun i => ?_
  rw [List.getElem?_map, List.getElem?_zipIdx]
  cases e : l[i]? with
  | none =>
    have hi : l.length ≤ i := List.getElem?_eq_none_iff.mp e
    rw [List.getElem?_eq_none (by rw [enumD_len, List.length_map]; exact hi)]
    rfl
  | some a =>
    have hi := (List.getElem?_eq_some_iff.mp e).1
    obtain ⟨x, hx⟩ : ∃ x, (enumD (l.map F))[i]? = some x := ⟨_, List.getElem?_eq_getElem (by rw [enumD_len, List.length_map]; exact hi)⟩
    obtain ⟨y, hy, rfl⟩ := enumD_get hx
    rw [hx]
    rw [List.getElem?_map, e] at hy
    cases hy
    simp
theorem q_enumL {α : Type} {F : α → D} {l : List α} {x : D} {k : List D → Prop} (hx : x = .lst (l.map F) ∨ x = .tup (l.map F)) (h : k (l.zipIdx.map fun p => D.tup [natD p.2, F p.1])) : W.enumA x k := q_seq hx (by rw [enumD_map]; exact h)
theorem zipIdx_get {α : Type} {l : List α} {i : Nat} {p : α × Nat} (h : l.zipIdx[i]? = some p) : p.2 = i ∧ l[i]? = some p.1 := by
  rw [List.getElem?_zipIdx] at h
  obtain ⟨a, ha, rfl⟩ := Option.map_eq_some_iff.mp h
  exact ⟨by simp, ha⟩
theorem zstep_zip (t : List Nat) (a : Nat) : t.zipIdx.map (fun p => natD (p.1 ||| t.getD (less p.2 (2 ^ a)) 0)) = (zstep t a).map natD := by
  unfold zstep
  refine List.ext_getElem? fun i => ?_
  rw [List.getElem?_map, List.getElem?_map, List.getElem?_zipIdx, List.getElem?_mapIdx]
  cases t[i]? with
  | none => rfl
  | some w => simp
theorem q_ixN' {t : List Nat} {x : D} {m : Nat} {k : D → Prop} (hx : x = .lst (t.map natD) ∨ x = .tup (t.map natD)) (hm : m < t.length) (h : k (natD (t.getD m 0))) : W.ix x (natD m) k := by
  have e : (t.map natD)[m]? = some (natD (t.getD m 0)) := by
    rw [List.getElem?_map, List.getD_eq_getElem?_getD, List.getElem?_eq_getElem hm]
    rfl
  rcases hx with rfl | rfl
  · exact q_ixL e h
  · exact q_ixT e h
/-- a rule as it is written: its rows, its names -/
abbrev RuleR := List (List Str) × List Str
def ruleR (c : Cn) (r : RuleR) : D := ruleD c r.1 r.2
/-- what the table of a plan tells: the i-th rule holds of the parts of m -/
def Told0 (ns : List Str) (rs : List RuleR) (m i : Nat) : Prop := ∃ r, rs[i]? = some r ∧ ∃ z ∈ r.1, maskN ns z = m
def Told (ns : List Str) (rs : List RuleR) (m i : Nat) : Prop := ∃ r, rs[i]? = some r ∧ ∃ z ∈ r.1, Sub (maskN ns z) m
theorem m_support {c : Cn} {ns : List Str} {rs : List RuleR} {x y : D} {k : D → Prop} (hx : SeqD x ns) (hn : ns.length ≤ 8) (hy : y = .lst (rs.map (ruleR c)) ∨ y = .tup (rs.map (ruleR c))) (hr : rs.length ≤ 1000)
    (h : ∀ t : List Nat, TabOf ns.length (Told ns rs) t → k (.tup (t.map natD))) : p_support_table c x y k := by
  have s1 : (200001 : Nat) < sizeLine := by decide
  have s60 : (2000 : Nat) < 2 ^ 60 := by decide
  have pw : 2 ^ ns.length ≤ 256 := Nat.pow_le_pow_right (n := 2) (by decide) hn
  have q_lenN : ∀ {k : D → Prop}, k (natD ns.length) → W.len [x] k := fun {k} h => by
    rcases hx with rfl | rfl
    · exact q_lenL (by rw [List.length_map]) h
    · exact q_lenT (by rw [List.length_map]) h
  unfold p_support_table
  refine q_lenN (q_shl1 (by omega) (q_times0 (by omega) (by omega) (q_enumL hy (q_forA _ (fun j s => ∃ t, s = t.map natD ∧ TabOf ns.length (fun m i => i < j ∧ ∃ r, rs[i]? = some r ∧ ∃ z ∈ r.1, maskN ns z = m) t) ?_ ?_ ?_))))
  · exact ⟨_, rfl, tab_zero.imp fun m i _ => ⟨False.elim, fun z => absurd z.1 (by omega)⟩⟩
  · rintro j p s n hp ⟨t, rfl, ht⟩ hnx
    obtain ⟨e2, e1⟩ := zipIdx_get hp
    obtain ⟨r, j'⟩ := p
    obtain rfl : j' = j := e2
    have e1 : rs[j']? = some r := e1
    have hj : j' < rs.length := (List.getElem?_eq_some_iff.mp e1).1
    refine q_un2 (m_fld_least (q_seq (.inr rfl) (q_forA tupS (fun l s => ∃ t, s = t.map natD ∧ TabOf ns.length (fun m i => (i < j' ∧ ∃ r, rs[i]? = some r ∧ ∃ z ∈ r.1, maskN ns z = m) ∨ (i = j' ∧ ∃ z ∈ r.1.take l, maskN ns z = m)) t) ?_ ?_ ?_)))
    · exact ⟨t, rfl, ht.imp fun m i _ => ⟨.inl, fun z => z.elim id fun z => by
        obtain ⟨_, z, hz, _⟩ := z
        rw [List.take_zero] at hz
        exact nomatch hz⟩⟩
    · rintro l z s n2 hz ⟨t2, rfl, ht2⟩ hn2
      have hm := mask_lt ns z
      refine m_maskA hx (.inr rfl) (by omega) (q_ixN' (.inl rfl) (by rw [ht2.1]; exact hm) (q_shl1 (by omega) (q_bor ⟨maskN ns z, rfl, by rw [List.length_map, ht2.1]; exact hm, ?_⟩)))
      rw [← List.map_set]
      refine hn2 _ ⟨_, rfl, (tab_put ht2 hm).imp fun m i _ => ?_⟩
      have hl := (List.getElem?_eq_some_iff.mp hz).1
      have tk : r.1.take (l + 1) = r.1.take l ++ [z] := by
        rw [List.take_add_one, hz]
        rfl
      rw [tk]
      constructor
      · rintro ((a | ⟨a, w, b, d⟩) | ⟨a, b⟩)
        · exact .inl a
        · exact .inr ⟨a, w, List.mem_append_left _ b, d⟩
        · exact .inr ⟨b, z, List.mem_append_right _ (List.mem_singleton.mpr rfl), a.symm⟩
      · rintro (a | ⟨a, w, b, d⟩)
        · exact .inl (.inl a)
        · rcases List.mem_append.mp b with b | b
          · exact .inl (.inr ⟨a, w, b, d⟩)
          · rw [List.mem_singleton.mp b] at d
            exact .inr ⟨d.symm, a⟩
    · rintro s ⟨t2, rfl, ht2⟩
      refine hnx _ ⟨t2, rfl, ht2.imp fun m i _ => ?_⟩
      rw [List.take_length]
      constructor
      · rintro (⟨a, b⟩ | ⟨rfl, b⟩)
        · exact ⟨by omega, b⟩
        · exact ⟨by omega, r, e1, b⟩
      · rintro ⟨a, r', b, d⟩
        by_cases e : i = j'
        · subst e
          rw [e1] at b
          cases b
          exact .inr ⟨rfl, d⟩
        · exact .inl ⟨by omega, r', b, d⟩
  · rintro s ⟨t, rfl, ht⟩
    rw [List.length_zipIdx] at ht
    have ht0 : TabOf ns.length (Told0 ns rs) t := ht.imp fun m i _ => ⟨fun z => z.2, fun ⟨r, a, b⟩ => ⟨(List.getElem?_eq_some_iff.mp a).1, r, a, b⟩⟩
    refine q_lenN (q_range (by omega) (q_forA natD (fun j s => ∃ t, s = D.lst (t.map natD) ∧ TabOf ns.length (zsum j (Told0 ns rs)) t) ⟨t, rfl, ht0.imp fun m i _ => zsum_zero.symm⟩ ?_ ?_))
    · rintro j a s n ha ⟨t2, rfl, ht2⟩ hnx
      have hj : j < ns.length := by
        have := (List.getElem?_eq_some_iff.mp ha).1
        rwa [List.length_range] at this
      rw [List.getElem?_range hj] at ha
      cases ha
      have l2 := ht2.1
      refine q_enumL (.inl rfl) (q_comp _ (fun p => some (natD (p.1 ||| t2.getD (less p.2 (2 ^ j)) 0))) (by rw [List.length_zipIdx]; omega) (fun p hp q hq => ?_) ?_)
      · obtain ⟨i, hi⟩ := List.getElem?_of_mem hp
        obtain ⟨e2, e1⟩ := zipIdx_get hi
        have hlt := (List.getElem?_eq_some_iff.mp e1).1
        have := Sub.le (less_le p.2 (2 ^ j))
        exact q_un2 (q_shl1 (by omega) (q_inv (q_bandN (q_ixN' (.inl rfl) (by omega) (q_bor hq)))))
      · rw [filterMap_some, zstep_zip]
        exact hnx _ ⟨_, rfl, (tab_step ht2).imp fun m i _ => zsum_succ⟩
    · rintro s ⟨t2, rfl, ht2⟩
      rw [List.length_range] at ht2
      refine q_tupleOf (h t2 (ht2.imp fun m i hm => ?_))
      rw [zsum_all hm]
      constructor
      · rintro ⟨s, hs, r, a, z, hz, rfl⟩
        exact ⟨r, a, z, hz, hs⟩
      · rintro ⟨r, a, z, hz, hs⟩
        exact ⟨_, hs, r, a, z, hz, rfl⟩
end Dw

/-! PermM: rows that are images, in another order. Plain Lean. -/
namespace Dw
theorem perm_map {α β : Type} {f : α → β} : ∀ {ys zs : List β}, ys.Perm zs → ∀ l : List α, zs = l.map f → ∃ l' : List α, l'.Perm l ∧ ys = l'.map f := by
  intro ys zs h
  induction h with
  | nil =>
    intro l e
    obtain rfl := List.map_eq_nil_iff.mp e.symm
    exact ⟨[], .nil, rfl⟩
  | cons x h ih =>
    intro l e
    cases l with
    | nil => cases e
    | cons a l =>
      rw [List.map_cons] at e
      obtain ⟨e1, e2⟩ := List.cons.inj e
      obtain ⟨l', p, e3⟩ := ih l e2
      exact ⟨a :: l', p.cons a, by rw [List.map_cons, e1, e3]⟩
  | swap x y t =>
    intro l e
    match l, e with
    | a :: b :: l, e =>
      rw [List.map_cons, List.map_cons] at e
      obtain ⟨e1, e2⟩ := List.cons.inj e
      obtain ⟨e3, e4⟩ := List.cons.inj e2
      exact ⟨b :: a :: l, .swap a b l, by rw [List.map_cons, List.map_cons, e1, e3, e4]⟩
  | trans h1 h2 ih1 ih2 =>
    intro l e
    obtain ⟨l1, p1, e1⟩ := ih2 l e
    obtain ⟨l2, p2, e2⟩ := ih1 l1 e1
    exact ⟨l2, p2.trans p1, e2⟩
end Dw

/-! MI: the masks of all sets, by size, then by places. -/
namespace Dw
open PySem PySem.Spec PyProof.Rows L2
open PySem.W (dataLe dataLt alike alikeAll AllAlike)
/-! ### places -/
abbrev posN (n m : Nat) : List Nat := namesN (List.range n) m
def posI (n m : Nat) : List Int := (posN n m).map fun i : Nat => (i : Int)
def tupN (z : List Nat) : D := .tup (z.map natD)
theorem names_none {α : Type} : ∀ l : List α, namesN l 0 = []
  | [] => rfl
  | a :: l => by
    show (if (0 : Nat).testBit 0 = true then a :: namesN l (0 / 2) else namesN l (0 / 2)) = []
    rw [Nat.zero_testBit, if_neg (by decide)]
    exact names_none l
theorem names_subl {α : Type} : ∀ (l : List α) (m : Nat), (namesN l m).Sublist l
  | [], _ => List.Sublist.refl _
  | a :: l, m => by
    show (if m.testBit 0 = true then a :: namesN l (m / 2) else namesN l (m / 2)).Sublist (a :: l)
    split
    · exact (names_subl l _).cons_cons a
    · exact (names_subl l _).cons a
theorem mask_pos : ∀ {α : Type} [DecidableEq α] {l : List α} {m : Nat}, l.Nodup → m < 2 ^ l.length → maskN l (namesN l m) = m
  | α, _, [], m, _, h => by
    have : m = 0 := by
      rw [List.length_nil, Nat.pow_zero] at h
      omega
    subst this
    rfl
  | α, _, a :: l, m, nd, h => by
    obtain ⟨n1, n2⟩ := List.nodup_cons.mp nd
    rw [List.length_cons, Nat.pow_succ] at h
    have ih := mask_pos (l := l) (m := m / 2) n2 (by omega)
    have less : ∀ z : List α, z.Sublist l → maskN l (a :: z) = maskN l z := fun z _ => Nat.eq_of_testBit_eq fun i => by
      rw [maskN_bit, maskN_bit]
      cases e : l[i]? with
      | none => rfl
      | some b =>
        have : b ≠ a := fun q => n1 (q ▸ List.mem_of_getElem? e)
        refine decide_eq_decide.mpr ⟨fun q => (List.mem_cons.mp q).elim (fun z => absurd z this) id, List.mem_cons_of_mem _⟩
    show (if a ∈ (if m.testBit 0 = true then a :: namesN l (m / 2) else namesN l (m / 2)) then 1 else 0) + 2 * maskN l (if m.testBit 0 = true then a :: namesN l (m / 2) else namesN l (m / 2)) = m
    have tb := Nat.testBit_zero m
    by_cases e : m.testBit 0 = true
    · rw [if_pos e, if_pos List.mem_cons_self, less _ (names_subl l _), ih]
      rw [e] at tb
      have := of_decide_eq_true tb.symm
      omega
    · rw [if_neg e, if_neg fun q => n1 ((names_subl l _).subset q), ih]
      rw [Bool.not_eq_true] at e
      rw [e] at tb
      have := of_decide_eq_false tb.symm
      omega
theorem mask_posN {n m : Nat} (h : m < 2 ^ n) : maskN (List.range n) (posN n m) = m := mask_pos List.nodup_range (by rw [List.length_range]; exact h)
theorem mem_posN {n m i : Nat} : i ∈ posN n m ↔ i < n ∧ m.testBit i = true := by
  have gen : ∀ (l s m : Nat), i ∈ namesN (List.range' s l) m ↔ s ≤ i ∧ i < s + l ∧ m.testBit (i - s) = true := by
    intro l
    induction l with
    | zero =>
      intro s m
      constructor
      · intro z
        cases z
      · rintro ⟨a, b, _⟩
        omega
    | succ l ih =>
      intro s m
      have e : List.range' s (l + 1) = s :: List.range' (s + 1) l := rfl
      rw [e]
      show i ∈ (if m.testBit 0 = true then s :: namesN (List.range' (s + 1) l) (m / 2) else namesN (List.range' (s + 1) l) (m / 2)) ↔ _
      have up : ∀ j, s + 1 ≤ j → ((m / 2).testBit (j - (s + 1)) = m.testBit (j - s)) := fun j hj => by
        rw [← Nat.testBit_succ]
        congr 1
        omega
      by_cases e0 : m.testBit 0 = true
      · rw [if_pos e0, List.mem_cons, ih]
        constructor
        · rintro (rfl | ⟨a, b, c⟩)
          · exact ⟨Nat.le_refl _, by omega, by rw [Nat.sub_self]; exact e0⟩
          · exact ⟨by omega, by omega, by rw [← up i a]; exact c⟩
        · rintro ⟨a, b, c⟩
          by_cases q : i = s
          · exact .inl q
          · exact .inr ⟨by omega, by omega, by rw [up i (by omega)]; exact c⟩
      · rw [if_neg e0, ih]
        constructor
        · rintro ⟨a, b, c⟩
          exact ⟨by omega, by omega, by rw [← up i a]; exact c⟩
        · rintro ⟨a, b, c⟩
          have q : i ≠ s := fun z => by
            rw [z, Nat.sub_self] at c
            exact e0 c
          exact ⟨by omega, by omega, by rw [up i (by omega)]; exact c⟩
  unfold posN
  rw [List.range_eq_range', gen]
  rw [Nat.sub_zero]
  exact ⟨fun ⟨_, b, c⟩ => ⟨by omega, c⟩, fun ⟨b, c⟩ => ⟨by omega, by omega, c⟩⟩
theorem posN_inj {n a b : Nat} (ha : a < 2 ^ n) (hb : b < 2 ^ n) (e : posN n a = posN n b) : a = b := by rw [← mask_posN ha, e, mask_posN hb]
theorem posI_inj {n a b : Nat} (e : posI n a = posI n b) : posN n a = posN n b := List.map_inj_right (fun x y z => by omega) |>.mp e
/-! ### the order -/
def ltM (n a b : Nat) : Prop := (posN n a).length < (posN n b).length ∨ (posN n a).length = (posN n b).length ∧ posI n a < posI n b
theorem ltM_asym (n a b : Nat) (h : ltM n a b) (g : ltM n b a) : False := by
  rcases h with h | ⟨h1, h2⟩ <;> rcases g with g | ⟨g1, g2⟩
  · omega
  · omega
  · omega
  · exact List.lt_asymm h2 g2
structure IsAll (n : Nat) (L : List Nat) : Prop where
  mem : ∀ m, m ∈ L ↔ m < 2 ^ n
  up : L.Pairwise (ltM n)
theorem IsAll.eq {n : Nat} {L L' : List Nat} (h : IsAll n L) (g : IsAll n L') : L = L' := rise_eq (ltM_asym n) h.up g.up fun m => (h.mem m).trans (g.mem m).symm
theorem IsAll.nodup {n : Nat} {L : List Nat} (h : IsAll n L) : L.Nodup := h.up.imp fun {a b} q e => by
  subst e
  exact ltM_asym n a a q q
theorem IsAll.perm {n : Nat} {L : List Nat} (h : IsAll n L) : L.Perm (List.range (2 ^ n)) := by
  refine (List.perm_ext_iff_of_nodup h.nodup List.nodup_range).mpr fun m => ?_
  rw [h.mem, List.mem_range]
theorem IsAll.len {n : Nat} {L : List Nat} (h : IsAll n L) : L.length = 2 ^ n := by rw [h.perm.length_eq, List.length_range]
theorem tri_int {a b : List Int} (h1 : ¬ a < b) (h2 : ¬ b < a) : a = b := List.le_antisymm (List.not_lt.mp h2) (List.not_lt.mp h1)
/-! ### the program's way -/
theorem bit_div (m i : Nat) : decide ((m / 2 ^ i) &&& 1 = 1) = m.testBit i := by
  rw [Nat.testBit_eq_decide_div_mod_eq, Nat.and_one_is_mod]
theorem zip_range {n : Nat} {p : Nat × Nat} (h : p ∈ (List.range n).zipIdx) : p.1 = p.2 ∧ p.1 < n := by
  obtain ⟨i, hi⟩ := List.getElem?_of_mem h
  obtain ⟨a, b⟩ := zipIdx_get hi
  obtain ⟨c, d⟩ := List.getElem?_eq_some_iff.mp b
  rw [List.getElem_range] at d
  rw [List.length_range] at c
  exact ⟨by omega, by omega⟩
theorem zip_filter {n : Nat} (p : Nat → Bool) {β : Type} (F : Nat → β) : (((List.range n).zipIdx.filter fun q => p q.1).map fun q => F q.1) = ((List.range n).filter p).map F := by
  have e : (List.range n) = (List.range n).zipIdx.map (·.1) := (List.zipIdx_map_fst 0 _).symm
  conv => rhs; rw [e]
  rw [List.filter_map, List.map_map]
  rfl
theorem filter_pos {n m : Nat} : ((List.range n).filter fun i => m.testBit i) = posN n m := by
  have e : posN n m = (List.range n).filter fun i => decide (i ∈ posN n m) := (canon_of List.nodup_range (names_subl (List.range n) m)).symm
  rw [e]
  refine List.filter_congr fun i hi => ?_
  rw [Bool.eq_iff_iff, decide_eq_true_eq, mem_posN]
  exact ⟨fun z => ⟨List.mem_range.mp hi, z⟩, fun z => z.2⟩
theorem q_shrP {a b : Nat} {k : D → Prop} (h : k (natD (a / 2 ^ b))) : W.shr (natD a) (natD b) k := q_iiC (by omega) (by
  have e : ((a : Int) / 2 ^ ((b : Nat) : Int).toNat) = ((a / 2 ^ b : Nat) : Int) := by
    rw [Int.toNat_natCast]
    norm_cast
  rw [e]
  exact h)
theorem m_names_g {n m : Nat} {k : D → Prop} (hn : n ≤ 1000) (hk : k (tupN (posN n m))) : p_names_of_g (natD m) (.lst ((List.range n).map natD)) k := by
  have s1 : (2000 : Nat) < sizeLine := by decide
  unfold p_names_of_g
  refine q_enumL (F := natD) (.inl rfl) (q_comp (fun p : Nat × Nat => D.tup [natD p.2, natD p.1]) (fun p => if m.testBit p.1 then some (natD p.1) else none) (by rw [List.length_zipIdx, List.length_range]; omega) (fun p hp q hq => ?_) ?_)
  · obtain ⟨e, _⟩ := zip_range hp
    refine q_un2 (q_shrP (q_band (b := 1) (q_eqN (b := 1) (q_t ?_))))
    rw [bit_div, ← e]
    cases b : m.testBit p.1 with
    | true =>
      rw [b] at hq
      exact q_T hq
    | false =>
      rw [b] at hq
      exact q_F hq
  · rw [filterMap_if, zip_filter, filter_pos]
    exact hk
theorem q_inNat {i : Nat} {z : List Nat} {y : D} {k : D → Prop} (hy : y = .lst (z.map natD) ∨ y = .tup (z.map natD)) {neg : Bool} (h : k (.bl (neg != decide (i ∈ z)))) : W.isIn neg (natD i) y k := by
  refine .inl ⟨z.map natD, hy, rfl, ?_, ?_⟩
  · rw [List.all_map]
    exact List.all_eq_true.mpr fun _ _ => rfl
  · have e : ((z.map natD).any fun y => y.alike (natD i)) = decide (i ∈ z) := by
      rw [List.any_map, Bool.eq_iff_iff, List.any_eq_true, decide_eq_true_eq]
      constructor
      · rintro ⟨a, ha, q⟩
        have q : (((a : Nat) : Int) == ((i : Nat) : Int)) = true := q
        have : a = i := by
          have := eq_of_beq q
          omega
        exact this ▸ ha
      · intro hi
        exact ⟨i, hi, show (((i : Nat) : Int) == ((i : Nat) : Int)) = true from beq_self_eq_true _⟩
    rw [e]
    exact h
theorem sum_pos : ∀ (n s m : Nat), m < 2 ^ n → ((namesN (List.range' s n) m).map fun i => 2 ^ i).sum = 2 ^ s * m
  | 0, s, m, h => by
    have : m = 0 := by omega
    subst this
    rfl
  | n + 1, s, m, h => by
    rw [Nat.pow_succ] at h
    have ih := sum_pos n (s + 1) (m / 2) (by omega)
    have e : List.range' s (n + 1) = s :: List.range' (s + 1) n := rfl
    rw [e]
    show ((if m.testBit 0 = true then s :: namesN (List.range' (s + 1) n) (m / 2) else namesN (List.range' (s + 1) n) (m / 2)).map fun i => 2 ^ i).sum = _
    have tb := Nat.testBit_zero m
    have hp : 2 ^ (s + 1) * (m / 2) = 2 ^ s * (2 * (m / 2)) := by rw [Nat.pow_succ, Nat.mul_assoc]
    by_cases e0 : m.testBit 0 = true
    · rw [e0] at tb
      have := of_decide_eq_true tb.symm
      rw [if_pos e0, List.map_cons, List.sum_cons, ih, hp]
      have : m = 1 + 2 * (m / 2) := by omega
      conv => rhs; rw [this, Nat.mul_add, Nat.mul_one]
    · rw [Bool.not_eq_true] at e0
      rw [e0] at tb
      have := of_decide_eq_false tb.symm
      rw [e0, if_neg (by decide), ih, hp]
      congr 1
      omega
theorem sum_castI : ∀ l : List Nat, (l.map fun n : Nat => (n : Int)).sum = ((l.sum : Nat) : Int)
  | [] => rfl
  | n :: l => by
    rw [List.map_cons, List.sum_cons, List.sum_cons, sum_castI l]
    omega
theorem m_mask_g {n m : Nat} {k : D → Prop} (hn : n ≤ 1000) (hm : m < 2 ^ n) (hk : k (natD m)) : p_mask_of_g (tupN (posN n m)) (.lst ((List.range n).map natD)) k := by
  have s1 : (2000 : Nat) < sizeLine := by decide
  unfold p_mask_of_g
  refine q_enumL (F := natD) (.inl rfl) (q_comp (fun p : Nat × Nat => D.tup [natD p.2, natD p.1]) (fun p => if m.testBit p.1 then some (natD (2 ^ p.1)) else none) (by rw [List.length_zipIdx, List.length_range]; omega) (fun p hp q hq => ?_) ?_)
  · obtain ⟨e, lt⟩ := zip_range hp
    refine q_un2 (q_inNat (.inr rfl) (q_t ?_))
    have eb : decide (p.1 ∈ posN n m) = m.testBit p.1 := by
      rw [Bool.eq_iff_iff, decide_eq_true_eq]
      exact mem_posN.trans ⟨fun z => z.2, fun z => ⟨lt, z⟩⟩
    rw [Bool.false_bne, eb]
    cases b : m.testBit p.1 with
    | true =>
      rw [b] at hq
      rw [← e]
      exact q_T (q_shl1 (by omega) hq)
    | false =>
      rw [b] at hq
      exact q_F hq
  · rw [filterMap_if, zip_filter (fun i => m.testBit i) (fun i => natD (2 ^ i)), filter_pos]
    refine ⟨((posN n m).map fun i => 2 ^ i).map fun i : Nat => (i : Int), .inl ?_, ?_⟩
    · rw [List.map_map, List.map_map]
      rfl
    · rw [sum_castI, posN, List.range_eq_range', sum_pos n 0 m hm, Nat.pow_zero, Nat.one_mul]
      exact hk
theorem tupN_py (n m : Nat) : (tupN (posN n m)).py = .tuple ((posI n m).map PyData.int) := by
  show PyData.tuple (D.pyL ((posN n m).map natD)) = _
  rw [pyL_map, List.map_map]
  unfold posI
  rw [List.map_map]
  rfl
theorem lt_tupN (n a b : Nat) : dataLt (tupN (posN n a)).py (tupN (posN n b)).py = decide (posI n a < posI n b) := by
  rw [tupN_py, tupN_py, PySem.W.dataLt_tuple]
  exact PySem.W.dataLt_ints _ _
theorem tupN_inj {a b : List Nat} (e : tupN a = tupN b) : a = b := List.map_inj_right (fun x y z => by
  have := D.int.inj z
  omega) |>.mp (D.tup.inj e)
theorem m_in_order_all {n : Nat} {k : D → Prop} (hn : n ≤ 16) (hk : ∀ L, IsAll n L → k (.tup (L.map fun m => tupN (posN n m)))) : p_in_order_g (.lst ((List.range (2 ^ n)).map natD)) (.lst ((List.range n).map natD)) k := by
  have s1 : (200000 : Nat) < sizeLine := by decide
  have pw : 2 ^ n ≤ 65536 := Nat.pow_le_pow_right (n := 2) (by decide) hn
  unfold p_in_order_g
  refine q_seq (.inl rfl) (q_comp natD (fun m => some (tupN (posN n m))) (by rw [List.length_range]; omega) (fun m _ q hq => m_names_g (by omega) hq) ?_)
  rw [filterMap_some]
  have T1 := PySem.W.sortLe_total (PyProof.Rows.listOrd PyProof.Rows.itemOrd) false (fun d : D => PySem.W.keyToks d.py)
  have T2 := PySem.W.sortLe_total (PyProof.Rows.listOrd PyProof.Rows.itemOrd) false (fun d : D => PySem.W.keyToks (PyData.int (d.tlen : Int)))
  refine ⟨_, rfl, fun d hd => ?_, ?_, fun d hd => ?_, ?_, fun d hd => ?_, q_sortLen (fun x hx => ?_) (q_tupleOf ?_)⟩
  · obtain ⟨m, _, rfl⟩ := List.mem_map.mp hd
    refine plL_of fun x hx => ?_
    obtain ⟨i, hi, rfl⟩ := List.mem_map.mp hx
    have := (mem_posN.mp hi).1
    exact pl_nat (Nat.lt_trans (show i < 100 by omega) (by decide))
  · intro d hd e he
    rw [pyL_map, List.map_map] at hd he
    obtain ⟨a, _, rfl⟩ := List.mem_map.mp hd
    obtain ⟨b, _, rfl⟩ := List.mem_map.mp he
    show alike (tupN (posN n a)).py (tupN (posN n b)).py = true
    rw [tupN_py, tupN_py]
    simpa [alike] using alike_ints (posI n a) (posI n b)
  · obtain ⟨m, _, rfl⟩ := List.mem_map.mp hd
    exact ⟨_, rfl⟩
  · obtain ⟨j, hj⟩ : ∃ j, 2 ^ n = j + 1 := ⟨2 ^ n - 1, by have := Nat.two_pow_pos n; omega⟩
    rw [hj, List.range_succ_eq_map, List.map_cons, List.head?_cons]
    show some (tupN (namesN (List.range n) 0)) = _
    rw [names_none]
    rfl
  · obtain ⟨m, _, rfl⟩ := List.mem_map.mp hd
    refine Nat.le_trans (Nat.succ_le_succ (depthAll_le (n := 0) fun x hx => ?_)) (show 0 + 1 ≤ 60 by decide)
    obtain ⟨i, hi, rfl⟩ := List.mem_map.mp hx
    exact Nat.le_refl _
  · obtain ⟨m, _, rfl⟩ := List.mem_map.mp (mem_sortD.mp hx)
    exact ⟨_, rfl⟩
  generalize hl : List.range (2 ^ n) = l
  have p1 : (sortD (l.map fun m => tupN (posN n m))).Pairwise (fun a b => dataLe false D.py a b = true) := List.pairwise_mergeSort T1.trans (tot T1.total) _
  have p2 : (sortL (sortD (l.map fun m => tupN (posN n m)))).Pairwise (fun a b => dataLe false (fun d : D => PyData.int (d.tlen : Int)) a b = true) := List.pairwise_mergeSort T2.trans (tot T2.total) _
  have pm : (sortL (sortD (l.map fun m => tupN (posN n m)))).Perm (l.map fun m => tupN (posN n m)) := (List.mergeSort_perm _ _).trans (List.mergeSort_perm _ _)
  obtain ⟨L, pL, eL⟩ := perm_map pm l rfl
  have mem : ∀ m, m ∈ L ↔ m < 2 ^ n := fun m => by rw [pL.mem_iff, ← hl, List.mem_range]
  have nd : L.Nodup := pL.nodup_iff.mpr (hl ▸ List.nodup_range)
  rw [eL]
  refine hk L ⟨mem, ?_⟩
  have tl : ∀ a b : D, dataLe false (fun d : D => PyData.int (d.tlen : Int)) a b = decide ((a.tlen : Int) ≤ b.tlen) := fun a b => congrFun (congrFun (PySem.W.dataLe_int fun d : D => (d.tlen : Int)) a) b
  have tt : ∀ a : Nat, (tupN (posN n a)).tlen = (posN n a).length := fun a => List.length_map ..
  have inj : ∀ {x y : Nat}, x ∈ L → y ∈ L → tupN (posN n x) = tupN (posN n y) → x = y := fun {x y} hx hy e => posN_inj ((mem x).mp hx) ((mem y).mp hy) (tupN_inj e)
  refine List.pairwise_iff_forall_sublist.mpr fun {a b} hab => ?_
  have ma := hab.subset List.mem_cons_self
  have mb := hab.subset (List.mem_cons_of_mem _ List.mem_cons_self)
  have hab2 := hab.map fun m => tupN (posN n m)
  rw [← eL] at hab2
  have hl0 := List.pairwise_iff_forall_sublist.mp p2 hab2
  rw [tl, tt, tt, decide_eq_true_eq] at hl0
  by_cases hl2 : (posN n a).length = (posN n b).length
  · refine .inr ⟨hl2, Classical.byContradiction fun q => ?_⟩
    have ne : a ≠ b := fun e => by
      have := nd.sublist hab
      rw [e] at this
      exact (List.nodup_cons.mp this).1 List.mem_cons_self
    have mm : ∀ x ∈ L, tupN (posN n x) ∈ sortD (l.map fun m => tupN (posN n m)) := fun x hx => mem_sortD.mpr (List.mem_map.mpr ⟨x, pL.mem_iff.mp hx, rfl⟩)
    have hba : [tupN (posN n b), tupN (posN n a)].Sublist (sortD (l.map fun m => tupN (posN n m))) := by
      rcases two_sub (mm a ma) (mm b mb) (fun e => ne (inj ma mb e)) with h | h
      · have h := List.pairwise_iff_forall_sublist.mp p1 h
        have h : (!dataLt (tupN (posN n b)).py (tupN (posN n a)).py) = true := h
        rw [lt_tupN, Bool.not_eq_true', decide_eq_false_iff_not] at h
        exact absurd (posN_inj ((mem a).mp ma) ((mem b).mp mb) (posI_inj (tri_int q h))) ne
      · exact h
    have le2 : dataLe false (fun d : D => PyData.int (d.tlen : Int)) (tupN (posN n b)) (tupN (posN n a)) = true := by
      rw [tl, tt, tt, decide_eq_true_eq]
      omega
    have h := List.pair_sublist_mergeSort T2.trans (tot T2.total) le2 hba
    have h : [tupN (posN n b), tupN (posN n a)].Sublist (sortL (sortD (l.map fun m => tupN (posN n m)))) := h
    rw [eL] at h
    have h2 : ([b, a].map fun m => tupN (posN n m)).Sublist (L.map fun m => tupN (posN n m)) := h
    have ndm : (L.map fun m => tupN (posN n m)).Nodup := List.pairwise_map.mpr (List.Pairwise.imp_of_mem (fun hx hy z e => z (inj hx hy e)) nd)
    exact not_both ndm (hab.map fun m => tupN (posN n m)) h2
  · left
    omega
theorem m_masks {n : Nat} {k : D → Prop} (hn : n ≤ 16) (hk : ∀ L, IsAll n L → k (.lst (L.map natD))) : p_masks_in_order (natD n) k := by
  have s1 : (200000 : Nat) < sizeLine := by decide
  have pw : 2 ^ n ≤ 65536 := Nat.pow_le_pow_right (n := 2) (by decide) hn
  unfold p_masks_in_order
  refine ⟨n, rfl, by omega, q_shl1 (by omega) ⟨2 ^ n, rfl, by omega, ?_⟩⟩
  refine m_in_order_all hn fun L hL => q_seq (.inr rfl) (q_comp (fun m => tupN (posN n m)) (fun m => some (natD m)) (by rw [hL.len]; omega) (fun m hm q hq => m_mask_g (by omega) ((hL.mem m).mp hm) hq) ?_)
  rw [filterMap_some]
  exact hk L hL
end Dw

/-! MPa: names, rules of plans; plans made, told equal to themselves. -/
namespace Dw
open PySem PySem.Spec PyProof.Rows L2
theorem q_joinP {m : (D → Prop) → Prop} {k : D → Prop} (p : D → Prop) (h : ∀ K : D → Prop, (∀ x, p x → K x) → m K) (hk : ∀ x, p x → k x) : W.join m k := h k hk
theorem q_ltI {a b : Int} {k : D → Prop} (h : k (.bl (decide (a < b)))) : W.lt (.int a) (.int b) k := h
theorem rsv_in {s : Str} : (([D.str "all", D.str "any", D.str "of", D.str "always", D.str "never", D.str "none"] : List D)) = (rsv.map tx).map D.str := by
  rw [← rsv_is]
  rfl
theorem m_is_name {s : Str} {k : D → Prop} (h : NameS s) (hk : k (.bl true)) : p_is_name (.str s) k := by
  have s1 : (2000 : Nat) < sizeLine := by decide
  have l6 := h.len
  obtain ⟨w, ⟨low, w1, w6, nr⟩, rfl⟩ := h
  have ln : (tx w).length = w.length := tx_len w
  unfold p_is_name
  rw [rsv_in (s := tx w)]
  refine q_join (q_inS (.inr rfl) (q_t ?_))
  have e0 : (false != decide (tx w ∈ rsv.map tx)) = false := by
    rw [decide_eq_false (fun z => nr (rsv_mem.mp z))]
    rfl
  rw [e0]
  refine q_F ⟨by omega, q_ltI ?_⟩
  rw [decide_eq_false (by omega)]
  refine q_t (q_F ⟨by omega, q_ii ?_⟩)
  rw [decide_eq_false (by omega)]
  refine q_t (q_F ⟨tx w, rfl, ?_⟩)
  have e : signsD (tx w) = w.map fun c => D.str ⟨#[c]⟩ := by
    unfold signsD
    show (w.toArray.toList.map fun c => D.str ⟨#[c]⟩) = _
    rw [List.toList_toArray]
  rw [e]
  refine q_comp (fun c => D.str ⟨#[c]⟩) (fun _ => some (.bl true)) (by omega) (fun c hc q hq => .inr (.inr ⟨c, _, rfl, rfl, ?_⟩)) ?_
  · have : c ∈ (("abcdefghijklmnopqrstuvwxyz" : Str)).cps.toList := by
      have e2 : (("abcdefghijklmnopqrstuvwxyz" : Str)).cps.toList = (List.range 26).map (· + 97) := by decide +kernel
      rw [e2, List.mem_map]
      have := low c hc
      exact ⟨c - 97, List.mem_range.mpr (by omega), by omega⟩
    rw [decide_eq_true this]
    exact hq
  · rw [filterMap_some]
    refine q_allF (p := fun _ : Nat => true) ?_
    have : (w.all fun _ => true) = true := by simp
    rw [this]
    exact hk
/-! ### rules of a plan -/
/-- a rule of sets: told equal to itself, what it holds of -/
structure RuleOk (zs : List (List Str)) (r : RuleR) : Prop where
  least : IsLeast zs r.1
  names : IsNames r.1 r.2
  oks : ∀ z ∈ r.1, Oks z
theorem IsLeast.wide {zs rows : List (List Str)} (h : IsLeast zs rows) : (∀ p, anyIn rows p = anyIn zs p) ∧ ∀ z ∈ rows, ∃ z0 ∈ zs, ∀ s ∈ z, s ∈ z0 := by
  obtain ⟨ys, kept, nd, so, hy, kp, hk, e⟩ := id h
  have hz : ∀ z ∈ zs, ∀ n ∈ z, n ∈ ys := fun z hz n hn => (hy n).mpr ⟨z, hz, hn⟩
  have m := (h.mem (sorted_pw nd so) hz).2
  refine ⟨any_least hz m, fun z hzr => ?_⟩
  obtain ⟨z0, h0, rfl, _⟩ := (m z).mp hzr
  exact ⟨z0, h0, fun s hs => (mem_canon.mp hs).2⟩
/-- == of two rules: by their least sets -/
theorem m_rule_eqB {c : Cn} {r r' : RuleR} {k : D → Prop} (hk : c.kit (.ref c.Rule) (.ref c.Rule) = some true) (h : ∀ z ∈ r.1, Oks z) (h' : ∀ z ∈ r'.1, Oks z) (hq : k (.bl (decide (r.1 = r'.1)))) : p_Rule___eq__ c (ruleR c r) (ruleR c r') k := by
  unfold p_Rule___eq__
  exact q_join (q_isRule hk (q_t (q_T (m_fld_least (m_fld_least (q_eqR h h' hq))))))
theorem tsL_map {α : Type} {f : α → D} (h : ∀ a, (f a).ts = true) : ∀ l : List α, D.tsL (l.map f) = true
  | [] => rfl
  | a :: l => by
    show ((f a).ts && D.tsL (l.map f)) = true
    rw [h a, tsL_map h l]
    rfl
theorem rule_tsO (c : Cn) (r : RuleR) : (ruleR c r).tsO c.Rule := ⟨_, _, rfl, by
  have h1 : (D.tup (r.1.map tupS)).ts = true := tsL_map (f := tupS) (fun z => (show (tupS z).ts = true from tsL_map (f := D.str) (fun _ => rfl) z)) r.1
  have h2 : (D.tup (r.2.map D.str)).ts = true := tsL_map (f := D.str) (fun _ => rfl) r.2
  show ((D.tup (r.1.map tupS)).ts && ((D.tup (r.2.map D.str)).ts && true)) = true
  rw [h1, h2]
  rfl⟩
/-- parts and their rules -/
abbrev RowR := Str × RuleR
def rowR (c : Cn) (p : RowR) : D := .tup [.str p.1, ruleR c p.2]
/-- the rows of a plan -/
structure RowsOk (ps : List RowR) : Prop where
  one : 1 ≤ ps.length
  most : ps.length ≤ 8
  nod : (ps.map (·.1)).Nodup
  name : ∀ p ∈ ps, NameS p.1
  own : ∀ p ∈ ps, ∀ s ∈ p.2.2, s ∈ ps.map (·.1) ∧ s ≠ p.1
  len : ∀ p ∈ ps, p.2.2.length < 64
theorem q_lenR {α : Type} {F : α → D} {l : List α} {x : D} {k : D → Prop} (hx : x = .lst (l.map F) ∨ x = .tup (l.map F)) (h : k (natD l.length)) : W.len [x] k := by
  rcases hx with rfl | rfl
  · exact q_lenL (by rw [List.length_map]) h
  · exact q_lenT (by rw [List.length_map]) h
theorem m_check_count {c : Cn} {ps : List RowR} {k : D → Prop} (h : RowsOk ps) (hk : k .non) : p_check_count (.lst (ps.map (rowR c))) k := by
  have h1 := h.one
  have h8 := h.most
  unfold p_check_count
  refine q_join (q_lenR (.inl rfl) (q_ltI ?_))
  rw [decide_eq_false (by omega)]
  refine q_t (q_F (q_lenR (.inl rfl) (q_ii ?_)))
  rw [decide_eq_false (by omega)]
  exact q_t (q_F hk)
theorem q_ix0 {a b : D} {k : D → Prop} (h : k a) : W.ix (.tup [a, b]) (D.int 0) k := q_ixT (i := 0) rfl h
theorem q_ix1 {a b : D} {k : D → Prop} (h : k b) : W.ix (.tup [a, b]) (D.int 1) k := q_ixT (i := 1) rfl h
theorem m_check_names {c : Cn} {ps : List RowR} {k : D → Prop} (h : RowsOk ps) (hk : k .non) : p_check_names (.lst (ps.map (rowR c))) k := by
  have s1 : (2000 : Nat) < sizeLine := by decide
  have h8 := h.most
  unfold p_check_names
  refine q_enumL (.inl rfl) (q_forA _ (fun j s => s = ((ps.take j).map (·.1)).map D.str) ?_ ?_ (fun _ _ => hk))
  · simp
  · rintro j p s n hp rfl hn
    obtain ⟨_, e1⟩ := zipIdx_get hp
    have hm := List.mem_of_getElem? e1
    have hj := (List.getElem?_eq_some_iff.mp e1).1
    refine q_un2 (q_join (q_ix0 (m_is_name (h.name _ hm) (q_t (q_nt (q_F (q_ix0 (q_inS (.inl rfl) ?_))))))))
    have e : decide (p.1.1 ∈ (ps.take j).map (·.1)) = false := decide_eq_false fun z => by
      obtain ⟨i, hi⟩ := List.getElem?_of_mem z
      rw [List.getElem?_map] at hi
      obtain ⟨q, hq, e⟩ := Option.map_eq_some_iff.mp hi
      have il : i < j := by
        have := (List.getElem?_eq_some_iff.mp hq).1
        rw [List.length_take] at this
        omega
      rw [List.getElem?_take_of_lt il] at hq
      have a1 : (ps.map (·.1))[i]? = some p.1.1 := by rw [List.getElem?_map, hq]; exact congrArg some e
      have a2 : (ps.map (·.1))[j]? = some p.1.1 := by rw [List.getElem?_map, e1]; rfl
      have := (List.getElem?_inj (by rw [List.length_map]; omega) h.nod).mp (a1.trans a2.symm)
      omega
    rw [e]
    refine q_t (q_F (q_ix0 ⟨?_, hn _ ?_⟩))
    · rw [List.length_map, List.length_map, List.length_take]
      omega
    · rw [List.take_add_one, e1, List.map_append, List.map_append]
      rfl
theorem m_check_rules {c : Cn} {ps : List RowR} {k : D → Prop} (h : RowsOk ps) (hk : k .non) : p_check_rules c (.lst (ps.map (rowR c))) k := by
  have s1 : (2000 : Nat) < sizeLine := by decide
  have h8 := h.most
  unfold p_check_rules
  refine q_seq (.inl rfl) (q_comp (rowR c) (fun p => some (.str p.1)) (by omega) (fun p _ q hq => q_ix0 hq) ?_)
  rw [filterMap_some]
  have en : (ps.map fun p => D.str p.1) = (ps.map (·.1)).map D.str := by rw [List.map_map]; rfl
  rw [en]
  refine q_enumL (.inl rfl) (q_forA _ (fun _ _ => True) trivial ?_ (fun _ _ => hk))
  rintro j p s n hp - hn
  obtain ⟨_, e1⟩ := zipIdx_get hp
  have hm := List.mem_of_getElem? e1
  have hl := h.len _ hm
  refine q_un2 (q_ix1 (m_fld_names (q_seq (.inr rfl) (q_comp D.str (fun _ => some (.bl true)) (by omega) (fun s hs q hq => ?_) ?_))))
  · obtain ⟨a, b⟩ := h.own _ hm s hs
    refine q_join (q_inS (.inl rfl) ?_)
    have e : (false != decide (s ∈ ps.map (·.1))) = true := by rw [decide_eq_true a]; rfl
    rw [e]
    refine q_t (q_T (q_ix0 (q_neS ?_)))
    rw [decide_eq_false b]
    exact hq
  · rw [filterMap_some]
    refine q_allF (p := fun _ : Str => true) ?_
    have : (p.1.2.2.all fun _ => true) = true := by simp
    rw [this]
    exact q_t (q_nt (q_F (hn _ trivial)))
/-! ### plans -/
def planD (c : Cn) (ns : List Str) (rs : List RuleR) (t : List Nat) : D := .ins c.Plan ["names", "_rules", "support"] [.tup (ns.map D.str), .tup (rs.map (ruleR c)), .tup (t.map natD)]
theorem m_plan {c : Cn} {ps : List RowR} {k : D → Prop} (h : RowsOk ps) (hk : ∀ t, TabOf (ps.map (·.1)).length (Told (ps.map (·.1)) (ps.map (·.2))) t → k (planD c (ps.map (·.1)) (ps.map (·.2)) t)) : p_Plan___init__ c (.lst (ps.map (rowR c))) k := by
  have s1 : (2000 : Nat) < sizeLine := by decide
  have h8 := h.most
  unfold p_Plan___init__
  refine m_check_count h (m_check_names h (m_check_rules h (q_seq (.inl rfl) (q_comp (rowR c) (fun p => some (.str p.1)) (by omega) (fun p _ q hq => q_ix0 hq) ?_))))
  rw [filterMap_some]
  have en : (ps.map fun p => D.str p.1) = (ps.map (·.1)).map D.str := by rw [List.map_map]; rfl
  rw [en]
  refine q_tupleOf (q_seq (.inl rfl) (q_comp (rowR c) (fun p => some (ruleR c p.2)) (by omega) (fun p _ q hq => q_ix1 hq) ?_))
  rw [filterMap_some]
  have er : (ps.map fun p => ruleR c p.2) = (ps.map (·.2)).map (ruleR c) := by rw [List.map_map]; rfl
  rw [er]
  refine q_tupleOf ⟨_, rfl, ⟨_, rfl, m_support (.inr rfl) (by rw [List.length_map]; exact h8) (.inr rfl) (by rw [List.length_map]; omega) fun t ht => ?_⟩⟩
  exact hk t ht
theorem m_pnames {c : Cn} {ns : List Str} {rs : List RuleR} {t : List Nat} {k : D → Prop} (h : k (.tup (ns.map D.str))) : W.fld [c.Plan] "names" (planD c ns rs t) k := ⟨c.Plan, _, _, _, List.mem_singleton.mpr rfl, rfl, rfl, h⟩
theorem m_prules {c : Cn} {ns : List Str} {rs : List RuleR} {t : List Nat} {k : D → Prop} (h : k (.tup (rs.map (ruleR c)))) : W.fld [c.Plan] "_rules" (planD c ns rs t) k := ⟨c.Plan, _, _, _, List.mem_singleton.mpr rfl, rfl, rfl, h⟩
theorem m_ptable {c : Cn} {ns : List Str} {rs : List RuleR} {t : List Nat} {k : D → Prop} (h : k (.tup (t.map natD))) : W.fld [c.Plan] "support" (planD c ns rs t) k := ⟨c.Plan, _, _, _, List.mem_singleton.mpr rfl, rfl, rfl, h⟩
/-- texts in order, alike -/
theorem q_eqT {a b : List Str} {k : D → Prop} (ha : Oks a) (hb : Oks b) (h : k (.bl (decide (a = b)))) : W.eq (.tup (a.map D.str)) (.tup (b.map D.str)) k := .inr ⟨deepT (deep_strs ha).1 (deep_strs ha).2 (by decide), deepT (deep_strs hb).1 (deep_strs hb).2 (by decide), by
  have := eqv_tupS a b
  unfold tupS at this
  rw [this]
  exact h⟩
theorem all_zip (rs rs' : List RuleR) : (rs.length == rs'.length && (List.zipWith (fun r r' : RuleR => decide (r.1 = r'.1)) rs rs').all id) = decide (rs.map (·.1) = rs'.map (·.1)) := by
  induction rs generalizing rs' with
  | nil => cases rs' <;> simp
  | cons r rs ih =>
    cases rs' with
    | nil => simp
    | cons r' rs' =>
      have := ih rs'
      by_cases e : r.1 = r'.1
      · simp only [List.zipWith_cons_cons, List.all_cons, List.map_cons, List.length_cons]
        rw [decide_eq_true e]
        simpa [e] using this
      · simp only [List.zipWith_cons_cons, List.all_cons, List.map_cons, List.length_cons]
        rw [decide_eq_false e]
        simp [e]
theorem tupR_inj {a b : List (List Str)} (h : (a.map tupS : List D) = b.map tupS) : a = b := by
  induction a generalizing b with
  | nil => cases b with
    | nil => rfl
    | cons y b => cases h
  | cons x a ih => cases b with
    | nil => cases h
    | cons y b =>
      rw [List.map_cons, List.map_cons] at h
      obtain ⟨h1, h2⟩ := List.cons.inj h
      have e : x = y := by
        have h1 : (D.tup (x.map D.str)) = .tup (y.map D.str) := h1
        injection h1 with h1
        exact List.map_inj_right (f := D.str) (fun a b e => D.str.inj e) |>.mp h1
      rw [e, ih h2]
/-- == of two plans: by their names and the least sets of their rules -/
theorem m_plan_eqB {c : Cn} {ns ns' : List Str} {rs rs' : List RuleR} {t t' : List Nat} {k : D → Prop} (hkP : c.kit (.ref c.Plan) (.ref c.Plan) = some true) (hkR : c.kit (.ref c.Rule) (.ref c.Rule) = some true) (hn : Oks ns) (hn' : Oks ns') (hr : ∀ r ∈ rs, ∀ z ∈ r.1, Oks z) (hr' : ∀ r ∈ rs', ∀ z ∈ r.1, Oks z)
    (h : k (.bl (decide (ns = ns' ∧ rs.map (·.1) = rs'.map (·.1))))) : p_Plan___eq__ c (planD c ns rs t) (planD c ns' rs' t') k := by
  unfold p_Plan___eq__
  refine q_join ⟨⟨true, (fun z => nomatch z), hkP, q_t (q_T (m_pnames (m_pnames (q_eqT hn hn' (q_t ?_)))))⟩⟩
  by_cases e : ns = ns'
  · rw [decide_eq_true e]
    refine q_T (m_prules (m_prules ⟨_, _, List.zipWith (fun r r' : RuleR => decide (r.1 = r'.1)) rs rs', rfl, rfl, by rw [List.length_zipWith, List.length_map, List.length_map], fun i d d' b hd he hb => ?_, ?_⟩))
    · rw [List.getElem?_map] at hd he
      obtain ⟨r, h1, rfl⟩ := Option.map_eq_some_iff.mp hd
      obtain ⟨r', h2, rfl⟩ := Option.map_eq_some_iff.mp he
      rw [List.getElem?_zipWith, h1, h2] at hb
      have hb : decide (r.1 = r'.1) = b := Option.some.inj hb
      refine ⟨rule_tsO c r, rule_tsO c r', fun ed => ?_, m_rule_eqB hkR (hr r (List.mem_of_getElem? h1)) (hr' r' (List.mem_of_getElem? h2)) (by rw [hb])⟩
      rw [← hb, decide_eq_true_eq]
      have ed : D.ins c.Rule ["least", "names"] [.tup (r.1.map tupS), .tup (r.2.map D.str)] = .ins c.Rule ["least", "names"] [.tup (r'.1.map tupS), .tup (r'.2.map D.str)] := ed
      injection ed with _ _ ed
      obtain ⟨ed, _⟩ := List.cons.inj ed
      injection ed with ed
      exact tupR_inj ed
    · rw [List.length_map, List.length_map, all_zip]
      have e2 : decide (ns = ns' ∧ rs.map (·.1) = rs'.map (·.1)) = decide (rs.map (·.1) = rs'.map (·.1)) := decide_eq_decide.mpr ⟨fun z => z.2, fun z => ⟨e, z⟩⟩
      rw [e2] at h
      exact h
  · rw [decide_eq_false e]
    rw [decide_eq_false fun z => e z.1] at h
    exact q_F h
/-- a plan is equal to itself -/
theorem m_plan_eq {c : Cn} {ns : List Str} {rs : List RuleR} {t : List Nat} {k : D → Prop} (hkP : c.kit (.ref c.Plan) (.ref c.Plan) = some true) (hkR : c.kit (.ref c.Rule) (.ref c.Rule) = some true) (hn : Oks ns) (hr : ∀ r ∈ rs, ∀ z ∈ r.1, Oks z) (h : k (.bl true)) :
    p_Plan___eq__ c (planD c ns rs t) (planD c ns rs t) k := m_plan_eqB hkP hkR hn hn hr hr (by rw [decide_eq_true ⟨rfl, rfl⟩]; exact h)
end Dw

/-! MY: yards: made, asked whether they stand, falls. -/
namespace Dw
open PySem PySem.Spec PyProof.Rows L2
/-- a row of truth values as a mask -/
def bitsOf : List Bool → Nat
  | [] => 0
  | b :: bs => (if b then 1 else 0) + 2 * bitsOf bs
theorem bitsOf_bit : ∀ (bs : List Bool) (i : Nat), (bitsOf bs).testBit i = (bs[i]?).getD false
  | [], i => by
    show (0 : Nat).testBit i = _
    rw [Nat.zero_testBit]
    rfl
  | b :: bs, 0 => by
    show ((if b = true then 1 else 0) + 2 * bitsOf bs).testBit 0 = b
    rw [Nat.testBit_zero]
    cases b
    · simp
    · simp [Nat.add_mod]
  | b :: bs, i + 1 => by
    show ((if b = true then 1 else 0) + 2 * bitsOf bs).testBit (i + 1) = _
    rw [Nat.testBit_succ, show ((if b = true then 1 else 0) + 2 * bitsOf bs) / 2 = bitsOf bs from by split <;> omega, bitsOf_bit bs i]
    rfl
/-- what is held by the parts of m -/
def supZ (ns : List Str) (zss : List (List (List Str))) (m : Nat) : Nat := bitsOf (zss.map fun zs => holdsN zs (namesN ns m))
theorem mem_namesN_iff {ns : List Str} {s : Str} : ∀ {m : Nat}, s ∈ namesN ns m ↔ ∃ i, ns[i]? = some s ∧ m.testBit i = true := by
  induction ns with
  | nil => exact fun {m} => ⟨fun h => (nomatch h), fun ⟨i, h, _⟩ => by simp at h⟩
  | cons n ns ih =>
    intro m
    have step : s ∈ namesN ns (m / 2) ↔ ∃ i, ns[i]? = some s ∧ m.testBit (i + 1) = true := by
      rw [ih]
      exact exists_congr fun i => by rw [Nat.testBit_succ]
    unfold namesN
    by_cases h0 : m.testBit 0 = true
    · rw [if_pos h0, List.mem_cons, step]
      constructor
      · rintro (rfl | ⟨i, h1, h2⟩)
        · exact ⟨0, rfl, h0⟩
        · exact ⟨i + 1, h1, h2⟩
      · rintro ⟨i, h1, h2⟩
        cases i with
        | zero => exact .inl (Option.some.inj h1).symm
        | succ i => exact .inr ⟨i, h1, h2⟩
    · rw [if_neg h0, step]
      constructor
      · rintro ⟨i, h1, h2⟩
        exact ⟨i + 1, h1, h2⟩
      · rintro ⟨i, h1, h2⟩
        cases i with
        | zero => exact absurd h2 h0
        | succ i => exact ⟨i, h1, h2⟩
theorem namesN_mono {ns : List Str} {a b : Nat} (h : Sub a b) : ∀ s ∈ namesN ns a, s ∈ namesN ns b := fun s hs => by
  obtain ⟨i, h1, h2⟩ := mem_namesN_iff.mp hs
  exact mem_namesN_iff.mpr ⟨i, h1, h i h2⟩
theorem mask_sub_iff {ns z : List Str} {m : Nat} (nd : ns.Nodup) (hz : ∀ s ∈ z, s ∈ ns) : Sub (maskN ns z) m ↔ ∀ s ∈ z, s ∈ namesN ns m := by
  constructor
  · intro h s hs
    obtain ⟨i, hi⟩ := List.getElem?_of_mem (hz s hs)
    exact mem_namesN_iff.mpr ⟨i, hi, h i (by rw [maskN_bit, hi]; exact decide_eq_true hs)⟩
  · intro h i hi
    rw [maskN_bit] at hi
    cases e : ns[i]? with
    | none =>
      rw [e] at hi
      cases hi
    | some s =>
      rw [e] at hi
      obtain ⟨j, h1, h2⟩ := mem_namesN_iff.mp (h s (of_decide_eq_true hi))
      have : i = j := (List.getElem?_inj (List.getElem?_eq_some_iff.mp e).1 nd).mp (e.trans h1.symm)
      rw [this]
      exact h2
theorem mask_names {ns : List Str} {m : Nat} (nd : ns.Nodup) (hm : m < 2 ^ ns.length) : maskN ns (namesN ns m) = m := by
  refine Sub.anti ((mask_sub_iff nd fun s hs => mem_namesN hs).mpr fun s hs => hs) fun i hi => ?_
  have il : i < ns.length := by
    refine Nat.lt_of_not_le fun q => ?_
    rw [Nat.testBit_lt_two_pow (Nat.lt_of_lt_of_le hm (Nat.pow_le_pow_right (by decide) q))] at hi
    cases hi
  rw [maskN_bit, List.getElem?_eq_getElem il]
  exact decide_eq_true (mem_namesN_iff.mpr ⟨i, List.getElem?_eq_getElem il, hi⟩)
theorem holdsN_mono {zs : List (List Str)} {a b : List Str} (h : ∀ s ∈ a, s ∈ b) (q : holdsN zs a = true) : holdsN zs b = true := by
  have q : anyIn zs a = true := q
  show anyIn zs b = true
  unfold anyIn at q ⊢
  rw [List.any_eq_true] at q ⊢
  obtain ⟨z, hz, hs⟩ := q
  exact ⟨z, hz, subL_iff.mpr fun s hs' => h s (subL_iff.mp hs s hs')⟩
theorem supZ_bit {ns : List Str} {zss : List (List (List Str))} {m i : Nat} : (supZ ns zss m).testBit i = true ↔ ∃ zs, zss[i]? = some zs ∧ holdsN zs (namesN ns m) = true := by
  unfold supZ
  rw [bitsOf_bit, List.getElem?_map]
  cases zss[i]? with
  | none => simp
  | some zs => simp
theorem supZ_mono (ns : List Str) (zss : List (List (List Str))) : Mono (supZ ns zss) := fun a b h i hi => by
  obtain ⟨zs, h1, h2⟩ := supZ_bit.mp hi
  exact supZ_bit.mpr ⟨zs, h1, holdsN_mono (namesN_mono h) h2⟩
/-- rules of sets, one by one -/
def RulesOk (ns : List Str) (zss : List (List (List Str))) (rs : List RuleR) : Prop := rs.length = zss.length ∧ ∀ (i : Nat) r zs, rs[i]? = some r → zss[i]? = some zs → RuleOk zs r ∧ ∀ z ∈ zs, ∀ s ∈ z, s ∈ ns
theorem told_supZ {ns : List Str} {zss : List (List (List Str))} {rs : List RuleR} {m i : Nat} (nd : ns.Nodup) (h : RulesOk ns zss rs) : Told ns rs m i ↔ (supZ ns zss m).testBit i = true := by
  rw [supZ_bit]
  constructor
  · rintro ⟨r, h1, z, hz, hs⟩
    have hi : i < zss.length := by
      rw [← h.1]
      exact (List.getElem?_eq_some_iff.mp h1).1
    obtain ⟨ok, sub⟩ := h.2 i r _ h1 (List.getElem?_eq_getElem hi)
    obtain ⟨w1, w2⟩ := ok.least.wide
    refine ⟨_, List.getElem?_eq_getElem hi, ?_⟩
    show anyIn _ _ = true
    rw [← w1]
    unfold anyIn
    rw [List.any_eq_true]
    refine ⟨z, hz, subL_iff.mpr ((mask_sub_iff nd fun s hs => ?_).mp hs)⟩
    obtain ⟨z0, h0, h3⟩ := w2 z hz
    exact sub z0 h0 s (h3 s hs)
  · rintro ⟨zs, h1, h2⟩
    have hi : i < rs.length := by
      rw [h.1]
      exact (List.getElem?_eq_some_iff.mp h1).1
    obtain ⟨ok, sub⟩ := h.2 i _ zs (List.getElem?_eq_getElem hi) h1
    obtain ⟨w1, w2⟩ := ok.least.wide
    have h2 : anyIn zs (namesN ns m) = true := h2
    rw [← w1] at h2
    unfold anyIn at h2
    rw [List.any_eq_true] at h2
    obtain ⟨z, hz, hs⟩ := h2
    refine ⟨_, List.getElem?_eq_getElem hi, z, hz, (mask_sub_iff nd fun s hs => ?_).mpr (subL_iff.mp hs)⟩
    obtain ⟨z0, h0, h3⟩ := w2 z hz
    exact sub z0 h0 s (h3 s hs)
/-- a plan of these names and sets, as a tree -/
structure PlanOk (c : Cn) (ns : List Str) (zss : List (List (List Str))) (P : D) : Prop where
  is : ∃ rs t, P = planD c ns rs t ∧ t.length = 2 ^ ns.length ∧ (∀ m, m < 2 ^ ns.length → t.getD m 0 = supZ ns zss m) ∧ (∀ r ∈ rs, ∀ z ∈ r.1, Oks z) ∧ RulesOk ns zss rs
  nod : ns.Nodup
  len : ns.length ≤ 8
  oks : Oks ns
theorem PlanOk.mk' {c : Cn} {ns : List Str} {zss : List (List (List Str))} {rs : List RuleR} {t : List Nat} (nd : ns.Nodup) (hl : ns.length ≤ 8) (ok : Oks ns) (h : RulesOk ns zss rs) (ht : TabOf ns.length (Told ns rs) t) : PlanOk c ns zss (planD c ns rs t) :=
  ⟨⟨rs, t, rfl, ht.1, fun m hm => Nat.eq_of_testBit_eq fun i => by
    rw [Bool.eq_iff_iff, ht.2 m hm i, told_supZ nd h], fun r hr => by
    obtain ⟨i, hi⟩ := List.getElem?_of_mem hr
    have il : i < zss.length := by
      rw [← h.1]
      exact (List.getElem?_eq_some_iff.mp hi).1
    exact (h.2 i r _ hi (List.getElem?_eq_getElem il)).1.oks, h⟩, nd, hl, ok⟩
section
variable {c : Cn} {ns : List Str} {zss : List (List (List Str))} {P : D} {k : D → Prop}
theorem m_pn (h : PlanOk c ns zss P) (hk : k (.tup (ns.map D.str))) : W.fld [c.Plan] "names" P k := by
  obtain ⟨rs, t, rfl, _⟩ := h.is
  exact m_pnames hk
theorem PlanOk.ins (h : PlanOk c ns zss P) : ∃ ns ds, P = .ins c.Plan ns ds := by
  obtain ⟨rs, t, rfl, _⟩ := h.is
  exact ⟨_, _, rfl⟩
theorem m_pl_eq (h : PlanOk c ns zss P) (hkP : c.kit (.ref c.Plan) (.ref c.Plan) = some true) (hkR : c.kit (.ref c.Rule) (.ref c.Rule) = some true) (hk : k (.bl true)) : p_Plan___eq__ c P P k := by
  obtain ⟨rs, t, rfl, _, _, ho, _⟩ := h.is
  exact m_plan_eq hkP hkR h.oks ho hk
theorem m_sup {m p : Nat} (h : PlanOk c ns zss P) (hm : m < 2 ^ ns.length) (hk : k (natD (supZ ns zss m ||| p))) : p_supported_in c P (natD m) (natD p) k := by
  obtain ⟨rs, t, rfl, tl, ht, _⟩ := h.is
  refine m_ptable (q_ixN' (.inr rfl) (by rw [tl]; exact hm) ?_)
  rw [ht m hm]
  exact q_bor hk
theorem m_falling {m p : Nat} (h : PlanOk c ns zss P) (hm : m < 2 ^ ns.length) (hk : k (natD (less m (supZ ns zss m ||| p)))) : p_falling_in c P (natD m) (natD p) k := m_sup h hm (q_inv (q_bandN hk))
theorem m_stands_in {m p : Nat} (h : PlanOk c ns zss P) (hm : m < 2 ^ ns.length) (hk : k (.bl (decide (less m (supZ ns zss m ||| p) = 0)))) : p_stands_in c P (natD m) (natD p) k := m_falling h hm (q_eqN (b := 0) hk)
theorem q_while {S : Type} {cc : S → (Bool → Prop) → Prop} {body : S → (S → Prop) → (S → Prop) → Prop} {k : S → Prop} {n : Nat} {s : S} (h : cc s fun b => W.ite b (body s (fun s' => W.whileN cc body k n s') k) (k s)) : W.whileN cc body k (n + 1) s := h
theorem rest_loop {m p : Nat} (h : PlanOk c ns zss P) (hm : m < 2 ^ ns.length) (hk : ∀ r, IsRest (supZ ns zss) m p r → k (natD r)) :
    ∃ f, W.whileN (S := D × D) (fun s2 q5 => W.ne s2.2 (D.int 0) fun v7 => W.truth v7 fun b6 => q5 b6) (fun s2 n3 b4 => W.bxor s2.1 s2.2 fun v8 => (p_falling_in c) P v8 (natD p) fun v9 => n3 (v8, v9)) (fun s10 => k s10.1) f (natD m, natD (less m (supZ ns zss m ||| p))) := by
  induction m using Nat.strongRecOn with
  | ind m ih =>
    by_cases e : less m (supZ ns zss m ||| p) = 0
    · refine ⟨0 + 1, q_while (q_neN (b := 0) (q_t ?_))⟩
      rw [e, decide_eq_true rfl]
      exact q_F (hk m (IsRest.self (less_nil.mp e)))
    · have lt : (m &&& (supZ ns zss m ||| p)) < m := by
        have h1 := less_sub m (supZ ns zss m ||| p)
        have h2 : m &&& (supZ ns zss m ||| p) ≤ m := Nat.and_le_left
        omega
      obtain ⟨f, hf⟩ := ih (m &&& (supZ ns zss m ||| p)) lt (by omega) fun r hr => hk r (hr.turn (supZ_mono ns zss))
      refine ⟨f + 1, q_while (q_neN (b := 0) (q_t ?_))⟩
      rw [decide_eq_false e]
      refine q_T (q_bxor ?_)
      rw [xor_less]
      exact m_falling h (by omega) hf
theorem m_rest {m p : Nat} (h : PlanOk c ns zss P) (hm : m < 2 ^ ns.length) (hk : ∀ r, IsRest (supZ ns zss) m p r → k (natD r)) : p_rest_in c P (natD m) (natD p) k := m_falling h hm (rest_loop h hm hk)
/-! ### yards -/
def yardD (c : Cn) (P : D) (ns : List Str) (m : Nat) : D := .ins c.Yard ["plan", "mask", "parts"] [P, natD m, .tup ((namesN ns m).map D.str)]
theorem m_yplan {m : Nat} (hk : k P) : W.fld [c.Yard] "plan" (yardD c P ns m) k := ⟨c.Yard, _, _, _, List.mem_singleton.mpr rfl, rfl, rfl, hk⟩
theorem m_ymask {m : Nat} (hk : k (natD m)) : W.fld [c.Yard] "mask" (yardD c P ns m) k := ⟨c.Yard, _, _, _, List.mem_singleton.mpr rfl, rfl, rfl, hk⟩
theorem m_yparts {m : Nat} (hk : k (.tup ((namesN ns m).map D.str))) : W.fld [c.Yard] "parts" (yardD c P ns m) k := ⟨c.Yard, _, _, _, List.mem_singleton.mpr rfl, rfl, rfl, hk⟩
theorem m_check_parts {y : D} {ws : List Str} (h : PlanOk c ns zss P) (hy : SeqD y ws) (hw : ∀ s ∈ ws, s ∈ ns) (hk : k .non) : p_check_parts c P y k := by
  unfold p_check_parts
  refine q_seq hy (q_forA D.str (fun _ _ => True) trivial (fun i s u n hs _ hn => m_pn h (q_inS (.inr rfl) ?_)) fun _ _ => hk)
  have e : (true != decide (s ∈ ns)) = false := by
    rw [decide_eq_true (hw s (List.mem_of_getElem? hs))]
    rfl
  rw [e]
  exact q_t (q_F (hn _ trivial))
theorem m_parts_mask {y : D} {ws : List Str} (h : PlanOk c ns zss P) (hy : SeqD y ws) (hw : ∀ s ∈ ws, s ∈ ns) (hk : k (natD (maskN ns ws))) : p_parts_mask c P y k :=
  m_check_parts h hy hw (m_pn h (m_maskA (.inr rfl) hy (by have := h.len; omega) hk))
theorem m_yard {y : D} {ws : List Str} (h : PlanOk c ns zss P) (hy : SeqD y ws) (hw : ∀ s ∈ ws, s ∈ ns) (hk : k (yardD c P ns (maskN ns ws))) : p_Yard___init__ c P y k := by
  have hl := h.len
  exact m_check_parts h hy hw (m_pn h (m_maskA (.inr rfl) hy (by omega) ⟨_, rfl, m_pn h (m_namesA (.inr rfl) (by omega) hk)⟩))
theorem m_yard_of {m : Nat} (h : PlanOk c ns zss P) (hm : m < 2 ^ ns.length) (hk : k (yardD c P ns m)) : p_yard_of c P (natD m) k := by
  have hl := h.len
  refine m_pn h (m_namesA (.inr rfl) (by omega) (m_yard h (.inr rfl) (fun s hs => mem_namesN hs) ?_))
  rw [mask_names h.nod hm]
  exact hk
theorem m_stands {m : Nat} (h : PlanOk c ns zss P) (hm : m < 2 ^ ns.length) (hk : k (.bl (decide (less m (supZ ns zss m ||| 0) = 0)))) : p_Yard_stands c (yardD c P ns m) k := m_yplan (m_ymask (m_stands_in (p := 0) h hm hk))
theorem m_stands_under {m : Nat} {y : D} {ws : List Str} (h : PlanOk c ns zss P) (hm : m < 2 ^ ns.length) (hy : SeqD y ws) (hw : ∀ s ∈ ws, s ∈ ns) (hk : k (.bl (decide (less m (supZ ns zss m ||| maskN ns ws) = 0)))) : p_Yard_stands_under c (yardD c P ns m) y k :=
  m_yplan (m_ymask (m_yplan (m_parts_mask h hy hw (m_stands_in h hm hk))))
theorem namesN_inj {a b : Nat} (nd : ns.Nodup) (ha : a < 2 ^ ns.length) (hb : b < 2 ^ ns.length) : namesN ns a = namesN ns b ↔ a = b := ⟨fun e => by
  rw [← mask_names nd ha, e, mask_names nd hb], fun e => by rw [e]⟩
theorem Oks.names (h : Oks ns) (m : Nat) : Oks (namesN ns m) := fun s hs => h s (mem_namesN hs)
theorem m_yard_eq {a b : Nat} (h : PlanOk c ns zss P) (hkY : c.kit (.ref c.Yard) (.ref c.Yard) = some true) (hkP : c.kit (.ref c.Plan) (.ref c.Plan) = some true) (hkR : c.kit (.ref c.Rule) (.ref c.Rule) = some true) (ha : a < 2 ^ ns.length) (hb : b < 2 ^ ns.length) (hk : k (.bl (decide (a = b)))) :
    p_Yard___eq__ c (yardD c P ns a) (yardD c P ns b) k := by
  unfold p_Yard___eq__
  refine q_join ⟨⟨true, (fun z => nomatch z), hkY, q_t (q_T (m_yplan (m_yplan ⟨h.ins, h.ins, m_pl_eq h hkP hkR (q_t (q_T (m_yparts (m_yparts (q_eqT (h.oks.names a) (h.oks.names b) ?_)))))⟩)))⟩⟩
  have e : decide (namesN ns a = namesN ns b) = decide (a = b) := decide_eq_decide.mpr (namesN_inj h.nod ha hb)
  rw [e]
  exact hk
end
end Dw

/-! M25a: drawn rows of a plan; what the law finds bad; what it leaves. -/
namespace Dw
open PySem PySem.Spec PyProof.Rows L2
/-- names with their sets -/
abbrev RowZ := Str × List (List Str)
def rowZ (p : RowZ) : D := .tup [.str p.1, .lst (p.2.map tupS)]
structure RowsZ (rows : List RowZ) : Prop where
  one : 1 ≤ rows.length
  most : rows.length ≤ 8
  nod : (rows.map (·.1)).Nodup
  name : ∀ p ∈ rows, NameS p.1
  sets : ∀ p ∈ rows, SomeSets ((rows.map (·.1)).filter fun s => !decide (s = p.1)) 40 p.2
theorem q_max2 {i j : Int} {k : D → Prop} (h : k (.int (if j > i then j else i))) : W.max2 [.int i, .int j] k := h
/-- a comprehension whose items are told by a relation -/
theorem q_compRelA {α β : Type} {body : D → (Option D → Prop) → Prop} {k : D → Prop} (F : α → D) (G : β → D) (R : α → β → Prop) : ∀ {l : List α} {acc : List D}, (∀ a ∈ l, ∀ q, (∀ b, R a b → q (some (G b))) → body (F a) q) → (∀ bs : List β, bs.length = l.length → (∀ (i : Nat) a b, l[i]? = some a → bs[i]? = some b → R a b) → k (.lst (acc ++ bs.map G))) → W.comp body (l.map F) acc k
  | [], acc, _, h => by
    have := h [] rfl (fun i a b h => by simp at h)
    rw [List.map_nil, List.append_nil] at this
    exact this
  | a :: l, acc, hb, h => by
    refine hb a List.mem_cons_self _ fun b hab => ?_
    refine q_compRelA F G R (fun x hx => hb x (List.mem_cons_of_mem _ hx)) fun bs hl hr => ?_
    have := h (b :: bs) (by rw [List.length_cons, List.length_cons, hl]) fun i x y hx hy => by
      cases i with
      | zero =>
        cases hx
        cases hy
        exact hab
      | succ i => exact hr i x y hx hy
    show k (.lst (acc ++ [G b] ++ bs.map G))
    rw [List.append_assoc]
    exact this
theorem q_compRel {α β : Type} {body : D → (Option D → Prop) → Prop} {k : D → Prop} (F : α → D) (G : β → D) (R : α → β → Prop) {l : List α} (hz : l.length < sizeLine) (hb : ∀ a ∈ l, ∀ q, (∀ b, R a b → q (some (G b))) → body (F a) q)
    (h : ∀ bs : List β, bs.length = l.length → (∀ (i : Nat) a b, l[i]? = some a → bs[i]? = some b → R a b) → k (.lst (bs.map G))) : (l.map F).length < sizeLine ∧ W.comp body (l.map F) [] k :=
  ⟨by rw [List.length_map]; exact hz, q_compRelA F G R hb fun bs h1 h2 => h bs h1 h2⟩
theorem strs_tx (ws : List (List Nat)) : namesD ws = (ws.map tx).map D.str := by
  unfold namesD
  rw [List.map_map]
  rfl
/-- names that are drawn: 1 to 8 -/
theorem m_wordsN {n : Nat} {k : D → Prop} (h8 : n ≤ 8) (h : ∀ ns : List Str, ns.length = n → ns.Nodup → (∀ s ∈ ns, NameS s) → k (.lst (ns.map D.str))) : p__law_words (natD n) k := by
  refine ⟨_, rfl, by omega, by omega, fun ws gd => ?_⟩
  rw [strs_tx]
  refine h _ ?_ (List.pairwise_map.mpr (gd.2.1.imp fun h e => h (tx_inj e))) fun s hs => ?_
  · rw [List.length_map, gd.1]
    omega
  · obtain ⟨w, hw, rfl⟩ := List.mem_map.mp hs
    exact ⟨w, gd.2.2 w hw, rfl⟩
theorem m_rows {many : Nat} {k : D → Prop} (h3 : 3 ≤ many) (h8 : many ≤ 8) (h : ∀ rows, RowsZ rows → rows.length ≤ many → k (.lst (rows.map rowZ))) : p__law_rows (natD many) k := by
  have s1 : (2000 : Nat) < sizeLine := by decide
  unfold p__law_rows
  refine q_draw (by decide) (by decide) fun form hf => q_joinP (fun d => ∃ l : Nat, d = natD l ∧ l ≤ many) (fun K hK => q_eqI (q_t (q_dec (fun _ => q_draw (by omega) (by omega) fun m hm => hK _ ⟨m, rfl, by omega⟩) fun _ => ?_))) ?_
  · have go : ∀ n : Nat, n ≤ 2 → K (.int (n : Int)) := fun n hn => hK _ ⟨n, rfl, by omega⟩
    match form, hf with
    | 0, _ => exact q_ixL (i := 0) rfl (go 0 (by omega))
    | 1, _ => exact q_ixL (i := 1) rfl (go 0 (by omega))
    | 2, _ => exact q_ixL (i := 2) rfl (go 0 (by omega))
    | 3, _ => exact q_ixL (i := 3) rfl (go 0 (by omega))
    | 4, _ => exact q_ixL (i := 4) rfl (go 0 (by omega))
    | 5, _ => exact q_ixL (i := 5) rfl (go 1 (by omega))
    | 6, _ => exact q_ixL (i := 6) rfl (go 0 (by omega))
    | 7, _ => exact q_ixL (i := 7) rfl (go 2 (by omega))
    | form + 8, hf => omega
  rintro d ⟨l, rfl, hl⟩
  refine q_ii ?_
  have em : ∃ n : Nat, (if (many : Int) - (l : Int) > (1 : Int) then (many : Int) - (l : Int) else 1) = (n : Int) ∧ 1 ≤ n ∧ n ≤ many := by
    split
    · exact ⟨many - l, by omega, by omega, by omega⟩
    · exact ⟨1, rfl, by omega, by omega⟩
  obtain ⟨n, en, n1, n2⟩ := em
  refine q_max2 ?_
  rw [en]
  refine m_wordsN (by omega) fun ns hl nd nm => ?_
  refine q_seq (.inl rfl) (q_compRel D.str rowZ (fun s p => p.1 = s ∧ SomeSets (ns.filter fun t => !decide (t = s)) 40 p.2) (by omega) (fun s hs q hq => ?_) fun rows rl rel => ?_)
  · refine q_seq (.inl rfl) (q_comp D.str (fun t => if (!decide (t = s)) then some (.str t) else none) (by omega) (fun t _ q2 h2 => q_neS (q_t ?_)) ?_)
    · by_cases e : t = s
      · rw [decide_eq_true e] at h2 ⊢
        exact q_F h2
      · rw [decide_eq_false e] at h2 ⊢
        exact q_T h2
    · rw [filterMap_if]
      refine m_sets (Nat.le_trans (List.length_filter_le _ _) (by omega)) fun zs hz => hq (s, zs) ⟨rfl, hz.mono (by decide)⟩
  · have names : rows.map (·.1) = ns := by
      refine List.ext_getElem? fun i => ?_
      rw [List.getElem?_map]
      by_cases hi : i < ns.length
      · obtain ⟨p, hp⟩ : ∃ p, rows[i]? = some p := ⟨_, List.getElem?_eq_getElem (by omega)⟩
        rw [hp, List.getElem?_eq_getElem hi]
        exact congrArg some (rel i _ p (List.getElem?_eq_getElem hi) hp).1
      · rw [List.getElem?_eq_none (by omega), List.getElem?_eq_none (by omega)]
        rfl
    have sets : ∀ p ∈ rows, NameS p.1 ∧ SomeSets (ns.filter fun t => !decide (t = p.1)) 40 p.2 := fun p hp => by
      obtain ⟨i, hi⟩ := List.getElem?_of_mem hp
      have il := (List.getElem?_eq_some_iff.mp hi).1
      obtain ⟨a, b⟩ := rel i _ p (List.getElem?_eq_getElem (by omega)) hi
      exact ⟨by rw [a]; exact nm _ (List.getElem_mem _), by rw [a]; exact b⟩
    exact h rows ⟨by omega, by omega, by rw [names]; exact nd, fun p hp => (sets p hp).1, fun p hp => by rw [names]; exact (sets p hp).2⟩ (by omega)
/-! ### the plan -/
section
variable {c : Cn} {rows : List RowZ} {k : D → Prop}
theorem RowsZ.oks (h : RowsZ rows) : Oks (rows.map (·.1)) := fun s hs => by
  obtain ⟨p, hp, rfl⟩ := List.mem_map.mp hs
  exact (h.name p hp).strOk
theorem RowsZ.set {p : RowZ} (h : RowsZ rows) (hp : p ∈ rows) : p.2.length ≤ 40 ∧ ∀ z ∈ p.2, z.length ≤ 8 ∧ ∀ s ∈ z, s ∈ rows.map (·.1) ∧ s ≠ p.1 := by
  obtain ⟨a, b⟩ := h.sets p hp
  refine ⟨a, fun z hz => ⟨(b z hz).1, fun s hs => ?_⟩⟩
  have := (b z hz).2 s hs
  rw [List.mem_filter] at this
  exact ⟨this.1, by simpa using this.2⟩
theorem m_law_plan (h : RowsZ rows) (hk : ∀ P, PlanOk c (rows.map (·.1)) (rows.map (·.2)) P → k P) : p__law_plan c (.lst (rows.map rowZ)) k := by
  have s1 : (2000 : Nat) < sizeLine := by decide
  have h8 := h.most
  unfold p__law_plan
  refine q_seq (.inl rfl) (q_compRel rowZ (rowR c) (fun p r => r.1 = p.1 ∧ RuleOk p.2 r.2) (by omega) (fun p hp q hq => q_un2 ?_) fun ps pl rel => ?_)
  · obtain ⟨a, b⟩ := h.set hp
    have few : FewOk p.2 := ⟨rows.map (·.1), by rw [List.length_map]; omega, h.oks, fun z hz s hs => ((b z hz).2 s hs).1⟩
    refine m_of_sets (.inr rfl) (.inl rfl) few (by omega) fun rw ys hr hy => hq (p.1, rw, ys) ⟨rfl, hr, hy, fun z hz s hs => ?_⟩
    obtain ⟨z0, h0, h1⟩ := hr.wide.2 z hz
    exact h.oks s ((b z0 h0).2 s (h1 s hs)).1
  · have at_ : ∀ (i : Nat) r, ps[i]? = some r → ∃ p, rows[i]? = some p ∧ p ∈ rows ∧ r.1 = p.1 ∧ RuleOk p.2 r.2 := fun i r hi => by
      have il := (List.getElem?_eq_some_iff.mp hi).1
      have e : rows[i]? = some rows[i] := List.getElem?_eq_getElem (by omega)
      exact ⟨_, e, List.getElem_mem _, rel i _ r e hi⟩
    have names : ps.map (·.1) = rows.map (·.1) := by
      refine List.ext_getElem? fun i => ?_
      rw [List.getElem?_map, List.getElem?_map]
      cases e : ps[i]? with
      | none => rw [List.getElem?_eq_none (by have := List.getElem?_eq_none_iff.mp e; omega)]; rfl
      | some r =>
        obtain ⟨p, hp, _, e1, _⟩ := at_ i r e
        rw [hp]
        exact congrArg some e1
    have own : ∀ r ∈ ps, (∀ s ∈ r.2.2, s ∈ ps.map (·.1) ∧ s ≠ r.1) ∧ NameS r.1 := fun r hr => by
      obtain ⟨i, hi⟩ := List.getElem?_of_mem hr
      obtain ⟨p, hp, pm, e1, ok⟩ := at_ i r hi
      refine ⟨fun s hs => ?_, by rw [e1]; exact h.name p pm⟩
      obtain ⟨z, hz, hs⟩ := (ok.names.2.2 s).mp hs
      obtain ⟨z0, h0, h1⟩ := ok.least.wide.2 z hz
      have := ((h.set pm).2 z0 h0).2 s (h1 s hs)
      rw [names, e1]
      exact this
    have ro : RowsOk ps := ⟨by have := h.one; omega, by omega, by rw [names]; exact h.nod, fun r hr => (own r hr).2, fun r hr => (own r hr).1, fun r hr => by
      obtain ⟨i, hi⟩ := List.getElem?_of_mem hr
      obtain ⟨p, hp, pm, e1, ok⟩ := at_ i r hi
      have := nodup_sub (B := rows.map (·.1)) ok.names.1 fun s hs => by
        have := ((own r hr).1 s hs).1
        rw [names] at this
        exact this
      rw [List.length_map] at this
      omega⟩
    refine m_plan ro fun t ht => ?_
    rw [names] at ht ⊢
    refine hk _ (.mk' h.nod (by rw [List.length_map]; exact h8) h.oks ⟨by rw [List.length_map, List.length_map]; exact pl, fun i r zs hr hz => ?_⟩ ht)
    rw [List.getElem?_map] at hr hz
    obtain ⟨r', hr', rfl⟩ := Option.map_eq_some_iff.mp hr
    obtain ⟨p, hp, pm, e1, ok⟩ := at_ i r' hr'
    rw [hp] at hz
    cases hz
    exact ⟨ok, fun z hz s hs => (((h.set pm).2 z hz).2 s hs).1⟩
end
end Dw

/-! M25b: what the law finds bad, what it leaves; one step of a fall. -/
namespace Dw
open PySem PySem.Spec PyProof.Rows L2
theorem q_subl {body : D → (Option D → Prop) → Prop} {k : D → Prop} : ∀ {l : List Str} {acc : List D}, (∀ s ∈ l, ∀ q, q (some (.str s)) → q none → body (.str s) q) → (∀ ls : List Str, ls.Sublist l → k (.lst (acc ++ ls.map D.str))) → W.comp body (l.map D.str) acc k
  | [], acc, _, h => by
    have := h [] (List.Sublist.refl _)
    rw [List.map_nil, List.append_nil] at this
    exact this
  | s :: l, acc, hb, h => by
    refine hb s List.mem_cons_self _ (q_subl (fun x hx => hb x (List.mem_cons_of_mem _ hx)) fun ls hs => ?_) (q_subl (fun x hx => hb x (List.mem_cons_of_mem _ hx)) fun ls hs => ?_)
    · have := h (s :: ls) (hs.cons_cons s)
      rw [List.append_assoc]
      exact this
    · have := h ls (hs.cons s)
      show k (.lst (acc ++ [] ++ ls.map D.str))
      rw [List.append_nil]
      exact this
theorem m_some {l : List Str} {n : Nat} {k : D → Prop} (n0 : 0 < n) (n1 : n < 1000) (hl : l.length < 1000) (h : ∀ ls : List Str, ls.Sublist l → k (.lst (ls.map D.str))) : p__law_some (.lst (l.map D.str)) (natD n) k := by
  have s1 : (1000 : Nat) < sizeLine := by decide
  unfold p__law_some
  exact q_seq (.inl rfl) ⟨by rw [List.length_map]; omega, q_subl (fun s _ q h1 h2 => q_draw (by omega) (by omega) fun m _ => q_eqI (q_t (q_dec (fun _ => h1) fun _ => h2))) fun ls hs => h ls hs⟩
section
variable {ns : List Str} {m a b : Nat}
theorem mask_nil : maskN ns ([] : List Str) = 0 := Nat.eq_of_testBit_eq fun i => by
  rw [maskN_bit, Nat.zero_testBit]
  cases ns[i]? <;> simp
theorem mask_mono {us ws : List Str} (h : ∀ s ∈ us, s ∈ ws) : Sub (maskN ns us) (maskN ns ws) := fun i hi => by
  rw [maskN_bit] at hi ⊢
  cases e : ns[i]? with
  | none =>
    rw [e] at hi
    cases hi
  | some s =>
    rw [e] at hi
    exact decide_eq_true (h s (of_decide_eq_true hi))
end
/-! ### bad parts -/
section
variable {rows : List RowZ} {k : D → Prop} {x y : D} {ps ws : List Str}
/-! ### what is left -/
end
end Dw

/-! MQ: lists of texts compared, cut, joined. -/
namespace Dw
open PySem PySem.Spec PyProof.Rows L2
end Dw

/-! M20s: all sets of names, by size; rows in another order; short texts. -/
namespace Dw
open PySem PySem.Spec PyProof.Rows L2
open PySem.W (dataLe dataLt AllAlike Sortable alike alikeAll)
/-! ### sorted by size -/
/-! ### the pairs -/
theorem RowsZ.perm {rows rows' : List RowZ} (h : RowsZ rows) (p : rows'.Perm rows) : RowsZ rows' :=
  have pn : (rows'.map (·.1)).Perm (rows.map (·.1)) := p.map _
  ⟨by rw [p.length_eq]; exact h.one, by rw [p.length_eq]; exact h.most, pn.nodup_iff.mpr h.nod, fun r hr => h.name r (p.mem_iff.mp hr), fun r hr => by
    obtain ⟨a, b⟩ := h.sets r (p.mem_iff.mp hr)
    refine ⟨a, fun z hz => ⟨(b z hz).1, fun s hs => ?_⟩⟩
    have := (b z hz).2 s hs
    rw [List.mem_filter] at this ⊢
    exact ⟨pn.mem_iff.mpr this.1, this.2⟩⟩
theorem q_addII {a b : Nat} {k : D → Prop} (h : k (natD (a + b))) : W.add (natD a) (natD b) k := q_addI h
/-! ### strings -/
/-- a short text of plain signs -/
def ShortS (s : Str) : Prop := D.ok 0 70 (.str s)
theorem ShortS.strOk {s : Str} (h : ShortS s) : PyData.strOk s = true := h.1
end Dw

/-! MGa: what a step brings, again and again; closures. -/
namespace Dw
open PySem PySem.Spec PyProof.Rows L2
/-! ### how many bits -/
def cnt (n m : Nat) : Nat := (List.range n).countP fun i => m.testBit i
theorem countP_up {p q : Nat → Bool} : ∀ {l : List Nat}, (∀ x ∈ l, p x = true → q x = true) → l.countP p ≤ l.countP q
  | [], _ => Nat.le_refl _
  | a :: l, h => by
    have ih := countP_up (l := l) fun x hx => h x (List.mem_cons_of_mem _ hx)
    rw [List.countP_cons, List.countP_cons]
    cases e : p a with
    | false =>
      simp only [Bool.false_eq_true, if_false]
      omega
    | true =>
      rw [h a List.mem_cons_self e]
      simp only [if_true]
      omega
theorem countP_lt {p q : Nat → Bool} : ∀ {l : List Nat}, (∀ x ∈ l, p x = true → q x = true) → (∃ x ∈ l, q x = true ∧ p x = false) → l.countP p < l.countP q
  | [], _, ⟨_, h, _⟩ => nomatch h
  | a :: l, h, ⟨x, hx, q1, p0⟩ => by
    have le := countP_up (l := l) fun x hx => h x (List.mem_cons_of_mem _ hx)
    rw [List.countP_cons, List.countP_cons]
    rcases List.mem_cons.mp hx with rfl | hx
    · rw [q1, p0]
      simp only [if_true, Bool.false_eq_true, if_false]
      omega
    · have ih := countP_lt (l := l) (fun x hx => h x (List.mem_cons_of_mem _ hx)) ⟨x, hx, q1, p0⟩
      cases e : p a with
      | false =>
        simp only [Bool.false_eq_true, if_false]
        omega
      | true =>
        rw [h a List.mem_cons_self e]
        simp only [if_true]
        omega
theorem cnt_lt {n m l : Nat} (h : Sub m l) (ne : m ≠ l) (hl : l < 2 ^ n) : cnt n m < cnt n l := by
  refine countP_lt (fun i _ => h i) ?_
  apply Classical.byContradiction
  intro no
  refine ne (h.anti fun i hi => ?_)
  have il : i < n := Nat.lt_of_not_le fun z => by
    rw [Nat.testBit_lt_two_pow (Nat.lt_of_lt_of_le hl (Nat.pow_le_pow_right (by decide) z))] at hi
    cases hi
  cases e : m.testBit i with
  | true => rfl
  | false => exact absurd ⟨i, List.mem_range.mpr il, hi, e⟩ no
/-! ### again and again -/
def iter (f : Nat → Nat) : Nat → Nat → Nat
  | 0, m => m
  | k + 1, m => if f m = m then m else iter f k (f m)
/-! ### closures -/
section
variable {n p : Nat} {S : Nat → Nat}
/-- the least that holds m and what it holds up -/
structure IsClos (S : Nat → Nat) (p m r : Nat) : Prop where
  ge : Sub m r
  ok : Sub (S r ||| p) r
  least : ∀ x, Sub m x → Sub (S x ||| p) x → Sub r x
theorem IsClos.eq {m r r' : Nat} (h : IsClos S p m r) (g : IsClos S p m r') : r = r' := (h.least r' g.ge g.ok).anti (g.least r h.ge h.ok)
end
end Dw

/-! MO: equal and unequal plans, | and & of yards, == of yards. -/
namespace Dw
open PySem PySem.Spec PyProof.Rows L2
theorem least_go {ys ys' : List Str} {zs zs' : List (List Str)} (pw : ys.Pairwise ltS) (pw' : ys'.Pairwise ltS) (hy : ∀ z ∈ zs, ∀ n ∈ z, n ∈ ys) (hy' : ∀ z ∈ zs', ∀ n ∈ z, n ∈ ys') (e : ∀ p, anyIn zs p = anyIn zs' p) {z : List Str} (h : LeastIn ys zs z) : LeastIn ys' zs' z := by
  obtain ⟨z0, h0, rfl, hm⟩ := h
  have up : ∀ {as bs : List (List Str)} {p : List Str}, (∀ p, anyIn as p = anyIn bs p) → p ∈ as → ∃ q ∈ bs, ∀ n ∈ q, n ∈ p := fun {as bs p} e hp => by
    have h1 : anyIn as p = true := List.any_eq_true.mpr ⟨p, hp, subL_refl p⟩
    rw [e] at h1
    obtain ⟨q, hq, hs⟩ := List.any_eq_true.mp h1
    exact ⟨q, hq, fun n hn => subL_iff.mp hs n hn⟩
  obtain ⟨z1, h1, s1⟩ := up e h0
  have tri : ∀ z2 ∈ zs', (∀ n ∈ z2, n ∈ z1) → ∀ n ∈ z0, n ∈ z2 := fun z2 h2 s2 n hn => by
    obtain ⟨z3, h3, s3⟩ := up (fun p => (e p).symm) h2
    exact s3 n (hm z3 h3 (fun m k => s1 m (s2 m (s3 m k))) n hn)
  have b0 : ∀ n ∈ z0, n ∈ z1 := tri z1 h1 fun _ h => h
  refine ⟨z1, h1, ?_, fun z2 h2 s2 n hn => tri z2 h2 s2 n (s1 n hn)⟩
  refine rise_eq ltS_asym (pw.filter _) (pw'.filter _) fun n => ?_
  rw [mem_canon, mem_canon]
  exact ⟨fun z => ⟨hy' z1 h1 n (b0 n z.2), b0 n z.2⟩, fun z => ⟨hy z0 h0 n (s1 n z.2), s1 n z.2⟩⟩
/-- sets that ask the same have the same least sets -/
theorem IsLeast.uniq {zs zs' rows rows' : List (List Str)} (h : IsLeast zs rows) (h' : IsLeast zs' rows') (e : ∀ p, anyIn zs p = anyIn zs' p) : rows = rows' := by
  obtain ⟨ys, _, nd, so, hy, _⟩ := id h
  obtain ⟨ys', _, nd', so', hy', _⟩ := id h'
  have w : ∀ z ∈ zs, ∀ n ∈ z, n ∈ ys := fun z hz n hn => (hy n).mpr ⟨z, hz, hn⟩
  have w' : ∀ z ∈ zs', ∀ n ∈ z, n ∈ ys' := fun z hz n hn => (hy' n).mpr ⟨z, hz, hn⟩
  have p := sorted_pw nd so
  have p' := sorted_pw nd' so'
  obtain ⟨a, b⟩ := h.mem p w
  obtain ⟨a', b'⟩ := h'.mem p' w'
  exact rise_eq ltR_asym a a' fun z => ((b z).trans ⟨fun q => least_go p p' w w' e q, fun q => least_go p' p w' w (fun p => (e p).symm) q⟩).trans (b' z).symm
section
variable {c : Cn} {ns ns' : List Str} {zss zss' : List (List (List Str))} {P P' : D} {k : D → Prop}
/-- plans of the same names and sets -/
theorem m_pl_same (hkP : c.kit (.ref c.Plan) (.ref c.Plan) = some true) (hkR : c.kit (.ref c.Rule) (.ref c.Rule) = some true) (h : PlanOk c ns zss P) (h' : PlanOk c ns zss P') (hk : k (.bl true)) : p_Plan___eq__ c P P' k := by
  obtain ⟨rs, t, rfl, _, _, ho, hr⟩ := h.is
  obtain ⟨rs', t', rfl, _, _, ho', hr'⟩ := h'.is
  refine m_plan_eqB hkP hkR h.oks h.oks ho ho' ?_
  have e : rs.map (·.1) = rs'.map (·.1) := by
    refine List.ext_getElem? fun i => ?_
    rw [List.getElem?_map, List.getElem?_map]
    have ll : rs.length = rs'.length := hr.1.trans hr'.1.symm
    cases e1 : rs[i]? with
    | none =>
      rw [List.getElem?_eq_none (by have := List.getElem?_eq_none_iff.mp e1; omega)]
    | some r =>
      have il := (List.getElem?_eq_some_iff.mp e1).1
      have i2 : i < rs'.length := by omega
      have i3 : i < zss.length := by have := hr.1; omega
      have e2 : rs'[i]? = some rs'[i] := List.getElem?_eq_getElem i2
      have e3 : zss[i]? = some zss[i] := List.getElem?_eq_getElem i3
      rw [e2]
      exact congrArg some ((hr.2 i _ _ e1 e3).1.least.uniq (hr'.2 i _ _ e2 e3).1.least fun _ => rfl)
  rw [decide_eq_true ⟨rfl, e⟩]
  exact hk
/-- names and sets that are not the same plan -/
def Other (ns ns' : List Str) (zss zss' : List (List (List Str))) : Prop := ns ≠ ns' ∨ ∃ (i : Nat) (zs zs' : List (List Str)) (p : List Str), zss[i]? = some zs ∧ zss'[i]? = some zs' ∧ anyIn zs p ≠ anyIn zs' p
theorem Other.symm (h : Other ns ns' zss zss') : Other ns' ns zss' zss := h.elim (fun z => .inl (Ne.symm z)) fun ⟨i, zs, zs', p, a, b, e⟩ => .inr ⟨i, zs', zs, p, b, a, Ne.symm e⟩
theorem q_isNo {b : Bool} (h : k (.bl (!b))) : W.isNo k (.bl b) := ⟨b, rfl, h⟩
variable {a b : Nat}
theorem yard_ins : ∃ ms ds, yardD c P ns a = .ins c.Yard ms ds := ⟨_, _, rfl⟩
theorem m_plans (hkP : c.kit (.ref c.Plan) (.ref c.Plan) = some true) (hkR : c.kit (.ref c.Rule) (.ref c.Rule) = some true) (h : PlanOk c ns zss P) (h' : PlanOk c ns zss P') (hk : k .non) : p_check_plans c (yardD c P ns a) (yardD c P' ns b) k :=
  m_yplan (m_yplan ⟨h.ins, h'.ins, m_pl_same hkP hkR h h' (q_isNo (q_t (q_F hk)))⟩)
theorem less_ltO {m s n : Nat} (hm : m < 2 ^ n) : less m s < 2 ^ n := by
  refine Nat.lt_pow_two_of_testBit _ fun i hi => ?_
  rw [less_bit, Nat.testBit_lt_two_pow (Nat.lt_of_lt_of_le hm (Nat.pow_le_pow_right (by decide) hi))]
  rfl
theorem or_lt {n : Nat} (ha : a < 2 ^ n) (hb : b < 2 ^ n) : a ||| b < 2 ^ n := Nat.or_lt_two_pow ha hb
theorem m_or (hkP : c.kit (.ref c.Plan) (.ref c.Plan) = some true) (hkR : c.kit (.ref c.Rule) (.ref c.Rule) = some true) (h : PlanOk c ns zss P) (h' : PlanOk c ns zss P') (ha : a < 2 ^ ns.length) (hb : b < 2 ^ ns.length) (hk : k (yardD c P ns (a ||| b))) : p_Yard___or__ c (yardD c P ns a) (yardD c P' ns b) k :=
  m_plans hkP hkR h h' (m_yplan (m_ymask (m_ymask (q_bor (m_yard_of h (or_lt ha hb) hk)))))
/-! names of masks -/
end
end Dw

/-! MI2: least standing yards. -/
namespace Dw
open PySem PySem.Spec PyProof.Rows L2
theorem pos_cnt (n m : Nat) : (posN n m).length = cnt n m := by
  rw [← filter_pos]
  exact List.countP_eq_length_filter.symm
/-- no later one is within an earlier one -/
theorem IsAll.rise {n : Nat} {L : List Nat} (h : IsAll n L) : L.Pairwise fun x y => within y x = false := by
  refine List.Pairwise.imp_of_mem (fun {x y} hx hy q => ?_) h.up
  cases e : within y x with
  | false => rfl
  | true =>
    have s := sub_within.mp e
    by_cases ne : y = x
    · subst ne
      exact (ltM_asym n y y q q).elim
    · have c := cnt_lt s ne ((h.mem x).mp hx)
      rw [← pos_cnt, ← pos_cnt] at c
      rcases q with q | ⟨q, _⟩ <;> omega
section
variable {c : Cn} {ns : List Str} {zss : List (List (List Str))} {P : D} {a : Nat} {k : D → Prop}
end
end Dw

/-! MYb: methods of yards, where nothing is raised. -/
namespace Dw
open PySem PySem.Spec PyProof.Rows L2
section
variable {c : Cn} {ns ws : List Str} {zss : List (List (List Str))} {P P' y : D} {a b m : Nat} {k : D → Prop}
theorem m_restY (h : PlanOk c ns zss P) (hm : m < 2 ^ ns.length) (hk : ∀ r, IsRest (supZ ns zss) m 0 r → k (yardD c P ns r)) : p_Yard_rest c (yardD c P ns m) k := by
  refine m_yplan (m_yplan (m_ymask (m_rest (p := 0) h hm fun r hr => m_yard_of h ?_ (hk r hr))))
  have := hr.le.le
  omega
theorem m_restU (h : PlanOk c ns zss P) (hm : m < 2 ^ ns.length) (hy : SeqD y ws) (hw : ∀ s ∈ ws, s ∈ ns) (hk : ∀ r, IsRest (supZ ns zss) m (maskN ns ws) r → k (yardD c P ns r)) : p_Yard_rest_under c (yardD c P ns m) y k := by
  refine m_yplan (m_yplan (m_ymask (m_yplan (m_parts_mask h hy hw (m_rest h hm fun r hr => m_yard_of h ?_ (hk r hr))))))
  have := hr.le.le
  omega
theorem m_minusY (hkP : c.kit (.ref c.Plan) (.ref c.Plan) = some true) (hkR : c.kit (.ref c.Rule) (.ref c.Rule) = some true) (h : PlanOk c ns zss P) (h' : PlanOk c ns zss P') (ha : a < 2 ^ ns.length) (hk : k (yardD c P ns (less a b))) : p_Yard___sub__ c (yardD c P ns a) (yardD c P' ns b) k :=
  m_plans hkP hkR h h' (m_yplan (m_ymask (m_ymask (q_inv (q_bandN (m_yard_of h (less_ltO ha) hk))))))
theorem q_oY {m : Nat} {n : Str} {q : Prop} (hn : (["plan", "mask", "parts"] : List Str).contains n = false) (h : q) : W.obj [c.Yard] n (yardD c P ns m) q := ⟨c.Yard, _, _, List.mem_singleton.mpr rfl, rfl, hn, h⟩
end
end Dw

/-! M19: the rest is the greatest. -/
namespace Dw
open PySem PySem.Spec PyProof.Rows L2
theorem or_eqN {x y : Nat} (h : Sub x y) : x ||| y = y := Nat.eq_of_testBit_eq fun i => by
  rw [Nat.testBit_or]
  cases e : x.testBit i with
  | false => rfl
  | true => rw [h i e]; rfl
theorem sub_of_orN {x y : Nat} (h : x ||| y = y) : Sub x y := fun i hi => by
  rw [← h, Nat.testBit_or, hi]
  rfl
structure Kits19 (c : Cn) : Prop where
  Y : c.kit (.ref c.Yard) (.ref c.Yard) = some true
  R : c.kit (.ref c.Rule) (.ref c.Rule) = some true
  P : c.kit (.ref c.Plan) (.ref c.Plan) = some true
section
variable {c : Cn} {ns ws vs : List Str} {zss : List (List (List Str))} {P x y : D} {a b m : Nat} {k : D → Prop}
theorem neBl {p q : Bool} {k : D → Prop} (h : k (.bl (!decide (p = q)))) : W.ne (.bl p) (.bl q) k := .inl ⟨_, _, rfl, rfl, rfl, by
  have e : decide (V.bl p = V.bl q) = decide (p = q) := by cases p <;> cases q <;> rfl
  rw [e]
  exact h⟩
theorem eqBl {p q : Bool} {k : D → Prop} (h : k (.bl (decide (p = q)))) : W.eq (.bl p) (.bl q) k := .inl ⟨_, _, rfl, rfl, rfl, by
  have e : decide (V.bl p = V.bl q) = decide (p = q) := by cases p <;> cases q <;> rfl
  rw [e]
  exact h⟩
/-- all yards, as they come -/
theorem m_all (h : PlanOk c ns zss P) (hk : ∀ L, IsAll ns.length L → k (.lst (L.map fun m => yardD c P ns m))) : p_all_yards c P (.bl false) k := by
  have s1 : (2000 : Nat) < sizeLine := by decide
  have h8 := h.len
  unfold p_all_yards
  refine m_pn h <| q_lenT (n := ns.length) (by rw [List.length_map]) <| m_masks (by omega) fun L hL => ?_
  have hl : L.length ≤ 256 := by
    rw [hL.len]
    exact Nat.pow_le_pow_right (n := 2) (by decide) h8
  refine q_seq (.inl rfl) (q_comp natD (fun m => some (yardD c P ns m)) (by omega) (fun m hm q hq => q_join <| q_t <| q_nt <| q_T <| q_T <| m_yard_of h ((hL.mem m).mp hm) hq) ?_)
  rw [filterMap_some]
  exact hk L hL
theorem m_right (K : Kits19 c) (h : PlanOk c ns zss P) (ha : a < 2 ^ ns.length) (hb : b < 2 ^ ns.length) (hx : SeqD x ws) (hw : ∀ s ∈ ws, s ∈ ns) (hy : SeqD y vs) (hv : ∀ s ∈ vs, s ∈ ns) (hpq : ∀ s ∈ ws, s ∈ vs) (hk : k (.bl true)) : p__law_right c (yardD c P ns a) (yardD c P ns b) x y k := by
  have mono := supZ_mono ns zss
  have pq : Sub (maskN ns ws) (maskN ns vs) := mask_mono hpq
  have below : ∀ {r m : Nat}, m < 2 ^ ns.length → Sub r m → r < 2 ^ ns.length := fun hm hr => by
    have := hr.le
    omega
  have same : ∀ {z : Nat} {kk : D → Prop}, z < 2 ^ ns.length → kk (.bl false) → (∃ ns' ds, yardD c P ns z = .ins c.Yard ns' ds) ∧ (∃ ms es, yardD c P ns z = .ins c.Yard ms es) ∧ p_Yard___eq__ c (yardD c P ns z) (yardD c P ns z) (W.isNo kk) := fun hz hk => ⟨yard_ins, yard_ins, m_yard_eq h K.Y K.P K.R hz hz (q_isNo (by rw [decide_eq_true rfl]; exact hk))⟩
  have o1 : (["plan", "mask", "parts"] : List Str).contains "rest_under" = false := by decide +kernel
  have o2 : (["plan", "mask", "parts"] : List Str).contains "stands_under" = false := by decide +kernel
  have o3 : (["plan", "mask", "parts"] : List Str).contains "rest" = false := by decide +kernel
  have o4 : (["plan", "mask", "parts"] : List Str).contains "stands" = false := by decide +kernel
  unfold p__law_right
  refine q_oY o1 <| m_restU h ha hx hw fun r hr => ?_
  have hr' := below ha hr.le
  refine ⟨yard_ins, yard_ins, m_or K.P K.R h h ha hb <| q_oY o1 <| m_restU h (or_lt ha hb) hx hw fun w hw' => ?_⟩
  have hwl := below (or_lt ha hb) hw'.le
  have rw_ : Sub r w := hr.mono mono hw' sub_or_l .rfl'
  refine q_join <| q_oY o2 <| m_stands_under h hr' hx hw ?_
  rw [decide_eq_true (less_nil.mpr hr.ok)]
  refine q_t <| q_nt <| q_F <| q_oY o1 <| m_restU h hr' hx hw fun r2 hr2 => ?_
  obtain rfl : r2 = r := hr2.eq (IsRest.self hr.ok)
  refine same hr' <| q_t <| q_F <| ⟨yard_ins, yard_ins, m_minusY K.P K.R h h hr' <| m_yplan <| m_yard (ws := []) h (.inr rfl) (fun s hs => nomatch hs) ?_⟩
  rw [mask_nil, less_nil.mpr hr.le]
  refine same (Nat.two_pow_pos _) <| q_t <| q_F <| q_join <| ⟨yard_ins, yard_ins, m_or K.P K.R h h hr' hwl ?_⟩
  rw [or_eqN rw_]
  refine same hwl <| q_t <| q_F <| q_oY o1 <| m_restU h ha hy hv fun u hu => ?_
  have hul := below ha hu.le
  refine ⟨yard_ins, yard_ins, m_or K.P K.R h h hr' hul <| q_oY o1 <| m_restU h ha hy hv fun u2 hu2 => ?_⟩
  obtain rfl : u2 = u := hu2.eq hu
  rw [or_eqN (hr.mono mono hu2 .rfl' pq)]
  refine same hul <| q_t <| q_F <| q_join <| q_oY o1 <| m_restU h hb hx hw fun v hv' => ?_
  have hvl := below hb hv'.le
  have un : Holds (supZ ns zss) (maskN ns ws) (r2 ||| v) := fun i hi => by
    rw [Nat.testBit_or, Bool.or_eq_true] at hi
    rcases hi with hi | hi
    · exact or_sub (mono _ _ sub_or_l) .rfl' i (hr.ok i hi)
    · exact or_sub (mono _ _ sub_or_r) .rfl' i (hv'.ok i hi)
  refine ⟨yard_ins, yard_ins, m_or K.P K.R h h hr' hvl <| q_oY o2 <| m_stands_under h (or_lt hr' hvl) hx hw ?_⟩
  rw [decide_eq_true (less_nil.mpr un)]
  refine q_t <| q_nt <| q_F <| q_oY o1 <| m_restU h ha hy hv fun u3 hu3 => q_oY o1 <| m_restU h (below ha hu3.le) hx hw fun t ht => ?_
  obtain rfl : t = r2 := IsRest.eq (m := a) (p := maskN ns ws) (sup := supZ ns zss) ⟨ht.le.trans hu3.le, ht.ok, fun z hz ok => ht.top z (hu3.top z hz (ok.more mono pq)) ok⟩ hr
  refine same hr' <| q_t <| q_F <| q_join <| q_oY o2 <| m_stands_under h ha hx hw ?_
  have ra : less a (supZ ns zss a ||| maskN ns ws) = 0 ↔ t = a := ⟨fun e => hr.eq (IsRest.self (less_nil.mp e)), fun e => by
    subst e
    exact less_nil.mpr hr.ok⟩
  refine ⟨yard_ins, yard_ins, m_yard_eq h K.Y K.P K.R hr' ha <| neBl ?_⟩
  rw [decide_eq_decide.mpr ra, decide_eq_true rfl]
  refine q_t <| q_F <| q_join <| q_oY o2 <| m_stands_under h ha hx hw ?_
  have fin : W.join (fun k18 : D → Prop => W.obj [c.Yard] "rest" (yardD c P ns a) ((p_Yard_rest c) (yardD c P ns a) fun v26 => W.obj [c.Yard] "rest_under" (yardD c P ns a) ((p_Yard_rest_under c) (yardD c P ns a) (D.tup []) fun v27 => (∃ ns ds, v26 = .ins c.Yard ns ds) ∧ (∃ ms es, v27 = .ins c.Yard ms es) ∧ (p_Yard___eq__ c) v26 v27 fun v25 => W.truth v25 fun b20 => W.ite b20 (W.obj [c.Yard] "stands" (yardD c P ns a) ((p_Yard_stands c) (yardD c P ns a) fun v22 => W.obj [c.Yard] "rest" (yardD c P ns a) ((p_Yard_rest c) (yardD c P ns a) fun v24 => (∃ ns ds, v24 = .ins c.Yard ns ds) ∧ (∃ ms es, (yardD c P ns a) = .ins c.Yard ms es) ∧ (p_Yard___eq__ c) v24 (yardD c P ns a) fun v23 => W.eq v22 v23 fun v21 => k18 v21))) (k18 (D.bl false))))) fun v19 => k v19 := by
    refine q_join <| q_oY o3 <| m_restY h ha fun r0 hr0 => q_oY o1 <| m_restU (ws := []) h ha (.inr rfl) (fun s hs => nomatch hs) fun r1 hr1 => ?_
    rw [mask_nil] at hr1
    obtain rfl : r1 = r0 := hr1.eq hr0
    have hl0 := below ha hr0.le
    refine ⟨yard_ins, yard_ins, m_yard_eq h K.Y K.P K.R hl0 hl0 ?_⟩
    rw [decide_eq_true rfl]
    refine q_t <| q_T <| q_oY o4 <| m_stands h ha <| q_oY o3 <| m_restY h ha fun r3 hr3 => ?_
    obtain rfl : r3 = r1 := hr3.eq hr0
    have r0a : less a (supZ ns zss a ||| 0) = 0 ↔ r3 = a := ⟨fun e => hr0.eq (IsRest.self (less_nil.mp e)), fun e => by
      subst e
      exact less_nil.mpr hr0.ok⟩
    refine ⟨yard_ins, yard_ins, m_yard_eq h K.Y K.P K.R hl0 ha <| eqBl ?_⟩
    rw [decide_eq_decide.mpr r0a, decide_eq_true rfl]
    exact hk
  by_cases e : less a (supZ ns zss a ||| maskN ns ws) = 0
  · rw [decide_eq_true e]
    refine q_t <| q_T <| q_oY o2 <| m_stands_under h ha hy hv ?_
    rw [decide_eq_true (less_nil.mpr (Holds.more mono (less_nil.mp e) pq))]
    exact q_t <| q_nt <| q_F fin
  · rw [decide_eq_false e]
    exact q_t <| q_F <| q_F fin
end
set_option maxHeartbeats 1000000 in
theorem m_law {c : Cn} (K : Kits19 c) (xs0 : List Int) (h63 : xs0.length ≤ 63) : p_law c (.lst (xs0.map D.int)) fun d => d = .bl true := by
  have s1 : (2000 : Nat) < sizeLine := by decide
  have o1 : (["plan", "mask", "parts"] : List Str).contains "rest_under" = false := by decide +kernel
  have o2 : (["plan", "mask", "parts"] : List Str).contains "stands_under" = false := by decide +kernel
  unfold p_law
  refine q_part (q_slTo (n := 2) ?_)
  have tl : (xs0.take 2).length ≤ 2 := by rw [List.length_take]; omega
  generalize xs0.take 2 = ys at tl
  have p60 : (100 : Nat) < 2 ^ 60 := by decide
  refine q_lenR (F := D.int) (.inl rfl) <| q_addII (a := 2) (b := ys.length) <| q_range (n := 2 + ys.length) (by omega) (q_forA natD (fun _ _ => True) trivial ?_ fun _ _ => rfl)
  rintro i b0 _ n13 hb0 - hn13
  refine q_draw (by decide) (by decide) fun m4 hm4 => ?_
  have em : ∃ mm : Nat, ([D.int 3, D.int 4, D.int 4, D.int 5, D.int 5, D.int 6] : List D)[m4]? = some (natD mm) ∧ 3 ≤ mm ∧ mm ≤ 8 := by
    match m4, hm4 with
    | 0, _ => exact ⟨3, rfl, by decide, by decide⟩
    | 1, _ => exact ⟨4, rfl, by decide, by decide⟩
    | 2, _ => exact ⟨4, rfl, by decide, by decide⟩
    | 3, _ => exact ⟨5, rfl, by decide, by decide⟩
    | 4, _ => exact ⟨5, rfl, by decide, by decide⟩
    | 5, _ => exact ⟨6, rfl, by decide, by decide⟩
    | n + 6, h => omega
  obtain ⟨mm, emm, mm3, mm8⟩ := em
  refine q_ixL (i := m4) emm <| m_rows mm3 mm8 fun rows hr _ => m_law_plan hr fun P h => ?_
  have h8 := hr.most
  have nl : (rows.map (·.1)).length = rows.length := List.length_map _
  refine q_seq (.inl rfl) (q_comp rowZ (fun r => some (.str r.1)) (by omega) (fun r _ q hq => q_ix0 hq) ?_)
  rw [filterMap_some]
  have en : (rows.map fun r => D.str r.1) = (rows.map (·.1)).map D.str := by rw [List.map_map]; rfl
  rw [en]
  have mono := supZ_mono (rows.map (·.1)) (rows.map (·.2))
  refine m_some (n := 3) (by decide) (by decide) (by omega) fun ws wsub => ?_
  have wl := wsub.length_le
  refine q_seq (.inl rfl) (q_comp D.str (fun s => if (!decide (s ∈ ws)) then some (.str s) else none) (by omega) (fun s hs q hq => q_inS (.inl rfl) (q_t ?_)) ?_)
  · by_cases e : s ∈ ws
    · rw [decide_eq_true e] at hq ⊢
      exact q_F hq
    · rw [decide_eq_false e] at hq ⊢
      exact q_T hq
  rw [filterMap_if]
  have fl := List.length_filter_le (fun s => !decide (s ∈ ws)) (rows.map (·.1))
  refine m_some (n := 3) (by decide) (by decide) (by omega) fun us usub => ?_
  have ul := usub.length_le
  refine q_addL (by omega) <| q_mixed (.inl rfl) (by rw [List.length_append]; omega) fun vs pv => ?_
  have hw : ∀ s ∈ ws, s ∈ rows.map (·.1) := fun s hs => wsub.subset hs
  have hv : ∀ s ∈ vs, s ∈ rows.map (·.1) := fun s hs => by
    rcases List.mem_append.mp (pv.mem_iff.mp hs) with hs | hs
    · exact hw s hs
    · exact (List.mem_filter.mp (usub.subset hs)).1
  have hpq : ∀ s ∈ ws, s ∈ vs := fun s hs => pv.mem_iff.mpr (List.mem_append_left _ hs)
  refine m_all h fun L hL => ?_
  have hl : L.length ≤ 256 := by
    rw [hL.len]
    exact (show 2 ^ _ ≤ 2 ^ 8 from Nat.pow_le_pow_right (n := 2) (by decide) (by omega))
  have lpos : 0 < L.length := by
    rw [hL.len]
    exact Nat.two_pow_pos _
  refine ⟨_, .inl rfl, by rw [List.length_map]; omega, fun us2 pu => ?_⟩
  obtain ⟨ms, pm, rfl⟩ := perm_map pu _ rfl
  refine q_part <| q_slTo (n := 8) <| q_seq (.inl rfl) (q_forA (fun m => yardD c P (rows.map (·.1)) m) (fun _ _ => True) trivial ?_ fun _ _ => hn13 () trivial)
  rintro j a _ n40 ha - hn40
  have ha' : a < 2 ^ (rows.map (·.1)).length := (hL.mem a).mp (pm.mem_iff.mp (List.mem_of_mem_take (List.mem_of_getElem? ha)))
  refine q_lenR (F := fun m => yardD c P (rows.map (·.1)) m) (.inl rfl) <| q_draw (by omega) (by omega) fun j2 hj2 => ?_
  obtain ⟨b, hb⟩ : ∃ b, L[j2]? = some b := ⟨_, List.getElem?_eq_getElem (by omega)⟩
  have hb' := (hL.mem b).mp (List.mem_of_getElem? hb)
  refine q_ixL (i := j2) (d := yardD c P (rows.map (·.1)) b) (by rw [List.getElem?_map, hb]; rfl) ?_
  show p__law_right c (yardD c P (rows.map (·.1)) a) (yardD c P (rows.map (·.1)) b) _ _ _
  refine m_right (a := a) (b := b) (ws := ws) (vs := vs) K h ha' hb' (.inl rfl) hw (.inl rfl) hv hpq ?_
  refine q_t <| q_nt <| q_F ?_
  refine q_oY o1 ?_
  refine m_restU (ws := ws) h ha' (.inl rfl) hw fun r hr2 => ?_
  have hrl : r < 2 ^ (rows.map (·.1)).length := by
    have := hr2.le.le
    omega
  refine q_seq (.inl rfl) (q_forA (fun m => yardD c P (rows.map (·.1)) m) (fun _ _ => True) trivial ?_ fun _ _ => hn40 () trivial)
  rintro j3 m _ n47 hm - hn47
  have hm' := (hL.mem m).mp (List.mem_of_getElem? hm)
  refine q_join ⟨yard_ins (a := m), yard_ins, ?_⟩
  refine m_or (a := m) (b := a) K.P K.R h h hm' ha' ?_
  refine ⟨yard_ins, yard_ins, m_yard_eq h K.Y K.P K.R (or_lt hm' ha') ha' ?_⟩
  refine q_t ?_
  by_cases e1 : m ||| a = a
  · rw [decide_eq_true e1]
    refine q_T ?_
    refine q_oY (m := m) o2 ?_
    refine m_stands_under (ws := ws) h hm' (.inl rfl) hw ?_
    refine q_t ?_
    by_cases e2 : less m (supZ (rows.map (·.1)) (rows.map (·.2)) m ||| maskN (rows.map (·.1)) ws) = 0
    · rw [decide_eq_true e2]
      refine q_T ?_
      refine ⟨yard_ins (a := m), yard_ins, ?_⟩
      refine m_or (a := m) (b := r) K.P K.R h h hm' hrl ?_
      rw [or_eqN (hr2.top m (sub_of_orN e1) (less_nil.mp e2))]
      refine ⟨yard_ins, yard_ins, m_yard_eq h K.Y K.P K.R hrl hrl <| q_isNo ?_⟩
      rw [decide_eq_true rfl]
      exact q_t <| q_F <| hn47 () trivial
    · rw [decide_eq_false e2]
      exact q_F <| q_F <| hn47 () trivial
  · rw [decide_eq_false e1]
    exact q_F <| q_F <| hn47 () trivial
end Dw

namespace Dw
open PySem PySem.Spec PyProof.Rows L2
abbrev s__law_draw : Stmt := topW 70
abbrev s_names_in : Stmt := topW 11
abbrev s_mask_of : Stmt := topW 12
abbrev s_names_of : Stmt := topW 13
abbrev s_least_masks : Stmt := topW 15
abbrev s__law_mixed : Stmt := topW 71
abbrev s__law_words : Stmt := topW 74
abbrev s__law_deal : Stmt := topW 69
abbrev s__law_any_word : Stmt := topW 73
abbrev s_in_order : Stmt := topW 14
abbrev n_in_order : List Str := ["masks", "names", "sets", "mask"]
theorem sc_in_order : FnScope n_in_order ["masks", "names"] (defScope s_in_order) := ⟨rfl, rfl, rfl, by decide +kernel, rfl, by decide +kernel, by decide +kernel⟩
abbrev s_least_sets : Stmt := topW 17
abbrev n_least_sets : List Str := ["sets", "names", "one"]
theorem sc_least_sets : FnScope n_least_sets ["sets"] (defScope s_least_sets) := ⟨rfl, rfl, rfl, by decide +kernel, rfl, by decide +kernel, by decide +kernel⟩
abbrev s_Rule___init__ : Stmt := inClass (topW 59) 0
abbrev n_Rule___init__ : List Str := ["self", "least"]
theorem sc_Rule___init__ : FnScope n_Rule___init__ ["self", "least"] (defScope s_Rule___init__) := ⟨rfl, rfl, rfl, by decide +kernel, rfl, by decide +kernel, by decide +kernel⟩
abbrev s_Rule_of_sets : Stmt := inClass (topW 59) 1
abbrev n_Rule_of_sets : List Str := ["cls", "sets"]
theorem sc_Rule_of_sets : FnScope n_Rule_of_sets ["cls", "sets"] (defScope s_Rule_of_sets) := ⟨rfl, rfl, rfl, by decide +kernel, rfl, by decide +kernel, by decide +kernel⟩
abbrev s_Rule___eq__ : Stmt := inClass (topW 59) 6
abbrev n_Rule___eq__ : List Str := ["self", "other"]
theorem sc_Rule___eq__ : FnScope n_Rule___eq__ ["self", "other"] (defScope s_Rule___eq__) := ⟨rfl, rfl, rfl, by decide +kernel, rfl, by decide +kernel, by decide +kernel⟩
abbrev s_is_name : Stmt := topW 44
abbrev n_is_name : List Str := ["word", "letter"]
theorem sc_is_name : FnScope n_is_name ["word"] (defScope s_is_name) := ⟨rfl, rfl, rfl, by decide +kernel, rfl, by decide +kernel, by decide +kernel⟩
abbrev s_support_table : Stmt := topW 24
abbrev n_support_table : List Str := ["names", "rules", "table", "at", "rule", "one", "least", "mask", "worth"]
theorem sc_support_table : FnScope n_support_table ["names", "rules"] (defScope s_support_table) := ⟨rfl, rfl, rfl, by decide +kernel, rfl, by decide +kernel, by decide +kernel⟩
abbrev s_supported_in : Stmt := topW 25
abbrev n_supported_in : List Str := ["plan", "parts", "props"]
theorem sc_supported_in : FnScope n_supported_in ["plan", "parts", "props"] (defScope s_supported_in) := ⟨rfl, rfl, rfl, by decide +kernel, rfl, by decide +kernel, by decide +kernel⟩
abbrev s_falling_in : Stmt := topW 26
abbrev n_falling_in : List Str := ["plan", "parts", "props"]
theorem sc_falling_in : FnScope n_falling_in ["plan", "parts", "props"] (defScope s_falling_in) := ⟨rfl, rfl, rfl, by decide +kernel, rfl, by decide +kernel, by decide +kernel⟩
abbrev s_stands_in : Stmt := topW 27
abbrev n_stands_in : List Str := ["plan", "parts", "props"]
theorem sc_stands_in : FnScope n_stands_in ["plan", "parts", "props"] (defScope s_stands_in) := ⟨rfl, rfl, rfl, by decide +kernel, rfl, by decide +kernel, by decide +kernel⟩
abbrev s_rest_in : Stmt := topW 28
abbrev n_rest_in : List Str := ["plan", "parts", "props", "left", "falling"]
theorem sc_rest_in : FnScope n_rest_in ["plan", "parts", "props"] (defScope s_rest_in) := ⟨rfl, rfl, rfl, by decide +kernel, rfl, by decide +kernel, by decide +kernel⟩
abbrev n_mask_of : List Str := ["one", "names", "at", "name"]
theorem sc_mask_of : FnScope n_mask_of ["one", "names"] (defScope s_mask_of) := ⟨rfl, rfl, rfl, by decide +kernel, rfl, by decide +kernel, by decide +kernel⟩
abbrev n_names_of : List Str := ["mask", "names", "at", "name"]
theorem sc_names_of : FnScope n_names_of ["mask", "names"] (defScope s_names_of) := ⟨rfl, rfl, rfl, by decide +kernel, rfl, by decide +kernel, by decide +kernel⟩
abbrev s_masks_in_order : Stmt := topW 29
abbrev n_masks_in_order : List Str := ["many", "places", "one"]
theorem sc_masks_in_order : FnScope n_masks_in_order ["many"] (defScope s_masks_in_order) := ⟨rfl, rfl, rfl, by decide +kernel, rfl, by decide +kernel, by decide +kernel⟩
abbrev s_check_count : Stmt := topW 63
abbrev n_check_count : List Str := ["rows"]
theorem sc_check_count : FnScope n_check_count ["rows"] (defScope s_check_count) := ⟨rfl, rfl, rfl, by decide +kernel, rfl, by decide +kernel, by decide +kernel⟩
abbrev s_check_names : Stmt := topW 64
abbrev n_check_names : List Str := ["rows", "earlier", "at", "row"]
theorem sc_check_names : FnScope n_check_names ["rows"] (defScope s_check_names) := ⟨rfl, rfl, rfl, by decide +kernel, rfl, by decide +kernel, by decide +kernel⟩
abbrev s_check_rules : Stmt := topW 65
abbrev n_check_rules : List Str := ["rows", "names", "at", "row", "name"]
theorem sc_check_rules : FnScope n_check_rules ["rows"] (defScope s_check_rules) := ⟨rfl, rfl, rfl, by decide +kernel, rfl, by decide +kernel, by decide +kernel⟩
abbrev s_Plan___init__ : Stmt := inClass (topW 62) 0
abbrev n_Plan___init__ : List Str := ["self", "rows", "row"]
theorem sc_Plan___init__ : FnScope n_Plan___init__ ["self", "rows"] (defScope s_Plan___init__) := ⟨rfl, rfl, rfl, by decide +kernel, rfl, by decide +kernel, by decide +kernel⟩
abbrev s_Plan___eq__ : Stmt := inClass (topW 62) 6
abbrev n_Plan___eq__ : List Str := ["self", "other"]
theorem sc_Plan___eq__ : FnScope n_Plan___eq__ ["self", "other"] (defScope s_Plan___eq__) := ⟨rfl, rfl, rfl, by decide +kernel, rfl, by decide +kernel, by decide +kernel⟩
abbrev s_check_parts : Stmt := topW 8
abbrev n_check_parts : List Str := ["plan", "names", "name"]
theorem sc_check_parts : FnScope n_check_parts ["plan", "names"] (defScope s_check_parts) := ⟨rfl, rfl, rfl, by decide +kernel, rfl, by decide +kernel, by decide +kernel⟩
abbrev s_parts_mask : Stmt := topW 37
abbrev n_parts_mask : List Str := ["plan", "names"]
theorem sc_parts_mask : FnScope n_parts_mask ["plan", "names"] (defScope s_parts_mask) := ⟨rfl, rfl, rfl, by decide +kernel, rfl, by decide +kernel, by decide +kernel⟩
abbrev s_Yard___init__ : Stmt := inClass (topW 35) 0
abbrev n_Yard___init__ : List Str := ["self", "plan", "parts"]
theorem sc_Yard___init__ : FnScope n_Yard___init__ ["self", "plan", "parts"] (defScope s_Yard___init__) := ⟨rfl, rfl, rfl, by decide +kernel, rfl, by decide +kernel, by decide +kernel⟩
abbrev s_yard_of : Stmt := topW 36
abbrev n_yard_of : List Str := ["plan", "mask"]
theorem sc_yard_of : FnScope n_yard_of ["plan", "mask"] (defScope s_yard_of) := ⟨rfl, rfl, rfl, by decide +kernel, rfl, by decide +kernel, by decide +kernel⟩
abbrev s_Yard_stands : Stmt := inClass (topW 35) 2
abbrev n_Yard_stands : List Str := ["self"]
theorem sc_Yard_stands : FnScope n_Yard_stands ["self"] (defScope s_Yard_stands) := ⟨rfl, rfl, rfl, by decide +kernel, rfl, by decide +kernel, by decide +kernel⟩
abbrev s_Yard_rest : Stmt := inClass (topW 35) 3
abbrev n_Yard_rest : List Str := ["self"]
theorem sc_Yard_rest : FnScope n_Yard_rest ["self"] (defScope s_Yard_rest) := ⟨rfl, rfl, rfl, by decide +kernel, rfl, by decide +kernel, by decide +kernel⟩
abbrev s_Yard_stands_under : Stmt := inClass (topW 35) 5
abbrev n_Yard_stands_under : List Str := ["self", "props"]
theorem sc_Yard_stands_under : FnScope n_Yard_stands_under ["self", "props"] (defScope s_Yard_stands_under) := ⟨rfl, rfl, rfl, by decide +kernel, rfl, by decide +kernel, by decide +kernel⟩
abbrev s_Yard_rest_under : Stmt := inClass (topW 35) 6
abbrev n_Yard_rest_under : List Str := ["self", "props"]
theorem sc_Yard_rest_under : FnScope n_Yard_rest_under ["self", "props"] (defScope s_Yard_rest_under) := ⟨rfl, rfl, rfl, by decide +kernel, rfl, by decide +kernel, by decide +kernel⟩
abbrev s_Yard___eq__ : Stmt := inClass (topW 35) 10
abbrev n_Yard___eq__ : List Str := ["self", "other"]
theorem sc_Yard___eq__ : FnScope n_Yard___eq__ ["self", "other"] (defScope s_Yard___eq__) := ⟨rfl, rfl, rfl, by decide +kernel, rfl, by decide +kernel, by decide +kernel⟩
abbrev s_check_plans : Stmt := topW 9
abbrev n_check_plans : List Str := ["yard", "other"]
theorem sc_check_plans : FnScope n_check_plans ["yard", "other"] (defScope s_check_plans) := ⟨rfl, rfl, rfl, by decide +kernel, rfl, by decide +kernel, by decide +kernel⟩
abbrev s_Yard___or__ : Stmt := inClass (topW 35) 7
abbrev n_Yard___or__ : List Str := ["self", "other"]
theorem sc_Yard___or__ : FnScope n_Yard___or__ ["self", "other"] (defScope s_Yard___or__) := ⟨rfl, rfl, rfl, by decide +kernel, rfl, by decide +kernel, by decide +kernel⟩
abbrev s_Yard___sub__ : Stmt := inClass (topW 35) 9
abbrev n_Yard___sub__ : List Str := ["self", "other"]
theorem sc_Yard___sub__ : FnScope n_Yard___sub__ ["self", "other"] (defScope s_Yard___sub__) := ⟨rfl, rfl, rfl, by decide +kernel, rfl, by decide +kernel, by decide +kernel⟩
abbrev s_all_yards : Stmt := topW 39
abbrev n_all_yards : List Str := ["plan", "standing", "mask"]
theorem sc_all_yards : GScope n_all_yards ["plan", "standing"] (defScope s_all_yards) := ⟨rfl, rfl, rfl, by decide +kernel, rfl, by decide +kernel, by decide +kernel⟩
abbrev s__law_some : Stmt := topW 72
abbrev n__law_some : List Str := ["_law_deal_here", "_law_items", "_law_one_in", "_law_item"]
theorem sc__law_some : FnScope n__law_some ["_law_deal_here", "_law_items", "_law_one_in"] (defScope s__law_some) := ⟨rfl, rfl, rfl, by decide +kernel, rfl, by decide +kernel, by decide +kernel⟩
abbrev s__law_sets : Stmt := topW 75
abbrev n__law_sets : List Str := ["_law_deal_here", "_law_others", "_law_form", "_law_found", "_law_some_here", "_law_at", "_law_turn", "_law_name"]
theorem sc__law_sets : FnScope n__law_sets ["_law_deal_here", "_law_others"] (defScope s__law_sets) := ⟨rfl, rfl, rfl, by decide +kernel, rfl, by decide +kernel, by decide +kernel⟩
abbrev s__law_rows : Stmt := topW 76
abbrev n__law_rows : List Str := ["_law_deal_here", "_law_many", "_law_form", "_law_less", "_law_names", "_law_name", "_law_other"]
theorem sc__law_rows : FnScope n__law_rows ["_law_deal_here", "_law_many"] (defScope s__law_rows) := ⟨rfl, rfl, rfl, by decide +kernel, rfl, by decide +kernel, by decide +kernel⟩
abbrev s__law_plan : Stmt := topW 77
abbrev n__law_plan : List Str := ["_law_rows_here", "_law_name", "_law_sets_here"]
theorem sc__law_plan : FnScope n__law_plan ["_law_rows_here"] (defScope s__law_plan) := ⟨rfl, rfl, rfl, by decide +kernel, rfl, by decide +kernel, by decide +kernel⟩
abbrev s__law_right : Stmt := topW 78
abbrev n__law_right : List Str := ["_law_yard", "_law_other", "_law_props", "_law_more", "_law_rest", "_law_wide"]
theorem sc__law_right : FnScope n__law_right ["_law_yard", "_law_other", "_law_props", "_law_more"] (defScope s__law_right) := ⟨rfl, rfl, rfl, by decide +kernel, rfl, by decide +kernel, by decide +kernel⟩
abbrev s_law : Stmt := topW 79
abbrev n_law : List Str := ["_law_script", "_law_deal_here", "_law_turn", "_law_rows_here", "_law_plan_here", "_law_names", "_law_props", "_law_more", "_law_every", "_law_yard", "_law_rest", "_law_inner", "_law_row", "_law_name"]
theorem sc_law : FnScope n_law ["_law_script"] (defScope s_law) := ⟨rfl, rfl, rfl, by decide +kernel, rfl, by decide +kernel, by decide +kernel⟩
set_option maxHeartbeats 0 in
structure Tx (P : Program) (w : World) (K : PySem.W.Frag) (mg : Str → Option Value) (base : Heap) where
  f_check_parts : Addr
  fd_check_parts : FuncData
  F_check_parts : Fun K "check_parts" "check_parts" s_check_parts f_check_parts fd_check_parts
  b_check_parts : Binds K fd_check_parts ["plan", "names"] []
  g_check_parts : mg "check_parts" = some (.ref f_check_parts)
  k_check_parts : PySem.W.keepIn K (.ref f_check_parts) = true
  f_check_plans : Addr
  fd_check_plans : FuncData
  F_check_plans : Fun K "check_plans" "check_plans" s_check_plans f_check_plans fd_check_plans
  b_check_plans : Binds K fd_check_plans ["yard", "other"] []
  g_check_plans : mg "check_plans" = some (.ref f_check_plans)
  k_check_plans : PySem.W.keepIn K (.ref f_check_plans) = true
  f_names_in : Addr
  fd_names_in : FuncData
  F_names_in : Fun K "names_in" "names_in" s_names_in f_names_in fd_names_in
  b_names_in : Binds K fd_names_in ["sets"] []
  g_names_in : mg "names_in" = some (.ref f_names_in)
  k_names_in : PySem.W.keepIn K (.ref f_names_in) = true
  f_mask_of : Addr
  fd_mask_of : FuncData
  F_mask_of : Fun K "mask_of" "mask_of" s_mask_of f_mask_of fd_mask_of
  b_mask_of : Binds K fd_mask_of ["one", "names"] []
  g_mask_of : mg "mask_of" = some (.ref f_mask_of)
  k_mask_of : PySem.W.keepIn K (.ref f_mask_of) = true
  f_names_of : Addr
  fd_names_of : FuncData
  F_names_of : Fun K "names_of" "names_of" s_names_of f_names_of fd_names_of
  b_names_of : Binds K fd_names_of ["mask", "names"] []
  g_names_of : mg "names_of" = some (.ref f_names_of)
  k_names_of : PySem.W.keepIn K (.ref f_names_of) = true
  f_in_order : Addr
  fd_in_order : FuncData
  F_in_order : Fun K "in_order" "in_order" s_in_order f_in_order fd_in_order
  b_in_order : Binds K fd_in_order ["masks", "names"] []
  g_in_order : mg "in_order" = some (.ref f_in_order)
  k_in_order : PySem.W.keepIn K (.ref f_in_order) = true
  f_least_masks : Addr
  fd_least_masks : FuncData
  F_least_masks : Fun K "least_masks" "least_masks" s_least_masks f_least_masks fd_least_masks
  b_least_masks : Binds K fd_least_masks ["masks"] []
  g_least_masks : mg "least_masks" = some (.ref f_least_masks)
  k_least_masks : PySem.W.keepIn K (.ref f_least_masks) = true
  f_least_sets : Addr
  fd_least_sets : FuncData
  F_least_sets : Fun K "least_sets" "least_sets" s_least_sets f_least_sets fd_least_sets
  b_least_sets : Binds K fd_least_sets ["sets"] []
  g_least_sets : mg "least_sets" = some (.ref f_least_sets)
  k_least_sets : PySem.W.keepIn K (.ref f_least_sets) = true
  f_support_table : Addr
  fd_support_table : FuncData
  F_support_table : Fun K "support_table" "support_table" s_support_table f_support_table fd_support_table
  b_support_table : Binds K fd_support_table ["names", "rules"] []
  g_support_table : mg "support_table" = some (.ref f_support_table)
  k_support_table : PySem.W.keepIn K (.ref f_support_table) = true
  f_supported_in : Addr
  fd_supported_in : FuncData
  F_supported_in : Fun K "supported_in" "supported_in" s_supported_in f_supported_in fd_supported_in
  b_supported_in : Binds K fd_supported_in ["plan", "parts", "props"] []
  g_supported_in : mg "supported_in" = some (.ref f_supported_in)
  k_supported_in : PySem.W.keepIn K (.ref f_supported_in) = true
  f_falling_in : Addr
  fd_falling_in : FuncData
  F_falling_in : Fun K "falling_in" "falling_in" s_falling_in f_falling_in fd_falling_in
  b_falling_in : Binds K fd_falling_in ["plan", "parts", "props"] []
  g_falling_in : mg "falling_in" = some (.ref f_falling_in)
  k_falling_in : PySem.W.keepIn K (.ref f_falling_in) = true
  f_stands_in : Addr
  fd_stands_in : FuncData
  F_stands_in : Fun K "stands_in" "stands_in" s_stands_in f_stands_in fd_stands_in
  b_stands_in : Binds K fd_stands_in ["plan", "parts", "props"] []
  g_stands_in : mg "stands_in" = some (.ref f_stands_in)
  k_stands_in : PySem.W.keepIn K (.ref f_stands_in) = true
  f_rest_in : Addr
  fd_rest_in : FuncData
  F_rest_in : Fun K "rest_in" "rest_in" s_rest_in f_rest_in fd_rest_in
  b_rest_in : Binds K fd_rest_in ["plan", "parts", "props"] []
  g_rest_in : mg "rest_in" = some (.ref f_rest_in)
  k_rest_in : PySem.W.keepIn K (.ref f_rest_in) = true
  f_masks_in_order : Addr
  fd_masks_in_order : FuncData
  F_masks_in_order : Fun K "masks_in_order" "masks_in_order" s_masks_in_order f_masks_in_order fd_masks_in_order
  b_masks_in_order : Binds K fd_masks_in_order ["many"] []
  g_masks_in_order : mg "masks_in_order" = some (.ref f_masks_in_order)
  k_masks_in_order : PySem.W.keepIn K (.ref f_masks_in_order) = true
  f_yard_of : Addr
  fd_yard_of : FuncData
  F_yard_of : Fun K "yard_of" "yard_of" s_yard_of f_yard_of fd_yard_of
  b_yard_of : Binds K fd_yard_of ["plan", "mask"] []
  g_yard_of : mg "yard_of" = some (.ref f_yard_of)
  k_yard_of : PySem.W.keepIn K (.ref f_yard_of) = true
  f_parts_mask : Addr
  fd_parts_mask : FuncData
  F_parts_mask : Fun K "parts_mask" "parts_mask" s_parts_mask f_parts_mask fd_parts_mask
  b_parts_mask : Binds K fd_parts_mask ["plan", "names"] []
  g_parts_mask : mg "parts_mask" = some (.ref f_parts_mask)
  k_parts_mask : PySem.W.keepIn K (.ref f_parts_mask) = true
  f_all_yards : Addr
  fd_all_yards : FuncData
  F_all_yards : FunV K "all_yards" "all_yards" s_all_yards f_all_yards fd_all_yards
  kb_all_yards_standing : KBn K fd_all_yards ["plan", "standing"] 1 ["standing"] (fun us ws => us ++ ws) (fun vs zs => vs ++ zs)
  g_all_yards : mg "all_yards" = some (.ref f_all_yards)
  k_all_yards : PySem.W.keepIn K (.ref f_all_yards) = true
  f_is_name : Addr
  fd_is_name : FuncData
  F_is_name : Fun K "is_name" "is_name" s_is_name f_is_name fd_is_name
  b_is_name : Binds K fd_is_name ["word"] []
  g_is_name : mg "is_name" = some (.ref f_is_name)
  k_is_name : PySem.W.keepIn K (.ref f_is_name) = true
  f_check_count : Addr
  fd_check_count : FuncData
  F_check_count : Fun K "check_count" "check_count" s_check_count f_check_count fd_check_count
  b_check_count : Binds K fd_check_count ["rows"] []
  g_check_count : mg "check_count" = some (.ref f_check_count)
  k_check_count : PySem.W.keepIn K (.ref f_check_count) = true
  f_check_names : Addr
  fd_check_names : FuncData
  F_check_names : Fun K "check_names" "check_names" s_check_names f_check_names fd_check_names
  b_check_names : Binds K fd_check_names ["rows"] []
  g_check_names : mg "check_names" = some (.ref f_check_names)
  k_check_names : PySem.W.keepIn K (.ref f_check_names) = true
  f_check_rules : Addr
  fd_check_rules : FuncData
  F_check_rules : Fun K "check_rules" "check_rules" s_check_rules f_check_rules fd_check_rules
  b_check_rules : Binds K fd_check_rules ["rows"] []
  g_check_rules : mg "check_rules" = some (.ref f_check_rules)
  k_check_rules : PySem.W.keepIn K (.ref f_check_rules) = true
  f__law_deal : Addr
  fd__law_deal : FuncData
  F__law_deal : Fun K "_law_deal" "_law_deal" s__law_deal f__law_deal fd__law_deal
  b__law_deal : Binds K fd__law_deal ["_law_script", "_law_base"] []
  g__law_deal : mg "_law_deal" = some (.ref f__law_deal)
  k__law_deal : PySem.W.keepIn K (.ref f__law_deal) = true
  f__law_draw : Addr
  fd__law_draw : FuncData
  F__law_draw : Fun K "_law_draw" "_law_draw" s__law_draw f__law_draw fd__law_draw
  b__law_draw : Binds K fd__law_draw ["_law_deal_here", "_law_many"] []
  g__law_draw : mg "_law_draw" = some (.ref f__law_draw)
  k__law_draw : PySem.W.keepIn K (.ref f__law_draw) = true
  f__law_mixed : Addr
  fd__law_mixed : FuncData
  F__law_mixed : Fun K "_law_mixed" "_law_mixed" s__law_mixed f__law_mixed fd__law_mixed
  b__law_mixed : Binds K fd__law_mixed ["_law_deal_here", "_law_items"] []
  g__law_mixed : mg "_law_mixed" = some (.ref f__law_mixed)
  k__law_mixed : PySem.W.keepIn K (.ref f__law_mixed) = true
  f__law_some : Addr
  fd__law_some : FuncData
  F__law_some : Fun K "_law_some" "_law_some" s__law_some f__law_some fd__law_some
  b__law_some : Binds K fd__law_some ["_law_deal_here", "_law_items", "_law_one_in"] []
  g__law_some : mg "_law_some" = some (.ref f__law_some)
  k__law_some : PySem.W.keepIn K (.ref f__law_some) = true
  f__law_words : Addr
  fd__law_words : FuncData
  F__law_words : Fun K "_law_words" "_law_words" s__law_words f__law_words fd__law_words
  b__law_words : Binds K fd__law_words ["_law_deal_here", "_law_many"] []
  g__law_words : mg "_law_words" = some (.ref f__law_words)
  k__law_words : PySem.W.keepIn K (.ref f__law_words) = true
  f__law_sets : Addr
  fd__law_sets : FuncData
  F__law_sets : Fun K "_law_sets" "_law_sets" s__law_sets f__law_sets fd__law_sets
  b__law_sets : Binds K fd__law_sets ["_law_deal_here", "_law_others"] []
  g__law_sets : mg "_law_sets" = some (.ref f__law_sets)
  k__law_sets : PySem.W.keepIn K (.ref f__law_sets) = true
  f__law_rows : Addr
  fd__law_rows : FuncData
  F__law_rows : Fun K "_law_rows" "_law_rows" s__law_rows f__law_rows fd__law_rows
  b__law_rows : Binds K fd__law_rows ["_law_deal_here", "_law_many"] []
  g__law_rows : mg "_law_rows" = some (.ref f__law_rows)
  k__law_rows : PySem.W.keepIn K (.ref f__law_rows) = true
  f__law_plan : Addr
  fd__law_plan : FuncData
  F__law_plan : Fun K "_law_plan" "_law_plan" s__law_plan f__law_plan fd__law_plan
  b__law_plan : Binds K fd__law_plan ["_law_rows_here"] []
  g__law_plan : mg "_law_plan" = some (.ref f__law_plan)
  k__law_plan : PySem.W.keepIn K (.ref f__law_plan) = true
  f__law_right : Addr
  fd__law_right : FuncData
  F__law_right : Fun K "_law_right" "_law_right" s__law_right f__law_right fd__law_right
  b__law_right : Binds K fd__law_right ["_law_yard", "_law_other", "_law_props", "_law_more"] []
  g__law_right : mg "_law_right" = some (.ref f__law_right)
  k__law_right : PySem.W.keepIn K (.ref f__law_right) = true
  f_law : Addr
  fd_law : FuncData
  F_law : Fun K "law" "law" s_law f_law fd_law
  b_law : Binds K fd_law ["_law_script"] []
  g_law : mg "law" = some (.ref f_law)
  k_law : PySem.W.keepIn K (.ref f_law) = true
  f_Yard___init__ : Addr
  fd_Yard___init__ : FuncData
  F_Yard___init__ : FunV K "__init__" "Yard.__init__" s_Yard___init__ f_Yard___init__ fd_Yard___init__
  b_Yard___init__ : Binds K fd_Yard___init__ ["self", "plan", "parts"] []
  f_Yard_stands : Addr
  fd_Yard_stands : FuncData
  F_Yard_stands : Fun K "stands" "Yard.stands" s_Yard_stands f_Yard_stands fd_Yard_stands
  b_Yard_stands : Binds K fd_Yard_stands ["self"] []
  f_Yard_rest : Addr
  fd_Yard_rest : FuncData
  F_Yard_rest : Fun K "rest" "Yard.rest" s_Yard_rest f_Yard_rest fd_Yard_rest
  b_Yard_rest : Binds K fd_Yard_rest ["self"] []
  f_Yard_stands_under : Addr
  fd_Yard_stands_under : FuncData
  F_Yard_stands_under : Fun K "stands_under" "Yard.stands_under" s_Yard_stands_under f_Yard_stands_under fd_Yard_stands_under
  b_Yard_stands_under : Binds K fd_Yard_stands_under ["self", "props"] []
  f_Yard_rest_under : Addr
  fd_Yard_rest_under : FuncData
  F_Yard_rest_under : Fun K "rest_under" "Yard.rest_under" s_Yard_rest_under f_Yard_rest_under fd_Yard_rest_under
  b_Yard_rest_under : Binds K fd_Yard_rest_under ["self", "props"] []
  f_Yard___or__ : Addr
  fd_Yard___or__ : FuncData
  F_Yard___or__ : Fun K "__or__" "Yard.__or__" s_Yard___or__ f_Yard___or__ fd_Yard___or__
  b_Yard___or__ : Binds K fd_Yard___or__ ["self", "other"] []
  f_Yard___sub__ : Addr
  fd_Yard___sub__ : FuncData
  F_Yard___sub__ : Fun K "__sub__" "Yard.__sub__" s_Yard___sub__ f_Yard___sub__ fd_Yard___sub__
  b_Yard___sub__ : Binds K fd_Yard___sub__ ["self", "other"] []
  f_Yard___eq__ : Addr
  fd_Yard___eq__ : FuncData
  F_Yard___eq__ : Fun K "__eq__" "Yard.__eq__" s_Yard___eq__ f_Yard___eq__ fd_Yard___eq__
  b_Yard___eq__ : Binds K fd_Yard___eq__ ["self", "other"] []
  f_Rule___init__ : Addr
  fd_Rule___init__ : FuncData
  F_Rule___init__ : Fun K "__init__" "Rule.__init__" s_Rule___init__ f_Rule___init__ fd_Rule___init__
  b_Rule___init__ : Binds K fd_Rule___init__ ["self", "least"] []
  f_Rule_of_sets : Addr
  fd_Rule_of_sets : FuncData
  F_Rule_of_sets : Fun K "of_sets" "Rule.of_sets" s_Rule_of_sets f_Rule_of_sets fd_Rule_of_sets
  b_Rule_of_sets : Binds K fd_Rule_of_sets ["cls", "sets"] []
  f_Rule___eq__ : Addr
  fd_Rule___eq__ : FuncData
  F_Rule___eq__ : Fun K "__eq__" "Rule.__eq__" s_Rule___eq__ f_Rule___eq__ fd_Rule___eq__
  b_Rule___eq__ : Binds K fd_Rule___eq__ ["self", "other"] []
  f_Plan___init__ : Addr
  fd_Plan___init__ : FuncData
  F_Plan___init__ : Fun K "__init__" "Plan.__init__" s_Plan___init__ f_Plan___init__ fd_Plan___init__
  b_Plan___init__ : Binds K fd_Plan___init__ ["self", "rows"] []
  f_Plan___eq__ : Addr
  fd_Plan___eq__ : FuncData
  F_Plan___eq__ : Fun K "__eq__" "Plan.__eq__" s_Plan___eq__ f_Plan___eq__ fd_Plan___eq__
  b_Plan___eq__ : Binds K fd_Plan___eq__ ["self", "other"] []
  z_all : mg "all" = none
  z_enumerate : mg "enumerate" = none
  z_isinstance : mg "isinstance" = none
  z_len : mg "len" = none
  z_list : mg "list" = none
  z_max : mg "max" = none
  z_range : mg "range" = none
  z_sorted : mg "sorted" = none
  z_sum : mg "sum" = none
  z_tuple : mg "tuple" = none
  dv_Yard___init___2 : List V
  dw_Yard___init___2 : List Value
  vd_Yard___init___2 : Vals dv_Yard___init___2 dw_Yard___init___2
  bd_Yard___init___2 : Binds K fd_Yard___init__ ["self", "plan", "parts"] dw_Yard___init___2
  rd_Yard___init___2 : ∀ N H, RepL K N H [(D.tup [])] dv_Yard___init___2
  c_LETTERS : Value
  gc_LETTERS : mg "LETTERS" = some c_LETTERS
  rc_LETTERS : RelV (.str "abcdefghijklmnopqrstuvwxyz") c_LETTERS
  c_LONGEST_NAME : Value
  gc_LONGEST_NAME : mg "LONGEST_NAME" = some c_LONGEST_NAME
  rc_LONGEST_NAME : RelV (.int 6) c_LONGEST_NAME
  c_MOST_PARTS : Value
  gc_MOST_PARTS : mg "MOST_PARTS" = some c_MOST_PARTS
  rc_MOST_PARTS : RelV (.int 8) c_MOST_PARTS
  ac_RESERVED : Addr
  gc_RESERVED : mg "RESERVED" = some (.ref ac_RESERVED)
  rc_RESERVED : ∀ N H, Rep K N H (.tup [.str "all", .str "any", .str "of", .str "always", .str "never", .str "none"]) (.ref ac_RESERVED)
  c : Cn
  kit : ∀ t u b, c.kit t u = some b → PySem.W.kitOne K t u = some b
  cl_Yard : Cls K c.Yard
  g_Yard : mg "Yard" = some (.ref c.Yard)
  mk_Yard : Mk K c.Yard f_Yard___init__
  mc_Yard : Value
  cr_Yard : ClX.CRead K c.Yard mc_Yard
  cl_Rule : Cls K c.Rule
  g_Rule : mg "Rule" = some (.ref c.Rule)
  mk_Rule : Mk K c.Rule f_Rule___init__
  mc_Rule : Value
  cr_Rule : ClX.CRead K c.Rule mc_Rule
  cl_Plan : Cls K c.Plan
  g_Plan : mg "Plan" = some (.ref c.Plan)
  mk_Plan : Mk K c.Plan f_Plan___init__
  mc_Plan : Value
  cr_Plan : ClX.CRead K c.Plan mc_Plan
  cf : CmpFacts "object" [.type "object"]
  pc_Rule_of_sets : Addr
  cm_Rule_of_sets : ClX.CMet K c.Rule mc_Rule "of_sets" pc_Rule_of_sets f_Rule_of_sets
  fl_Plan__rules : ∀ C ∈ [c.Plan], Cls K C ∧ NoAttr K C "_rules"
  fl_Plan_names : ∀ C ∈ [c.Plan], Cls K C ∧ NoAttr K C "names"
  fl_Plan_support : ∀ C ∈ [c.Plan], Cls K C ∧ NoAttr K C "support"
  fl_Rule_least : ∀ C ∈ [c.Rule], Cls K C ∧ NoAttr K C "least"
  fl_Rule_names : ∀ C ∈ [c.Rule], Cls K C ∧ NoAttr K C "names"
  fl_Yard_mask : ∀ C ∈ [c.Yard], Cls K C ∧ NoAttr K C "mask"
  fl_Yard_parts : ∀ C ∈ [c.Yard], Cls K C ∧ NoAttr K C "parts"
  fl_Yard_plan : ∀ C ∈ [c.Yard], Cls K C ∧ NoAttr K C "plan"
  mt_Yard_rest_under : Meth K c.Yard "rest_under" f_Yard_rest_under
  mt_Yard_stands_under : Meth K c.Yard "stands_under" f_Yard_stands_under
  ne_Plan : ∀ (h : Heap) (a dx : Addr), K.In h → h.get? a = some (PySem.W.instObj c.Plan dx) → h.OwnEqNoNe a c.Plan f_Plan___eq__ "object" [.type "object"]
  ne_Yard : ∀ (h : Heap) (a dx : Addr), K.In h → h.get? a = some (PySem.W.instObj c.Yard dx) → h.OwnEqNoNe a c.Yard f_Yard___eq__ "object" [.type "object"]
  at_Plan___eq__ : PySem.W.findIn K (.ref c.Plan) "__eq__" = some (some (.ref f_Plan___eq__))
  fn_Plan___eq__ : PySem.W.isFn K (.ref f_Plan___eq__) = true
  fi_Plan___eq__ : PySem.W.fnIn K f_Plan___eq__ = true
  at_Rule___eq__ : PySem.W.findIn K (.ref c.Rule) "__eq__" = some (some (.ref f_Rule___eq__))
  fn_Rule___eq__ : PySem.W.isFn K (.ref f_Rule___eq__) = true
  fi_Rule___eq__ : PySem.W.fnIn K f_Rule___eq__ = true
  at_Yard___eq__ : PySem.W.findIn K (.ref c.Yard) "__eq__" = some (some (.ref f_Yard___eq__))
  fn_Yard___eq__ : PySem.W.isFn K (.ref f_Yard___eq__) = true
  fi_Yard___eq__ : PySem.W.fnIn K f_Yard___eq__ = true
  at_Yard___or__ : PySem.W.findIn K (.ref c.Yard) "__or__" = some (some (.ref f_Yard___or__))
  fn_Yard___or__ : PySem.W.isFn K (.ref f_Yard___or__) = true
  fi_Yard___or__ : PySem.W.fnIn K f_Yard___or__ = true
  at_Yard___sub__ : PySem.W.findIn K (.ref c.Yard) "__sub__" = some (some (.ref f_Yard___sub__))
  fn_Yard___sub__ : PySem.W.isFn K (.ref f_Yard___sub__) = true
  fi_Yard___sub__ : PySem.W.fnIn K f_Yard___sub__ = true
  pp_Yard_rest : Addr
  pr_Yard_rest : PropOf K c.Yard "rest" pp_Yard_rest f_Yard_rest
  pp_Yard_stands : Addr
  pr_Yard_stands : PropOf K c.Yard "stands" pp_Yard_stands f_Yard_stands
  sf_Yard : PySem.W.selfFirst K c.Yard = true
  k_isi_Plan : ∀ C, c.kit (.ref C) (.ref c.Plan) ≠ none → ClsT K C
  k_isi_Rule : ∀ C, c.kit (.ref C) (.ref c.Rule) ≠ none → ClsT K C
  k_isi_Yard : ∀ C, c.kit (.ref C) (.ref c.Yard) ≠ none → ClsT K C
  ok_names_in : FnOk P w K mg base CX0 1 f_names_in fd_names_in ["sets"] (SpP0 K (W.a1 p_names_in))
  ok_mask_of : FnOk P w K mg base CX0 1 f_mask_of fd_mask_of ["one", "names"] (SpP0 K (W.a2 p_mask_of))
  ok_names_of : FnOk P w K mg base CX0 1 f_names_of fd_names_of ["mask", "names"] (SpP0 K (W.a2 p_names_of))
  ok_least_masks : FnOk P w K mg base CX0 1 f_least_masks fd_least_masks ["masks"] (SpP0 K (W.a1 p_least_masks))
  ok__law_mixed : FnOk P w K mg base CX0 2 f__law_mixed fd__law_mixed ["_law_deal_here", "_law_items"] (SpDl K (W.a1 p__law_mixed))
  ok__law_words : FnOk P w K mg base CX0 3 f__law_words fd__law_words ["_law_deal_here", "_law_many"] (SpDl K (W.a1 p__law_words))
  ok__law_draw : FnOk P w K mg base CX0 1 f__law_draw fd__law_draw ["_law_deal_here", "_law_many"] (SpDl K (W.a1 W.draw))
  ok__law_deal : FnOk P w K mg base CX0 1 f__law_deal fd__law_deal ["_law_script", "_law_base"] (spDeal K)
section
variable {P : Program} {w : World} {K : PySem.W.Frag} {mg : Str → Option Value} {base : Heap}
theorem ok_names_in (T : Tx P w K mg base) : FnOk P w K mg base CX0 1 T.f_names_in T.fd_names_in ["sets"] (SpP0 K (W.a1 p_names_in)) := T.ok_names_in
theorem ok_mask_of (T : Tx P w K mg base) : FnOk P w K mg base CX0 1 T.f_mask_of T.fd_mask_of ["one", "names"] (SpP0 K (W.a2 p_mask_of)) := T.ok_mask_of
theorem ok_names_of (T : Tx P w K mg base) : FnOk P w K mg base CX0 1 T.f_names_of T.fd_names_of ["mask", "names"] (SpP0 K (W.a2 p_names_of)) := T.ok_names_of
theorem ok_least_masks (T : Tx P w K mg base) : FnOk P w K mg base CX0 1 T.f_least_masks T.fd_least_masks ["masks"] (SpP0 K (W.a1 p_least_masks)) := T.ok_least_masks
theorem ok__law_mixed (T : Tx P w K mg base) : FnOk P w K mg base CX0 2 T.f__law_mixed T.fd__law_mixed ["_law_deal_here", "_law_items"] (SpDl K (W.a1 p__law_mixed)) := T.ok__law_mixed
theorem ok__law_words (T : Tx P w K mg base) : FnOk P w K mg base CX0 3 T.f__law_words T.fd__law_words ["_law_deal_here", "_law_many"] (SpDl K (W.a1 p__law_words)) := T.ok__law_words
theorem ok__law_deal (T : Tx P w K mg base) : FnOk P w K mg base CX0 1 T.f__law_deal T.fd__law_deal ["_law_script", "_law_base"] (spDeal K) := T.ok__law_deal
theorem ok__law_draw (T : Tx P w K mg base) : FnOk P w K mg base CX0 1 T.f__law_draw T.fd__law_draw ["_law_deal_here", "_law_many"] (SpDl K (W.a1 W.draw)) := T.ok__law_draw
set_option maxHeartbeats 0 in
theorem ok_in_order (T : Tx P w K mg base) : FnOk P w K mg base CX0 2 T.f_in_order T.fd_in_order ["masks", "names"] (SpP0 K (W.a2 p_in_order)) := by
  refine fn_w (k := 1) (S := pure0) (W := fun _ => W.a2 p_in_order) T.F_in_order sc_in_order (fun g ds k h => by obtain ⟨_, _, rfl, _⟩ := a2_e h; rfl) fun cdv A outer s H E g ds kr F1 f0 tr hr h => ?_
  have hu := hr.units
  have hu65 := hr.units65
  obtain ⟨x0, x1, rfl, h0⟩ := a2_e h
  unfold p_in_order at h0
  exact ⟨_, (pss_cons (ps_set (i := 2) sc_in_order.nd rfl (Or.inl rfl) (pe_callB (show CallR _ _ (rSortedA K) from (cr_sortedA hu)) (by rfl) T.z_sorted (by decide +kernel) (pa_cons (pe_lc (own := [("mask", 3)]) (g := (gName 3)) (tt := tYes) (te := (tCall (SpP0 K (W.a2 p_names_of)) [] _ (tCons (tVar 3) (tCons (tVar 1) tNil)))) (by rfl) sc_in_order.nd (pi_seq (pv 0)) (blkOk_by (by kernel_rfl)) (fun _ _ _ _ _ => (pg_name (i := 3) sc_in_order.nd rfl (Or.inl rfl))) (fun _ _ _ _ _ => pts_nil) (fun _ _ _ _ _ => (pe_call (ok_names_of T) (hr.mono (by decide)) (by rfl) T.g_names_of T.k_names_of T.b_names_of .nil pass0 (pa_cons (pv 3) (pa_cons (pv 1) pa_nil))))) pa_nil))) (pss_one (ps_ret (pe_callTy (show CallR _ _ (fun xs H Q => ∃ p ys, xs = [.ref p] ∧ ((SqL K H p ys ∧ ∀ l, H l = none → Q (.ref l) (upd H l (.tup ys))) ∨ (SqT K H p ys ∧ Q (.ref p) H))) from call_tuple_of) (by rfl) T.z_tuple (by decide +kernel) (pa_cons (pe_sortedLen hu (by rfl) T.z_sorted (by rfl) T.z_len (pv 2)) pa_nil))))), (s_asg (De.imp (e_cb l_sortedA (dav_cons (De.v (De.imp (e_comp _ (js := [3]) (by decide) (i_seq (de_var rfl h0)) (fun _ v1 _ h11 => (dg_name (dt_yes (iteT (e_callP2 (w := p_names_of) (de_var rfl (de_var rfl h11)))))))) fun v5 h10 => (dav_nil h10))))) fun v4 h9 => (s_ret (e_cb l_tupleOf (dav_cons (De.v (De.imp (e_sortedLen (De.v (de_var rfl h9))) fun v8 h12 => (dav_nil h12))))))))⟩
set_option maxHeartbeats 0 in
theorem ok_least_sets (T : Tx P w K mg base) : FnOk P w K mg base CX0 3 T.f_least_sets T.fd_least_sets ["sets"] (SpP0 K (W.a1 p_least_sets)) := by
  refine fn_w (k := 2) (S := pure0) (W := fun _ => W.a1 p_least_sets) T.F_least_sets sc_least_sets (fun g ds k h => by obtain ⟨_, rfl, _⟩ := a1_e h; rfl) fun cdv A outer s H E g ds kr F1 f0 tr hr h => ?_
  have hu := hr.units
  have hu65 := hr.units65
  obtain ⟨x0, rfl, h0⟩ := a1_e h
  unfold p_least_sets at h0
  exact ⟨_, (pss_cons (ps_set (i := 1) sc_least_sets.nd rfl (Or.inr rfl) (pe_call (ok_names_in T) (hr.mono (by decide)) (by rfl) T.g_names_in T.k_names_in T.b_names_in .nil pass0 (pa_cons (pv 0) pa_nil))) (pss_one (ps_ret (pe_call (ok_in_order T) (hr.mono (by decide)) (by rfl) T.g_in_order T.k_in_order T.b_in_order .nil pass0 (pa_cons (pe_call (ok_least_masks T) (hr.mono (by decide)) (by rfl) T.g_least_masks T.k_least_masks T.b_least_masks .nil pass0 (pa_cons (pe_lc (own := [("one", 2)]) (g := (gName 2)) (tt := tYes) (te := (tCall (SpP0 K (W.a2 p_mask_of)) [] _ (tCons (tVar 2) (tCons (tVar 1) tNil)))) (by rfl) sc_least_sets.nd (pi_seq (pv 0)) (blkOk_by (by kernel_rfl)) (fun _ _ _ _ _ => (pg_name (i := 2) sc_least_sets.nd rfl (Or.inl rfl))) (fun _ _ _ _ _ => pts_nil) (fun _ _ _ _ _ => (pe_call (ok_mask_of T) (hr.mono (by decide)) (by rfl) T.g_mask_of T.k_mask_of T.b_mask_of .nil pass0 (pa_cons (pv 2) (pa_cons (pv 1) pa_nil))))) pa_nil)) (pa_cons (pv 1) pa_nil)))))), (s_asg (De.imp (e_callP1 (w := p_names_in) (de_var rfl h0)) fun v1 h9 => (s_ret (e_callP2 (w := p_in_order) (De.imp (e_callP1 (w := p_least_masks) (e_comp _ (js := [2]) (by decide) (i_seq (de_var rfl h9)) (fun _ v2 _ h11 => (dg_name (dt_yes (iteT (e_callP2 (w := p_mask_of) (de_var rfl (de_var rfl h11))))))))) fun v6 h10 => (de_var rfl h10))))))⟩
set_option maxHeartbeats 0 in
theorem ok_Rule___init__ (T : Tx P w K mg base) : FnOk P w K mg base CX0 2 T.f_Rule___init__ T.fd_Rule___init__ ["self", "least"] (SpI K T.c.Rule (W.a1 (p_Rule___init__ T.c))) := by
  refine fn_init (k := 1) (W := W.a1 (p_Rule___init__ T.c)) T.F_Rule___init__ sc_Rule___init__ (fun ds k h => by obtain ⟨_, rfl, _⟩ := a1_e h; rfl) fun cdv A outer s H E self ds kr hr h => ?_
  have hu := hr.units
  have hu65 := hr.units65
  obtain ⟨x1, rfl, h0⟩ := a1_e h
  unfold p_Rule___init__ at h0
  exact ⟨_, (pss_cons (ps_fld (pv 0) (pv 1) rfl) (pss_one (ps_fld (pv 0) (pe_callTy (show CallR _ _ (fun xs H Q => ∃ p ys, xs = [.ref p] ∧ ((SqL K H p ys ∧ ∀ l, H l = none → Q (.ref l) (upd H l (.tup ys))) ∨ (SqT K H p ys ∧ Q (.ref p) H))) from call_tuple_of) (by rfl) T.z_tuple (by decide +kernel) (pa_cons (pe_call (ok_names_in T) (hr.mono (by decide)) (by rfl) T.g_names_in T.k_names_in T.b_names_in .nil pass0 (pa_cons (pv 1) pa_nil)) pa_nil)) rfl))), (ini_fldS T.cl_Rule (T.fl_Rule_least _ (List.mem_singleton.mpr rfl)).2 (by decide) (by decide) (fun H F x f0 tr hx0 S => (de_var rfl (ini_last (ini_fldS T.cl_Rule (T.fl_Rule_names _ (List.mem_singleton.mpr rfl)).2 (by decide) (by decide) (fun H F x f0 tr hx0 S => (De.imp (e_cb l_tupleOf (dav_cons (De.v (De.imp (e_callP1 (w := p_names_in) (de_var rfl h0)) fun v2 h4 => (dav_nil h4))))) fun v1 h3 => (ini_end h3))))))))⟩
set_option maxHeartbeats 0 in
theorem ok_Rule_of_sets (T : Tx P w K mg base) : FnOk P w K mg base CX0 4 T.f_Rule_of_sets T.fd_Rule_of_sets ["cls", "sets"] (SpP0 K (W.a2 (p_Rule_of_sets T.c))) := by
  refine fn_w (k := 3) (S := pure0) (W := fun _ => W.a2 (p_Rule_of_sets T.c)) T.F_Rule_of_sets sc_Rule_of_sets (fun g ds k h => by obtain ⟨_, _, rfl, _⟩ := a2_e h; rfl) fun cdv A outer s H E g ds kr F1 f0 tr hr h => ?_
  have hu := hr.units
  have hu65 := hr.units65
  obtain ⟨x0, x1, rfl, h0⟩ := a2_e h
  unfold p_Rule_of_sets at h0
  exact ⟨_, (pss_one (ps_ret (pe_make T.mk_Rule (ok_Rule___init__ T) (hr.mono (by decide)) (by rfl) T.g_Rule T.b_Rule___init__ .nil pass0 (pa_cons (pe_call (ok_least_sets T) (hr.mono (by decide)) (by rfl) T.g_least_sets T.k_least_sets T.b_least_sets .nil pass0 (pa_cons (pv 1) pa_nil)) pa_nil)))), (s_ret (e_make (C := T.c.Rule) (w := (W.a1 (p_Rule___init__ T.c))) (da_cons (De.imp (e_callP1 (w := p_least_sets) (de_var rfl h0)) fun v2 h3 => (da_nil (a1_i h3))))))⟩
set_option maxHeartbeats 0 in
theorem ok_Rule___eq__ (T : Tx P w K mg base) : FnOk P w K mg base CX0 1 T.f_Rule___eq__ T.fd_Rule___eq__ ["self", "other"] (SpP0 K (W.a2 (p_Rule___eq__ T.c))) := by
  refine fn_w (k := 0) (S := pure0) (W := fun _ => W.a2 (p_Rule___eq__ T.c)) T.F_Rule___eq__ sc_Rule___eq__ (fun g ds k h => by obtain ⟨_, _, rfl, _⟩ := a2_e h; rfl) fun cdv A outer s H E g ds kr F1 f0 tr hr h => ?_
  have hu := hr.units
  have hu65 := hr.units65
  obtain ⟨x0, x1, rfl, h0⟩ := a2_e h
  unfold p_Rule___eq__ at h0
  exact ⟨_, (pss_one (ps_ret (pe_and (pe_callB (show CallR _ _ (rIsi K) from call_isi) (by rfl) T.z_isinstance (by decide +kernel) (pa_cons (pv 1) (pa_cons (pe_glob (by rfl) T.g_Rule (show RelV (.ref T.c.Rule) _ from rfl)) pa_nil))) (pe_one (pe_cmpR (op_eqW hu) (pe_fld (pv 0) rfl) (pe_fld (pv 1) rfl) (nomark _)))))), (s_ret (e_andV (De.imp (e_isiC T.kit (u := (Value.ref T.c.Rule)) (ClsV.own T.c.Rule) T.k_isi_Rule (De.v (de_var rfl (have j := W.join_go h0; j)))) fun v8 h8 => (truth_imp h8 fun _ h => W.ite.imp h (fun h9 => (e_op2 l_eq (De.v (De.imp (e_fld (cs := [T.c.Rule]) T.fl_Rule_least (De.v (de_var rfl h9))) fun v5 h10 => (De.v (e_fld (cs := [T.c.Rule]) T.fl_Rule_least (De.v (de_var rfl h10)))))))) id))))⟩
set_option maxHeartbeats 0 in
theorem ok_is_name (T : Tx P w K mg base) : FnOk P w K mg base CX0 1 T.f_is_name T.fd_is_name ["word"] (SpP0 K (W.a1 p_is_name)) := by
  refine fn_w (k := 0) (S := pure0) (W := fun _ => W.a1 p_is_name) T.F_is_name sc_is_name (fun g ds k h => by obtain ⟨_, rfl, _⟩ := a1_e h; rfl) fun cdv A outer s H E g ds kr F1 f0 tr hr h => ?_
  have hu := hr.units
  have hu65 := hr.units65
  obtain ⟨x0, rfl, h0⟩ := a1_e h
  unfold p_is_name at h0
  exact ⟨_, (pss_cons (ps_if (PW.pt (pw_or (pt_cmpR (op_inW hu65) (pv 0) (pe_glob (by rfl) T.gc_RESERVED (show RelV (.ref T.ac_RESERVED) _ from rfl)) (by rfl)) (pw_or (pt_cmpR op_ltW (pe_callB (show CallR _ _ (rLenW K) from call_lenW) (by rfl) T.z_len PySem.boot_len (pa_cons (pv 0) pa_nil)) pe_int (nomark _)) (pw_or1 (pt_cmpR op_gt (pe_callB (show CallR _ _ (rLenW K) from call_lenW) (by rfl) T.z_len PySem.boot_len (pa_cons (pv 0) pa_nil)) (pe_glob (by rfl) T.gc_LONGEST_NAME T.rc_LONGEST_NAME) (nomark _)))))) (pss_one (ps_ret pe_bl)) pss_nil) (pss_one (ps_ret (pe_callB (show CallR _ _ (rAll K) from (cr_all (by rfl))) (by rfl) T.z_all (by decide +kernel) (pa_cons (pe_lc (own := [("letter", 1)]) (g := (gName 1)) (tt := tYes) (te := (tOp (rInW K) (tVar 1) (tC (.str "abcdefghijklmnopqrstuvwxyz")))) (by rfl) sc_is_name.nd (pi_str (pv 0)) (blkOk_by (by kernel_rfl)) (fun _ _ _ _ _ => (pg_name (i := 1) sc_is_name.nd rfl (Or.inl rfl))) (fun _ _ _ _ _ => pts_nil) (fun _ _ _ _ _ => (pe_cmpR (op_inW hu65) (pv 1) (pe_glob (by rfl) T.gc_LETTERS T.rc_LETTERS) (by rfl)))) pa_nil))))), (s_ifR (DT.imp (t_or (DT.imp (t_test (e_op2 l_in (De.v (de_var rfl (De.v (de_c (D.tup [(D.str "all"), (D.str "any"), (D.str "of"), (D.str "always"), (D.str "never"), (D.str "none")]) T.rc_RESERVED (have j := W.join_go h0; j))))))) fun b20 h25 => (W.ite.imp h25 id (fun h20 => (t_or (DT.imp (t_test (e_op2 l_lt (De.v (De.imp (e_cb l_len (dav_cons (De.v (de_var rfl (dav_nil h20))))) fun v13 h24 => (De.v (de_int h24)))))) fun b11 h23 => (W.ite.imp h23 id (fun h21 => (t_test (e_op2 l_gt (De.v (De.imp (e_cb l_len (dav_cons (De.v (de_var rfl (dav_nil h21))))) fun v16 h22 => (De.v (de_int h22)))))))))))))) fun b8 h19 => (ite_split h19 (fun h17 => (s_ret (de_bl h17))) (fun h18 => (ds_next (s_ret (e_cb l_all (dav_cons (De.v (De.imp (e_comp _ (js := [1]) (by decide) (i_signs (de_var rfl h18)) (fun _ v1 _ h27 => (dg_name (dt_yes (iteT (e_op2 l_in (De.v (de_var rfl (De.v (de_str h27)))))))))) fun v5 h26 => (dav_nil h26)))))))))))⟩
set_option maxHeartbeats 0 in
theorem ok_support_table (T : Tx P w K mg base) : FnOk P w K mg base CX0 2 T.f_support_table T.fd_support_table ["names", "rules"] (SpP0 K (W.a2 (p_support_table T.c))) := by
  refine fn_w (k := 1) (S := pure0) (W := fun _ => W.a2 (p_support_table T.c)) T.F_support_table sc_support_table (fun g ds k h => by obtain ⟨_, _, rfl, _⟩ := a2_e h; rfl) fun cdv A outer s H E g ds kr F1 f0 tr hr h => ?_
  have hu := hr.units
  have hu65 := hr.units65
  obtain ⟨x0, x1, rfl, h0⟩ := a2_e h
  unfold p_support_table at h0
  exact ⟨_, (pss_cons (ps_set (i := 2) sc_support_table.nd rfl (Or.inr rfl) (pe_op op_mulW2 (pe_lst (pa_cons pe_int pa_nil)) (pe_op op_shl pe_int (pe_callB (show CallR _ _ (rLenW K) from call_lenW) (by rfl) T.z_len PySem.boot_len (pa_cons (pv 0) pa_nil))))) (pss_cons (ps_for PassesOwn.never rfl (pi_enumA (by rfl) T.z_enumerate (pa_cons (pv 1) pa_nil)) (pg_tup (by rfl) (pgs_cons (pg_name (i := 3) sc_support_table.nd rfl (Or.inr rfl)) (pgs_cons (pg_name (i := 4) sc_support_table.nd rfl (Or.inl rfl)) pgs_nil))) (pss_one (ps_for PassesOwn.never rfl (pi_seq (pe_fld (pv 4) rfl)) (pg_name (i := 5) sc_support_table.nd rfl (Or.inl rfl)) (pss_cons (ps_set (i := 6) sc_support_table.nd rfl (Or.inl rfl) (pe_call (ok_mask_of T) (hr.mono (by decide)) (by rfl) T.g_mask_of T.k_mask_of T.b_mask_of .nil pass0 (pa_cons (pv 5) (pa_cons (pv 0) pa_nil)))) (pss_one (ps_asg (pe_op op_or (pe_ix (show IxR _ (rIx K) from ix_seq) (pv 2) (pv 6) (fun _ _ => rfl)) (pe_op op_shl pe_int (pv 3))) (pg_sub (pv 2) (pv 6) set_list))))))) (pss_cons (ps_for PassesOwn.never rfl (pi_range1 (by rfl) T.z_range (pa_cons (pe_callB (show CallR _ _ (rLenW K) from call_lenW) (by rfl) T.z_len PySem.boot_len (pa_cons (pv 0) pa_nil)) pa_nil)) (pg_name (i := 3) sc_support_table.nd rfl (Or.inr rfl)) (pss_one (ps_set (i := 2) sc_support_table.nd rfl (Or.inr rfl) (pe_lc (own := [("mask", 7), ("worth", 8)]) (g := (gTup K 2 (gCons (gName 7) (gCons (gName 8) gNil)))) (tt := tYes) (te := (tOp (rI0 fun i j => .int (Builtin.bitOr i j)) (tVar 8) (tOp (rIx K) (tVar 2) (tOp (rI0 fun i j => .int (Builtin.bitAnd i j)) (tVar 7) (tUn (rU fun i => .int (Builtin.bitNot i)) (tOp (rI CPow fun i j => .int (i * 2 ^ j.toNat)) (tC (.int 1)) (tVar 3))))))) (by rfl) sc_support_table.nd (pi_enumA (by rfl) T.z_enumerate (pa_cons (pv 2) pa_nil)) (blkOk_by (by kernel_rfl)) (fun _ _ _ _ _ => (pg_tup (by rfl) (pgs_cons (pg_name (i := 7) sc_support_table.nd rfl (Or.inl rfl)) (pgs_cons (pg_name (i := 8) sc_support_table.nd rfl (Or.inl rfl)) pgs_nil)))) (fun _ _ _ _ _ => pts_nil) (fun _ _ _ _ _ => (pe_op op_or (pv 8) (pe_ix (show IxR _ (rIx K) from ix_seq) (pv 2) (pe_op op_and (pv 7) (pe_un un_inv (pe_op op_shl pe_int (pv 3)))) (fun _ _ => rfl)))))))) (pss_one (ps_ret (pe_callTy (show CallR _ _ (fun xs H Q => ∃ p ys, xs = [.ref p] ∧ ((SqL K H p ys ∧ ∀ l, H l = none → Q (.ref l) (upd H l (.tup ys))) ∨ (SqT K H p ys ∧ Q (.ref p) H))) from call_tuple_of) (by rfl) T.z_tuple (by decide +kernel) (pa_cons (pv 2) pa_nil))))))), (s_ownMul (da_cons (de_int (da_nil ⟨lenLe 1 (by decide), (De.imp (e_op2 l_shl (De.v (de_int (De.v (e_cb l_len (dav_cons (De.v (de_var rfl (dav_nil h0))))))))) fun v4 h53 => (W.times.imp h53 fun l2 h3 => fun p1 _ => (s_for (S := (List D)) (js := [3, 4]) (fun (s : List D) (r : List Sl) => ∃ t6 t7 t8 t9 : Sl, r = [.d x0, .d x1, .mu p1 s, t8, t9, t6, t7, .un, .un]) _ l2 _ (i_enumA (de_var rfl h3)) ⟨_, _, _, _, rfl⟩ (fun y10 s11 _ n12 b13 e55 h54 => (by obtain ⟨t6, t7, t8, t9, rfl⟩ := e55; exact (dg_un2 h54 fun v14 v15 h58 => (ds_last (s_for (S := (List D)) (js := [5]) (fun (s : List D) (r : List Sl) => ∃ t16 t17 : Sl, r = [.d x0, .d x1, .mu p1 s, .d v14, .d v15, t17, t16, .un, .un]) _ s11 _ (i_seq (e_fld (cs := [T.c.Rule]) T.fl_Rule_least (De.v (de_var rfl h58)))) ⟨_, _, rfl⟩ (fun y18 s19 _ n20 b21 e60 h59 => (by obtain ⟨t16, t17, rfl⟩ := e60; exact (dg_name (s_asg (De.imp (e_callP2 (w := p_mask_of) (de_var rfl (de_var rfl h59))) fun v22 h63 => (ds_last (s_put rfl (De.imp (e_op2 l_bor (De.v (De.imp (e_op2 l_ix (dv_mu rfl (De.v (de_var rfl h63)))) fun v26 h65 => (De.v (e_op2 l_shl (De.v (de_int (De.v (de_var rfl h65))))))))) fun v25 h64 => (de_var rfl (W.put.imp h64 fun l23 h24 => (ds_nextK rfl l23 h24 ⟨_, _, rfl⟩))))))))))) (fun s28 _ e62 h61 => (by obtain ⟨t16, t17, rfl⟩ := e62; exact (ds_nextK rfl s28 h61 ⟨_, _, _, _, rfl⟩)))))))) (fun s31 _ e57 h56 => (by obtain ⟨t6, t7, t8, t9, rfl⟩ := e57; exact (s_freeze 2 rfl (s_for (S := (D)) (js := [3]) (fun (s : D) (r : List Sl) => ∃ t32 : Sl, r = [.d x0, .d x1, .d s, t32, t9, t6, t7, .un, .un]) _ (D.lst s31) _ (i_range1 (e_cb l_len (dav_cons (De.v (de_var rfl (dav_nil h56)))))) ⟨_, rfl⟩ (fun y33 s34 _ n35 b36 e67 h66 => (by obtain ⟨t32, rfl⟩ := e67; exact (dg_name (ds_last (s_asg (De.imp (e_comp _ (js := [7, 8]) (by decide) (i_enumA (de_var rfl h66)) (fun _ x40 _ h71 => (dg_un2 h71 fun v37 v38 h72 => (dt_yes (iteT (e_op2 l_bor (De.v (de_var rfl (De.v (e_op2 l_ix (De.v (de_var rfl (De.v (e_op2 l_band (De.v (de_var rfl (De.v (e_un l_inv (De.v (e_op2 l_shl (De.v (de_int (De.v (de_var rfl h72)))))))))))))))))))))))) fun v46 h70 => (ds_nextK rfl v46 h70 ⟨_, rfl⟩))))))) (fun s48 _ e69 h68 => (by obtain ⟨t32, rfl⟩ := e69; exact (s_ret (e_cb l_tupleOf (dav_cons (De.v (de_var rfl (dav_nil h68)))))))))))))))⟩))))⟩
set_option maxHeartbeats 0 in
theorem ok_supported_in (T : Tx P w K mg base) : FnOk P w K mg base CX0 1 T.f_supported_in T.fd_supported_in ["plan", "parts", "props"] (SpP0 K (W.a3 (p_supported_in T.c))) := by
  refine fn_w (k := 0) (S := pure0) (W := fun _ => W.a3 (p_supported_in T.c)) T.F_supported_in sc_supported_in (fun g ds k h => by obtain ⟨_, _, _, rfl, _⟩ := a3_e h; rfl) fun cdv A outer s H E g ds kr F1 f0 tr hr h => ?_
  have hu := hr.units
  have hu65 := hr.units65
  obtain ⟨x0, x1, x2, rfl, h0⟩ := a3_e h
  unfold p_supported_in at h0
  exact ⟨_, (pss_one (ps_ret (pe_op op_or (pe_ix (show IxR _ (rIx K) from ix_seq) (pe_fld (pv 0) rfl) (pv 1) (fun _ _ => rfl)) (pv 2)))), (s_ret (e_op2 l_bor (De.v (De.imp (e_op2 l_ix (De.v (De.imp (e_fld (cs := [T.c.Plan]) T.fl_Plan_support (De.v (de_var rfl h0))) fun v3 h5 => (De.v (de_var rfl h5))))) fun v2 h4 => (De.v (de_var rfl h4))))))⟩
set_option maxHeartbeats 0 in
theorem ok_falling_in (T : Tx P w K mg base) : FnOk P w K mg base CX0 2 T.f_falling_in T.fd_falling_in ["plan", "parts", "props"] (SpP0 K (W.a3 (p_falling_in T.c))) := by
  refine fn_w (k := 1) (S := pure0) (W := fun _ => W.a3 (p_falling_in T.c)) T.F_falling_in sc_falling_in (fun g ds k h => by obtain ⟨_, _, _, rfl, _⟩ := a3_e h; rfl) fun cdv A outer s H E g ds kr F1 f0 tr hr h => ?_
  have hu := hr.units
  have hu65 := hr.units65
  obtain ⟨x0, x1, x2, rfl, h0⟩ := a3_e h
  unfold p_falling_in at h0
  exact ⟨_, (pss_one (ps_ret (pe_op op_and (pv 1) (pe_un un_inv (pe_call (ok_supported_in T) (hr.mono (by decide)) (by rfl) T.g_supported_in T.k_supported_in T.b_supported_in .nil pass0 (pa_cons (pv 0) (pa_cons (pv 1) (pa_cons (pv 2) pa_nil)))))))), (s_ret (e_op2 l_band (De.v (de_var rfl (De.v (e_un l_inv (De.v (e_callP3 (w := (p_supported_in T.c)) (de_var rfl (de_var rfl (de_var rfl h0)))))))))))⟩
set_option maxHeartbeats 0 in
theorem ok_stands_in (T : Tx P w K mg base) : FnOk P w K mg base CX0 3 T.f_stands_in T.fd_stands_in ["plan", "parts", "props"] (SpP0 K (W.a3 (p_stands_in T.c))) := by
  refine fn_w (k := 2) (S := pure0) (W := fun _ => W.a3 (p_stands_in T.c)) T.F_stands_in sc_stands_in (fun g ds k h => by obtain ⟨_, _, _, rfl, _⟩ := a3_e h; rfl) fun cdv A outer s H E g ds kr F1 f0 tr hr h => ?_
  have hu := hr.units
  have hu65 := hr.units65
  obtain ⟨x0, x1, x2, rfl, h0⟩ := a3_e h
  unfold p_stands_in at h0
  exact ⟨_, (pss_one (ps_ret (pe_cmpR (op_eqW hu) (pe_call (ok_falling_in T) (hr.mono (by decide)) (by rfl) T.g_falling_in T.k_falling_in T.b_falling_in .nil pass0 (pa_cons (pv 0) (pa_cons (pv 1) (pa_cons (pv 2) pa_nil)))) pe_int (nomark _)))), (s_ret (e_op2 l_eq (De.v (De.imp (e_callP3 (w := (p_falling_in T.c)) (de_var rfl (de_var rfl (de_var rfl h0)))) fun v2 h3 => (De.v (de_int h3))))))⟩
set_option maxHeartbeats 0 in
theorem ok_rest_in (T : Tx P w K mg base) : FnOk P w K mg base CX0 3 T.f_rest_in T.fd_rest_in ["plan", "parts", "props"] (SpP0 K (W.a3 (p_rest_in T.c))) := by
  refine fn_w (k := 2) (S := pure0) (W := fun _ => W.a3 (p_rest_in T.c)) T.F_rest_in sc_rest_in (fun g ds k h => by obtain ⟨_, _, _, rfl, _⟩ := a3_e h; rfl) fun cdv A outer s H E g ds kr F1 f0 tr hr h => ?_
  have hu := hr.units
  have hu65 := hr.units65
  obtain ⟨x0, x1, x2, rfl, h0⟩ := a3_e h
  unfold p_rest_in at h0
  exact ⟨_, (pss_cons (ps_set (i := 3) sc_rest_in.nd rfl (Or.inl rfl) (pv 1)) (pss_cons (ps_set (i := 4) sc_rest_in.nd rfl (Or.inl rfl) (pe_call (ok_falling_in T) (hr.mono (by decide)) (by rfl) T.g_falling_in T.k_falling_in T.b_falling_in .nil pass0 (pa_cons (pv 0) (pa_cons (pv 3) (pa_cons (pv 2) pa_nil))))) (pss_cons (ps_while PassesOwn.never (pt_cmpR (op_neW hu) (pv 4) pe_int (nomark _)) (pss_cons (ps_set (i := 3) sc_rest_in.nd rfl (Or.inl rfl) (pe_op op_xor (pv 3) (pv 4))) (pss_one (ps_set (i := 4) sc_rest_in.nd rfl (Or.inl rfl) (pe_call (ok_falling_in T) (hr.mono (by decide)) (by rfl) T.g_falling_in T.k_falling_in T.b_falling_in .nil pass0 (pa_cons (pv 0) (pa_cons (pv 3) (pa_cons (pv 2) pa_nil)))))))) (pss_one (ps_ret (pv 3)))))), (s_asg (de_var rfl (s_asg (De.imp (e_callP3 (w := (p_falling_in T.c)) (de_var rfl (de_var rfl (de_var rfl h0)))) fun v1 h12 => (s_while (S := (D × D)) (fun (s : D × D) (r : List Sl) => r = [.d x0, .d x1, .d x2, .d s.1, .d s.2]) _ _ (x1, v1) _ h12 rfl (fun s2 _ _ e18 h17 => (by subst e18; exact (t_test (e_op2 l_ne (De.v (de_var rfl (De.v (de_int h17)))))))) (fun s2 _ n3 b4 e14 h13 => (by subst e14; exact (s_asg (De.imp (e_op2 l_bxor (De.v (de_var rfl (De.v (de_var rfl h13))))) fun v8 h19 => (ds_last (s_asg (De.imp (e_callP3 (w := (p_falling_in T.c)) (de_var rfl (de_var rfl (de_var rfl h19)))) fun v9 h20 => (ds_nextK rfl (v8, v9) h20 rfl)))))))) (fun s10 _ e16 h15 => (by subst e16; exact (s_ret (de_var rfl h15)))))))))⟩
set_option maxHeartbeats 0 in
theorem ok_mask_of_g (T : Tx P w K mg base) : FnOk P w K mg base CX0 1 T.f_mask_of T.fd_mask_of ["one", "names"] (SpP0 K (W.a2 p_mask_of_g)) := by
  refine fn_w (k := 0) (S := pure0) (W := fun _ => W.a2 p_mask_of_g) T.F_mask_of sc_mask_of (fun g ds k h => by obtain ⟨_, _, rfl, _⟩ := a2_e h; rfl) fun cdv A outer s H E g ds kr F1 f0 tr hr h => ?_
  have hu := hr.units
  have hu65 := hr.units65
  obtain ⟨x0, x1, rfl, h0⟩ := a2_e h
  unfold p_mask_of_g at h0
  exact ⟨_, (pss_one (ps_ret (pe_callB (show CallR _ _ (rSumA K) from (cr_sumA (by rfl))) (by rfl) T.z_sum (by decide +kernel) (pa_cons (pe_lc (own := [("at", 2), ("name", 3)]) (g := (gTup K 2 (gCons (gName 2) (gCons (gName 3) gNil)))) (tt := (tTest (tOp (rInW K) (tVar 3) (tVar 0)))) (te := (tOp (rI CPow fun i j => .int (i * 2 ^ j.toNat)) (tC (.int 1)) (tVar 2))) (by rfl) sc_mask_of.nd (pi_enumA (by rfl) T.z_enumerate (pa_cons (pv 1) pa_nil)) (blkOk_by (by kernel_rfl)) (fun _ _ _ _ _ => (pg_tup (by rfl) (pgs_cons (pg_name (i := 2) sc_mask_of.nd rfl (Or.inl rfl)) (pgs_cons (pg_name (i := 3) sc_mask_of.nd rfl (Or.inl rfl)) pgs_nil)))) (fun _ _ _ _ _ => (pts_one (pt_cmpR (op_inW hu65) (pv 3) (pv 0) (by rfl)))) (fun _ _ _ _ _ => (pe_op op_shl pe_int (pv 2)))) pa_nil)))), (s_ret (e_cb l_sumA (dav_cons (De.v (De.imp (e_comp _ (js := [2, 3]) (by decide) (i_enumA (de_var rfl h0)) (fun _ x4 _ h12 => (dg_un2 h12 fun v1 v2 h13 => (DT.imp (t_test (e_op2 l_in (De.v (de_var rfl (De.v (de_var rfl h13)))))) fun b6 h15 => (ite_split h15 (fun h14 => (e_op2 l_shl (De.v (de_int (De.v (de_var rfl h14)))))) id))))) fun v9 h11 => (dav_nil h11))))))⟩
set_option maxHeartbeats 0 in
theorem ok_names_of_g (T : Tx P w K mg base) : FnOk P w K mg base CX0 1 T.f_names_of T.fd_names_of ["mask", "names"] (SpP0 K (W.a2 p_names_of_g)) := by
  refine fn_w (k := 0) (S := pure0) (W := fun _ => W.a2 p_names_of_g) T.F_names_of sc_names_of (fun g ds k h => by obtain ⟨_, _, rfl, _⟩ := a2_e h; rfl) fun cdv A outer s H E g ds kr F1 f0 tr hr h => ?_
  have hu := hr.units
  have hu65 := hr.units65
  obtain ⟨x0, x1, rfl, h0⟩ := a2_e h
  unfold p_names_of_g at h0
  exact ⟨_, (pss_one (ps_ret (pe_callTy (show CallR _ _ (fun xs H Q => ∃ p ys, xs = [.ref p] ∧ ((SqL K H p ys ∧ ∀ l, H l = none → Q (.ref l) (upd H l (.tup ys))) ∨ (SqT K H p ys ∧ Q (.ref p) H))) from call_tuple_of) (by rfl) T.z_tuple (by decide +kernel) (pa_cons (pe_lc (own := [("at", 2), ("name", 3)]) (g := (gTup K 2 (gCons (gName 2) (gCons (gName 3) gNil)))) (tt := (tTest (tOp (rEqW K) (tOp (rI0 fun i j => .int (Builtin.bitAnd i j)) (tOp (rI (fun _ j => 0 ≤ j) fun i j => .int (i / 2 ^ j.toNat)) (tVar 0) (tVar 2)) (tC (.int 1))) (tC (.int 1))))) (te := (tVar 3)) (by rfl) sc_names_of.nd (pi_enumA (by rfl) T.z_enumerate (pa_cons (pv 1) pa_nil)) (blkOk_by (by kernel_rfl)) (fun _ _ _ _ _ => (pg_tup (by rfl) (pgs_cons (pg_name (i := 2) sc_names_of.nd rfl (Or.inl rfl)) (pgs_cons (pg_name (i := 3) sc_names_of.nd rfl (Or.inl rfl)) pgs_nil)))) (fun _ _ _ _ _ => (pts_one (pt_cmpR (op_eqW hu) (pe_op op_and (pe_op op_shr (pv 0) (pv 2)) pe_int) pe_int (nomark _)))) (fun _ _ _ _ _ => (pv 3))) pa_nil)))), (s_ret (e_cb l_tupleOf (dav_cons (De.v (De.imp (e_comp _ (js := [2, 3]) (by decide) (i_enumA (de_var rfl h0)) (fun _ x4 _ h13 => (dg_un2 h13 fun v1 v2 h14 => (DT.imp (t_test (e_op2 l_eq (De.v (De.imp (e_op2 l_band (De.v (De.imp (e_op2 l_shr (De.v (de_var rfl (De.v (de_var rfl h14))))) fun v8 h18 => (De.v (de_int h18))))) fun v7 h17 => (De.v (de_int h17)))))) fun b5 h16 => (ite_split h16 (fun h15 => (de_var rfl h15)) id))))) fun v10 h12 => (dav_nil h12))))))⟩
set_option maxHeartbeats 0 in
theorem ok_in_order_g (T : Tx P w K mg base) : FnOk P w K mg base CX0 2 T.f_in_order T.fd_in_order ["masks", "names"] (SpP0 K (W.a2 p_in_order_g)) := by
  refine fn_w (k := 1) (S := pure0) (W := fun _ => W.a2 p_in_order_g) T.F_in_order sc_in_order (fun g ds k h => by obtain ⟨_, _, rfl, _⟩ := a2_e h; rfl) fun cdv A outer s H E g ds kr F1 f0 tr hr h => ?_
  have hu := hr.units
  have hu65 := hr.units65
  obtain ⟨x0, x1, rfl, h0⟩ := a2_e h
  unfold p_in_order_g at h0
  exact ⟨_, (pss_cons (ps_set (i := 2) sc_in_order.nd rfl (Or.inl rfl) (pe_callB (show CallR _ _ (rSortedE K) from (cr_sortedE hu)) (by rfl) T.z_sorted (by decide +kernel) (pa_cons (pe_lc (own := [("mask", 3)]) (g := (gName 3)) (tt := tYes) (te := (tCall (SpP0 K (W.a2 p_names_of_g)) [] _ (tCons (tVar 3) (tCons (tVar 1) tNil)))) (by rfl) sc_in_order.nd (pi_seq (pv 0)) (blkOk_by (by kernel_rfl)) (fun _ _ _ _ _ => (pg_name (i := 3) sc_in_order.nd rfl (Or.inl rfl))) (fun _ _ _ _ _ => pts_nil) (fun _ _ _ _ _ => (pe_call (ok_names_of_g T) (hr.mono (by decide)) (by rfl) T.g_names_of T.k_names_of T.b_names_of .nil pass0 (pa_cons (pv 3) (pa_cons (pv 1) pa_nil))))) pa_nil))) (pss_one (ps_ret (pe_callTy (show CallR _ _ (fun xs H Q => ∃ p ys, xs = [.ref p] ∧ ((SqL K H p ys ∧ ∀ l, H l = none → Q (.ref l) (upd H l (.tup ys))) ∨ (SqT K H p ys ∧ Q (.ref p) H))) from call_tuple_of) (by rfl) T.z_tuple (by decide +kernel) (pa_cons (pe_sortedLen hu (by rfl) T.z_sorted (by rfl) T.z_len (pv 2)) pa_nil))))), (s_asg (De.imp (e_cb l_sortedE (dav_cons (De.v (De.imp (e_comp _ (js := [3]) (by decide) (i_seq (de_var rfl h0)) (fun _ v1 _ h11 => (dg_name (dt_yes (iteT (e_callP2 (w := p_names_of_g) (de_var rfl (de_var rfl h11)))))))) fun v5 h10 => (dav_nil h10))))) fun v4 h9 => (s_ret (e_cb l_tupleOf (dav_cons (De.v (De.imp (e_sortedLen (De.v (de_var rfl h9))) fun v8 h12 => (dav_nil h12))))))))⟩
set_option maxHeartbeats 0 in
theorem ok_masks_in_order (T : Tx P w K mg base) : FnOk P w K mg base CX0 3 T.f_masks_in_order T.fd_masks_in_order ["many"] (SpP0 K (W.a1 p_masks_in_order)) := by
  refine fn_w (k := 2) (S := pure0) (W := fun _ => W.a1 p_masks_in_order) T.F_masks_in_order sc_masks_in_order (fun g ds k h => by obtain ⟨_, rfl, _⟩ := a1_e h; rfl) fun cdv A outer s H E g ds kr F1 f0 tr hr h => ?_
  have hu := hr.units
  have hu65 := hr.units65
  obtain ⟨x0, rfl, h0⟩ := a1_e h
  unfold p_masks_in_order at h0
  exact ⟨_, (pss_cons (ps_set (i := 1) sc_masks_in_order.nd rfl (Or.inr rfl) (pe_listRg (by rfl) (by rfl) T.z_list (prg_1 (by rfl) T.z_range (pv 0)))) (pss_one (ps_ret (pe_lc (own := [("one", 2)]) (g := (gName 2)) (tt := tYes) (te := (tCall (SpP0 K (W.a2 p_mask_of_g)) [] _ (tCons (tVar 2) (tCons (tVar 1) tNil)))) (by rfl) sc_masks_in_order.nd (pi_seq (pe_call (ok_in_order_g T) (hr.mono (by decide)) (by rfl) T.g_in_order T.k_in_order T.b_in_order .nil pass0 (pa_cons (pe_listRg (by rfl) (by rfl) T.z_list (prg_1 (by rfl) T.z_range (pe_op op_shl pe_int (pv 0)))) (pa_cons (pv 1) pa_nil)))) (blkOk_by (by kernel_rfl)) (fun _ _ _ _ _ => (pg_name (i := 2) sc_masks_in_order.nd rfl (Or.inl rfl))) (fun _ _ _ _ _ => pts_nil) (fun _ _ _ _ _ => (pe_call (ok_mask_of_g T) (hr.mono (by decide)) (by rfl) T.g_mask_of T.k_mask_of T.b_mask_of .nil pass0 (pa_cons (pv 2) (pa_cons (pv 1) pa_nil)))))))), (s_asg (De.imp (e_listRg (de_var rfl h0)) fun v1 h10 => (s_ret (e_comp _ (js := [2]) (by decide) (i_seq (e_callP2 (w := p_in_order_g) (De.imp (e_listRg (e_op2 l_shl (De.v (de_int (De.v (de_var rfl h10)))))) fun v8 h12 => (de_var rfl h12)))) (fun _ v2 _ h11 => (dg_name (dt_yes (iteT (e_callP2 (w := p_mask_of_g) (de_var rfl (de_var rfl h11)))))))))))⟩
set_option maxHeartbeats 0 in
theorem ok_check_count (T : Tx P w K mg base) : FnOk P w K mg base CX0 1 T.f_check_count T.fd_check_count ["rows"] (SpP0 K (W.a1 p_check_count)) := by
  refine fn_w (k := 0) (S := pure0) (W := fun _ => W.a1 p_check_count) T.F_check_count sc_check_count (fun g ds k h => by obtain ⟨_, rfl, _⟩ := a1_e h; rfl) fun cdv A outer s H E g ds kr F1 f0 tr hr h => ?_
  have hu := hr.units
  have hu65 := hr.units65
  obtain ⟨x0, rfl, h0⟩ := a1_e h
  unfold p_check_count at h0
  exact ⟨_, (pss_one (ps_if (PW.pt (pw_or (pt_cmpR op_ltW (pe_callB (show CallR _ _ (rLenW K) from call_lenW) (by rfl) T.z_len PySem.boot_len (pa_cons (pv 0) pa_nil)) pe_int (nomark _)) (pw_or1 (pt_cmpR op_gt (pe_callB (show CallR _ _ (rLenW K) from call_lenW) (by rfl) T.z_len PySem.boot_len (pa_cons (pv 0) pa_nil)) (pe_glob (by rfl) T.gc_MOST_PARTS T.rc_MOST_PARTS) (nomark _))))) (pss_one ps_never) pss_nil)), (ds_last (s_ifR (DT.imp (t_or (DT.imp (t_test (e_op2 l_lt (De.v (De.imp (e_cb l_len (dav_cons (De.v (de_var rfl (dav_nil (have j := W.join_go h0; j)))))) fun v14 h15 => (De.v (de_int h15)))))) fun b12 h14 => (W.ite.imp h14 id (fun h12 => (t_test (e_op2 l_gt (De.v (De.imp (e_cb l_len (dav_cons (De.v (de_var rfl (dav_nil h12))))) fun v8 h13 => (De.v (de_int h13)))))))))) fun b2 h11 => (ite_split h11 (fun h9 => (s_never h9)) (fun h10 => (ds_next (ds_next h10)))))))⟩
set_option maxHeartbeats 0 in
theorem ok_check_names (T : Tx P w K mg base) : FnOk P w K mg base CX0 2 T.f_check_names T.fd_check_names ["rows"] (SpP0 K (W.a1 p_check_names)) := by
  refine fn_w (k := 1) (S := pure0) (W := fun _ => W.a1 p_check_names) T.F_check_names sc_check_names (fun g ds k h => by obtain ⟨_, rfl, _⟩ := a1_e h; rfl) fun cdv A outer s H E g ds kr F1 f0 tr hr h => ?_
  have hu := hr.units
  have hu65 := hr.units65
  obtain ⟨x0, rfl, h0⟩ := a1_e h
  unfold p_check_names at h0
  exact ⟨_, (pss_cons (ps_set (i := 1) sc_check_names.nd rfl (Or.inl rfl) (pe_lst pa_nil)) (pss_one (ps_for PassesOwn.never rfl (pi_enumA (by rfl) T.z_enumerate (pa_cons (pv 0) pa_nil)) (pg_tup (by rfl) (pgs_cons (pg_name (i := 2) sc_check_names.nd rfl (Or.inl rfl)) (pgs_cons (pg_name (i := 3) sc_check_names.nd rfl (Or.inl rfl)) pgs_nil))) (pss_cons (ps_if (PW.pt (pw_or (pt_not (pt_val (pe_call (ok_is_name T) (hr.mono (by decide)) (by rfl) T.g_is_name T.k_is_name T.b_is_name .nil pass0 (pa_cons (pe_ix (show IxR _ (rIx K) from ix_seq) (pv 3) pe_int (fun _ _ => rfl)) pa_nil)))) (pw_or1 (pt_cmpR (op_inW hu65) (pe_ix (show IxR _ (rIx K) from ix_seq) (pv 3) pe_int (fun _ _ => rfl)) (pv 1) (by rfl))))) (pss_one ps_never) pss_nil) (pss_one (ps_expr (pe_bm PySem.F.plainAttrs_list PySem.F.slot_list_append PySem.F.type_list_append mt_append (pv 1) (pa_cons (pe_ix (show IxR _ (rIx K) from ix_seq) (pv 3) pe_int (fun _ _ => rfl)) pa_nil)))))))), (s_own (da_nil ⟨lenLe 0 (by decide), fun p1 _ => (ds_last (s_for (S := (List D)) (js := [2, 3]) (fun (s : List D) (r : List Sl) => ∃ t3 t4 : Sl, r = [.d x0, .mu p1 s, t3, t4]) _ [] _ (i_enumA (de_var rfl h0)) ⟨_, _, rfl⟩ (fun y5 s6 _ n7 b8 e24 h23 => (by obtain ⟨t3, t4, rfl⟩ := e24; exact (dg_un2 h23 fun v9 v10 h27 => (s_ifR (DT.imp (t_or (DT.imp (t_not (t_B (e_callP1 (w := p_is_name) (e_op2 l_ix (De.v (de_var rfl (De.v (de_int (have j := W.join_go h27; j))))))))) fun b31 h33 => (W.ite.imp h33 id (fun h31 => (t_test (e_op2 l_in (De.v (De.imp (e_op2 l_ix (De.v (de_var rfl (De.v (de_int h31))))) fun v20 h32 => (dv_mu rfl h32))))))))) fun b13 h30 => (ite_split h30 (fun h28 => (s_never h28)) (fun h29 => (ds_next (ds_last (s_append rfl (De.imp (e_op2 l_ix (De.v (de_var rfl (De.v (de_int h29))))) fun v11 h34 => ⟨And.left h34, (ds_nextK rfl (s6 ++ [v11]) (And.right h34) ⟨_, _, rfl⟩)⟩))))))))))) (fun s21 _ e26 h25 => (by obtain ⟨t3, t4, rfl⟩ := e26; exact (ds_next h25)))))⟩))⟩
set_option maxHeartbeats 0 in
theorem ok_check_rules (T : Tx P w K mg base) : FnOk P w K mg base CX0 1 T.f_check_rules T.fd_check_rules ["rows"] (SpP0 K (W.a1 (p_check_rules T.c))) := by
  refine fn_w (k := 0) (S := pure0) (W := fun _ => W.a1 (p_check_rules T.c)) T.F_check_rules sc_check_rules (fun g ds k h => by obtain ⟨_, rfl, _⟩ := a1_e h; rfl) fun cdv A outer s H E g ds kr F1 f0 tr hr h => ?_
  have hu := hr.units
  have hu65 := hr.units65
  obtain ⟨x0, rfl, h0⟩ := a1_e h
  unfold p_check_rules at h0
  exact ⟨_, (pss_cons (ps_set (i := 1) sc_check_rules.nd rfl (Or.inr rfl) (pe_lc (own := [("row", 3)]) (g := (gName 3)) (tt := tYes) (te := (tOp (rIx K) (tVar 3) (tC (.int 0)))) (by rfl) sc_check_rules.nd (pi_seq (pv 0)) (blkOk_by (by kernel_rfl)) (fun _ _ _ _ _ => (pg_name (i := 3) sc_check_rules.nd rfl (Or.inl rfl))) (fun _ _ _ _ _ => pts_nil) (fun _ _ _ _ _ => (pe_ix (show IxR _ (rIx K) from ix_seq) (pv 3) pe_int (fun _ _ => rfl))))) (pss_one (ps_for PassesOwn.never rfl (pi_enumA (by rfl) T.z_enumerate (pa_cons (pv 0) pa_nil)) (pg_tup (by rfl) (pgs_cons (pg_name (i := 2) sc_check_rules.nd rfl (Or.inl rfl)) (pgs_cons (pg_name (i := 3) sc_check_rules.nd rfl (Or.inr rfl)) pgs_nil))) (pss_one (ps_if (pt_not (pt_val (pe_callB (show CallR _ _ (rAll K) from (cr_all (by rfl))) (by rfl) T.z_all (by decide +kernel) (pa_cons (pe_lc (own := [("name", 4)]) (g := (gName 4)) (tt := tYes) (te := (tAndV (tOp (rInW K) (tVar 4) (tVar 1)) (tOp (rNeW K) (tVar 4) (tOp (rIx K) (tVar 3) (tC (.int 0)))))) (by rfl) sc_check_rules.nd (pi_seq (pe_fld (pe_ix (show IxR _ (rIx K) from ix_seq) (pv 3) pe_int (fun _ _ => rfl)) rfl)) (blkOk_by (by kernel_rfl)) (fun _ _ _ _ _ => (pg_name (i := 4) sc_check_rules.nd rfl (Or.inl rfl))) (fun _ _ _ _ _ => pts_nil) (fun _ _ _ _ _ => (pe_and (pe_cmpR (op_inW hu65) (pv 4) (pv 1) (by rfl)) (pe_one (pe_cmpR (op_neW hu) (pv 4) (pe_ix (show IxR _ (rIx K) from ix_seq) (pv 3) pe_int (fun _ _ => rfl)) (nomark _)))))) pa_nil)))) (pss_one ps_never) pss_nil))))), (s_asg (De.imp (e_comp _ (js := [3]) (by decide) (i_seq (de_var rfl h0)) (fun _ v1 _ h32 => (dg_name (dt_yes (iteT (e_op2 l_ix (De.v (de_var rfl (De.v (de_int h32)))))))))) fun v4 h31 => (ds_last (s_for (S := (Unit)) (js := [2, 3]) (fun (s : Unit) (r : List Sl) => ∃ t6 t7 : Sl, r = [.d x0, .d v4, t6, t7, .un]) _ () _ (i_enumA (de_var rfl h31)) ⟨_, _, rfl⟩ (fun y8 s9 _ n10 b11 e34 h33 => (by obtain ⟨t6, t7, rfl⟩ := e34; exact (dg_un2 h33 fun v12 v13 h37 => (ds_last (s_ifR (DT.imp (t_not (t_B (e_cb l_all (dav_cons (De.v (De.imp (e_comp _ (js := [4]) (by decide) (i_seq (e_fld (cs := [T.c.Rule]) T.fl_Rule_names (De.v (e_op2 l_ix (De.v (de_var rfl (De.v (de_int h37)))))))) (fun _ v14 _ h42 => (dg_name (dt_yes (iteT (e_andV (De.imp (e_op2 l_in (De.v (de_var rfl (De.v (de_var rfl (have j := W.join_go h42; j)))))) fun v43 h43 => (truth_imp h43 fun _ h => W.ite.imp h (fun h44 => (e_op2 l_ne (De.v (de_var rfl (De.v (e_op2 l_ix (De.v (de_var rfl (De.v (de_int h44)))))))))) id)))))))) fun v25 h41 => (dav_nil h41))))))) fun b22 h40 => (ite_split h40 (fun h38 => (s_never h38)) (fun h39 => (ds_next (ds_nextK rfl () h39 ⟨_, _, rfl⟩)))))))))) (fun s29 _ e36 h35 => (by obtain ⟨t6, t7, rfl⟩ := e36; exact (ds_next h35)))))))⟩
set_option maxHeartbeats 0 in
theorem ok_Plan___init__ (T : Tx P w K mg base) : FnOk P w K mg base CX0 3 T.f_Plan___init__ T.fd_Plan___init__ ["self", "rows"] (SpI K T.c.Plan (W.a1 (p_Plan___init__ T.c))) := by
  refine fn_init (k := 2) (W := W.a1 (p_Plan___init__ T.c)) T.F_Plan___init__ sc_Plan___init__ (fun ds k h => by obtain ⟨_, rfl, _⟩ := a1_e h; rfl) fun cdv A outer s H E self ds kr hr h => ?_
  have hu := hr.units
  have hu65 := hr.units65
  obtain ⟨x1, rfl, h0⟩ := a1_e h
  unfold p_Plan___init__ at h0
  exact ⟨_, (pss_cons (ps_expr (pe_call (ok_check_count T) (hr.mono (by decide)) (by rfl) T.g_check_count T.k_check_count T.b_check_count .nil pass0 (pa_cons (pv 1) pa_nil))) (pss_cons (ps_expr (pe_call (ok_check_names T) (hr.mono (by decide)) (by rfl) T.g_check_names T.k_check_names T.b_check_names .nil pass0 (pa_cons (pv 1) pa_nil))) (pss_cons (ps_expr (pe_call (ok_check_rules T) (hr.mono (by decide)) (by rfl) T.g_check_rules T.k_check_rules T.b_check_rules .nil pass0 (pa_cons (pv 1) pa_nil))) (pss_cons (ps_fld (pv 0) (pe_callTy (show CallR _ _ (fun xs H Q => ∃ p ys, xs = [.ref p] ∧ ((SqL K H p ys ∧ ∀ l, H l = none → Q (.ref l) (upd H l (.tup ys))) ∨ (SqT K H p ys ∧ Q (.ref p) H))) from call_tuple_of) (by rfl) T.z_tuple (by decide +kernel) (pa_cons (pe_lc (own := [("row", 2)]) (g := (gName 2)) (tt := tYes) (te := (tOp (rIx K) (tVar 2) (tC (.int 0)))) (by rfl) sc_Plan___init__.nd (pi_seq (pv 1)) (blkOk_by (by kernel_rfl)) (fun _ _ _ _ _ => (pg_name (i := 2) sc_Plan___init__.nd rfl (Or.inl rfl))) (fun _ _ _ _ _ => pts_nil) (fun _ _ _ _ _ => (pe_ix (show IxR _ (rIx K) from ix_seq) (pv 2) pe_int (fun _ _ => rfl)))) pa_nil)) rfl) (pss_cons (ps_fld (pv 0) (pe_callTy (show CallR _ _ (fun xs H Q => ∃ p ys, xs = [.ref p] ∧ ((SqL K H p ys ∧ ∀ l, H l = none → Q (.ref l) (upd H l (.tup ys))) ∨ (SqT K H p ys ∧ Q (.ref p) H))) from call_tuple_of) (by rfl) T.z_tuple (by decide +kernel) (pa_cons (pe_lc (own := [("row", 2)]) (g := (gName 2)) (tt := tYes) (te := (tOp (rIx K) (tVar 2) (tC (.int 1)))) (by rfl) sc_Plan___init__.nd (pi_seq (pv 1)) (blkOk_by (by kernel_rfl)) (fun _ _ _ _ _ => (pg_name (i := 2) sc_Plan___init__.nd rfl (Or.inl rfl))) (fun _ _ _ _ _ => pts_nil) (fun _ _ _ _ _ => (pe_ix (show IxR _ (rIx K) from ix_seq) (pv 2) pe_int (fun _ _ => rfl)))) pa_nil)) rfl) (pss_one (ps_fld (pv 0) (pe_call (ok_support_table T) (hr.mono (by decide)) (by rfl) T.g_support_table T.k_support_table T.b_support_table .nil pass0 (pa_cons (pe_fld (pv 0) rfl) (pa_cons (pe_fld (pv 0) rfl) pa_nil))) rfl))))))), (ini_drop (fun H F f0 tr => (De.imp (e_callP1 (w := p_check_count) (de_var rfl h0)) fun v7 h19 => (ini_drop (fun H F f0 tr => (De.imp (e_callP1 (w := p_check_names) (de_var rfl h19)) fun v8 h20 => (ini_drop (fun H F f0 tr => (De.imp (e_callP1 (w := (p_check_rules T.c)) (de_var rfl h20)) fun v9 h21 => (ini_fldS T.cl_Plan (T.fl_Plan_names _ (List.mem_singleton.mpr rfl)).2 (by decide) (by decide) (fun H F x f0 tr hx0 S => (De.imp (e_cb l_tupleOf (dav_cons (De.v (De.imp (e_comp _ (js := [2]) (by decide) (i_seq (de_var rfl h21)) (fun _ v1 _ h24 => (dg_name (dt_yes (iteT (e_op2 l_ix (De.v (de_var rfl (De.v (de_int h24)))))))))) fun v11 h23 => (dav_nil h23))))) fun v10 h22 => (ini_fldS T.cl_Plan (T.fl_Plan__rules _ (List.mem_singleton.mpr rfl)).2 (by decide) (by decide) (fun H F x f0 tr hx0 S => (De.imp (e_cb l_tupleOf (dav_cons (De.v (De.imp (e_comp _ (js := [2]) (by decide) (i_seq (de_var rfl h22)) (fun _ v4 _ h27 => (dg_name (dt_yes (iteT (e_op2 l_ix (De.v (de_var rfl (De.v (de_int h27)))))))))) fun v14 h26 => (dav_nil h26))))) fun v13 h25 => (ini_last (ini_fldS T.cl_Plan (T.fl_Plan_support _ (List.mem_singleton.mpr rfl)).2 (by decide) (by decide) (fun H F x f0 tr hx0 S => (De.imp (e_callP2 (w := (p_support_table T.c)) (De.imp (e_self hx0 S T.cl_Plan (T.fl_Plan_names _ (List.mem_singleton.mpr rfl)).2 h25) fun v17 h29 => (e_self hx0 S T.cl_Plan (T.fl_Plan__rules _ (List.mem_singleton.mpr rfl)).2 h29))) fun v16 h28 => (ini_end h28))))))))))))))))))))⟩
set_option maxHeartbeats 0 in
theorem ok_Plan___eq__ (T : Tx P w K mg base) : FnOk P w K mg base CX0 4 T.f_Plan___eq__ T.fd_Plan___eq__ ["self", "other"] (SpP0 K (W.a2 (p_Plan___eq__ T.c))) := by
  refine fn_w (k := 3) (S := pure0) (W := fun _ => W.a2 (p_Plan___eq__ T.c)) T.F_Plan___eq__ sc_Plan___eq__ (fun g ds k h => by obtain ⟨_, _, rfl, _⟩ := a2_e h; rfl) fun cdv A outer s H E g ds kr F1 f0 tr hr h => ?_
  have hu := hr.units
  have hu65 := hr.units65
  obtain ⟨x0, x1, rfl, h0⟩ := a2_e h
  unfold p_Plan___eq__ at h0
  exact ⟨_, (pss_one (ps_ret (pe_and (pe_callB (show CallR _ _ (rIsi K) from call_isi) (by rfl) T.z_isinstance (by decide +kernel) (pa_cons (pv 1) (pa_cons (pe_glob (by rfl) T.g_Plan (show RelV (.ref T.c.Plan) _ from rfl)) pa_nil))) (pe_and (pe_cmpR (op_eqW hu) (pe_fld (pv 0) rfl) (pe_fld (pv 1) rfl) (nomark _)) (pe_one (pe_cmpR (op_eqTBo (ok_Rule___eq__ T) (hr.mono (by decide)) T.b_Rule___eq__ T.at_Rule___eq__ T.fn_Rule___eq__) (pe_fld (pv 0) rfl) (pe_fld (pv 1) rfl) (nomark _))))))), (s_ret (e_andV (De.imp (e_isiC T.kit (u := (Value.ref T.c.Plan)) (ClsV.own T.c.Plan) T.k_isi_Plan (De.v (de_var rfl (have j := W.join_go h0; j)))) fun v12 h12 => (truth_imp h12 fun _ h => W.ite.imp h (fun h13 => (e_andV (De.imp (e_op2 l_eq (De.v (De.imp (e_fld (cs := [T.c.Plan]) T.fl_Plan_names (De.v (de_var rfl h13))) fun v9 h15 => (De.v (e_fld (cs := [T.c.Plan]) T.fl_Plan_names (De.v (de_var rfl h15))))))) fun v8 h14 => (truth_imp h14 fun _ h => W.ite.imp h (fun h16 => (e_eqTB (De.imp (e_fld (cs := [T.c.Plan]) T.fl_Plan__rules (De.v (de_var rfl h16))) fun v6 h17 => (e_fld (cs := [T.c.Plan]) T.fl_Plan__rules (De.v (de_var rfl h17)))))) id)))) id))))⟩
set_option maxHeartbeats 0 in
theorem ok_check_parts (T : Tx P w K mg base) : FnOk P w K mg base CX0 1 T.f_check_parts T.fd_check_parts ["plan", "names"] (SpP0 K (W.a2 (p_check_parts T.c))) := by
  refine fn_w (k := 0) (S := pure0) (W := fun _ => W.a2 (p_check_parts T.c)) T.F_check_parts sc_check_parts (fun g ds k h => by obtain ⟨_, _, rfl, _⟩ := a2_e h; rfl) fun cdv A outer s H E g ds kr F1 f0 tr hr h => ?_
  have hu := hr.units
  have hu65 := hr.units65
  obtain ⟨x0, x1, rfl, h0⟩ := a2_e h
  unfold p_check_parts at h0
  exact ⟨_, (pss_one (ps_for PassesOwn.never rfl (pi_seq (pv 1)) (pg_name (i := 2) sc_check_parts.nd rfl (Or.inl rfl)) (pss_one (ps_if (pt_cmpR (op_ninW hu65) (pv 2) (pe_fld (pv 0) rfl) (by rfl)) (pss_one ps_never) pss_nil)))), (ds_last (s_for (S := (Unit)) (js := [2]) (fun (s : Unit) (r : List Sl) => ∃ t1 : Sl, r = [.d x0, .d x1, t1]) _ () _ (i_seq (de_var rfl h0)) ⟨_, rfl⟩ (fun y2 s3 _ n4 b5 e12 h11 => (by obtain ⟨t1, rfl⟩ := e12; exact (dg_name (ds_last (s_ifR (DT.imp (t_test (e_op2 l_nin (De.v (de_var rfl (De.v (e_fld (cs := [T.c.Plan]) T.fl_Plan_names (De.v (de_var rfl h11)))))))) fun b6 h17 => (ite_split h17 (fun h15 => (s_never h15)) (fun h16 => (ds_next (ds_nextK rfl () h16 ⟨_, rfl⟩)))))))))) (fun s9 _ e14 h13 => (by obtain ⟨t1, rfl⟩ := e14; exact (ds_next h13)))))⟩
set_option maxHeartbeats 0 in
theorem ok_parts_mask (T : Tx P w K mg base) : FnOk P w K mg base CX0 2 T.f_parts_mask T.fd_parts_mask ["plan", "names"] (SpP0 K (W.a2 (p_parts_mask T.c))) := by
  refine fn_w (k := 1) (S := pure0) (W := fun _ => W.a2 (p_parts_mask T.c)) T.F_parts_mask sc_parts_mask (fun g ds k h => by obtain ⟨_, _, rfl, _⟩ := a2_e h; rfl) fun cdv A outer s H E g ds kr F1 f0 tr hr h => ?_
  have hu := hr.units
  have hu65 := hr.units65
  obtain ⟨x0, x1, rfl, h0⟩ := a2_e h
  unfold p_parts_mask at h0
  exact ⟨_, (pss_cons (ps_expr (pe_call (ok_check_parts T) (hr.mono (by decide)) (by rfl) T.g_check_parts T.k_check_parts T.b_check_parts .nil pass0 (pa_cons (pv 0) (pa_cons (pv 1) pa_nil)))) (pss_one (ps_ret (pe_call (ok_mask_of T) (hr.mono (by decide)) (by rfl) T.g_mask_of T.k_mask_of T.b_mask_of .nil pass0 (pa_cons (pv 1) (pa_cons (pe_fld (pv 0) rfl) pa_nil)))))), (s_drop (De.imp (e_callP2 (w := (p_check_parts T.c)) (de_var rfl (de_var rfl h0))) fun v1 h4 => (s_ret (e_callP2 (w := p_mask_of) (de_var rfl (e_fld (cs := [T.c.Plan]) T.fl_Plan_names (De.v (de_var rfl h4))))))))⟩
set_option maxHeartbeats 0 in
theorem ok_Yard___init__ (T : Tx P w K mg base) : FnOk P w K mg base CX0 2 T.f_Yard___init__ T.fd_Yard___init__ ["self", "plan", "parts"] (SpI K T.c.Yard (W.a2 (p_Yard___init__ T.c))) := by
  refine fn_initV (k := 1) (W := W.a2 (p_Yard___init__ T.c)) T.F_Yard___init__ sc_Yard___init__ (fun ds k h => by obtain ⟨_, _, rfl, _⟩ := a2_e h; rfl) fun cdv A outer s H E self ds kr hr h => ?_
  have hu := hr.units
  have hu65 := hr.units65
  obtain ⟨x1, x2, rfl, h0⟩ := a2_e h
  unfold p_Yard___init__ at h0
  exact ⟨_, (pss_cons (ps_expr (pe_call (ok_check_parts T) (hr.mono (by decide)) (by rfl) T.g_check_parts T.k_check_parts T.b_check_parts .nil pass0 (pa_cons (pv 1) (pa_cons (pv 2) pa_nil)))) (pss_cons (ps_fld (pv 0) (pv 1) rfl) (pss_cons (ps_fld (pv 0) (pe_call (ok_mask_of T) (hr.mono (by decide)) (by rfl) T.g_mask_of T.k_mask_of T.b_mask_of .nil pass0 (pa_cons (pv 2) (pa_cons (pe_fld (pv 1) rfl) pa_nil))) rfl) (pss_one (ps_fld (pv 0) (pe_call (ok_names_of T) (hr.mono (by decide)) (by rfl) T.g_names_of T.k_names_of T.b_names_of .nil pass0 (pa_cons (pe_fld (pv 0) rfl) (pa_cons (pe_fld (pv 1) rfl) pa_nil))) rfl))))), (ini_drop (fun H F f0 tr => (De.imp (e_callP2 (w := (p_check_parts T.c)) (de_var rfl (de_var rfl h0))) fun v1 h7 => (ini_fldS T.cl_Yard (T.fl_Yard_plan _ (List.mem_singleton.mpr rfl)).2 (by decide) (by decide) (fun H F x f0 tr hx0 S => (de_var rfl (ini_fldS T.cl_Yard (T.fl_Yard_mask _ (List.mem_singleton.mpr rfl)).2 (by decide) (by decide) (fun H F x f0 tr hx0 S => (De.imp (e_callP2 (w := p_mask_of) (de_var rfl (e_fld (cs := [T.c.Plan]) T.fl_Plan_names (De.v (de_var rfl h7))))) fun v2 h8 => (ini_last (ini_fldS T.cl_Yard (T.fl_Yard_parts _ (List.mem_singleton.mpr rfl)).2 (by decide) (by decide) (fun H F x f0 tr hx0 S => (De.imp (e_callP2 (w := p_names_of) (De.imp (e_self hx0 S T.cl_Yard (T.fl_Yard_mask _ (List.mem_singleton.mpr rfl)).2 h8) fun v5 h10 => (e_fld (cs := [T.c.Plan]) T.fl_Plan_names (De.v (de_var rfl h10))))) fun v4 h9 => (ini_end h9))))))))))))))⟩
set_option maxHeartbeats 0 in
theorem ok_yard_of (T : Tx P w K mg base) : FnOk P w K mg base CX0 4 T.f_yard_of T.fd_yard_of ["plan", "mask"] (SpP0 K (W.a2 (p_yard_of T.c))) := by
  refine fn_w (k := 3) (S := pure0) (W := fun _ => W.a2 (p_yard_of T.c)) T.F_yard_of sc_yard_of (fun g ds k h => by obtain ⟨_, _, rfl, _⟩ := a2_e h; rfl) fun cdv A outer s H E g ds kr F1 f0 tr hr h => ?_
  have hu := hr.units
  have hu65 := hr.units65
  obtain ⟨x0, x1, rfl, h0⟩ := a2_e h
  unfold p_yard_of at h0
  exact ⟨_, (pss_one (ps_ret (pe_make T.mk_Yard (ok_Yard___init__ T) (hr.mono (by decide)) (by rfl) T.g_Yard T.b_Yard___init__ .nil pass0 (pa_cons (pv 0) (pa_cons (pe_call (ok_names_of T) (hr.mono (by decide)) (by rfl) T.g_names_of T.k_names_of T.b_names_of .nil pass0 (pa_cons (pv 1) (pa_cons (pe_fld (pv 0) rfl) pa_nil))) pa_nil))))), (s_ret (e_make (C := T.c.Yard) (w := (W.a2 (p_Yard___init__ T.c))) (da_cons (de_var rfl (da_cons (De.imp (e_callP2 (w := p_names_of) (de_var rfl (e_fld (cs := [T.c.Plan]) T.fl_Plan_names (De.v (de_var rfl h0))))) fun v2 h4 => (da_nil (a2_i h4))))))))⟩
set_option maxHeartbeats 0 in
theorem ok_Yard_stands (T : Tx P w K mg base) : FnOk P w K mg base CX0 4 T.f_Yard_stands T.fd_Yard_stands ["self"] (SpP0 K (W.a1 (p_Yard_stands T.c))) := by
  refine fn_w (k := 3) (S := pure0) (W := fun _ => W.a1 (p_Yard_stands T.c)) T.F_Yard_stands sc_Yard_stands (fun g ds k h => by obtain ⟨_, rfl, _⟩ := a1_e h; rfl) fun cdv A outer s H E g ds kr F1 f0 tr hr h => ?_
  have hu := hr.units
  have hu65 := hr.units65
  obtain ⟨x0, rfl, h0⟩ := a1_e h
  unfold p_Yard_stands at h0
  exact ⟨_, (pss_one (ps_ret (pe_call (ok_stands_in T) (hr.mono (by decide)) (by rfl) T.g_stands_in T.k_stands_in T.b_stands_in .nil pass0 (pa_cons (pe_fld (pv 0) rfl) (pa_cons (pe_fld (pv 0) rfl) (pa_cons pe_int pa_nil)))))), (s_ret (e_callP3 (w := (p_stands_in T.c)) (De.imp (e_fld (cs := [T.c.Yard]) T.fl_Yard_plan (De.v (de_var rfl h0))) fun v2 h4 => (De.imp (e_fld (cs := [T.c.Yard]) T.fl_Yard_mask (De.v (de_var rfl h4))) fun v3 h5 => (de_int h5)))))⟩
set_option maxHeartbeats 0 in
theorem ok_Yard_rest (T : Tx P w K mg base) : FnOk P w K mg base CX0 5 T.f_Yard_rest T.fd_Yard_rest ["self"] (SpP0 K (W.a1 (p_Yard_rest T.c))) := by
  refine fn_w (k := 4) (S := pure0) (W := fun _ => W.a1 (p_Yard_rest T.c)) T.F_Yard_rest sc_Yard_rest (fun g ds k h => by obtain ⟨_, rfl, _⟩ := a1_e h; rfl) fun cdv A outer s H E g ds kr F1 f0 tr hr h => ?_
  have hu := hr.units
  have hu65 := hr.units65
  obtain ⟨x0, rfl, h0⟩ := a1_e h
  unfold p_Yard_rest at h0
  exact ⟨_, (pss_one (ps_ret (pe_call (ok_yard_of T) (hr.mono (by decide)) (by rfl) T.g_yard_of T.k_yard_of T.b_yard_of .nil pass0 (pa_cons (pe_fld (pv 0) rfl) (pa_cons (pe_call (ok_rest_in T) (hr.mono (by decide)) (by rfl) T.g_rest_in T.k_rest_in T.b_rest_in .nil pass0 (pa_cons (pe_fld (pv 0) rfl) (pa_cons (pe_fld (pv 0) rfl) (pa_cons pe_int pa_nil)))) pa_nil))))), (s_ret (e_callP2 (w := (p_yard_of T.c)) (De.imp (e_fld (cs := [T.c.Yard]) T.fl_Yard_plan (De.v (de_var rfl h0))) fun v2 h6 => (e_callP3 (w := (p_rest_in T.c)) (De.imp (e_fld (cs := [T.c.Yard]) T.fl_Yard_plan (De.v (de_var rfl h6))) fun v4 h7 => (De.imp (e_fld (cs := [T.c.Yard]) T.fl_Yard_mask (De.v (de_var rfl h7))) fun v5 h8 => (de_int h8)))))))⟩
set_option maxHeartbeats 0 in
theorem ok_Yard_stands_under (T : Tx P w K mg base) : FnOk P w K mg base CX0 4 T.f_Yard_stands_under T.fd_Yard_stands_under ["self", "props"] (SpP0 K (W.a2 (p_Yard_stands_under T.c))) := by
  refine fn_w (k := 3) (S := pure0) (W := fun _ => W.a2 (p_Yard_stands_under T.c)) T.F_Yard_stands_under sc_Yard_stands_under (fun g ds k h => by obtain ⟨_, _, rfl, _⟩ := a2_e h; rfl) fun cdv A outer s H E g ds kr F1 f0 tr hr h => ?_
  have hu := hr.units
  have hu65 := hr.units65
  obtain ⟨x0, x1, rfl, h0⟩ := a2_e h
  unfold p_Yard_stands_under at h0
  exact ⟨_, (pss_one (ps_ret (pe_call (ok_stands_in T) (hr.mono (by decide)) (by rfl) T.g_stands_in T.k_stands_in T.b_stands_in .nil pass0 (pa_cons (pe_fld (pv 0) rfl) (pa_cons (pe_fld (pv 0) rfl) (pa_cons (pe_call (ok_parts_mask T) (hr.mono (by decide)) (by rfl) T.g_parts_mask T.k_parts_mask T.b_parts_mask .nil pass0 (pa_cons (pe_fld (pv 0) rfl) (pa_cons (pv 1) pa_nil))) pa_nil)))))), (s_ret (e_callP3 (w := (p_stands_in T.c)) (De.imp (e_fld (cs := [T.c.Yard]) T.fl_Yard_plan (De.v (de_var rfl h0))) fun v2 h6 => (De.imp (e_fld (cs := [T.c.Yard]) T.fl_Yard_mask (De.v (de_var rfl h6))) fun v3 h7 => (e_callP2 (w := (p_parts_mask T.c)) (De.imp (e_fld (cs := [T.c.Yard]) T.fl_Yard_plan (De.v (de_var rfl h7))) fun v5 h8 => (de_var rfl h8)))))))⟩
set_option maxHeartbeats 0 in
theorem ok_Yard_rest_under (T : Tx P w K mg base) : FnOk P w K mg base CX0 5 T.f_Yard_rest_under T.fd_Yard_rest_under ["self", "props"] (SpP0 K (W.a2 (p_Yard_rest_under T.c))) := by
  refine fn_w (k := 4) (S := pure0) (W := fun _ => W.a2 (p_Yard_rest_under T.c)) T.F_Yard_rest_under sc_Yard_rest_under (fun g ds k h => by obtain ⟨_, _, rfl, _⟩ := a2_e h; rfl) fun cdv A outer s H E g ds kr F1 f0 tr hr h => ?_
  have hu := hr.units
  have hu65 := hr.units65
  obtain ⟨x0, x1, rfl, h0⟩ := a2_e h
  unfold p_Yard_rest_under at h0
  exact ⟨_, (pss_one (ps_ret (pe_call (ok_yard_of T) (hr.mono (by decide)) (by rfl) T.g_yard_of T.k_yard_of T.b_yard_of .nil pass0 (pa_cons (pe_fld (pv 0) rfl) (pa_cons (pe_call (ok_rest_in T) (hr.mono (by decide)) (by rfl) T.g_rest_in T.k_rest_in T.b_rest_in .nil pass0 (pa_cons (pe_fld (pv 0) rfl) (pa_cons (pe_fld (pv 0) rfl) (pa_cons (pe_call (ok_parts_mask T) (hr.mono (by decide)) (by rfl) T.g_parts_mask T.k_parts_mask T.b_parts_mask .nil pass0 (pa_cons (pe_fld (pv 0) rfl) (pa_cons (pv 1) pa_nil))) pa_nil)))) pa_nil))))), (s_ret (e_callP2 (w := (p_yard_of T.c)) (De.imp (e_fld (cs := [T.c.Yard]) T.fl_Yard_plan (De.v (de_var rfl h0))) fun v2 h8 => (e_callP3 (w := (p_rest_in T.c)) (De.imp (e_fld (cs := [T.c.Yard]) T.fl_Yard_plan (De.v (de_var rfl h8))) fun v4 h9 => (De.imp (e_fld (cs := [T.c.Yard]) T.fl_Yard_mask (De.v (de_var rfl h9))) fun v5 h10 => (e_callP2 (w := (p_parts_mask T.c)) (De.imp (e_fld (cs := [T.c.Yard]) T.fl_Yard_plan (De.v (de_var rfl h10))) fun v7 h11 => (de_var rfl h11)))))))))⟩
set_option maxHeartbeats 0 in
theorem ok_Yard___eq__ (T : Tx P w K mg base) : FnOk P w K mg base CX0 6 T.f_Yard___eq__ T.fd_Yard___eq__ ["self", "other"] (SpP0 K (W.a2 (p_Yard___eq__ T.c))) := by
  refine fn_w (k := 5) (S := pure0) (W := fun _ => W.a2 (p_Yard___eq__ T.c)) T.F_Yard___eq__ sc_Yard___eq__ (fun g ds k h => by obtain ⟨_, _, rfl, _⟩ := a2_e h; rfl) fun cdv A outer s H E g ds kr F1 f0 tr hr h => ?_
  have hu := hr.units
  have hu65 := hr.units65
  obtain ⟨x0, x1, rfl, h0⟩ := a2_e h
  unfold p_Yard___eq__ at h0
  exact ⟨_, (pss_one (ps_ret (pe_and (pe_callB (show CallR _ _ (rIsi K) from call_isi) (by rfl) T.z_isinstance (by decide +kernel) (pa_cons (pv 1) (pa_cons (pe_glob (by rfl) T.g_Yard (show RelV (.ref T.c.Yard) _ from rfl)) pa_nil))) (pe_and (pe_cmpR (op_eqO (C := T.c.Plan) (D := T.c.Plan) (E := fun _ _ _ => False) (ok_Plan___eq__ T) (hr.mono (by decide)) T.b_Plan___eq__ (by simp [PySem.W.notFirst]) T.at_Plan___eq__ T.fn_Plan___eq__) (pe_fld (pv 0) rfl) (pe_fld (pv 1) rfl) (nomark _)) (pe_one (pe_cmpR (op_eqW hu) (pe_fld (pv 0) rfl) (pe_fld (pv 1) rfl) (nomark _))))))), (s_ret (e_andV (De.imp (e_isiC T.kit (u := (Value.ref T.c.Yard)) (ClsV.own T.c.Yard) T.k_isi_Yard (De.v (de_var rfl (have j := W.join_go h0; j)))) fun v12 h12 => (truth_imp h12 fun _ h => W.ite.imp h (fun h13 => (e_andV (De.imp (e_eqO (w := (W.a2 (p_Plan___eq__ T.c))) (De.imp (e_fld (cs := [T.c.Yard]) T.fl_Yard_plan (De.v (de_var rfl h13))) fun v9 h15 => (e_fld (cs := [T.c.Yard]) T.fl_Yard_plan (De.v (de_var rfl h15))))) fun v8 h14 => (truth_imp h14 fun _ h => W.ite.imp h (fun h16 => (e_op2 l_eq (De.v (De.imp (e_fld (cs := [T.c.Yard]) T.fl_Yard_parts (De.v (de_var rfl h16))) fun v6 h17 => (De.v (e_fld (cs := [T.c.Yard]) T.fl_Yard_parts (De.v (de_var rfl h17)))))))) id)))) id))))⟩
set_option maxHeartbeats 0 in
theorem ok_check_plans (T : Tx P w K mg base) : FnOk P w K mg base CX0 6 T.f_check_plans T.fd_check_plans ["yard", "other"] (SpP0 K (W.a2 (p_check_plans T.c))) := by
  refine fn_w (k := 5) (S := pure0) (W := fun _ => W.a2 (p_check_plans T.c)) T.F_check_plans sc_check_plans (fun g ds k h => by obtain ⟨_, _, rfl, _⟩ := a2_e h; rfl) fun cdv A outer s H E g ds kr F1 f0 tr hr h => ?_
  have hu := hr.units
  have hu65 := hr.units65
  obtain ⟨x0, x1, rfl, h0⟩ := a2_e h
  unfold p_check_plans at h0
  exact ⟨_, (pss_one (ps_if (pt_cmpR (op_neO (E := fun _ _ _ => False) (ok_Plan___eq__ T) (hr.mono (by decide)) T.b_Plan___eq__ T.cf T.ne_Plan) (pe_fld (pv 0) rfl) (pe_fld (pv 1) rfl) (nomark _)) (pss_one ps_never) pss_nil)), (ds_last (s_ifR (DT.imp (t_test (e_neO' (w := (W.a2 (p_Plan___eq__ T.c))) (De.imp (e_fld (cs := [T.c.Yard]) T.fl_Yard_plan (De.v (de_var rfl h0))) fun v3 h8 => (e_fld (cs := [T.c.Yard]) T.fl_Yard_plan (De.v (de_var rfl h8)))))) fun b1 h7 => (ite_split h7 (fun h5 => (s_never h5)) (fun h6 => (ds_next (ds_next h6)))))))⟩
set_option maxHeartbeats 0 in
theorem ok_Yard___or__ (T : Tx P w K mg base) : FnOk P w K mg base CX0 7 T.f_Yard___or__ T.fd_Yard___or__ ["self", "other"] (SpP0 K (W.a2 (p_Yard___or__ T.c))) := by
  refine fn_w (k := 6) (S := pure0) (W := fun _ => W.a2 (p_Yard___or__ T.c)) T.F_Yard___or__ sc_Yard___or__ (fun g ds k h => by obtain ⟨_, _, rfl, _⟩ := a2_e h; rfl) fun cdv A outer s H E g ds kr F1 f0 tr hr h => ?_
  have hu := hr.units
  have hu65 := hr.units65
  obtain ⟨x0, x1, rfl, h0⟩ := a2_e h
  unfold p_Yard___or__ at h0
  exact ⟨_, (pss_cons (ps_expr (pe_call (ok_check_plans T) (hr.mono (by decide)) (by rfl) T.g_check_plans T.k_check_plans T.b_check_plans .nil pass0 (pa_cons (pv 0) (pa_cons (pv 1) pa_nil)))) (pss_one (ps_ret (pe_call (ok_yard_of T) (hr.mono (by decide)) (by rfl) T.g_yard_of T.k_yard_of T.b_yard_of .nil pass0 (pa_cons (pe_fld (pv 0) rfl) (pa_cons (pe_op op_or (pe_fld (pv 0) rfl) (pe_fld (pv 1) rfl)) pa_nil)))))), (s_drop (De.imp (e_callP2 (w := (p_check_plans T.c)) (de_var rfl (de_var rfl h0))) fun v1 h7 => (s_ret (e_callP2 (w := (p_yard_of T.c)) (De.imp (e_fld (cs := [T.c.Yard]) T.fl_Yard_plan (De.v (de_var rfl h7))) fun v3 h8 => (e_op2 l_bor (De.v (De.imp (e_fld (cs := [T.c.Yard]) T.fl_Yard_mask (De.v (de_var rfl h8))) fun v5 h9 => (De.v (e_fld (cs := [T.c.Yard]) T.fl_Yard_mask (De.v (de_var rfl h9))))))))))))⟩
set_option maxHeartbeats 0 in
theorem ok_Yard___sub__ (T : Tx P w K mg base) : FnOk P w K mg base CX0 7 T.f_Yard___sub__ T.fd_Yard___sub__ ["self", "other"] (SpP0 K (W.a2 (p_Yard___sub__ T.c))) := by
  refine fn_w (k := 6) (S := pure0) (W := fun _ => W.a2 (p_Yard___sub__ T.c)) T.F_Yard___sub__ sc_Yard___sub__ (fun g ds k h => by obtain ⟨_, _, rfl, _⟩ := a2_e h; rfl) fun cdv A outer s H E g ds kr F1 f0 tr hr h => ?_
  have hu := hr.units
  have hu65 := hr.units65
  obtain ⟨x0, x1, rfl, h0⟩ := a2_e h
  unfold p_Yard___sub__ at h0
  exact ⟨_, (pss_cons (ps_expr (pe_call (ok_check_plans T) (hr.mono (by decide)) (by rfl) T.g_check_plans T.k_check_plans T.b_check_plans .nil pass0 (pa_cons (pv 0) (pa_cons (pv 1) pa_nil)))) (pss_one (ps_ret (pe_call (ok_yard_of T) (hr.mono (by decide)) (by rfl) T.g_yard_of T.k_yard_of T.b_yard_of .nil pass0 (pa_cons (pe_fld (pv 0) rfl) (pa_cons (pe_op op_and (pe_fld (pv 0) rfl) (pe_un un_inv (pe_fld (pv 1) rfl))) pa_nil)))))), (s_drop (De.imp (e_callP2 (w := (p_check_plans T.c)) (de_var rfl (de_var rfl h0))) fun v1 h8 => (s_ret (e_callP2 (w := (p_yard_of T.c)) (De.imp (e_fld (cs := [T.c.Yard]) T.fl_Yard_plan (De.v (de_var rfl h8))) fun v3 h9 => (e_op2 l_band (De.v (De.imp (e_fld (cs := [T.c.Yard]) T.fl_Yard_mask (De.v (de_var rfl h9))) fun v5 h10 => (De.v (e_un l_inv (De.v (e_fld (cs := [T.c.Yard]) T.fl_Yard_mask (De.v (de_var rfl h10))))))))))))))⟩
set_option maxHeartbeats 0 in
theorem okg_all_yards (T : Tx P w K mg base) : GFn P w K mg base 5 T.f_all_yards T.fd_all_yards ["plan", "standing"] (SpGn K (W.a2 (p_all_yards T.c))) := by
  refine fn_gn (k := 4) (φ := W.a2 (p_all_yards T.c)) T.F_all_yards sc_all_yards (fun ds k h => by obtain ⟨_, _, rfl, _⟩ := a2_e h; rfl) fun cdv A outer s H E pn ds kr F1 f0 tr hr h => ?_
  have hu := hr.units
  have hu65 := hr.units65
  obtain ⟨x0, x1, rfl, h0⟩ := a2_e h
  unfold p_all_yards at h0
  exact ⟨_, (gss_cons (gs_for owns_gcx rfl (pi_seq (pe_call (ok_masks_in_order T) (hr.mono (by decide)) (by rfl) T.g_masks_in_order T.k_masks_in_order T.b_masks_in_order .nil pass0 (pa_cons (pe_callB (show CallR _ _ (rLenW K) from call_lenW) (by rfl) T.z_len PySem.boot_len (pa_cons (pe_fld (pv 0) rfl) pa_nil)) pa_nil))) (pg_name (i := 2) sc_all_yards.nd rfl (Or.inl rfl)) (gss_cons (gs_if (PW.pt (pw_or (pt_not (pt_val (pv 1))) (pw_or1 (pt_val (pe_call (ok_stands_in T) (hr.mono (by decide)) (by rfl) T.g_stands_in T.k_stands_in T.b_stands_in .nil pass0 (pa_cons (pv 0) (pa_cons (pv 2) (pa_cons pe_int pa_nil)))))))) (gss_cons (gs_yield (pe_call (ok_yard_of T) (hr.mono (by decide)) (by rfl) T.g_yard_of T.k_yard_of T.b_yard_of .nil pass0 (pa_cons (pv 0) (pa_cons (pv 2) pa_nil)))) gss_nil) gss_nil) gss_nil)) gss_nil), fun σ Z R0 z => gen_comp (j := 2) _ (i_seq (e_callP1 (w := p_masks_in_order) (e_cb l_len (dav_cons (De.v (De.imp (e_fld (cs := [T.c.Plan]) T.fl_Plan_names (De.v (de_var rfl h0))) fun v13 h19 => (dav_nil h19))))))) (fun v1 _ h15 => (DT.imp (t_or (DT.imp (t_not (t_B (de_var rfl (have j := W.join_go h15; j)))) fun b17 h18 => (W.ite.imp h18 id (fun h17 => (t_B (e_callP3 (w := (p_stands_in T.c)) (de_var rfl (de_var rfl (de_int h17))))))))) fun b4 h16 => (ite_split h16 (fun h14 => (e_callP2 (w := (p_yard_of T.c)) (de_var rfl (de_var rfl h14)))) id))) R0 (fun σ1 H1 ys vs s1 p1 k1 => z σ1 H1 ys vs s1 (p1.less fun a f => .inl f) k1)⟩
set_option maxHeartbeats 0 in
theorem ok__law_some (T : Tx P w K mg base) : FnOk P w K mg base CX0 2 T.f__law_some T.fd__law_some ["_law_deal_here", "_law_items", "_law_one_in"] (SpDl K (W.a2 p__law_some)) := by
  refine fn_w (k := 1) (S := dealS) (W := dealW (W.a2 p__law_some)) T.F__law_some sc__law_some (fun g ds k h => by obtain ⟨r, rfl, h⟩ := h; obtain ⟨_, _, rfl, _⟩ := a2_e h; rfl) fun cdv A outer s H E g ds kr F1 f0 tr hr h => ?_
  have hu := hr.units
  have hu65 := hr.units65
  obtain ⟨r, rfl, h⟩ := h
  obtain ⟨x1, x2, rfl, h0⟩ := a2_e h
  unfold p__law_some at h0
  exact ⟨_, (pss_one (ps_ret (pe_lc (own := [("_law_item", 3)]) (g := (gName 3)) (tt := (tTest (tOp (rEqW K) (tCall (SpDl K (W.a1 W.draw)) [] _ (tCons (tVar 0) (tCons (tVar 2) tNil))) (tC (.int 0))))) (te := (tVar 3)) (by rfl) sc__law_some.nd (pi_seq (pv 1)) (blkOk_by (by kernel_rfl)) (fun _ _ _ _ _ => (pg_name (i := 3) sc__law_some.nd rfl (Or.inl rfl))) (fun _ _ _ _ _ => (pts_one (pt_cmpR (op_eqW hu) (pe_call (ok__law_draw T) (hr.mono (by decide)) (by rfl) T.g__law_draw T.k__law_draw T.b__law_draw .nil pass0 (pa_cons (pv 0) (pa_cons (pv 2) pa_nil))) pe_int (nomark _)))) (fun _ _ _ _ _ => (pv 3))))), (s_ret (e_comp _ (js := [3]) (by decide) (i_seq (de_var rfl h0)) (fun _ v1 _ h8 => (dg_name (DT.imp (t_test (e_op2 l_eq (De.v (De.imp (e_callD1 (w := W.draw) g rfl rfl (i := 0) rfl (de_var rfl h8)) fun v5 h11 => (De.v (de_int h11)))))) fun b3 h10 => (ite_split h10 (fun h9 => (de_var rfl h9)) id))))))⟩
set_option maxHeartbeats 0 in
theorem ok__law_sets (T : Tx P w K mg base) : FnOk P w K mg base CX0 3 T.f__law_sets T.fd__law_sets ["_law_deal_here", "_law_others"] (SpDl K (W.a1 p__law_sets)) := by
  refine fn_w (k := 2) (S := dealS) (W := dealW (W.a1 p__law_sets)) T.F__law_sets sc__law_sets (fun g ds k h => by obtain ⟨r, rfl, h⟩ := h; obtain ⟨_, rfl, _⟩ := a1_e h; rfl) fun cdv A outer s H E g ds kr F1 f0 tr hr h => ?_
  have hu := hr.units
  have hu65 := hr.units65
  obtain ⟨r, rfl, h⟩ := h
  obtain ⟨x1, rfl, h0⟩ := a1_e h
  unfold p__law_sets at h0
  exact ⟨_, (pss_cons (ps_set (i := 2) sc__law_sets.nd rfl (Or.inl rfl) (pe_call (ok__law_draw T) (hr.mono (by decide)) (by rfl) T.g__law_draw T.k__law_draw T.b__law_draw .nil pass0 (pa_cons (pv 0) (pa_cons pe_int pa_nil)))) (pss_cons (ps_if (PW.pt (pw_or (pt_cmpR (op_eqW hu) (pv 2) pe_int (nomark _)) (pw_or1 (pt_cmpR (op_eqW hu) (pe_callB (show CallR _ _ (rLenW K) from call_lenW) (by rfl) T.z_len PySem.boot_len (pa_cons (pv 1) pa_nil)) pe_int (nomark _))))) (pss_one (ps_ret (pe_ix (show IxR _ (rIx K) from ix_seq) (pe_lst (pa_cons (pe_lst (pa_cons (pe_tup pa_nil) pa_nil)) (pa_cons (pe_lst (pa_cons (pe_tup pa_nil) pa_nil)) (pa_cons (pe_lst pa_nil) pa_nil)))) (pe_call (ok__law_draw T) (hr.mono (by decide)) (by rfl) T.g__law_draw T.k__law_draw T.b__law_draw .nil pass0 (pa_cons (pv 0) (pa_cons pe_int pa_nil))) (fun _ _ => rfl)))) pss_nil) (pss_cons (ps_asg (pe_tup (pa_cons (pe_lst pa_nil) (pa_cons (pe_slice (show L2.SlR _ (rSlW K) from sl_W) (pe_call (ok__law_mixed T) (hr.mono (by decide)) (by rfl) T.g__law_mixed T.k__law_mixed T.b__law_mixed .nil pass0 (pa_cons (pv 0) (pa_cons (pv 1) pa_nil))) po_none (po_some pe_int)) pa_nil))) (pg_tup (by rfl) (pgs_cons (pg_name (i := 3) sc__law_sets.nd rfl (Or.inl rfl)) (pgs_cons (pg_name (i := 4) sc__law_sets.nd rfl (Or.inr rfl)) pgs_nil)))) (pss_cons (ps_if (PW.pt (pw_and (pt_cmpR (op_eqW hu) (pv 2) pe_int (nomark _)) (pw_and1 (pt_cmpR op_gt (pe_callB (show CallR _ _ (rLenW K) from call_lenW) (by rfl) T.z_len PySem.boot_len (pa_cons (pv 1) pa_nil)) pe_int (nomark _))))) (pss_cons (ps_for PassesOwn.never rfl (pi_range1 (by rfl) T.z_range (pa_cons (pe_callB (show CallR _ _ (rLenW K) from call_lenW) (by rfl) T.z_len PySem.boot_len (pa_cons (pe_slice (show L2.SlR _ (rSlW K) from sl_W) (pv 4) po_none (po_some pe_int)) pa_nil)) pa_nil)) (pg_name (i := 5) sc__law_sets.nd rfl (Or.inr rfl)) (pss_one (ps_expr (pe_bm PySem.F.plainAttrs_list PySem.F.slot_list_extend PySem.F.type_list_extend mt_extendS (pv 3) (pa_cons (pe_lc (own := [("_law_name", 7)]) (g := (gName 7)) (tt := tYes) (te := (tTup (tCons (tOp (rIx K) (tVar 4) (tVar 5)) (tCons (tVar 7) tNil)))) (by rfl) sc__law_sets.nd (pi_seq (pe_slice (show L2.SlR _ (rSlW K) from sl_W) (pv 4) po_none (po_some (pv 5)))) (blkOk_by (by kernel_rfl)) (fun _ _ _ _ _ => (pg_name (i := 7) sc__law_sets.nd rfl (Or.inl rfl))) (fun _ _ _ _ _ => pts_nil) (fun _ _ _ _ _ => (pe_tup (pa_cons (pe_ix (show IxR _ (rIx K) from ix_seq) (pv 4) (pv 5) (fun _ _ => rfl)) (pa_cons (pv 7) pa_nil))))) pa_nil))))) (pss_one (ps_ret (pv 3)))) pss_nil) (pss_cons (ps_if (pt_cmpR (op_inW hu65) (pv 2) (pe_tup (pa_cons pe_int (pa_cons pe_int pa_nil))) (by rfl)) (pss_one (ps_ret (pe_ix (show IxR _ (rIx K) from ix_seq) (pe_lst (pa_cons (pe_lst (pa_cons (pe_callTy (show CallR _ _ (fun xs H Q => ∃ p ys, xs = [.ref p] ∧ ((SqL K H p ys ∧ ∀ l, H l = none → Q (.ref l) (upd H l (.tup ys))) ∨ (SqT K H p ys ∧ Q (.ref p) H))) from call_tuple_of) (by rfl) T.z_tuple (by decide +kernel) (pa_cons (pv 1) pa_nil)) pa_nil)) (pa_cons (pe_lc (own := [("_law_name", 7)]) (g := (gName 7)) (tt := tYes) (te := (tTup (tCons (tVar 7) tNil))) (by rfl) sc__law_sets.nd (pi_seq (pv 4)) (blkOk_by (by kernel_rfl)) (fun _ _ _ _ _ => (pg_name (i := 7) sc__law_sets.nd rfl (Or.inl rfl))) (fun _ _ _ _ _ => pts_nil) (fun _ _ _ _ _ => (pe_tup (pa_cons (pv 7) pa_nil)))) pa_nil))) (pe_op op_sub (pv 2) pe_int) (fun _ _ => rfl)))) pss_nil) (pss_cons (ps_for PassesOwn.never rfl (pi_range1 (by rfl) T.z_range (pa_cons (pe_ix (show IxR _ (rIx K) from ix_seq) (pe_lst (pa_cons pe_int (pa_cons pe_int (pa_cons pe_int (pa_cons pe_int (pa_cons pe_int (pa_cons pe_int pa_nil))))))) (pe_call (ok__law_draw T) (hr.mono (by decide)) (by rfl) T.g__law_draw T.k__law_draw T.b__law_draw .nil pass0 (pa_cons (pv 0) (pa_cons pe_int pa_nil))) (fun _ _ => rfl)) pa_nil)) (pg_name (i := 6) sc__law_sets.nd rfl (Or.inl rfl)) (pss_one (ps_expr (pe_bm PySem.F.plainAttrs_list PySem.F.slot_list_append PySem.F.type_list_append mt_append (pv 3) (pa_cons (pe_callTy (show CallR _ _ (fun xs H Q => ∃ p ys, xs = [.ref p] ∧ ((SqL K H p ys ∧ ∀ l, H l = none → Q (.ref l) (upd H l (.tup ys))) ∨ (SqT K H p ys ∧ Q (.ref p) H))) from call_tuple_of) (by rfl) T.z_tuple (by decide +kernel) (pa_cons (pe_slice (show L2.SlR _ (rSlW K) from sl_W) (pe_call (ok__law_mixed T) (hr.mono (by decide)) (by rfl) T.g__law_mixed T.k__law_mixed T.b__law_mixed .nil pass0 (pa_cons (pv 0) (pa_cons (pv 1) pa_nil))) po_none (po_some (pe_ix (show IxR _ (rIx K) from ix_seq) (pe_lst (pa_cons pe_int (pa_cons pe_int (pa_cons pe_int (pa_cons pe_int (pa_cons pe_int (pa_cons pe_int pa_nil))))))) (pe_call (ok__law_draw T) (hr.mono (by decide)) (by rfl) T.g__law_draw T.k__law_draw T.b__law_draw .nil pass0 (pa_cons (pv 0) (pa_cons pe_int pa_nil))) (fun _ _ => rfl)))) pa_nil)) pa_nil))))) (pss_one (ps_ret (pv 3))))))))), (s_asg (De.imp (e_callD1 (w := W.draw) g rfl rfl (i := 0) rfl (de_int h0)) fun v1 h64 => (s_ifR (DT.imp (t_or (DT.imp (t_test (e_op2 l_eq (De.v (de_var rfl (De.v (de_int (have j := W.join_go h64; j))))))) fun b68 h70 => (W.ite.imp h70 id (fun h68 => (t_test (e_op2 l_eq (De.v (De.imp (e_cb l_len (dav_cons (De.v (de_var rfl (dav_nil h68))))) fun v63 h69 => (De.v (de_int h69)))))))))) fun b58 h67 => (ite_split h67 (fun h65 => (s_ret (e_op2 l_ix (De.v (e_lst (da_cons (e_lst (da_cons (e_tup (da_nil ⟨lenLe 0 (by decide), (da_nil ⟨lenLe 1 (by decide), (da_cons (e_lst (da_cons (e_tup (da_nil ⟨lenLe 0 (by decide), (da_nil ⟨lenLe 1 (by decide), (da_cons (e_lst (da_nil ⟨lenLe 0 (by decide), (da_nil ⟨lenLe 3 (by decide), (De.v (e_callD1 (w := W.draw) g rfl rfl (i := 0) rfl (de_int h65)))⟩)⟩)))⟩)⟩)))))⟩)⟩)))))))))) (fun h66 => (ds_next (s_tup [3, 4] (n := 2) rfl (by decide) (do_l (da_nil ⟨lenLe 0 (by decide), fun p4 _ => (do_d (De.imp (e_sl l_sl (De.v (De.imp (e_callD1 (w := p__law_mixed) g rfl rfl (i := 0) rfl (de_var rfl h66)) fun v6 h72 => (do_none (DO.imp (o_some (de_int h72)) fun o7 h73 => h73))))) fun v5 h71 => (do_nil ⟨rfl, (s_ifR (DT.imp (t_and (DT.imp (t_test (e_op2 l_eq (De.v (de_var rfl (De.v (de_int (have j := W.join_go h71; j))))))) fun b77 h79 => (W.ite.imp h79 (fun h77 => (t_test (e_op2 l_gt (De.v (De.imp (e_cb l_len (dav_cons (De.v (de_var rfl (dav_nil h77))))) fun v56 h78 => (De.v (de_int h78))))))) id))) fun b51 h76 => (ite_split h76 (fun h74 => (s_for (S := (List D)) (js := [5]) (fun (s : List D) (r : List Sl) => ∃ t8 : Sl, r = [.d (.ref g.1), .d x1, .d v1, .mu p4 s, .d v5, t8, .un, .un]) _ [] _ (i_range1 (e_cb l_len (dav_cons (De.v (De.imp (e_sl l_sl (De.v (de_var rfl (do_none (DO.imp (o_some (de_int h74)) fun o25 h90 => h90))))) fun v24 h89 => (dav_nil h89)))))) ⟨_, rfl⟩ (fun y9 s10 _ n11 b12 e81 h80 => (by obtain ⟨t8, rfl⟩ := e81; exact (dg_name (ds_last (s_extend rfl (De.imp (e_comp _ (js := [7]) (by decide) (i_seq (e_sl l_sl (De.v (de_var rfl (do_none (DO.imp (o_some (de_var rfl h80)) fun o20 h88 => h88)))))) (fun _ v13 _ h86 => (dg_name (dt_yes (iteT (e_tup (da_cons (De.imp (e_op2 l_ix (De.v (de_var rfl (De.v (de_var rfl h86))))) fun v15 h87 => (da_cons (de_var rfl (da_nil ⟨lenLe 2 (by decide), h87⟩))))))))))) fun v17 h85 => (W.ext.imp h85 fun ys16 h84 => (ds_nextK rfl (s10 ++ ys16) h84 ⟨_, rfl⟩)))))))) (fun s21 _ e83 h82 => (by obtain ⟨t8, rfl⟩ := e83; exact (s_freeze 3 rfl (s_ret (de_var rfl h82))))))) (fun h75 => (ds_next (s_ifR (DT.imp (t_test (e_op2 l_in (De.v (de_var rfl (De.v (e_tup (da_cons (de_int (da_cons (de_int (da_nil ⟨lenLe 2 (by decide), h75⟩))))))))))) fun b48 h93 => (ite_split h93 (fun h91 => (s_ret (e_op2 l_ix (De.v (e_lst (da_cons (e_lst (da_cons (De.imp (e_cb l_tupleOf (dav_cons (De.v (de_var rfl (dav_nil h91))))) fun v29 h94 => (da_nil ⟨lenLe 1 (by decide), (da_cons (De.imp (e_comp _ (js := [7]) (by decide) (i_seq (de_var rfl h94)) (fun _ v26 _ h96 => (dg_name (dt_yes (iteT (e_tup (da_cons (de_var rfl (da_nil ⟨lenLe 1 (by decide), h96⟩))))))))) fun v30 h95 => (da_nil ⟨lenLe 2 (by decide), (De.v (e_op2 l_sub (De.v (de_var rfl (De.v (de_int h95))))))⟩)))⟩)))))))))) (fun h92 => (ds_next (s_for (S := (List D)) (js := [6]) (fun (s : List D) (r : List Sl) => ∃ t33 : Sl, r = [.d (.ref g.1), .d x1, .d v1, .mu p4 s, .d v5, .un, t33, .un]) _ [] _ (i_range1 (e_op2 l_ix (De.v (e_lst (da_cons (de_int (da_cons (de_int (da_cons (de_int (da_cons (de_int (da_cons (de_int (da_cons (de_int (da_nil ⟨lenLe 6 (by decide), (De.v (e_callD1 (w := W.draw) g rfl rfl (i := 0) rfl (de_int h92)))⟩))))))))))))))))) ⟨_, rfl⟩ (fun y34 s35 _ n36 b37 e98 h97 => (by obtain ⟨t33, rfl⟩ := e98; exact (dg_name (ds_last (s_append rfl (De.imp (e_cb l_tupleOf (dav_cons (De.v (De.imp (e_sl l_sl (De.v (De.imp (e_callD1 (w := p__law_mixed) g rfl rfl (i := 0) rfl (de_var rfl h97)) fun v40 h103 => (do_none (DO.imp (o_some (e_op2 l_ix (De.v (e_lst (da_cons (de_int (da_cons (de_int (da_cons (de_int (da_cons (de_int (da_cons (de_int (da_cons (de_int (da_nil ⟨lenLe 6 (by decide), (De.v (e_callD1 (w := W.draw) g rfl rfl (i := 0) rfl (de_int h103)))⟩))))))))))))))))) fun o41 h104 => h104))))) fun v39 h102 => (dav_nil h102))))) fun v38 h101 => ⟨And.left h101, (ds_nextK rfl (s35 ++ [v38]) (And.right h101) ⟨_, rfl⟩)⟩)))))) (fun s44 _ e100 h99 => (by obtain ⟨t33, rfl⟩ := e100; exact (s_freeze 3 rfl (s_ret (de_var rfl h99))))))))))))))))⟩)))⟩))))))))))⟩
set_option maxHeartbeats 0 in
theorem ok__law_rows (T : Tx P w K mg base) : FnOk P w K mg base CX0 4 T.f__law_rows T.fd__law_rows ["_law_deal_here", "_law_many"] (SpDl K (W.a1 p__law_rows)) := by
  refine fn_w (k := 3) (S := dealS) (W := dealW (W.a1 p__law_rows)) T.F__law_rows sc__law_rows (fun g ds k h => by obtain ⟨r, rfl, h⟩ := h; obtain ⟨_, rfl, _⟩ := a1_e h; rfl) fun cdv A outer s H E g ds kr F1 f0 tr hr h => ?_
  have hu := hr.units
  have hu65 := hr.units65
  obtain ⟨r, rfl, h⟩ := h
  obtain ⟨x1, rfl, h0⟩ := a1_e h
  unfold p__law_rows at h0
  exact ⟨_, (pss_cons (ps_set (i := 2) sc__law_rows.nd rfl (Or.inl rfl) (pe_call (ok__law_draw T) (hr.mono (by decide)) (by rfl) T.g__law_draw T.k__law_draw T.b__law_draw .nil pass0 (pa_cons (pv 0) (pa_cons pe_int pa_nil)))) (pss_cons (ps_set (i := 3) sc__law_rows.nd rfl (Or.inl rfl) (pe_ifExp (pt_cmpR (op_eqW hu) (pv 2) pe_int (nomark _)) (pe_call (ok__law_draw T) (hr.mono (by decide)) (by rfl) T.g__law_draw T.k__law_draw T.b__law_draw .nil pass0 (pa_cons (pv 0) (pa_cons (pv 1) pa_nil))) (pe_ix (show IxR _ (rIx K) from ix_seq) (pe_lst (pa_cons pe_int (pa_cons pe_int (pa_cons pe_int (pa_cons pe_int (pa_cons pe_int (pa_cons pe_int (pa_cons pe_int (pa_cons pe_int pa_nil))))))))) (pv 2) (fun _ _ => rfl)))) (pss_cons (ps_set (i := 4) sc__law_rows.nd rfl (Or.inr rfl) (pe_call (ok__law_words T) (hr.mono (by decide)) (by rfl) T.g__law_words T.k__law_words T.b__law_words .nil pass0 (pa_cons (pv 0) (pa_cons (pe_callB (show CallR _ _ (fun xs H Q => ∃ i j, xs = [V.int i, V.int j] ∧ Q (.int (if j > i then j else i)) H) from (call_max2 rfl)) (by rfl) T.z_max (by decide +kernel) (pa_cons pe_int (pa_cons (pe_op op_sub (pv 1) (pv 3)) pa_nil))) pa_nil)))) (pss_one (ps_ret (pe_lc (own := [("_law_name", 5)]) (g := (gName 5)) (tt := tYes) (te := (tTup (tCons (tVar 5) (tCons (tCall (SpDl K (W.a1 p__law_sets)) [] _ (tCons (tVar 0) (tCons (tLc (iSeq K (tVar 4)) (gName 6) (tTest (tOp (rNeW K) (tVar 6) (tVar 5))) (tVar 6) ([("_law_other", 6)].map (·.2))) tNil))) tNil)))) (by rfl) sc__law_rows.nd (pi_seq (pv 4)) (blkOk_by (by kernel_rfl)) (fun _ _ _ _ _ => (pg_name (i := 5) sc__law_rows.nd rfl (Or.inr rfl))) (fun _ _ _ _ _ => pts_nil) (fun _ _ _ _ _ => (pe_tup (pa_cons (pv 5) (pa_cons (pe_call (ok__law_sets T) (hr.mono (by decide)) (by rfl) T.g__law_sets T.k__law_sets T.b__law_sets .nil pass0 (pa_cons (pv 0) (pa_cons (pe_lc (own := [("_law_other", 6)]) (g := (gName 6)) (tt := (tTest (tOp (rNeW K) (tVar 6) (tVar 5)))) (te := (tVar 6)) (by rfl) sc__law_rows.nd (pi_seq (pv 4)) (blkOk_by (by kernel_rfl)) (fun _ _ _ _ _ => (pg_name (i := 6) sc__law_rows.nd rfl (Or.inl rfl))) (fun _ _ _ _ _ => (pts_one (pt_cmpR (op_neW hu) (pv 6) (pv 5) (nomark _)))) (fun _ _ _ _ _ => (pv 6))) pa_nil))) pa_nil)))))))))), (s_asg (De.imp (e_callD1 (w := W.draw) g rfl rfl (i := 0) rfl (de_int h0)) fun v1 h22 => (s_asg (De.imp (e_ifJ h22 fun _ h26 => (DT.imp (t_test (e_op2 l_eq (De.v (de_var rfl (De.v (de_int h26)))))) fun b4 h27 => (W.ite.imp h27 (fun h24 => (e_callD1 (w := W.draw) g rfl rfl (i := 0) rfl (de_var rfl h24))) (fun h25 => (e_op2 l_ix (De.v (e_lst (da_cons (de_int (da_cons (de_int (da_cons (de_int (da_cons (de_int (da_cons (de_int (da_cons (de_int (da_cons (de_int (da_cons (de_int (da_nil ⟨lenLe 8 (by decide), (De.v (de_var rfl h25))⟩)))))))))))))))))))))))) fun v3 h23 => (s_asg (De.imp (e_callD1 (w := p__law_words) g rfl rfl (i := 0) rfl (e_cb l_max2 (dav_cons (De.v (de_int (dav_cons (De.v (De.imp (e_op2 l_sub (De.v (de_var rfl (De.v (de_var rfl h23))))) fun v10 h29 => (dav_nil h29))))))))) fun v8 h28 => (s_ret (e_comp _ (js := [5]) (by decide) (i_seq (de_var rfl h28)) (fun _ v11 _ h30 => (dg_name (dt_yes (iteT (e_tup (da_cons (de_var rfl (da_cons (De.imp (e_callD1 (w := p__law_sets) g rfl rfl (i := 0) rfl (e_comp _ (js := [6]) (by decide) (i_seq (de_var rfl h30)) (fun _ v12 _ h32 => (dg_name (DT.imp (t_test (e_op2 l_ne (De.v (de_var rfl (De.v (de_var rfl h32)))))) fun b14 h34 => (ite_split h34 (fun h33 => (de_var rfl h33)) id)))))) fun v17 h31 => (da_nil ⟨lenLe 2 (by decide), h31⟩))))))))))))))))))⟩
set_option maxHeartbeats 0 in
theorem ok__law_plan (T : Tx P w K mg base) : FnOk P w K mg base CX0 5 T.f__law_plan T.fd__law_plan ["_law_rows_here"] (SpP0 K (W.a1 (p__law_plan T.c))) := by
  refine fn_w (k := 4) (S := pure0) (W := fun _ => W.a1 (p__law_plan T.c)) T.F__law_plan sc__law_plan (fun g ds k h => by obtain ⟨_, rfl, _⟩ := a1_e h; rfl) fun cdv A outer s H E g ds kr F1 f0 tr hr h => ?_
  have hu := hr.units
  have hu65 := hr.units65
  obtain ⟨x0, rfl, h0⟩ := a1_e h
  unfold p__law_plan at h0
  exact ⟨_, (pss_one (ps_ret (pe_make T.mk_Plan (ok_Plan___init__ T) (hr.mono (by decide)) (by rfl) T.g_Plan T.b_Plan___init__ .nil pass0 (pa_cons (pe_lc (own := [("_law_name", 1), ("_law_sets_here", 2)]) (g := (gTup K 2 (gCons (gName 1) (gCons (gName 2) gNil)))) (tt := tYes) (te := (tTup (tCons (tVar 1) (tCons (ClX.tCMeth T.c.Rule (SpP0 K (W.a2 (p_Rule_of_sets T.c))) _ (tC (.ref T.c.Rule)) (tCons (tVar 2) tNil)) tNil)))) (by rfl) sc__law_plan.nd (pi_seq (pv 0)) (blkOk_by (by kernel_rfl)) (fun _ _ _ _ _ => (pg_tup (by rfl) (pgs_cons (pg_name (i := 1) sc__law_plan.nd rfl (Or.inl rfl)) (pgs_cons (pg_name (i := 2) sc__law_plan.nd rfl (Or.inl rfl)) pgs_nil)))) (fun _ _ _ _ _ => pts_nil) (fun _ _ _ _ _ => (pe_tup (pa_cons (pv 1) (pa_cons (ClX.pe_cmeth (pe_glob (by rfl) T.g_Rule (show RelV (.ref T.c.Rule) _ from rfl)) T.cr_Rule T.cm_Rule_of_sets (FnOk.raw0 (ok_Rule_of_sets T) T.b_Rule_of_sets) (hr.mono (by decide)) pass0 (pa_cons (pv 2) pa_nil)) pa_nil))))) pa_nil)))), (s_ret (e_make (C := T.c.Plan) (w := (W.a1 (p_Plan___init__ T.c))) (da_cons (De.imp (e_comp _ (js := [1, 2]) (by decide) (i_seq (de_var rfl h0)) (fun _ x4 _ h10 => (dg_un2 h10 fun v1 v2 h11 => (dt_yes (iteT (e_tup (da_cons (de_var rfl (da_cons (De.imp (e_cmeth (w := (W.a2 (p_Rule_of_sets T.c))) (de_c (.ref T.c.Rule) (fun _ _ => rfl) ⟨rfl, (da_cons (de_var rfl (da_nil (a2_i h11))))⟩)) fun v5 h12 => (da_nil ⟨lenLe 2 (by decide), h12⟩))))))))))) fun v7 h9 => (da_nil (a1_i h9))))))⟩
set_option maxHeartbeats 0 in
theorem ok__law_right (T : Tx P w K mg base) : FnOk P w K mg base CX0 9 T.f__law_right T.fd__law_right ["_law_yard", "_law_other", "_law_props", "_law_more"] (SpP0 K (W.a4 (p__law_right T.c))) := by
  refine fn_w (k := 8) (S := pure0) (W := fun _ => W.a4 (p__law_right T.c)) T.F__law_right sc__law_right (fun g ds k h => by obtain ⟨_, _, _, _, rfl, _⟩ := a4_e h; rfl) fun cdv A outer s H E g ds kr F1 f0 tr hr h => ?_
  have hu := hr.units
  have hu65 := hr.units65
  obtain ⟨x0, x1, x2, x3, rfl, h0⟩ := a4_e h
  unfold p__law_right at h0
  exact ⟨_, (pss_cons (ps_par (i := 4) (j := 5) rfl sc__law_right.nd rfl rfl (by decide) rfl rfl (pa_cons (pe_meth (pv 0) T.cl_Yard T.mt_Yard_rest_under (ok_Yard_rest_under T) (hr.mono (by decide)) T.b_Yard_rest_under .nil pass0 (pa_cons (pv 2) pa_nil)) (pa_cons (pe_meth (pe_op (op_binO (E := fun _ _ _ => False) (ok_Yard___or__ T) (hr.mono (by decide)) T.b_Yard___or__ T.sf_Yard T.at_Yard___or__ T.fn_Yard___or__) (pv 0) (pv 1)) T.cl_Yard T.mt_Yard_rest_under (ok_Yard_rest_under T) (hr.mono (by decide)) T.b_Yard_rest_under .nil pass0 (pa_cons (pv 2) pa_nil)) pa_nil)) (by rfl)) (pss_cons (ps_if (PW.pt (pw_or (pt_not (pt_val (pe_meth (pv 4) T.cl_Yard T.mt_Yard_stands_under (ok_Yard_stands_under T) (hr.mono (by decide)) T.b_Yard_stands_under .nil pass0 (pa_cons (pv 2) pa_nil)))) (pw_or (pt_cmpR (op_neO (E := fun _ _ _ => False) (ok_Yard___eq__ T) (hr.mono (by decide)) T.b_Yard___eq__ T.cf T.ne_Yard) (pe_meth (pv 4) T.cl_Yard T.mt_Yard_rest_under (ok_Yard_rest_under T) (hr.mono (by decide)) T.b_Yard_rest_under .nil pass0 (pa_cons (pv 2) pa_nil)) (pv 4) (nomark _)) (pw_or1 (pt_cmpR (op_neO (E := fun _ _ _ => False) (ok_Yard___eq__ T) (hr.mono (by decide)) T.b_Yard___eq__ T.cf T.ne_Yard) (pe_op (op_binO (E := fun _ _ _ => False) (ok_Yard___sub__ T) (hr.mono (by decide)) T.b_Yard___sub__ T.sf_Yard T.at_Yard___sub__ T.fn_Yard___sub__) (pv 4) (pv 0)) (pe_make T.mk_Yard (ok_Yard___init__ T) (hr.mono (by decide)) (by rfl) T.g_Yard T.bd_Yard___init___2 T.vd_Yard___init___2 pass0 (pa_cons (pe_fld (pv 0) rfl) pa_nil)) (nomark _)))))) (pss_one (ps_ret pe_bl)) pss_nil) (pss_cons (ps_if (PW.pt (pw_or (pt_cmpR (op_neO (E := fun _ _ _ => False) (ok_Yard___eq__ T) (hr.mono (by decide)) T.b_Yard___eq__ T.cf T.ne_Yard) (pe_op (op_binO (E := fun _ _ _ => False) (ok_Yard___or__ T) (hr.mono (by decide)) T.b_Yard___or__ T.sf_Yard T.at_Yard___or__ T.fn_Yard___or__) (pv 4) (pv 5)) (pv 5) (nomark _)) (pw_or1 (pt_cmpR (op_neO (E := fun _ _ _ => False) (ok_Yard___eq__ T) (hr.mono (by decide)) T.b_Yard___eq__ T.cf T.ne_Yard) (pe_op (op_binO (E := fun _ _ _ => False) (ok_Yard___or__ T) (hr.mono (by decide)) T.b_Yard___or__ T.sf_Yard T.at_Yard___or__ T.fn_Yard___or__) (pv 4) (pe_meth (pv 0) T.cl_Yard T.mt_Yard_rest_under (ok_Yard_rest_under T) (hr.mono (by decide)) T.b_Yard_rest_under .nil pass0 (pa_cons (pv 3) pa_nil))) (pe_meth (pv 0) T.cl_Yard T.mt_Yard_rest_under (ok_Yard_rest_under T) (hr.mono (by decide)) T.b_Yard_rest_under .nil pass0 (pa_cons (pv 3) pa_nil)) (nomark _))))) (pss_one (ps_ret pe_bl)) pss_nil) (pss_cons (ps_if (PW.pt (pw_or (pt_not (pt_val (pe_meth (pe_op (op_binO (E := fun _ _ _ => False) (ok_Yard___or__ T) (hr.mono (by decide)) T.b_Yard___or__ T.sf_Yard T.at_Yard___or__ T.fn_Yard___or__) (pv 4) (pe_meth (pv 1) T.cl_Yard T.mt_Yard_rest_under (ok_Yard_rest_under T) (hr.mono (by decide)) T.b_Yard_rest_under .nil pass0 (pa_cons (pv 2) pa_nil))) T.cl_Yard T.mt_Yard_stands_under (ok_Yard_stands_under T) (hr.mono (by decide)) T.b_Yard_stands_under .nil pass0 (pa_cons (pv 2) pa_nil)))) (pw_or1 (pt_cmpR (op_neO (E := fun _ _ _ => False) (ok_Yard___eq__ T) (hr.mono (by decide)) T.b_Yard___eq__ T.cf T.ne_Yard) (pe_meth (pe_meth (pv 0) T.cl_Yard T.mt_Yard_rest_under (ok_Yard_rest_under T) (hr.mono (by decide)) T.b_Yard_rest_under .nil pass0 (pa_cons (pv 3) pa_nil)) T.cl_Yard T.mt_Yard_rest_under (ok_Yard_rest_under T) (hr.mono (by decide)) T.b_Yard_rest_under .nil pass0 (pa_cons (pv 2) pa_nil)) (pv 4) (nomark _))))) (pss_one (ps_ret pe_bl)) pss_nil) (pss_cons (ps_if (PW.pt (pw_or (pt_cmpR (op_neW hu) (pe_meth (pv 0) T.cl_Yard T.mt_Yard_stands_under (ok_Yard_stands_under T) (hr.mono (by decide)) T.b_Yard_stands_under .nil pass0 (pa_cons (pv 2) pa_nil)) (pe_cmpR (op_eqO (C := T.c.Yard) (D := T.c.Yard) (E := fun _ _ _ => False) (ok_Yard___eq__ T) (hr.mono (by decide)) T.b_Yard___eq__ (by simp [PySem.W.notFirst]) T.at_Yard___eq__ T.fn_Yard___eq__) (pv 4) (pv 0) (nomark _)) (nomark _)) (pw_or1 (PW.pt (pw_and (pt_val (pe_meth (pv 0) T.cl_Yard T.mt_Yard_stands_under (ok_Yard_stands_under T) (hr.mono (by decide)) T.b_Yard_stands_under .nil pass0 (pa_cons (pv 2) pa_nil))) (pw_and1 (pt_not (pt_val (pe_meth (pv 0) T.cl_Yard T.mt_Yard_stands_under (ok_Yard_stands_under T) (hr.mono (by decide)) T.b_Yard_stands_under .nil pass0 (pa_cons (pv 3) pa_nil)))))))))) (pss_one (ps_ret pe_bl)) pss_nil) (pss_one (ps_ret (pe_and (pe_cmpR (op_eqO (C := T.c.Yard) (D := T.c.Yard) (E := fun _ _ _ => False) (ok_Yard___eq__ T) (hr.mono (by decide)) T.b_Yard___eq__ (by simp [PySem.W.notFirst]) T.at_Yard___eq__ T.fn_Yard___eq__) (pe_prop (E := fun _ _ _ => False) (pv 0) T.cl_Yard T.pr_Yard_rest (ok_Yard_rest T) (hr.mono (by decide)) T.b_Yard_rest .nil pass0N rfl) (pe_meth (pv 0) T.cl_Yard T.mt_Yard_rest_under (ok_Yard_rest_under T) (hr.mono (by decide)) T.b_Yard_rest_under .nil pass0 (pa_cons (pe_tup pa_nil) pa_nil)) (nomark _)) (pe_one (pe_cmpR (op_eqW hu) (pe_prop (E := fun _ _ _ => False) (pv 0) T.cl_Yard T.pr_Yard_stands (ok_Yard_stands T) (hr.mono (by decide)) T.b_Yard_stands .nil pass0N rfl) (pe_cmpR (op_eqO (C := T.c.Yard) (D := T.c.Yard) (E := fun _ _ _ => False) (ok_Yard___eq__ T) (hr.mono (by decide)) T.b_Yard___eq__ (by simp [PySem.W.notFirst]) T.at_Yard___eq__ T.fn_Yard___eq__) (pe_prop (E := fun _ _ _ => False) (pv 0) T.cl_Yard T.pr_Yard_rest (ok_Yard_rest T) (hr.mono (by decide)) T.b_Yard_rest .nil pass0N rfl) (pv 0) (nomark _)) (nomark _))))))))))), (s_par (do_d (De.imp (e_meth (w := (W.a2 (p_Yard_rest_under T.c))) (de_var rfl (W.obj.imp h0 fun i1 => (da_cons (de_var rfl (da_nil (a2_i i1))))))) fun v3 h75 => (do_d (De.imp (e_meth (w := (W.a2 (p_Yard_rest_under T.c))) (De.imp (e_binO (w := (W.a2 (p_Yard___or__ T.c))) (de_var rfl (de_var rfl h75))) fun v5 h77 => (W.obj.imp h77 fun i2 => (da_cons (de_var rfl (da_nil (a2_i i2))))))) fun v4 h76 => (do_nil ⟨rfl, (s_ifR (DT.imp (t_or (DT.imp (t_not (t_B (e_meth (w := (W.a2 (p_Yard_stands_under T.c))) (de_var rfl (W.obj.imp (have j := W.join_go h76; j) fun i6 => (da_cons (de_var rfl (da_nil (a2_i i6))))))))) fun b81 h87 => (W.ite.imp h87 id (fun h81 => (t_or (DT.imp (t_test (e_neO' (w := (W.a2 (p_Yard___eq__ T.c))) (De.imp (e_meth (w := (W.a2 (p_Yard_rest_under T.c))) (de_var rfl (W.obj.imp h81 fun i7 => (da_cons (de_var rfl (da_nil (a2_i i7))))))) fun v69 h86 => (de_var rfl h86)))) fun b67 h85 => (W.ite.imp h85 id (fun h82 => (t_test (e_neO' (w := (W.a2 (p_Yard___eq__ T.c))) (De.imp (e_binO (w := (W.a2 (p_Yard___sub__ T.c))) (de_var rfl (de_var rfl h82))) fun v72 h83 => (e_makeD (C := T.c.Yard) (w := (W.a2 (p_Yard___init__ T.c))) (dd := [(D.tup [])]) T.rd_Yard___init___2 (da_cons (De.imp (e_fld (cs := [T.c.Yard]) T.fl_Yard_plan (De.v (de_var rfl h83))) fun v74 h84 => (da_nil (a2_i h84)))))))))))))))) fun b63 h80 => (ite_split h80 (fun h78 => (s_ret (de_bl h78))) (fun h79 => (ds_next (s_ifR (DT.imp (t_or (DT.imp (t_test (e_neO' (w := (W.a2 (p_Yard___eq__ T.c))) (De.imp (e_binO (w := (W.a2 (p_Yard___or__ T.c))) (de_var rfl (de_var rfl (have j := W.join_go h79; j)))) fun v93 h94 => (de_var rfl h94)))) fun b91 h93 => (W.ite.imp h93 id (fun h91 => (t_test (e_neO' (w := (W.a2 (p_Yard___eq__ T.c))) (De.imp (e_binO (w := (W.a2 (p_Yard___or__ T.c))) (de_var rfl (e_meth (w := (W.a2 (p_Yard_rest_under T.c))) (de_var rfl (W.obj.imp h91 fun i8 => (da_cons (de_var rfl (da_nil (a2_i i8))))))))) fun v59 h92 => (e_meth (w := (W.a2 (p_Yard_rest_under T.c))) (de_var rfl (W.obj.imp h92 fun i9 => (da_cons (de_var rfl (da_nil (a2_i i9)))))))))))))) fun b53 h90 => (ite_split h90 (fun h88 => (s_ret (de_bl h88))) (fun h89 => (ds_next (s_ifR (DT.imp (t_or (DT.imp (t_not (t_B (e_meth (w := (W.a2 (p_Yard_stands_under T.c))) (De.imp (e_binO (w := (W.a2 (p_Yard___or__ T.c))) (de_var rfl (e_meth (w := (W.a2 (p_Yard_rest_under T.c))) (de_var rfl (W.obj.imp (have j := W.join_go h89; j) fun i10 => (da_cons (de_var rfl (da_nil (a2_i i10))))))))) fun v101 h102 => (W.obj.imp h102 fun i11 => (da_cons (de_var rfl (da_nil (a2_i i11))))))))) fun b98 h101 => (W.ite.imp h101 id (fun h98 => (t_test (e_neO' (w := (W.a2 (p_Yard___eq__ T.c))) (De.imp (e_meth (w := (W.a2 (p_Yard_rest_under T.c))) (De.imp (e_meth (w := (W.a2 (p_Yard_rest_under T.c))) (de_var rfl (W.obj.imp h98 fun i12 => (da_cons (de_var rfl (da_nil (a2_i i12))))))) fun v51 h100 => (W.obj.imp h100 fun i13 => (da_cons (de_var rfl (da_nil (a2_i i13))))))) fun v50 h99 => (de_var rfl h99)))))))) fun b42 h97 => (ite_split h97 (fun h95 => (s_ret (de_bl h95))) (fun h96 => (ds_next (s_ifR (DT.imp (t_or (DT.imp (t_test (e_op2 l_ne (De.v (De.imp (e_meth (w := (W.a2 (p_Yard_stands_under T.c))) (de_var rfl (W.obj.imp (have j := W.join_go h96; j) fun i14 => (da_cons (de_var rfl (da_nil (a2_i i14))))))) fun v108 h110 => (De.v (e_eqO (w := (W.a2 (p_Yard___eq__ T.c))) (de_var rfl (de_var rfl h110)))))))) fun b106 h109 => (W.ite.imp h109 id (fun h106 => (t_and (DT.imp (t_B (e_meth (w := (W.a2 (p_Yard_stands_under T.c))) (de_var rfl (W.obj.imp (have j := W.join_go h106; j) fun i15 => (da_cons (de_var rfl (da_nil (a2_i i15)))))))) fun b107 h108 => (W.ite.imp h108 (fun h107 => (t_not (t_B (e_meth (w := (W.a2 (p_Yard_stands_under T.c))) (de_var rfl (W.obj.imp h107 fun i16 => (da_cons (de_var rfl (da_nil (a2_i i16)))))))))) id))))))) fun b29 h105 => (ite_split h105 (fun h103 => (s_ret (de_bl h103))) (fun h104 => (ds_next (s_ret (e_andV (De.imp (e_eqO (w := (W.a2 (p_Yard___eq__ T.c))) (De.imp (e_prop (w := W.a1 (p_Yard_rest T.c)) (de_var rfl (have j := W.join_go h104; j))) fun v112 h112 => (e_meth (w := (W.a2 (p_Yard_rest_under T.c))) (de_var rfl (W.obj.imp h112 fun i17 => (da_cons (e_tup (da_nil ⟨lenLe 0 (by decide), (da_nil (a2_i i17))⟩)))))))) fun v111 h111 => (truth_imp h111 fun _ h => W.ite.imp h (fun h113 => (e_op2 l_eq (De.v (De.imp (e_prop (w := W.a1 (p_Yard_stands T.c)) (de_var rfl h113)) fun v22 h114 => (De.v (e_eqO (w := (W.a2 (p_Yard___eq__ T.c))) (De.imp (e_prop (w := W.a1 (p_Yard_rest T.c)) (de_var rfl h114)) fun v24 h115 => (de_var rfl h115)))))))) id))))))))))))))))))))))))⟩))))))⟩
set_option maxHeartbeats 0 in
theorem ok_law (T : Tx P w K mg base) (hm : ∀ ns : List Int, ns.length ≤ 63 → p_law T.c (.lst (ns.map D.int)) fun d => d = .bl true) : FnG P w K mg base 10 T.f_law T.fd_law ["_law_script"] (spLaw K) := by
  refine fng_of T.F_law sc_law (fun vs H Q E ⟨a, ns, e, _⟩ => by rw [e]; rfl) fun cdv A outer s H vs Q E hg hr h => ?_
  obtain ⟨a, ns, rfl, hS, hlen, q⟩ := h
  have hu := hr.units
  have hu65 := hr.units65
  refine ⟨_, (pss_cons (ps_set (i := 1) sc_law.nd rfl (Or.inl rfl) (pe_call (ok__law_deal T) (hr.mono (by decide)) (by rfl) T.g__law_deal T.k__law_deal T.b__law_deal .nil pass0 (pa_cons (pv 0) (pa_cons pe_int pa_nil)))) (pss_cons (ps_for PassesOwn.never rfl (pi_range1 (by rfl) T.z_range (pa_cons (pe_op op_addW pe_int (pe_callB (show CallR _ _ (rLenW K) from call_lenW) (by rfl) T.z_len PySem.boot_len (pa_cons (pe_slice (show L2.SlR _ (rSlW K) from sl_W) (pv 0) po_none (po_some pe_int)) pa_nil))) pa_nil)) (pg_name (i := 2) sc_law.nd rfl (Or.inl rfl)) (pss_cons (ps_set (i := 3) sc_law.nd rfl (Or.inl rfl) (pe_call (ok__law_rows T) (hr.mono (by decide)) (by rfl) T.g__law_rows T.k__law_rows T.b__law_rows .nil pass0 (pa_cons (pv 1) (pa_cons (pe_ix (show IxR _ (rIx K) from ix_seq) (pe_lst (pa_cons pe_int (pa_cons pe_int (pa_cons pe_int (pa_cons pe_int (pa_cons pe_int (pa_cons pe_int pa_nil))))))) (pe_call (ok__law_draw T) (hr.mono (by decide)) (by rfl) T.g__law_draw T.k__law_draw T.b__law_draw .nil pass0 (pa_cons (pv 1) (pa_cons pe_int pa_nil))) (fun _ _ => rfl)) pa_nil)))) (pss_cons (ps_par (i := 4) (j := 5) rfl sc_law.nd rfl rfl (by decide) rfl rfl (pa_cons (pe_call (ok__law_plan T) (hr.mono (by decide)) (by rfl) T.g__law_plan T.k__law_plan T.b__law_plan .nil pass0 (pa_cons (pv 3) pa_nil)) (pa_cons (pe_lc (own := [("_law_row", 12)]) (g := (gName 12)) (tt := tYes) (te := (tOp (rIx K) (tVar 12) (tC (.int 0)))) (by rfl) sc_law.nd (pi_seq (pv 3)) (blkOk_by (by kernel_rfl)) (fun _ _ _ _ _ => (pg_name (i := 12) sc_law.nd rfl (Or.inl rfl))) (fun _ _ _ _ _ => pts_nil) (fun _ _ _ _ _ => (pe_ix (show IxR _ (rIx K) from ix_seq) (pv 12) pe_int (fun _ _ => rfl)))) pa_nil)) (by rfl)) (pss_cons (ps_set (i := 6) sc_law.nd rfl (Or.inr rfl) (pe_call (ok__law_some T) (hr.mono (by decide)) (by rfl) T.g__law_some T.k__law_some T.b__law_some .nil pass0 (pa_cons (pv 1) (pa_cons (pv 5) (pa_cons pe_int pa_nil))))) (pss_cons (ps_set (i := 7) sc_law.nd rfl (Or.inl rfl) (pe_call (ok__law_mixed T) (hr.mono (by decide)) (by rfl) T.g__law_mixed T.k__law_mixed T.b__law_mixed .nil pass0 (pa_cons (pv 1) (pa_cons (pe_op op_addW (pv 6) (pe_call (ok__law_some T) (hr.mono (by decide)) (by rfl) T.g__law_some T.k__law_some T.b__law_some .nil pass0 (pa_cons (pv 1) (pa_cons (pe_lc (own := [("_law_name", 13)]) (g := (gName 13)) (tt := (tTest (tOp (rNinW K) (tVar 13) (tVar 6)))) (te := (tVar 13)) (by rfl) sc_law.nd (pi_seq (pv 5)) (blkOk_by (by kernel_rfl)) (fun _ _ _ _ _ => (pg_name (i := 13) sc_law.nd rfl (Or.inl rfl))) (fun _ _ _ _ _ => (pts_one (pt_cmpR (op_ninW hu65) (pv 13) (pv 6) (by rfl)))) (fun _ _ _ _ _ => (pv 13))) (pa_cons pe_int pa_nil))))) pa_nil)))) (pss_cons (ps_set (i := 8) sc_law.nd rfl (Or.inl rfl) (pe_listG (pgen_callK (okg_all_yards T) (hr.mono (by decide)) (by rfl) T.g_all_yards T.k_all_yards T.kb_all_yards_standing (pa_cons (pv 4) pa_nil) (pk_cons pe_bl pk_nil)) passGn noStopGn (hr.mono (by decide)) (by rfl) T.z_list (by decide +kernel))) (pss_one (ps_for PassesOwn.never rfl (pi_seq (pe_slice (show L2.SlR _ (rSlW K) from sl_W) (pe_call (ok__law_mixed T) (hr.mono (by decide)) (by rfl) T.g__law_mixed T.k__law_mixed T.b__law_mixed .nil pass0 (pa_cons (pv 1) (pa_cons (pv 8) pa_nil))) po_none (po_some pe_int))) (pg_name (i := 9) sc_law.nd rfl (Or.inl rfl)) (pss_cons (ps_if (pt_not (pt_val (pe_call (ok__law_right T) (hr.mono (by decide)) (by rfl) T.g__law_right T.k__law_right T.b__law_right .nil pass0 (pa_cons (pv 9) (pa_cons (pe_ix (show IxR _ (rIx K) from ix_seq) (pv 8) (pe_call (ok__law_draw T) (hr.mono (by decide)) (by rfl) T.g__law_draw T.k__law_draw T.b__law_draw .nil pass0 (pa_cons (pv 1) (pa_cons (pe_callB (show CallR _ _ (rLenW K) from call_lenW) (by rfl) T.z_len PySem.boot_len (pa_cons (pv 8) pa_nil)) pa_nil))) (fun _ _ => rfl)) (pa_cons (pv 6) (pa_cons (pv 7) pa_nil))))))) (pss_one (ps_ret pe_bl)) pss_nil) (pss_cons (ps_set (i := 10) sc_law.nd rfl (Or.inl rfl) (pe_meth (pv 9) T.cl_Yard T.mt_Yard_rest_under (ok_Yard_rest_under T) (hr.mono (by decide)) T.b_Yard_rest_under .nil pass0 (pa_cons (pv 6) pa_nil))) (pss_one (ps_for PassesOwn.never rfl (pi_seq (pv 8)) (pg_name (i := 11) sc_law.nd rfl (Or.inl rfl)) (pss_one (ps_if (PW.pt (pw_and (pt_cmpR (op_eqO (C := T.c.Yard) (D := T.c.Yard) (E := fun _ _ _ => False) (ok_Yard___eq__ T) (hr.mono (by decide)) T.b_Yard___eq__ (by simp [PySem.W.notFirst]) T.at_Yard___eq__ T.fn_Yard___eq__) (pe_op (op_binO (E := fun _ _ _ => False) (ok_Yard___or__ T) (hr.mono (by decide)) T.b_Yard___or__ T.sf_Yard T.at_Yard___or__ T.fn_Yard___or__) (pv 11) (pv 9)) (pv 9) (nomark _)) (pw_and (pt_val (pe_meth (pv 11) T.cl_Yard T.mt_Yard_stands_under (ok_Yard_stands_under T) (hr.mono (by decide)) T.b_Yard_stands_under .nil pass0 (pa_cons (pv 6) pa_nil))) (pw_and1 (pt_cmpR (op_neO (E := fun _ _ _ => False) (ok_Yard___eq__ T) (hr.mono (by decide)) T.b_Yard___eq__ T.cf T.ne_Yard) (pe_op (op_binO (E := fun _ _ _ => False) (ok_Yard___or__ T) (hr.mono (by decide)) T.b_Yard___or__ T.sf_Yard T.at_Yard___or__ T.fn_Yard___or__) (pv 11) (pv 10)) (pv 10) (nomark _)))))) (pss_one (ps_ret pe_bl)) pss_nil)))))))))))))) (pss_one (ps_ret pe_bl)))), ?_⟩
  refine ⟨_, rfl, a, ns, 0, rfl, hS, hlen, Int.le_refl _, by decide, fun g H1 m1 m2 sm hD => ?_⟩
  have f0 : ∀ x, dealS.F0 g x → x = g.1 ∨ x = g.2 := fun x h => h
  have tr : ∀ x, (x = g.1 ∨ x = g.2) → H1 x ≠ none := fun x h => dealS.tk g H1 x hD h
  have pa : RepL K (fun x => x = g.1 ∨ x = g.2) H1 [.lst (ns.map D.int)] [.ref a] := by
    have l0 : LAt K (fun x => x = g.1 ∨ x = g.2) H a (ns.map V.int) := (lat_of hS).gen fun x hx => .inr (by
      rcases hx with rfl | rfl
      · exact m1
      · exact m2)
    exact .one ⟨a, _, rfl, l0.mono (fun x o _ e => sm x o e), repL_of_ints ns⟩
  have R0 := (start_rp (M := mdOf K dealS g H1 _ f0 tr) (N := n_law) pa hD).set (i := 1) (v := .ref g.1) (s := .d (.ref g.1)) ⟨_, rfl, rfl⟩ (fun p xs e => nomatch e)
  dsimp only [gName]
  have h0 := hm ns hlen
  unfold p_law at h0
  refine (?_ : DS (mdOf K dealS g H1 _ f0 tr) _ [] ((startR n_law.length [.lst (ns.map D.int)]).set 1 (.d (.ref g.1))) { nx := fun _ _ => (fun d : D => d = .bl true) .non, rt := fun d => d = .bl true }) _ H1 _ R0 ⟨fun _ _ _ _ _ _ z => (nomatch z), fun v H2 d _ _ p e => by
    subst e
    obtain rfl : v = .bl true := p
    exact q _, fun _ _ _ _ _ _ z => z.elim, fun _ _ _ _ _ _ z => z.elim⟩
  generalize (D.lst (ns.map D.int)) = x0 at *
  exact (s_for (S := (Unit)) (js := [2]) (fun (s : Unit) (r : List Sl) => ∃ t1 t2 t3 t4 t5 t6 t7 t8 t9 t10 : Sl, r = [.d x0, .d (.ref g.1), t10, t1, t2, t3, t4, t5, t6, t7, t8, t9, .un, .un]) _ () _ (i_range1 (e_op2 l_add (De.v (de_int (De.v (e_cb l_len (dav_cons (De.v (De.imp (e_sl l_sl (De.v (de_var rfl (do_none (DO.imp (o_some (de_int h0)) fun o78 h119 => h119))))) fun v77 h118 => (dav_nil h118)))))))))) ⟨_, _, _, _, _, _, _, _, _, _, rfl⟩ (fun y11 s12 _ n13 b14 e80 h79 => (by obtain ⟨t1, t2, t3, t4, t5, t6, t7, t8, t9, t10, rfl⟩ := e80; exact (dg_name (s_asg (De.imp (e_callD1 (w := p__law_rows) g rfl rfl (i := 1) rfl (e_op2 l_ix (De.v (e_lst (da_cons (de_int (da_cons (de_int (da_cons (de_int (da_cons (de_int (da_cons (de_int (da_cons (de_int (da_nil ⟨lenLe 6 (by decide), (De.v (e_callD1 (w := W.draw) g rfl rfl (i := 1) rfl (de_int h79)))⟩))))))))))))))))) fun v15 h83 => (s_par (do_d (De.imp (e_callP1 (w := (p__law_plan T.c)) (de_var rfl h83)) fun v21 h84 => (do_d (De.imp (e_comp _ (js := [12]) (by decide) (i_seq (de_var rfl h84)) (fun _ v18 _ h86 => (dg_name (dt_yes (iteT (e_op2 l_ix (De.v (de_var rfl (De.v (de_int h86)))))))))) fun v22 h85 => (do_nil ⟨rfl, (s_asg (De.imp (e_callD2 (w := p__law_some) g rfl rfl (i := 1) rfl (de_var rfl (de_int h85))) fun v24 h87 => (s_asg (De.imp (e_callD1 (w := p__law_mixed) g rfl rfl (i := 1) rfl (e_op2 l_add (De.v (de_var rfl (De.v (e_callD2 (w := p__law_some) g rfl rfl (i := 1) rfl (De.imp (e_comp _ (js := [13]) (by decide) (i_seq (de_var rfl h87)) (fun _ v25 _ h90 => (dg_name (DT.imp (t_test (e_op2 l_nin (De.v (de_var rfl (De.v (de_var rfl h90)))))) fun b27 h92 => (ite_split h92 (fun h91 => (de_var rfl h91)) id))))) fun v32 h89 => (de_int h89)))))))) fun v29 h88 => (s_asg (De.imp (e_listGK (φ := (W.a2 (p_all_yards T.c))) (gD := (fun ds zs => ds ++ zs)) (fun _ _ _ _ _ _ p q => p.append q) (da_cons (de_var rfl (da_nil (da_cons (de_bl (da_nil ⟨rfl, rfl, (a2_i h88)⟩))))))) fun v34 h93 => (ds_last (s_for (S := (Unit)) (js := [9]) (fun (s : Unit) (r : List Sl) => ∃ t35 t36 t37 : Sl, r = [.d x0, .d (.ref g.1), .d y11, .d v15, .d v21, .d v22, .d v24, .d v29, .d v34, t37, t35, t36, .un, .un]) _ () _ (i_seq (e_sl l_sl (De.v (De.imp (e_callD1 (w := p__law_mixed) g rfl rfl (i := 1) rfl (de_var rfl h93)) fun v71 h116 => (do_none (DO.imp (o_some (de_int h116)) fun o72 h117 => h117)))))) ⟨_, _, _, rfl⟩ (fun y38 s39 _ n40 b41 e95 h94 => (by obtain ⟨t35, t36, t37, rfl⟩ := e95; exact (dg_name (s_ifR (DT.imp (t_not (t_B (e_callP4 (w := (p__law_right T.c)) (de_var rfl (De.imp (e_op2 l_ix (De.v (de_var rfl (De.v (e_callD1 (w := W.draw) g rfl rfl (i := 1) rfl (e_cb l_len (dav_cons (De.v (de_var rfl (dav_nil h94)))))))))) fun v65 h101 => (de_var rfl (de_var rfl h101))))))) fun b62 h100 => (ite_split h100 (fun h98 => (s_ret (de_bl h98))) (fun h99 => (ds_next (s_asg (De.imp (e_meth (w := (W.a2 (p_Yard_rest_under T.c))) (de_var rfl (W.obj.imp h99 fun i42 => (da_cons (de_var rfl (da_nil (a2_i i42))))))) fun v43 h102 => (ds_last (s_for (S := (Unit)) (js := [11]) (fun (s : Unit) (r : List Sl) => ∃ t44 : Sl, r = [.d x0, .d (.ref g.1), .d y11, .d v15, .d v21, .d v22, .d v24, .d v29, .d v34, .d y38, .d v43, t44, .un, .un]) _ () _ (i_seq (de_var rfl h102)) ⟨_, rfl⟩ (fun y45 s46 _ n47 b48 e104 h103 => (by obtain ⟨t44, rfl⟩ := e104; exact (dg_name (ds_last (s_ifR (DT.imp (t_and (DT.imp (t_test (e_eqO (w := (W.a2 (p_Yard___eq__ T.c))) (De.imp (e_binO (w := (W.a2 (p_Yard___or__ T.c))) (de_var rfl (de_var rfl (have j := W.join_go h103; j)))) fun v112 h115 => (de_var rfl h115)))) fun b110 h114 => (W.ite.imp h114 (fun h110 => (t_and (DT.imp (t_B (e_meth (w := (W.a2 (p_Yard_stands_under T.c))) (de_var rfl (W.obj.imp h110 fun i49 => (da_cons (de_var rfl (da_nil (a2_i i49)))))))) fun b55 h113 => (W.ite.imp h113 (fun h111 => (t_test (e_neO' (w := (W.a2 (p_Yard___eq__ T.c))) (De.imp (e_binO (w := (W.a2 (p_Yard___or__ T.c))) (de_var rfl (de_var rfl h111))) fun v59 h112 => (de_var rfl h112))))) id)))) id))) fun b51 h109 => (ite_split h109 (fun h107 => (s_ret (de_bl h107))) (fun h108 => (ds_next (ds_nextK rfl () h108 ⟨_, rfl⟩)))))))))) (fun s60 _ e106 h105 => (by obtain ⟨t44, rfl⟩ := e106; exact (ds_nextK rfl () h105 ⟨_, _, _, rfl⟩))))))))))))))) (fun s68 _ e97 h96 => (by obtain ⟨t35, t36, t37, rfl⟩ := e97; exact (ds_nextK rfl () h96 ⟨_, _, _, _, _, _, _, _, _, _, rfl⟩)))))))))))⟩))))))))))) (fun s73 _ e82 h81 => (by obtain ⟨t1, t2, t3, t4, t5, t6, t7, t8, t9, t10, rfl⟩ := e82; exact (s_ret (de_bl h81)))))
end
end Dw

namespace Dw
open PySem PySem.Spec PyProof.Rows L2
abbrev nDeal : List Str := ["_law_script", "_law_base", "_law_cell", "_law_cells", "_law_number"]
theorem scDeal : FnScope nDeal ["_law_script", "_law_base"] (defScope sDeal) := ⟨rfl, rfl, rfl, by decide +kernel, rfl, by decide +kernel, by decide +kernel⟩
abbrev nDraw : List Str := ["_law_deal_here", "_law_many", "_law_number", "_law_one", "_law_other"]
theorem scDraw : FnScope nDraw ["_law_deal_here", "_law_many"] (defScope sDraw) := ⟨rfl, rfl, rfl, by decide +kernel, rfl, by decide +kernel, by decide +kernel⟩
local macro_rules | `(tactic| walk_at "dw") => `(tactic| first
  | refine de_var rfl ?_ | refine de_int ?_ | refine de_str ?_ | refine de_bl ?_ | refine de_non ?_
  | refine de_intI ?_ | refine de_intB ?_ | refine de_intC ?_ | refine de_eq ?_ | refine de_ne ?_
  | refine da_nil ?_ | refine da_cons ?_ | refine de_max2 ?_ | refine do_none ?_ | refine do_some ?_ | refine dt_test ?_ | refine dt_B ?_ | refine dt_yes ?_
  | refine ⟨_, _, rfl, rfl, ?_⟩ | refine ⟨_, rfl, ?_⟩)
section
variable {P : Program} {w : World} {K : PySem.W.Frag} {mg : Str → Option Value} {base : Heap}
theorem ok_deal {f : Addr} {fd : FuncData} {k : Nat} (F : Fun K "_law_deal" "_law_deal" sDeal f fd) (mM : mg "max" = none) (mL : mg "list" = none) (mR : mg "reversed" = none) : FnOk P w K mg base CX0 (k + 1) f fd ["_law_script", "_law_base"] (spDeal K) := by
  refine F.ok scDeal (fun vs H Q E h => ?_) (fun cdv A outer s H vs Q E hr h => ?_)
  · obtain ⟨a, ns, b, rfl, _⟩ := h
    rfl
  · obtain ⟨a, ns, b, rfl, hS, hlen, b0, b1, q⟩ := h
    have hu := hu_of hr
    refine ⟨_, pss_cons (ps_setLc (i := 3) (own := [("_law_cell", 2)]) (g := gName 2) (tt := tYes) rfl scDeal.nd rfl rfl (sw_true rfl rfl rfl (by decide +kernel)) (pi_list (pe_slice sl_list (pv 0) (po_some (pv 1)) (po_some pe_int)))
          (blkOk_by (N := nDeal) (sc := defScope sDeal) (by decide +kernel)) (fun _ _ _ _ _ => pg_name (i := 2) scDeal.nd rfl (Or.inl rfl)) (fun _ _ _ _ _ => pts_nil)
          (fun _ _ _ _ _ => pe_callB (call_max2 rfl) (by rfl) mM (by decide +kernel) (pa_cons (pv 2) (pa_cons (pe_op op_sub pe_int (pv 2)) pa_nil))))
      (pss_cons (ps_set (i := 4) scDeal.nd rfl (Or.inl rfl) (pe_op op_add pe_int (pv 1)))
      (pss_cons (ps_for PassesOwn.never rfl (pi_list (pv 3)) (pg_name (i := 2) scDeal.nd rfl (Or.inl rfl))
          (pss_one (ps_set (i := 4) scDeal.nd rfl (Or.inl rfl) (pe_op op_mod (pe_op op_add (pe_op op_mul (pv 4) pe_int) (pe_op op_mod (pv 2) pe_int)) pe_int))))
      (pss_one (ps_ret (pe_disp (pps_cons pe_str (pv 4) (pps_cons pe_str pe_int (pps_cons pe_str
          (pe_listRev rfl (by rfl) mL (by rfl) mR (pe_lc (own := [("_law_cell", 2)]) (g := gName 2) (tt := _) (by rfl) scDeal.nd (pi_list (pv 3)) (blkOk_by (N := nDeal) (sc := defScope sDeal) (by decide +kernel))
            (fun _ _ _ _ _ => pg_name (i := 2) scDeal.nd rfl (Or.inl rfl)) (fun _ _ _ _ _ => pts_one (pt_cmpR op_ge (pv 2) (pe_op op_pow pe_int pe_int) (nomark _))) (fun _ _ _ _ _ => pv 2)))
          pps_nil))) (by rfl) (by rfl) (fun z => by cases z) (by decide)))))), ?_⟩
    have R0 : Rp (mdOf K pure0 () H (fun _ => False) (fun _ z => z.elim) (fun _ z => z.elim)) [] (startR 5 [.lst (ns.map D.int), .int b]) (L2.start nDeal [.ref a, .int b]) H :=
      start_rp (M := mdOf K pure0 () H (fun _ => False) (fun _ z => z.elim) (fun _ z => z.elim)) (N := nDeal) (.cons ⟨a, _, rfl, lat_of hS, repL_of_ints ns⟩ (.cons rfl .nil)) trivial
    -- the cells
    refine raw_seq (fun O r => O = [] ∧ ∃ cs : List Int, cs.length ≤ 63 ∧ (∀ c ∈ cs, 0 ≤ c) ∧ r = [.d (.lst (ns.map D.int)), .d (.int b), .un, .d (.lst (cs.map D.int)), .un]) R0 ?_ ?_
    · refine ds_asg (de_lcP (js := [2]) (fun _ _ y => ∃ n : Int, y = .int n ∧ 0 ≤ n) (fun j h => h) (di_list (de_slL ?_)))
      walk_at "dw"
      refine ⟨_, rfl, ?_⟩
      repeat walk_at "dw"
      have hl : (cutD (ns.map D.int) (some b) (some 63)).length ≤ 63 := Nat.le_trans (cutD_len _ _ _) (by rw [List.length_map]; exact hlen)
      refine ⟨Nat.lt_of_le_of_lt hl (by decide), fun O' i x hx => ?_, fun ys hy hc => ?_⟩
      · obtain ⟨n, rfl⟩ : ∃ n, x = D.int n := by
          have h1 := List.mem_of_getElem? hx
          have h2 := List.mem_of_mem_drop (List.mem_of_mem_take h1)
          obtain ⟨n, _, e⟩ := List.mem_map.mp h2
          exact ⟨n, e.symm⟩
        refine dg_name ?_
        repeat walk_at "dw"
        split <;> omega
      · obtain ⟨ms, rfl, hm⟩ := ints_of (P := fun n => 0 ≤ n) fun i y e => by
          obtain ⟨x, ex⟩ : ∃ x, (cutD (ns.map D.int) (some b) (some 63))[i]? = some x := ⟨_, List.getElem?_eq_getElem (by rw [← hy]; exact (List.getElem?_eq_some_iff.mp e).1)⟩
          exact hc i x y ex e
        rw [List.length_map] at hy
        exact ⟨rfl, ms, by omega, hm, rfl⟩
    intro O1 r1 σ1 H1 R1 s1 ⟨e1, cs, hcl, hc, e2⟩
    subst e1 e2
    -- the number
    refine raw_seq (fun O r => O = [] ∧ ∃ n : Int, 0 ≤ n ∧ n < 2147483647 ∧ r = [.d (.lst (ns.map D.int)), .d (.int b), .un, .d (.lst (cs.map D.int)), .d (.int n)]) R1 ?_ ?_
    · refine ds_asg ?_
      repeat walk_at "dw"
      exact ⟨rfl, _, by omega, by omega, rfl⟩
    intro O2 r2 σ2 H2 R2 s2 ⟨e1, n0, hn0, hn1, e2⟩
    subst e1 e2
    refine raw_seq (fun O r => O = [] ∧ ∃ (n : Int) (s : Sl), 0 ≤ n ∧ n < 2147483647 ∧ r = [.d (.lst (ns.map D.int)), .d (.int b), s, .d (.lst (cs.map D.int)), .d (.int n)]) R2 ?_ ?_
    · refine ds_for (js := [2]) (di_list ?_)
      walk_at "dw"
      refine ⟨_, rfl, fun i O r => O = [] ∧ ∃ (n : Int) (s : Sl), 0 ≤ n ∧ n < 2147483647 ∧ r = [.d (.lst (ns.map D.int)), .d (.int b), s, .d (.lst (cs.map D.int)), .d (.int n)], ⟨rfl, n0, .un, hn0, hn1, rfl⟩, fun i x O' r' hx ⟨e1, n, s, h0, h1, e2⟩ => ?_, fun O' r' h => h⟩
      subst e1 e2
      obtain ⟨c, rfl⟩ : ∃ n, x = D.int n := by
        obtain ⟨n, _, e⟩ := List.mem_map.mp (List.mem_of_getElem? hx)
        exact ⟨n, e.symm⟩
      refine dg_name (ds_asg ?_)
      repeat walk_at "dw"
      refine ⟨.inl ⟨by omega, by omega⟩, ?_⟩
      repeat walk_at "dw"
      refine ⟨by decide, ?_⟩
      repeat walk_at "dw"
      refine ⟨by decide, rfl, _, _, Int.emod_nonneg _ (by decide), Int.emod_lt_of_pos _ (by decide), rfl⟩
    intro O3 r3 σ3 H3 R3 s3 ⟨e1, n, s, h0, h1', e2⟩
    subst e1 e2
    -- the dict
    intro p hp
    have R4 := R3.own1 (o := .dK []) hp
    obtain ⟨u4, e4, p4⟩ := R4.slot 4 _ rfl
    have p4 : u4 = .int n := p4
    subst p4
    refine ⟨_, e4, ?_⟩
    have D1 := de_lcF (M := mdOf K pure0 () H (fun _ => False) (fun _ z => z.elim) (fun _ z => z.elim)) (O := [p]) (r := [.d (.lst (ns.map D.int)), .d (.int b), s, .d (.lst (cs.map D.int)), .d (.int n)])
      (wi := iList K (tVar 3)) (g := gName 2) (tt := tTest (tOp (rI0 fun i j => V.bl (decide (j ≤ i))) (tVar 2) (tOp (rI CPow fun i j => V.int (i ^ j.toNat)) (tC (V.int 10)) (tC (V.int 18))))) (te := tVar 2) (vs := [2]) (js := [2]) (k := fun x => ∃ l : List Int, x = .lst (l.map D.int) ∧ ∀ z ∈ l, 0 ≤ z)
      (fun x => match x with
        | .int i => decide ((10 : Int) ^ 18 ≤ i)
        | _ => false) (fun x => x) (fun _ h => h) (by
        refine di_list ?_
        walk_at "dw"
        refine ⟨_, rfl, Nat.lt_of_le_of_lt (by rw [List.length_map]; exact hcl) (by decide : (63 : Nat) < sizeLine), fun O' i x hx => ?_, ?_⟩
        · obtain ⟨c, rfl⟩ : ∃ n, x = D.int n := by
            obtain ⟨n, _, e⟩ := List.mem_map.mp (List.mem_of_getElem? hx)
            exact ⟨n, e.symm⟩
          refine dg_name (dt_test ?_)
          repeat walk_at "dw"
          refine ⟨⟨by decide, by decide, by decide⟩, ?_⟩
          repeat walk_at "dw"
          refine ⟨rfl, fun _ => ?_⟩
          repeat walk_at "dw"
          rfl
        · rw [List.map_id']
          obtain ⟨ms, e, hm⟩ := ints_of (ys := (cs.map D.int).filter fun x => match x with
            | .int i => decide ((10 : Int) ^ 18 ≤ i)
            | _ => false) (P := fun n => 0 ≤ n) fun i y e => by
              have h1 := (List.mem_filter.mp (List.mem_of_getElem? e)).1
              obtain ⟨c, hc1, e1⟩ := List.mem_map.mp h1
              exact ⟨c, e1.symm, hc c hc1⟩
          exact ⟨ms, by rw [e], hm⟩)
    dsimp only [tPairs, tC, tListRev, List.map]
    refine D1 σ3 _ _ R4 fun v H5 d R5 e5 p5 ⟨l, ed, hl⟩ => ?_
    subst ed
    obtain ⟨a5, vs, rfl, h1, h2⟩ := p5
    have ev := repL_ints h2
    subst ev
    refine ⟨a5, _, rfl, h1.sq, fun q5 hq5 => ?_⟩
    have hp5 : H5 p = some (.dK []) := e5 p _ (fun z => z) upd_same
    have npq : p ≠ q5 := ne_of_none hp5 hq5
    refine ⟨by rw [upd_ne npq]; exact hp5, dealKv n 0 q5, rfl, by show 3 ≤ 15; decide, ?_⟩
    have sm : Same H H3 := same_sm R3.sm
    have hpH : H p = none := sm.free hp
    have smH5 : Sm (fun _ => False) H H5 := R5.sm
    have hqH : H q5 = none := (same_sm smH5).free hq5
    refine q (p, q5) _ hpH hqH (fun x o hx => ?_) ⟨n, 0, l.reverse, upd_same, ?_, h0, h1', Int.le_refl 0, fun z hz => hl z (List.mem_reverse.mp hz)⟩
    · rw [upd_ne (ne_of_none hx hpH), upd_ne (ne_of_none hx hqH)]
      exact smH5 x o (fun z => z) hx
    · rw [upd_ne npq.symm, upd_same, List.map_reverse]
theorem ok_draw {f : Addr} {fd : FuncData} {k : Nat} (F : Fun K "_law_draw" "_law_draw" sDraw f fd) (mL : mg "len" = none) : FnOk P w K mg base CX0 (k + 1) f fd ["_law_deal_here", "_law_many"] (spDraw K) := by
  refine F.ok scDraw (fun vs H Q E h => ?_) (fun cdv A outer s H vs Q E hr h => ?_)
  · obtain ⟨g, ds, F1, p, _, _, _, ⟨n, rfl, _⟩, _⟩ := h
    rw [← p.length]
    rfl
  · obtain ⟨g, ds, F1, p, f0, tr, i, ⟨n, rfl, n0, n1⟩, q⟩ := h
    obtain ⟨v1, _, rfl, p1, v2, _, rfl, p2, e⟩ := p
    have p1 : v1 = .ref g.1 := p1
    have p2 : v2 = .int n := p2
    have e : _ = [] := e
    subst p1 p2 e
    have hu := hu_of hr
    obtain ⟨dd, ll⟩ := g
    have hne : ∀ (H : Hp) (s n : Int) (l : List Int), H dd = some (.dK (dealKv s n ll)) → H ll = some (.lst (l.map V.int)) → dd ≠ ll := fun H s n l a b => ne_of a b (by intro z; cases z)
    refine ⟨_, pss_cons (ps_while PassesOwn.never (PW.pt (pw_and (pt_cmpR op_eq (pe_dget hu (pv 0) pe_str (fun _ _ => rfl)) pe_int (nomark _))
          (pw_and1 (pt_cmpR op_gt (pe_callB call_len_seq (by rfl) mL PySem.boot_len (pa_cons (pe_dget hu (pv 0) pe_str (fun _ _ => rfl)) pa_nil)) pe_int (nomark _)))))
          (pss_one (ps_dput hu (pv 0) pe_str (pe_bm0 PySem.F.plainAttrs_list PySem.F.slot_list_pop PySem.F.type_list_pop mt_pop (pe_dget hu (pv 0) pe_str (fun _ _ => rfl))) rfl)))
      (pss_cons (ps_set (i := 2) scDraw.nd rfl (Or.inl rfl) (pe_dget hu (pv 0) pe_str (fun _ _ => rfl)))
      (pss_cons (ps_if (pt_cmpR op_gt (pv 2) pe_int (nomark _)) (pss_cons (ps_dput hu (pv 0) pe_str (pe_op op_fdiv (pv 2) (pv 1)) rfl) (pss_one (ps_ret (pe_op op_mod (pv 2) (pv 1))))) pss_nil)
      (pss_cons (ps_set (i := 3) scDraw.nd rfl (Or.inl rfl) (pe_op op_mod (pe_op op_add (pe_op op_mul (pe_dget hu (pv 0) pe_str (fun _ _ => rfl)) pe_int) pe_int) pe_int))
      (pss_cons (ps_dput hu (pv 0) pe_str (pe_op op_mod (pe_op op_add (pe_op op_mul (pv 3) pe_int) pe_int) pe_int) rfl)
      (pss_cons (ps_set (i := 4) scDraw.nd rfl (Or.inl rfl) (pe_op op_mod (pe_op op_mul (pe_dget hu (pv 0) pe_str (fun _ _ => rfl)) (pe_dget hu (pv 0) pe_str (fun _ _ => rfl))) pe_int))
      (pss_one (ps_ret (pe_op op_mod (pe_op op_add (pe_op op_mul (pe_op op_mod (pe_op op_mul (pv 3) (pv 3)) pe_int) pe_int) (pv 4)) (pv 1))))))))), ?_⟩
    -- what stands between the steps
    have start : ∃ (s m : Int) (l : List Int), H dd = some (.dK (dealKv s m ll)) ∧ H ll = some (.lst (l.map V.int)) ∧ 0 ≤ s ∧ s < 2147483647 ∧ 0 ≤ m ∧ ∀ x ∈ l, (0 : Int) ≤ x := i
    obtain ⟨s0, m0, l0, hd0, hl0, hs0, hs1, hm0, hz0⟩ := start
    have J : ∀ (H' : Hp) (s m : Int) (l : List Int) (x : Int), Sm (dealS.F0 (dd, ll)) H H' → H' dd = some (.dK (dealKv s m ll)) → H' ll = some (.lst (l.map V.int)) → 0 ≤ s → s < 2147483647 → 0 ≤ m → (∀ x ∈ l, (0 : Int) ≤ x) → 0 ≤ x → x < n → Q (.int x) H' :=
      fun H' s m l x sm a b c d e f g h => q (.int x) H' (.int x) sm ⟨s, m, l, a, b, c, d, e, f⟩ rfl ⟨n, x, rfl, rfl, g, h⟩
    have up : ∀ (H' : Hp) (o : HO), Sm (dealS.F0 (dd, ll)) H H' → Sm (dealS.F0 (dd, ll)) H (upd H' dd o) := fun H' o sm a u na e => by
      rw [upd_ne fun z => na (.inl z)]
      exact sm a u na e
    have upl : ∀ (H' : Hp) (o : HO), Sm (dealS.F0 (dd, ll)) H H' → Sm (dealS.F0 (dd, ll)) H (upd H' ll o) := fun H' o sm a u na e => by
      rw [upd_ne fun z => na (.inr z)]
      exact sm a u na e
    -- the while
    refine ⟨fun mm σ H' => σ = [some (.ref dd), some (.int n), none, none, none] ∧ ∃ (s m : Int) (l : List Int), mm = l.length ∧ Sm (dealS.F0 (dd, ll)) H H' ∧ H' dd = some (.dK (dealKv s m ll)) ∧ H' ll = some (.lst (l.map V.int)) ∧ 0 ≤ s ∧ s < 2147483647 ∧ 0 ≤ m ∧ ∀ x ∈ l, (0 : Int) ≤ x,
      ⟨l0.length, rfl, s0, m0, l0, rfl, .refl, hd0, hl0, hs0, hs1, hm0, hz0⟩, ?_⟩
    rintro mm σ H' ⟨rfl, s1, m1, l1, rfl, sm, hd, hl, b0, b1, c0, z0⟩
    by_cases hT : m1 = 0 ∧ l1 ≠ []
    · obtain ⟨rfl, hn⟩ := hT
      have hlen : 0 < l1.length := List.length_pos_iff.mpr hn
      refine ⟨_, rfl, dd, _, rfl, DGet.k (k := Sum.inr "number") hd, rfl, _, rfl, ite2 (fun _ => ?_) (fun e => absurd (decide_eq_true rfl) e)⟩
      refine ⟨_, rfl, dd, _, rfl, DGet.k (k := Sum.inr "left") hd, ll, _, rfl, .inl (SqL.of hl), _, _, rfl, rfl, _, rfl, ?_⟩
      refine ite2 (fun _ => ?_) (fun e => absurd (decide_eq_true (by rw [List.length_map]; omega)) e)
      refine ⟨_, fun σ2 H2 h => h, ?_⟩
      obtain ⟨lr, lz, rfl⟩ : ∃ lr lz, l1 = lr ++ [lz] := ⟨l1.dropLast, l1.getLast hn, (List.dropLast_concat_getLast hn).symm⟩
      have hne' := hne H' s1 0 _ hd hl
      refine ⟨_, rfl, dd, _, rfl, DGet.k (k := Sum.inr "left") hd, .inl ⟨rfl, _, SqL.of hl⟩, ll, _, .int lz, rfl, rfl, hl, by simp, ?_⟩
      have hd2 : (upd H' ll (.lst ((lr ++ [lz]).map V.int).dropLast)) dd = some (.dK (dealKv s1 0 ll)) := by
        rw [upd_ne hne']
        exact hd
      refine ⟨_, rfl, dd, _, rfl, DPut.k (k := Sum.inr "number") hd2 (by show 3 < sizeLine; decide), ?_⟩
      refine ⟨lr.length, by simp, rfl, s1, lz, lr, rfl, up _ _ (upl _ _ sm), by rw [upd_same]; rfl, ?_, b0, b1, z0 lz (by simp), fun x hx => z0 x (by simp [hx])⟩
      rw [upd_ne hne'.symm, upd_same]
      simp
    · have stop : ∀ {R : Bool → Hp → Prop}, R false H' → (tAnd (tTest (tOp rEq (tDGet (tVar 0) (tC (.str "number"))) (tC (.int 0)))) (tTest (tOp (rI0 fun i j => V.bl (decide (j < i))) (tCB (fun xs H Q => ∃ p ys, xs = [.ref p] ∧ (SqL K H p ys ∨ SqT K H p ys) ∧ Q (.int ys.length) H) (tCons (tDGet (tVar 0) (tC (.str "left"))) tNil)) (tC (.int 0)))))
          [some (.ref dd), some (.int n), none, none, none] H' R := fun {R} hR => by
        refine ⟨_, rfl, dd, _, rfl, DGet.k (k := Sum.inr "number") hd, rfl, _, rfl, ite2 (fun e => ?_) (fun e => hR)⟩
        have e0 : m1 = 0 := V.int.inj (of_decide_eq_true e)
        have e1 : l1 = [] := Classical.byContradiction fun z => hT ⟨e0, z⟩
        refine ⟨_, rfl, dd, _, rfl, DGet.k (k := Sum.inr "left") hd, ll, _, rfl, .inl (SqL.of hl), _, _, rfl, rfl, _, rfl, ?_⟩
        subst e1
        exact hR
      refine stop (iteF ?_)
      -- number
      refine ⟨_, rfl, dd, _, rfl, DGet.k (k := Sum.inr "number") hd, ?_⟩
      refine ⟨_, rfl, _, _, rfl, rfl, _, rfl, ite2 (fun e => ?_) (fun e => ?_)⟩
      · have e0 : 0 < m1 := of_decide_eq_true e
        refine ⟨_, rfl, _, rfl, _, _, rfl, rfl, ⟨n0, n1⟩, _, rfl, dd, _, rfl, DPut.k (k := Sum.inr "number") hd (by show 3 < sizeLine; decide), ?_⟩
        refine ⟨_, rfl, _, rfl, _, _, rfl, rfl, n0, ?_⟩
        have hne' := hne H' s1 m1 _ hd hl
        refine J _ s1 (m1 / n) l1 _ (up _ _ sm) (by rw [upd_same]; rfl) (by rw [upd_ne hne'.symm]; exact hl) b0 b1 (Int.ediv_nonneg c0 (by omega)) z0 (Int.emod_nonneg _ (by omega)) (Int.emod_lt_of_pos _ n0)
      · -- one
        refine ⟨_, rfl, dd, _, rfl, DGet.k (k := Sum.inr "seed") hd, s1, 48271, rfl, rfl, .inl ⟨by omega, by omega⟩, _, _, rfl, rfl, _, _, rfl, rfl, (by show (0 : Int) < 2147483647; decide), ?_⟩
        dsimp only
        generalize ho : (s1 * 48271 + 7919) % 2147483647 = one
        have o0 : 0 ≤ one := by rw [← ho]; exact Int.emod_nonneg _ (by decide)
        have o1 : one < 2147483647 := by rw [← ho]; exact Int.emod_lt_of_pos _ (by decide)
        refine ⟨_, rfl, _, _, rfl, rfl, .inl ⟨by omega, by omega⟩, _, _, rfl, rfl, _, _, rfl, rfl, (by show (0 : Int) < 2147483399; decide), _, rfl, dd, _, rfl, DPut.k (k := Sum.inr "seed") hd (by show 3 < sizeLine; decide), ?_⟩
        dsimp only
        generalize hs : (one * 40692 + 104729) % 2147483399 = seed
        have q0 : 0 ≤ seed := by rw [← hs]; exact Int.emod_nonneg _ (by decide)
        have q1 : seed < 2147483399 := by rw [← hs]; exact Int.emod_lt_of_pos _ (by decide)
        have hne' := hne H' s1 m1 _ hd hl
        have hd2 : (upd H' dd (.dK (putK (dealKv s1 m1 ll) (.inr "seed") (.int seed)))) dd = some (.dK (dealKv seed m1 ll)) := by
          rw [upd_same]
          rfl
        refine ⟨_, rfl, dd, _, rfl, DGet.k (k := Sum.inr "seed") hd2, _, rfl, dd, _, rfl, DGet.k (k := Sum.inr "seed") hd2, _, _, rfl, rfl, .inl ⟨by omega, by omega⟩, _, _, rfl, rfl, (by show (0 : Int) < 2147483563; decide), ?_⟩
        refine ⟨_, rfl, _, rfl, _, _, rfl, rfl, .inl ⟨by omega, by omega⟩, _, _, rfl, rfl, (by show (0 : Int) < 2147483629; decide), _, _, rfl, rfl, .inr ⟨by decide, by decide⟩, _, rfl, _, _, rfl, rfl, _, rfl, _, _, rfl, rfl, n0, ?_⟩
        exact J _ seed m1 l1 _ (up _ _ sm) hd2 (by rw [upd_ne hne'.symm]; exact hl) q0 (by omega) c0 z0 (Int.emod_nonneg _ (by omega)) (Int.emod_lt_of_pos _ n0)
end
end Dw

namespace Dw
open PySem PySem.Spec PyProof.Rows L2
set_option maxHeartbeats 0 in
theorem all_mk {P : Program} {w : World} {K : PySem.W.Frag} {h : Heap} {mg : Str → Option Value} {fa f_check_parts f_check_plans f_names_in f_mask_of f_names_of f_in_order f_least_masks f_least_sets f_support_table f_supported_in f_falling_in f_stands_in f_rest_in f_masks_in_order f_yard_of f_parts_mask f_all_yards f_is_name f_check_count f_check_names f_check_rules f__law_deal f__law_draw f__law_mixed f__law_some f__law_any_word f__law_words f__law_sets f__law_rows f__law_plan f__law_right f_law f_Yard___init__ f_Yard_stands f_Yard_rest f_Yard_stands_under f_Yard_rest_under f_Yard___or__ f_Yard___sub__ f_Yard___eq__ f_Rule___init__ f_Rule_of_sets f_Rule___eq__ f_Plan___init__ f_Plan___eq__ : Addr} (X : K.In h) (G : h.Ns mainGlobals mg) (hfa : mg "law" = some (.ref fa))
    {C_Yard C_Rule C_Plan pc_Rule_of_sets pp_Yard_rest pp_Yard_stands : Addr}
    {re_Rule_of_sets re_Yard_rest re_Yard_stands : List Value}
    {od_check_parts an_check_parts od_check_plans an_check_plans od_names_in an_names_in od_mask_of an_mask_of od_names_of an_names_of od_in_order an_in_order od_least_masks an_least_masks od_least_sets an_least_sets od_support_table an_support_table od_supported_in an_supported_in od_falling_in an_falling_in od_stands_in an_stands_in od_rest_in an_rest_in od_masks_in_order an_masks_in_order od_yard_of an_yard_of od_parts_mask an_parts_mask od_all_yards an_all_yards od_is_name an_is_name od_check_count an_check_count od_check_names an_check_names od_check_rules an_check_rules od__law_deal an__law_deal od__law_draw an__law_draw od__law_mixed an__law_mixed od__law_some an__law_some od__law_any_word an__law_any_word od__law_words an__law_words od__law_sets an__law_sets od__law_rows an__law_rows od__law_plan an__law_plan od__law_right an__law_right od_law an_law od_Yard___init__ an_Yard___init__ od_Yard_stands an_Yard_stands od_Yard_rest an_Yard_rest od_Yard_stands_under an_Yard_stands_under od_Yard_rest_under an_Yard_rest_under od_Yard___or__ an_Yard___or__ od_Yard___sub__ an_Yard___sub__ od_Yard___eq__ an_Yard___eq__ od_Rule___init__ an_Rule___init__ od_Rule_of_sets an_Rule_of_sets od_Rule___eq__ an_Rule___eq__ od_Plan___init__ an_Plan___init__ od_Plan___eq__ an_Plan___eq__ : Option Addr} {sl_check_parts sl_check_plans sl_names_in sl_mask_of sl_names_of sl_in_order sl_least_masks sl_least_sets sl_support_table sl_supported_in sl_falling_in sl_stands_in sl_rest_in sl_masks_in_order sl_yard_of sl_parts_mask sl_all_yards sl_is_name sl_check_count sl_check_names sl_check_rules sl__law_deal sl__law_draw sl__law_mixed sl__law_some sl__law_any_word sl__law_words sl__law_sets sl__law_rows sl__law_plan sl__law_right sl_law sl_Yard___init__ sl_Yard_stands sl_Yard_rest sl_Yard_stands_under sl_Yard_rest_under sl_Yard___or__ sl_Yard___sub__ sl_Yard___eq__ sl_Rule___init__ sl_Rule_of_sets sl_Rule___eq__ sl_Plan___init__ sl_Plan___eq__ : Array (Option Value)} {oc_check_parts kV_check_parts dc_check_parts pm_check_parts cd_check_parts ct_check_parts oc_check_plans kV_check_plans dc_check_plans pm_check_plans cd_check_plans ct_check_plans oc_names_in kV_names_in dc_names_in pm_names_in cd_names_in ct_names_in oc_mask_of kV_mask_of dc_mask_of pm_mask_of cd_mask_of ct_mask_of oc_names_of kV_names_of dc_names_of pm_names_of cd_names_of ct_names_of oc_in_order kV_in_order dc_in_order pm_in_order cd_in_order ct_in_order oc_least_masks kV_least_masks dc_least_masks pm_least_masks cd_least_masks ct_least_masks oc_least_sets kV_least_sets dc_least_sets pm_least_sets cd_least_sets ct_least_sets oc_support_table kV_support_table dc_support_table pm_support_table cd_support_table ct_support_table oc_supported_in kV_supported_in dc_supported_in pm_supported_in cd_supported_in ct_supported_in oc_falling_in kV_falling_in dc_falling_in pm_falling_in cd_falling_in ct_falling_in oc_stands_in kV_stands_in dc_stands_in pm_stands_in cd_stands_in ct_stands_in oc_rest_in kV_rest_in dc_rest_in pm_rest_in cd_rest_in ct_rest_in oc_masks_in_order kV_masks_in_order dc_masks_in_order pm_masks_in_order cd_masks_in_order ct_masks_in_order oc_yard_of kV_yard_of dc_yard_of pm_yard_of cd_yard_of ct_yard_of oc_parts_mask kV_parts_mask dc_parts_mask pm_parts_mask cd_parts_mask ct_parts_mask oc_all_yards dc_all_yards pm_all_yards cd_all_yards ct_all_yards oc_is_name kV_is_name dc_is_name pm_is_name cd_is_name ct_is_name oc_check_count kV_check_count dc_check_count pm_check_count cd_check_count ct_check_count oc_check_names kV_check_names dc_check_names pm_check_names cd_check_names ct_check_names oc_check_rules kV_check_rules dc_check_rules pm_check_rules cd_check_rules ct_check_rules oc__law_deal kV__law_deal dc__law_deal pm__law_deal cd__law_deal ct__law_deal oc__law_draw kV__law_draw dc__law_draw pm__law_draw cd__law_draw ct__law_draw oc__law_mixed kV__law_mixed dc__law_mixed pm__law_mixed cd__law_mixed ct__law_mixed oc__law_some kV__law_some dc__law_some pm__law_some cd__law_some ct__law_some oc__law_any_word kV__law_any_word dc__law_any_word pm__law_any_word cd__law_any_word ct__law_any_word oc__law_words kV__law_words dc__law_words pm__law_words cd__law_words ct__law_words oc__law_sets kV__law_sets dc__law_sets pm__law_sets cd__law_sets ct__law_sets oc__law_rows kV__law_rows dc__law_rows pm__law_rows cd__law_rows ct__law_rows oc__law_plan kV__law_plan dc__law_plan pm__law_plan cd__law_plan ct__law_plan oc__law_right kV__law_right dc__law_right pm__law_right cd__law_right ct__law_right oc_law kV_law dc_law pm_law cd_law ct_law oc_Yard___init__ kV_Yard___init__ dc_Yard___init__ pm_Yard___init__ cd_Yard___init__ ct_Yard___init__ oc_Yard_stands kV_Yard_stands dc_Yard_stands pm_Yard_stands cd_Yard_stands ct_Yard_stands oc_Yard_rest kV_Yard_rest dc_Yard_rest pm_Yard_rest cd_Yard_rest ct_Yard_rest oc_Yard_stands_under kV_Yard_stands_under dc_Yard_stands_under pm_Yard_stands_under cd_Yard_stands_under ct_Yard_stands_under oc_Yard_rest_under kV_Yard_rest_under dc_Yard_rest_under pm_Yard_rest_under cd_Yard_rest_under ct_Yard_rest_under oc_Yard___or__ kV_Yard___or__ dc_Yard___or__ pm_Yard___or__ cd_Yard___or__ ct_Yard___or__ oc_Yard___sub__ kV_Yard___sub__ dc_Yard___sub__ pm_Yard___sub__ cd_Yard___sub__ ct_Yard___sub__ oc_Yard___eq__ kV_Yard___eq__ dc_Yard___eq__ pm_Yard___eq__ cd_Yard___eq__ ct_Yard___eq__ oc_Rule___init__ kV_Rule___init__ dc_Rule___init__ pm_Rule___init__ cd_Rule___init__ ct_Rule___init__ oc_Rule_of_sets kV_Rule_of_sets dc_Rule_of_sets pm_Rule_of_sets cd_Rule_of_sets ct_Rule_of_sets oc_Rule___eq__ kV_Rule___eq__ dc_Rule___eq__ pm_Rule___eq__ cd_Rule___eq__ ct_Rule___eq__ oc_Plan___init__ kV_Plan___init__ dc_Plan___init__ pm_Plan___init__ cd_Plan___init__ ct_Plan___init__ oc_Plan___eq__ kV_Plan___eq__ dc_Plan___eq__ pm_Plan___eq__ cd_Plan___eq__ ct_Plan___eq__ : Value}
    {tk_LETTERS tk_LONGEST_NAME tk_MOST_PARTS : Tok}
    {ac_RESERVED : Addr} {acd_RESERVED : Option Addr} {acn_RESERVED : Nat} {acs_RESERVED : Array (Option Value)} {act0_RESERVED act1_RESERVED act2_RESERVED act3_RESERVED act4_RESERVED act5_RESERVED : Tok}
    {dT_Yard___init__ de0_Yard___init__ : Addr} {dtd_Yard___init__ ded0_Yard___init__ : Option Addr} {dtn_Yard___init__ den0_Yard___init__ : Nat} {dts_Yard___init__ des0_Yard___init__ : Array (Option Value)}
    {kD_all_yards : Addr}
    (aC_Yard : PySem.W.nsIn K mainGlobals "Yard" = some (some (.ref C_Yard)))
    (aC_Rule : PySem.W.nsIn K mainGlobals "Rule" = some (some (.ref C_Rule)))
    (aC_Plan : PySem.W.nsIn K mainGlobals "Plan" = some (some (.ref C_Plan)))
    (a_check_parts : PySem.W.nsIn K mainGlobals "check_parts" = some (some (.ref f_check_parts)))
    (l_check_parts : K.lookup f_check_parts = some ⟨oc_check_parts, od_check_parts, .func (PySem.W.fnOf "check_parts" "check_parts" (defArgs s_check_parts) (defBody s_check_parts) (defScope s_check_parts) .none kV_check_parts dc_check_parts pm_check_parts an_check_parts cd_check_parts ct_check_parts), sl_check_parts⟩)
    (d_check_parts : PySem.W.codeIn K cd_check_parts "check_parts" = true)
    (k_check_parts : PySem.W.keepIn K (.ref f_check_parts) = true)
    (a_check_plans : PySem.W.nsIn K mainGlobals "check_plans" = some (some (.ref f_check_plans)))
    (l_check_plans : K.lookup f_check_plans = some ⟨oc_check_plans, od_check_plans, .func (PySem.W.fnOf "check_plans" "check_plans" (defArgs s_check_plans) (defBody s_check_plans) (defScope s_check_plans) .none kV_check_plans dc_check_plans pm_check_plans an_check_plans cd_check_plans ct_check_plans), sl_check_plans⟩)
    (d_check_plans : PySem.W.codeIn K cd_check_plans "check_plans" = true)
    (k_check_plans : PySem.W.keepIn K (.ref f_check_plans) = true)
    (a_names_in : PySem.W.nsIn K mainGlobals "names_in" = some (some (.ref f_names_in)))
    (l_names_in : K.lookup f_names_in = some ⟨oc_names_in, od_names_in, .func (PySem.W.fnOf "names_in" "names_in" (defArgs s_names_in) (defBody s_names_in) (defScope s_names_in) .none kV_names_in dc_names_in pm_names_in an_names_in cd_names_in ct_names_in), sl_names_in⟩)
    (d_names_in : PySem.W.codeIn K cd_names_in "names_in" = true)
    (k_names_in : PySem.W.keepIn K (.ref f_names_in) = true)
    (a_mask_of : PySem.W.nsIn K mainGlobals "mask_of" = some (some (.ref f_mask_of)))
    (l_mask_of : K.lookup f_mask_of = some ⟨oc_mask_of, od_mask_of, .func (PySem.W.fnOf "mask_of" "mask_of" (defArgs s_mask_of) (defBody s_mask_of) (defScope s_mask_of) .none kV_mask_of dc_mask_of pm_mask_of an_mask_of cd_mask_of ct_mask_of), sl_mask_of⟩)
    (d_mask_of : PySem.W.codeIn K cd_mask_of "mask_of" = true)
    (k_mask_of : PySem.W.keepIn K (.ref f_mask_of) = true)
    (a_names_of : PySem.W.nsIn K mainGlobals "names_of" = some (some (.ref f_names_of)))
    (l_names_of : K.lookup f_names_of = some ⟨oc_names_of, od_names_of, .func (PySem.W.fnOf "names_of" "names_of" (defArgs s_names_of) (defBody s_names_of) (defScope s_names_of) .none kV_names_of dc_names_of pm_names_of an_names_of cd_names_of ct_names_of), sl_names_of⟩)
    (d_names_of : PySem.W.codeIn K cd_names_of "names_of" = true)
    (k_names_of : PySem.W.keepIn K (.ref f_names_of) = true)
    (a_in_order : PySem.W.nsIn K mainGlobals "in_order" = some (some (.ref f_in_order)))
    (l_in_order : K.lookup f_in_order = some ⟨oc_in_order, od_in_order, .func (PySem.W.fnOf "in_order" "in_order" (defArgs s_in_order) (defBody s_in_order) (defScope s_in_order) .none kV_in_order dc_in_order pm_in_order an_in_order cd_in_order ct_in_order), sl_in_order⟩)
    (d_in_order : PySem.W.codeIn K cd_in_order "in_order" = true)
    (k_in_order : PySem.W.keepIn K (.ref f_in_order) = true)
    (a_least_masks : PySem.W.nsIn K mainGlobals "least_masks" = some (some (.ref f_least_masks)))
    (l_least_masks : K.lookup f_least_masks = some ⟨oc_least_masks, od_least_masks, .func (PySem.W.fnOf "least_masks" "least_masks" (defArgs s_least_masks) (defBody s_least_masks) (defScope s_least_masks) .none kV_least_masks dc_least_masks pm_least_masks an_least_masks cd_least_masks ct_least_masks), sl_least_masks⟩)
    (d_least_masks : PySem.W.codeIn K cd_least_masks "least_masks" = true)
    (k_least_masks : PySem.W.keepIn K (.ref f_least_masks) = true)
    (a_least_sets : PySem.W.nsIn K mainGlobals "least_sets" = some (some (.ref f_least_sets)))
    (l_least_sets : K.lookup f_least_sets = some ⟨oc_least_sets, od_least_sets, .func (PySem.W.fnOf "least_sets" "least_sets" (defArgs s_least_sets) (defBody s_least_sets) (defScope s_least_sets) .none kV_least_sets dc_least_sets pm_least_sets an_least_sets cd_least_sets ct_least_sets), sl_least_sets⟩)
    (d_least_sets : PySem.W.codeIn K cd_least_sets "least_sets" = true)
    (k_least_sets : PySem.W.keepIn K (.ref f_least_sets) = true)
    (a_support_table : PySem.W.nsIn K mainGlobals "support_table" = some (some (.ref f_support_table)))
    (l_support_table : K.lookup f_support_table = some ⟨oc_support_table, od_support_table, .func (PySem.W.fnOf "support_table" "support_table" (defArgs s_support_table) (defBody s_support_table) (defScope s_support_table) .none kV_support_table dc_support_table pm_support_table an_support_table cd_support_table ct_support_table), sl_support_table⟩)
    (d_support_table : PySem.W.codeIn K cd_support_table "support_table" = true)
    (k_support_table : PySem.W.keepIn K (.ref f_support_table) = true)
    (a_supported_in : PySem.W.nsIn K mainGlobals "supported_in" = some (some (.ref f_supported_in)))
    (l_supported_in : K.lookup f_supported_in = some ⟨oc_supported_in, od_supported_in, .func (PySem.W.fnOf "supported_in" "supported_in" (defArgs s_supported_in) (defBody s_supported_in) (defScope s_supported_in) .none kV_supported_in dc_supported_in pm_supported_in an_supported_in cd_supported_in ct_supported_in), sl_supported_in⟩)
    (d_supported_in : PySem.W.codeIn K cd_supported_in "supported_in" = true)
    (k_supported_in : PySem.W.keepIn K (.ref f_supported_in) = true)
    (a_falling_in : PySem.W.nsIn K mainGlobals "falling_in" = some (some (.ref f_falling_in)))
    (l_falling_in : K.lookup f_falling_in = some ⟨oc_falling_in, od_falling_in, .func (PySem.W.fnOf "falling_in" "falling_in" (defArgs s_falling_in) (defBody s_falling_in) (defScope s_falling_in) .none kV_falling_in dc_falling_in pm_falling_in an_falling_in cd_falling_in ct_falling_in), sl_falling_in⟩)
    (d_falling_in : PySem.W.codeIn K cd_falling_in "falling_in" = true)
    (k_falling_in : PySem.W.keepIn K (.ref f_falling_in) = true)
    (a_stands_in : PySem.W.nsIn K mainGlobals "stands_in" = some (some (.ref f_stands_in)))
    (l_stands_in : K.lookup f_stands_in = some ⟨oc_stands_in, od_stands_in, .func (PySem.W.fnOf "stands_in" "stands_in" (defArgs s_stands_in) (defBody s_stands_in) (defScope s_stands_in) .none kV_stands_in dc_stands_in pm_stands_in an_stands_in cd_stands_in ct_stands_in), sl_stands_in⟩)
    (d_stands_in : PySem.W.codeIn K cd_stands_in "stands_in" = true)
    (k_stands_in : PySem.W.keepIn K (.ref f_stands_in) = true)
    (a_rest_in : PySem.W.nsIn K mainGlobals "rest_in" = some (some (.ref f_rest_in)))
    (l_rest_in : K.lookup f_rest_in = some ⟨oc_rest_in, od_rest_in, .func (PySem.W.fnOf "rest_in" "rest_in" (defArgs s_rest_in) (defBody s_rest_in) (defScope s_rest_in) .none kV_rest_in dc_rest_in pm_rest_in an_rest_in cd_rest_in ct_rest_in), sl_rest_in⟩)
    (d_rest_in : PySem.W.codeIn K cd_rest_in "rest_in" = true)
    (k_rest_in : PySem.W.keepIn K (.ref f_rest_in) = true)
    (a_masks_in_order : PySem.W.nsIn K mainGlobals "masks_in_order" = some (some (.ref f_masks_in_order)))
    (l_masks_in_order : K.lookup f_masks_in_order = some ⟨oc_masks_in_order, od_masks_in_order, .func (PySem.W.fnOf "masks_in_order" "masks_in_order" (defArgs s_masks_in_order) (defBody s_masks_in_order) (defScope s_masks_in_order) .none kV_masks_in_order dc_masks_in_order pm_masks_in_order an_masks_in_order cd_masks_in_order ct_masks_in_order), sl_masks_in_order⟩)
    (d_masks_in_order : PySem.W.codeIn K cd_masks_in_order "masks_in_order" = true)
    (k_masks_in_order : PySem.W.keepIn K (.ref f_masks_in_order) = true)
    (a_yard_of : PySem.W.nsIn K mainGlobals "yard_of" = some (some (.ref f_yard_of)))
    (l_yard_of : K.lookup f_yard_of = some ⟨oc_yard_of, od_yard_of, .func (PySem.W.fnOf "yard_of" "yard_of" (defArgs s_yard_of) (defBody s_yard_of) (defScope s_yard_of) .none kV_yard_of dc_yard_of pm_yard_of an_yard_of cd_yard_of ct_yard_of), sl_yard_of⟩)
    (d_yard_of : PySem.W.codeIn K cd_yard_of "yard_of" = true)
    (k_yard_of : PySem.W.keepIn K (.ref f_yard_of) = true)
    (a_parts_mask : PySem.W.nsIn K mainGlobals "parts_mask" = some (some (.ref f_parts_mask)))
    (l_parts_mask : K.lookup f_parts_mask = some ⟨oc_parts_mask, od_parts_mask, .func (PySem.W.fnOf "parts_mask" "parts_mask" (defArgs s_parts_mask) (defBody s_parts_mask) (defScope s_parts_mask) .none kV_parts_mask dc_parts_mask pm_parts_mask an_parts_mask cd_parts_mask ct_parts_mask), sl_parts_mask⟩)
    (d_parts_mask : PySem.W.codeIn K cd_parts_mask "parts_mask" = true)
    (k_parts_mask : PySem.W.keepIn K (.ref f_parts_mask) = true)
    (a_all_yards : PySem.W.nsIn K mainGlobals "all_yards" = some (some (.ref f_all_yards)))
    (l_all_yards : K.lookup f_all_yards = some ⟨oc_all_yards, od_all_yards, .func (PySem.W.fnOf "all_yards" "all_yards" (defArgs s_all_yards) (defBody s_all_yards) (defScope s_all_yards) .none (.ref kD_all_yards) dc_all_yards pm_all_yards an_all_yards cd_all_yards ct_all_yards), sl_all_yards⟩)
    (d_all_yards : PySem.W.codeIn K cd_all_yards "all_yards" = true)
    (k_all_yards : PySem.W.keepIn K (.ref f_all_yards) = true)
    (a_is_name : PySem.W.nsIn K mainGlobals "is_name" = some (some (.ref f_is_name)))
    (l_is_name : K.lookup f_is_name = some ⟨oc_is_name, od_is_name, .func (PySem.W.fnOf "is_name" "is_name" (defArgs s_is_name) (defBody s_is_name) (defScope s_is_name) .none kV_is_name dc_is_name pm_is_name an_is_name cd_is_name ct_is_name), sl_is_name⟩)
    (d_is_name : PySem.W.codeIn K cd_is_name "is_name" = true)
    (k_is_name : PySem.W.keepIn K (.ref f_is_name) = true)
    (a_check_count : PySem.W.nsIn K mainGlobals "check_count" = some (some (.ref f_check_count)))
    (l_check_count : K.lookup f_check_count = some ⟨oc_check_count, od_check_count, .func (PySem.W.fnOf "check_count" "check_count" (defArgs s_check_count) (defBody s_check_count) (defScope s_check_count) .none kV_check_count dc_check_count pm_check_count an_check_count cd_check_count ct_check_count), sl_check_count⟩)
    (d_check_count : PySem.W.codeIn K cd_check_count "check_count" = true)
    (k_check_count : PySem.W.keepIn K (.ref f_check_count) = true)
    (a_check_names : PySem.W.nsIn K mainGlobals "check_names" = some (some (.ref f_check_names)))
    (l_check_names : K.lookup f_check_names = some ⟨oc_check_names, od_check_names, .func (PySem.W.fnOf "check_names" "check_names" (defArgs s_check_names) (defBody s_check_names) (defScope s_check_names) .none kV_check_names dc_check_names pm_check_names an_check_names cd_check_names ct_check_names), sl_check_names⟩)
    (d_check_names : PySem.W.codeIn K cd_check_names "check_names" = true)
    (k_check_names : PySem.W.keepIn K (.ref f_check_names) = true)
    (a_check_rules : PySem.W.nsIn K mainGlobals "check_rules" = some (some (.ref f_check_rules)))
    (l_check_rules : K.lookup f_check_rules = some ⟨oc_check_rules, od_check_rules, .func (PySem.W.fnOf "check_rules" "check_rules" (defArgs s_check_rules) (defBody s_check_rules) (defScope s_check_rules) .none kV_check_rules dc_check_rules pm_check_rules an_check_rules cd_check_rules ct_check_rules), sl_check_rules⟩)
    (d_check_rules : PySem.W.codeIn K cd_check_rules "check_rules" = true)
    (k_check_rules : PySem.W.keepIn K (.ref f_check_rules) = true)
    (a__law_deal : PySem.W.nsIn K mainGlobals "_law_deal" = some (some (.ref f__law_deal)))
    (l__law_deal : K.lookup f__law_deal = some ⟨oc__law_deal, od__law_deal, .func (PySem.W.fnOf "_law_deal" "_law_deal" (defArgs s__law_deal) (defBody s__law_deal) (defScope s__law_deal) .none kV__law_deal dc__law_deal pm__law_deal an__law_deal cd__law_deal ct__law_deal), sl__law_deal⟩)
    (d__law_deal : PySem.W.codeIn K cd__law_deal "_law_deal" = true)
    (k__law_deal : PySem.W.keepIn K (.ref f__law_deal) = true)
    (a__law_draw : PySem.W.nsIn K mainGlobals "_law_draw" = some (some (.ref f__law_draw)))
    (l__law_draw : K.lookup f__law_draw = some ⟨oc__law_draw, od__law_draw, .func (PySem.W.fnOf "_law_draw" "_law_draw" (defArgs s__law_draw) (defBody s__law_draw) (defScope s__law_draw) .none kV__law_draw dc__law_draw pm__law_draw an__law_draw cd__law_draw ct__law_draw), sl__law_draw⟩)
    (d__law_draw : PySem.W.codeIn K cd__law_draw "_law_draw" = true)
    (k__law_draw : PySem.W.keepIn K (.ref f__law_draw) = true)
    (a__law_mixed : PySem.W.nsIn K mainGlobals "_law_mixed" = some (some (.ref f__law_mixed)))
    (l__law_mixed : K.lookup f__law_mixed = some ⟨oc__law_mixed, od__law_mixed, .func (PySem.W.fnOf "_law_mixed" "_law_mixed" (defArgs s__law_mixed) (defBody s__law_mixed) (defScope s__law_mixed) .none kV__law_mixed dc__law_mixed pm__law_mixed an__law_mixed cd__law_mixed ct__law_mixed), sl__law_mixed⟩)
    (d__law_mixed : PySem.W.codeIn K cd__law_mixed "_law_mixed" = true)
    (k__law_mixed : PySem.W.keepIn K (.ref f__law_mixed) = true)
    (a__law_some : PySem.W.nsIn K mainGlobals "_law_some" = some (some (.ref f__law_some)))
    (l__law_some : K.lookup f__law_some = some ⟨oc__law_some, od__law_some, .func (PySem.W.fnOf "_law_some" "_law_some" (defArgs s__law_some) (defBody s__law_some) (defScope s__law_some) .none kV__law_some dc__law_some pm__law_some an__law_some cd__law_some ct__law_some), sl__law_some⟩)
    (d__law_some : PySem.W.codeIn K cd__law_some "_law_some" = true)
    (k__law_some : PySem.W.keepIn K (.ref f__law_some) = true)
    (a__law_any_word : PySem.W.nsIn K mainGlobals "_law_any_word" = some (some (.ref f__law_any_word)))
    (l__law_any_word : K.lookup f__law_any_word = some ⟨oc__law_any_word, od__law_any_word, .func (PySem.W.fnOf "_law_any_word" "_law_any_word" (defArgs s__law_any_word) (defBody s__law_any_word) (defScope s__law_any_word) .none kV__law_any_word dc__law_any_word pm__law_any_word an__law_any_word cd__law_any_word ct__law_any_word), sl__law_any_word⟩)
    (d__law_any_word : PySem.W.codeIn K cd__law_any_word "_law_any_word" = true)
    (k__law_any_word : PySem.W.keepIn K (.ref f__law_any_word) = true)
    (a__law_words : PySem.W.nsIn K mainGlobals "_law_words" = some (some (.ref f__law_words)))
    (l__law_words : K.lookup f__law_words = some ⟨oc__law_words, od__law_words, .func (PySem.W.fnOf "_law_words" "_law_words" (defArgs s__law_words) (defBody s__law_words) (defScope s__law_words) .none kV__law_words dc__law_words pm__law_words an__law_words cd__law_words ct__law_words), sl__law_words⟩)
    (d__law_words : PySem.W.codeIn K cd__law_words "_law_words" = true)
    (k__law_words : PySem.W.keepIn K (.ref f__law_words) = true)
    (a__law_sets : PySem.W.nsIn K mainGlobals "_law_sets" = some (some (.ref f__law_sets)))
    (l__law_sets : K.lookup f__law_sets = some ⟨oc__law_sets, od__law_sets, .func (PySem.W.fnOf "_law_sets" "_law_sets" (defArgs s__law_sets) (defBody s__law_sets) (defScope s__law_sets) .none kV__law_sets dc__law_sets pm__law_sets an__law_sets cd__law_sets ct__law_sets), sl__law_sets⟩)
    (d__law_sets : PySem.W.codeIn K cd__law_sets "_law_sets" = true)
    (k__law_sets : PySem.W.keepIn K (.ref f__law_sets) = true)
    (a__law_rows : PySem.W.nsIn K mainGlobals "_law_rows" = some (some (.ref f__law_rows)))
    (l__law_rows : K.lookup f__law_rows = some ⟨oc__law_rows, od__law_rows, .func (PySem.W.fnOf "_law_rows" "_law_rows" (defArgs s__law_rows) (defBody s__law_rows) (defScope s__law_rows) .none kV__law_rows dc__law_rows pm__law_rows an__law_rows cd__law_rows ct__law_rows), sl__law_rows⟩)
    (d__law_rows : PySem.W.codeIn K cd__law_rows "_law_rows" = true)
    (k__law_rows : PySem.W.keepIn K (.ref f__law_rows) = true)
    (a__law_plan : PySem.W.nsIn K mainGlobals "_law_plan" = some (some (.ref f__law_plan)))
    (l__law_plan : K.lookup f__law_plan = some ⟨oc__law_plan, od__law_plan, .func (PySem.W.fnOf "_law_plan" "_law_plan" (defArgs s__law_plan) (defBody s__law_plan) (defScope s__law_plan) .none kV__law_plan dc__law_plan pm__law_plan an__law_plan cd__law_plan ct__law_plan), sl__law_plan⟩)
    (d__law_plan : PySem.W.codeIn K cd__law_plan "_law_plan" = true)
    (k__law_plan : PySem.W.keepIn K (.ref f__law_plan) = true)
    (a__law_right : PySem.W.nsIn K mainGlobals "_law_right" = some (some (.ref f__law_right)))
    (l__law_right : K.lookup f__law_right = some ⟨oc__law_right, od__law_right, .func (PySem.W.fnOf "_law_right" "_law_right" (defArgs s__law_right) (defBody s__law_right) (defScope s__law_right) .none kV__law_right dc__law_right pm__law_right an__law_right cd__law_right ct__law_right), sl__law_right⟩)
    (d__law_right : PySem.W.codeIn K cd__law_right "_law_right" = true)
    (k__law_right : PySem.W.keepIn K (.ref f__law_right) = true)
    (a_law : PySem.W.nsIn K mainGlobals "law" = some (some (.ref f_law)))
    (l_law : K.lookup f_law = some ⟨oc_law, od_law, .func (PySem.W.fnOf "law" "law" (defArgs s_law) (defBody s_law) (defScope s_law) .none kV_law dc_law pm_law an_law cd_law ct_law), sl_law⟩)
    (d_law : PySem.W.codeIn K cd_law "law" = true)
    (k_law : PySem.W.keepIn K (.ref f_law) = true)
    (a_Yard___init__ : PySem.W.findIn K (.ref C_Yard) "__init__" = some (some (.ref f_Yard___init__)))
    (fn_Yard___init__ : PySem.W.isFn K (.ref f_Yard___init__) = true)
    (fi_Yard___init__ : PySem.W.fnIn K f_Yard___init__ = true)
    (l_Yard___init__ : K.lookup f_Yard___init__ = some ⟨oc_Yard___init__, od_Yard___init__, .func (PySem.W.fnOf "__init__" "Yard.__init__" (defArgs s_Yard___init__) (defBody s_Yard___init__) (defScope s_Yard___init__) (.ref dT_Yard___init__) kV_Yard___init__ dc_Yard___init__ pm_Yard___init__ an_Yard___init__ cd_Yard___init__ ct_Yard___init__), sl_Yard___init__⟩)
    (d_Yard___init__ : PySem.W.codeIn K cd_Yard___init__ "Yard.__init__" = true)
    (k_Yard___init__ : PySem.W.keepIn K (.ref f_Yard___init__) = true)
    (a_Yard_stands : PySem.W.findIn K (.ref C_Yard) "stands" = some (some (.ref pp_Yard_stands)))
    (rc_Yard_stands : PySem.W.recIn K pp_Yard_stands "property" = some (.ref f_Yard_stands :: re_Yard_stands))
    (gt_Yard_stands : PySem.W.specialIn K (.ref pp_Yard_stands) "__get__" = some (some (.builtin "property.__get__")))
    (tk_Yard_stands : PySem.W.takesIn K (.ref pp_Yard_stands) = some true)
    (l_Yard_stands : K.lookup f_Yard_stands = some ⟨oc_Yard_stands, od_Yard_stands, .func (PySem.W.fnOf "stands" "Yard.stands" (defArgs s_Yard_stands) (defBody s_Yard_stands) (defScope s_Yard_stands) .none kV_Yard_stands dc_Yard_stands pm_Yard_stands an_Yard_stands cd_Yard_stands ct_Yard_stands), sl_Yard_stands⟩)
    (d_Yard_stands : PySem.W.codeIn K cd_Yard_stands "Yard.stands" = true)
    (k_Yard_stands : PySem.W.keepIn K (.ref f_Yard_stands) = true)
    (a_Yard_rest : PySem.W.findIn K (.ref C_Yard) "rest" = some (some (.ref pp_Yard_rest)))
    (rc_Yard_rest : PySem.W.recIn K pp_Yard_rest "property" = some (.ref f_Yard_rest :: re_Yard_rest))
    (gt_Yard_rest : PySem.W.specialIn K (.ref pp_Yard_rest) "__get__" = some (some (.builtin "property.__get__")))
    (tk_Yard_rest : PySem.W.takesIn K (.ref pp_Yard_rest) = some true)
    (l_Yard_rest : K.lookup f_Yard_rest = some ⟨oc_Yard_rest, od_Yard_rest, .func (PySem.W.fnOf "rest" "Yard.rest" (defArgs s_Yard_rest) (defBody s_Yard_rest) (defScope s_Yard_rest) .none kV_Yard_rest dc_Yard_rest pm_Yard_rest an_Yard_rest cd_Yard_rest ct_Yard_rest), sl_Yard_rest⟩)
    (d_Yard_rest : PySem.W.codeIn K cd_Yard_rest "Yard.rest" = true)
    (k_Yard_rest : PySem.W.keepIn K (.ref f_Yard_rest) = true)
    (a_Yard_stands_under : PySem.W.findIn K (.ref C_Yard) "stands_under" = some (some (.ref f_Yard_stands_under)))
    (fn_Yard_stands_under : PySem.W.isFn K (.ref f_Yard_stands_under) = true)
    (fi_Yard_stands_under : PySem.W.fnIn K f_Yard_stands_under = true)
    (l_Yard_stands_under : K.lookup f_Yard_stands_under = some ⟨oc_Yard_stands_under, od_Yard_stands_under, .func (PySem.W.fnOf "stands_under" "Yard.stands_under" (defArgs s_Yard_stands_under) (defBody s_Yard_stands_under) (defScope s_Yard_stands_under) .none kV_Yard_stands_under dc_Yard_stands_under pm_Yard_stands_under an_Yard_stands_under cd_Yard_stands_under ct_Yard_stands_under), sl_Yard_stands_under⟩)
    (d_Yard_stands_under : PySem.W.codeIn K cd_Yard_stands_under "Yard.stands_under" = true)
    (k_Yard_stands_under : PySem.W.keepIn K (.ref f_Yard_stands_under) = true)
    (a_Yard_rest_under : PySem.W.findIn K (.ref C_Yard) "rest_under" = some (some (.ref f_Yard_rest_under)))
    (fn_Yard_rest_under : PySem.W.isFn K (.ref f_Yard_rest_under) = true)
    (fi_Yard_rest_under : PySem.W.fnIn K f_Yard_rest_under = true)
    (l_Yard_rest_under : K.lookup f_Yard_rest_under = some ⟨oc_Yard_rest_under, od_Yard_rest_under, .func (PySem.W.fnOf "rest_under" "Yard.rest_under" (defArgs s_Yard_rest_under) (defBody s_Yard_rest_under) (defScope s_Yard_rest_under) .none kV_Yard_rest_under dc_Yard_rest_under pm_Yard_rest_under an_Yard_rest_under cd_Yard_rest_under ct_Yard_rest_under), sl_Yard_rest_under⟩)
    (d_Yard_rest_under : PySem.W.codeIn K cd_Yard_rest_under "Yard.rest_under" = true)
    (k_Yard_rest_under : PySem.W.keepIn K (.ref f_Yard_rest_under) = true)
    (a_Yard___or__ : PySem.W.findIn K (.ref C_Yard) "__or__" = some (some (.ref f_Yard___or__)))
    (fn_Yard___or__ : PySem.W.isFn K (.ref f_Yard___or__) = true)
    (fi_Yard___or__ : PySem.W.fnIn K f_Yard___or__ = true)
    (l_Yard___or__ : K.lookup f_Yard___or__ = some ⟨oc_Yard___or__, od_Yard___or__, .func (PySem.W.fnOf "__or__" "Yard.__or__" (defArgs s_Yard___or__) (defBody s_Yard___or__) (defScope s_Yard___or__) .none kV_Yard___or__ dc_Yard___or__ pm_Yard___or__ an_Yard___or__ cd_Yard___or__ ct_Yard___or__), sl_Yard___or__⟩)
    (d_Yard___or__ : PySem.W.codeIn K cd_Yard___or__ "Yard.__or__" = true)
    (k_Yard___or__ : PySem.W.keepIn K (.ref f_Yard___or__) = true)
    (a_Yard___sub__ : PySem.W.findIn K (.ref C_Yard) "__sub__" = some (some (.ref f_Yard___sub__)))
    (fn_Yard___sub__ : PySem.W.isFn K (.ref f_Yard___sub__) = true)
    (fi_Yard___sub__ : PySem.W.fnIn K f_Yard___sub__ = true)
    (l_Yard___sub__ : K.lookup f_Yard___sub__ = some ⟨oc_Yard___sub__, od_Yard___sub__, .func (PySem.W.fnOf "__sub__" "Yard.__sub__" (defArgs s_Yard___sub__) (defBody s_Yard___sub__) (defScope s_Yard___sub__) .none kV_Yard___sub__ dc_Yard___sub__ pm_Yard___sub__ an_Yard___sub__ cd_Yard___sub__ ct_Yard___sub__), sl_Yard___sub__⟩)
    (d_Yard___sub__ : PySem.W.codeIn K cd_Yard___sub__ "Yard.__sub__" = true)
    (k_Yard___sub__ : PySem.W.keepIn K (.ref f_Yard___sub__) = true)
    (a_Yard___eq__ : PySem.W.findIn K (.ref C_Yard) "__eq__" = some (some (.ref f_Yard___eq__)))
    (fn_Yard___eq__ : PySem.W.isFn K (.ref f_Yard___eq__) = true)
    (fi_Yard___eq__ : PySem.W.fnIn K f_Yard___eq__ = true)
    (l_Yard___eq__ : K.lookup f_Yard___eq__ = some ⟨oc_Yard___eq__, od_Yard___eq__, .func (PySem.W.fnOf "__eq__" "Yard.__eq__" (defArgs s_Yard___eq__) (defBody s_Yard___eq__) (defScope s_Yard___eq__) .none kV_Yard___eq__ dc_Yard___eq__ pm_Yard___eq__ an_Yard___eq__ cd_Yard___eq__ ct_Yard___eq__), sl_Yard___eq__⟩)
    (d_Yard___eq__ : PySem.W.codeIn K cd_Yard___eq__ "Yard.__eq__" = true)
    (k_Yard___eq__ : PySem.W.keepIn K (.ref f_Yard___eq__) = true)
    (a_Rule___init__ : PySem.W.findIn K (.ref C_Rule) "__init__" = some (some (.ref f_Rule___init__)))
    (fn_Rule___init__ : PySem.W.isFn K (.ref f_Rule___init__) = true)
    (fi_Rule___init__ : PySem.W.fnIn K f_Rule___init__ = true)
    (l_Rule___init__ : K.lookup f_Rule___init__ = some ⟨oc_Rule___init__, od_Rule___init__, .func (PySem.W.fnOf "__init__" "Rule.__init__" (defArgs s_Rule___init__) (defBody s_Rule___init__) (defScope s_Rule___init__) .none kV_Rule___init__ dc_Rule___init__ pm_Rule___init__ an_Rule___init__ cd_Rule___init__ ct_Rule___init__), sl_Rule___init__⟩)
    (d_Rule___init__ : PySem.W.codeIn K cd_Rule___init__ "Rule.__init__" = true)
    (k_Rule___init__ : PySem.W.keepIn K (.ref f_Rule___init__) = true)
    (a_Rule_of_sets : PySem.W.findCls K (.ref C_Rule) (.type "type") "of_sets" = some (.get (.builtin "classmethod.__get__") (.ref pc_Rule_of_sets) .none (.ref C_Rule)))
    (rc_Rule_of_sets : PySem.W.recIn K pc_Rule_of_sets "classmethod" = some (.ref f_Rule_of_sets :: re_Rule_of_sets))
    (fi_Rule_of_sets : PySem.W.fnIn K f_Rule_of_sets = true)
    (l_Rule_of_sets : K.lookup f_Rule_of_sets = some ⟨oc_Rule_of_sets, od_Rule_of_sets, .func (PySem.W.fnOf "of_sets" "Rule.of_sets" (defArgs s_Rule_of_sets) (defBody s_Rule_of_sets) (defScope s_Rule_of_sets) .none kV_Rule_of_sets dc_Rule_of_sets pm_Rule_of_sets an_Rule_of_sets cd_Rule_of_sets ct_Rule_of_sets), sl_Rule_of_sets⟩)
    (d_Rule_of_sets : PySem.W.codeIn K cd_Rule_of_sets "Rule.of_sets" = true)
    (k_Rule_of_sets : PySem.W.keepIn K (.ref f_Rule_of_sets) = true)
    (a_Rule___eq__ : PySem.W.findIn K (.ref C_Rule) "__eq__" = some (some (.ref f_Rule___eq__)))
    (fn_Rule___eq__ : PySem.W.isFn K (.ref f_Rule___eq__) = true)
    (fi_Rule___eq__ : PySem.W.fnIn K f_Rule___eq__ = true)
    (l_Rule___eq__ : K.lookup f_Rule___eq__ = some ⟨oc_Rule___eq__, od_Rule___eq__, .func (PySem.W.fnOf "__eq__" "Rule.__eq__" (defArgs s_Rule___eq__) (defBody s_Rule___eq__) (defScope s_Rule___eq__) .none kV_Rule___eq__ dc_Rule___eq__ pm_Rule___eq__ an_Rule___eq__ cd_Rule___eq__ ct_Rule___eq__), sl_Rule___eq__⟩)
    (d_Rule___eq__ : PySem.W.codeIn K cd_Rule___eq__ "Rule.__eq__" = true)
    (k_Rule___eq__ : PySem.W.keepIn K (.ref f_Rule___eq__) = true)
    (a_Plan___init__ : PySem.W.findIn K (.ref C_Plan) "__init__" = some (some (.ref f_Plan___init__)))
    (fn_Plan___init__ : PySem.W.isFn K (.ref f_Plan___init__) = true)
    (fi_Plan___init__ : PySem.W.fnIn K f_Plan___init__ = true)
    (l_Plan___init__ : K.lookup f_Plan___init__ = some ⟨oc_Plan___init__, od_Plan___init__, .func (PySem.W.fnOf "__init__" "Plan.__init__" (defArgs s_Plan___init__) (defBody s_Plan___init__) (defScope s_Plan___init__) .none kV_Plan___init__ dc_Plan___init__ pm_Plan___init__ an_Plan___init__ cd_Plan___init__ ct_Plan___init__), sl_Plan___init__⟩)
    (d_Plan___init__ : PySem.W.codeIn K cd_Plan___init__ "Plan.__init__" = true)
    (k_Plan___init__ : PySem.W.keepIn K (.ref f_Plan___init__) = true)
    (a_Plan___eq__ : PySem.W.findIn K (.ref C_Plan) "__eq__" = some (some (.ref f_Plan___eq__)))
    (fn_Plan___eq__ : PySem.W.isFn K (.ref f_Plan___eq__) = true)
    (fi_Plan___eq__ : PySem.W.fnIn K f_Plan___eq__ = true)
    (l_Plan___eq__ : K.lookup f_Plan___eq__ = some ⟨oc_Plan___eq__, od_Plan___eq__, .func (PySem.W.fnOf "__eq__" "Plan.__eq__" (defArgs s_Plan___eq__) (defBody s_Plan___eq__) (defScope s_Plan___eq__) .none kV_Plan___eq__ dc_Plan___eq__ pm_Plan___eq__ an_Plan___eq__ cd_Plan___eq__ ct_Plan___eq__), sl_Plan___eq__⟩)
    (d_Plan___eq__ : PySem.W.codeIn K cd_Plan___eq__ "Plan.__eq__" = true)
    (k_Plan___eq__ : PySem.W.keepIn K (.ref f_Plan___eq__) = true)
    (pg_Yard : PySem.W.plainGet K C_Yard Str.empty = true)
    (hd_Yard : PySem.W.hasDictIn K C_Yard = true)
    (po_Yard : PySem.W.plainOver K C_Yard = true)
    (sa_Yard : PySem.W.findIn K (.ref C_Yard) "__setattr__" = some (some (.builtin "object.__setattr__")))
    (mk_Yard : PySem.W.makesIn K C_Yard = true)
    (kc_Yard : PySem.W.keepIn K (.ref C_Yard) = true)
    (rd_Yard : PySem.W.readsIn K C_Yard (.type "type") = true)
    (ga_Yard : PySem.W.specialIn K (.ref C_Yard) "__getattribute__" = some (some (.builtin "type.__getattribute__")))
    (ca_Yard : PySem.W.findIn K (.ref C_Yard) "__class__" = some (some (.builtin "object.__class__")))
    (mo_Yard : PySem.W.mroIn K C_Yard (.type "object") = some true)
    (pg_Rule : PySem.W.plainGet K C_Rule Str.empty = true)
    (hd_Rule : PySem.W.hasDictIn K C_Rule = true)
    (po_Rule : PySem.W.plainOver K C_Rule = true)
    (sa_Rule : PySem.W.findIn K (.ref C_Rule) "__setattr__" = some (some (.builtin "object.__setattr__")))
    (mk_Rule : PySem.W.makesIn K C_Rule = true)
    (kc_Rule : PySem.W.keepIn K (.ref C_Rule) = true)
    (rd_Rule : PySem.W.readsIn K C_Rule (.type "type") = true)
    (ga_Rule : PySem.W.specialIn K (.ref C_Rule) "__getattribute__" = some (some (.builtin "type.__getattribute__")))
    (ca_Rule : PySem.W.findIn K (.ref C_Rule) "__class__" = some (some (.builtin "object.__class__")))
    (mo_Rule : PySem.W.mroIn K C_Rule (.type "object") = some true)
    (pg_Plan : PySem.W.plainGet K C_Plan Str.empty = true)
    (hd_Plan : PySem.W.hasDictIn K C_Plan = true)
    (po_Plan : PySem.W.plainOver K C_Plan = true)
    (sa_Plan : PySem.W.findIn K (.ref C_Plan) "__setattr__" = some (some (.builtin "object.__setattr__")))
    (mk_Plan : PySem.W.makesIn K C_Plan = true)
    (kc_Plan : PySem.W.keepIn K (.ref C_Plan) = true)
    (rd_Plan : PySem.W.readsIn K C_Plan (.type "type") = true)
    (ga_Plan : PySem.W.specialIn K (.ref C_Plan) "__getattribute__" = some (some (.builtin "type.__getattribute__")))
    (ca_Plan : PySem.W.findIn K (.ref C_Plan) "__class__" = some (some (.builtin "object.__class__")))
    (mo_Plan : PySem.W.mroIn K C_Plan (.type "object") = some true)
    (cg : PySem.W.specialIn K (.builtin "object.__class__") "__get__" = some (some (.builtin "getset_descriptor.__get__")))
    (ct : PySem.W.takesIn K (.builtin "object.__class__") = some true)
    (na_Plan__rules : PySem.W.findIn K (.ref C_Plan) "_rules" = some none)
    (na_Plan_names : PySem.W.findIn K (.ref C_Plan) "names" = some none)
    (na_Plan_support : PySem.W.findIn K (.ref C_Plan) "support" = some none)
    (na_Rule_least : PySem.W.findIn K (.ref C_Rule) "least" = some none)
    (na_Rule_names : PySem.W.findIn K (.ref C_Rule) "names" = some none)
    (na_Yard_mask : PySem.W.findIn K (.ref C_Yard) "mask" = some none)
    (na_Yard_parts : PySem.W.findIn K (.ref C_Yard) "parts" = some none)
    (na_Yard_plan : PySem.W.findIn K (.ref C_Yard) "plan" = some none)
    (sf_Yard : PySem.W.selfFirst K C_Yard = true)
    (nq_Plan : neIn K C_Plan f_Plan___eq__ = true)
    (nq_Yard : neIn K C_Yard f_Yard___eq__ = true)
    (dt_Yard___init__ : K.lookup dT_Yard___init__ = some ⟨.type "tuple", dtd_Yard___init__, .seq #[.ref de0_Yard___init__] dtn_Yard___init__, dts_Yard___init__⟩)
    (le0_Yard___init__ : K.lookup de0_Yard___init__ = some ⟨.type "tuple", ded0_Yard___init__, .seq #[] den0_Yard___init__, des0_Yard___init__⟩)
    (kq0_all_yards : PySem.W.nsIn K kD_all_yards "standing" = some (some (.bool true)))
    (c_LETTERS : PySem.W.nsIn K mainGlobals "LETTERS" = some (some (.str "abcdefghijklmnopqrstuvwxyz" tk_LETTERS)))
    (c_LONGEST_NAME : PySem.W.nsIn K mainGlobals "LONGEST_NAME" = some (some (.int 6 tk_LONGEST_NAME)))
    (c_MOST_PARTS : PySem.W.nsIn K mainGlobals "MOST_PARTS" = some (some (.int 8 tk_MOST_PARTS)))
    (c_RESERVED : PySem.W.nsIn K mainGlobals "RESERVED" = some (some (.ref ac_RESERVED)))
    (lt_RESERVED : K.lookup ac_RESERVED = some ⟨.type "tuple", acd_RESERVED, .seq #[.str "all" act0_RESERVED, .str "any" act1_RESERVED, .str "of" act2_RESERVED, .str "always" act3_RESERVED, .str "never" act4_RESERVED, .str "none" act5_RESERVED] acn_RESERVED, acs_RESERVED⟩)
    (z_all : PySem.W.nsIn K mainGlobals "all" = some none)
    (z_any : PySem.W.nsIn K mainGlobals "any" = some none)
    (z_enumerate : PySem.W.nsIn K mainGlobals "enumerate" = some none)
    (z_int : PySem.W.nsIn K mainGlobals "int" = some none)
    (z_isinstance : PySem.W.nsIn K mainGlobals "isinstance" = some none)
    (z_len : PySem.W.nsIn K mainGlobals "len" = some none)
    (z_list : PySem.W.nsIn K mainGlobals "list" = some none)
    (z_max : PySem.W.nsIn K mainGlobals "max" = some none)
    (z_range : PySem.W.nsIn K mainGlobals "range" = some none)
    (z_reversed : PySem.W.nsIn K mainGlobals "reversed" = some none)
    (z_set : PySem.W.nsIn K mainGlobals "set" = some none)
    (z_sorted : PySem.W.nsIn K mainGlobals "sorted" = some none)
    (z_sum : PySem.W.nsIn K mainGlobals "sum" = some none)
    (z_tuple : PySem.W.nsIn K mainGlobals "tuple" = some none)
    :
    ∃ fd : FuncData, (∀ (s : Shared) (v : Value), BindsTo s fd ⟨[v], []⟩ [("_law_script", v)]) ∧ ∀ base : Heap, K.In base → base.Ns mainGlobals mg → FnG P w K mg base 10 fa fd ["_law_script"] (spLaw K) := by
  have e := hfa.symm.trans (PySem.W.mg_of X G a_law)
  cases e
  have F_check_parts := fun_mk (st := s_check_parts) l_check_parts d_check_parts k_check_parts
  have b_check_parts := F_check_parts.binds (ps := ["plan", "names"]) fun _ _ _ _ _ _ us hl => match us, hl with | [_, _], _ => rfl
  have F_check_plans := fun_mk (st := s_check_plans) l_check_plans d_check_plans k_check_plans
  have b_check_plans := F_check_plans.binds (ps := ["yard", "other"]) fun _ _ _ _ _ _ us hl => match us, hl with | [_, _], _ => rfl
  have F_names_in := fun_mk (st := s_names_in) l_names_in d_names_in k_names_in
  have b_names_in := F_names_in.binds (ps := ["sets"]) fun _ _ _ _ _ _ us hl => match us, hl with | [_], _ => rfl
  have F_mask_of := fun_mk (st := s_mask_of) l_mask_of d_mask_of k_mask_of
  have b_mask_of := F_mask_of.binds (ps := ["one", "names"]) fun _ _ _ _ _ _ us hl => match us, hl with | [_, _], _ => rfl
  have F_names_of := fun_mk (st := s_names_of) l_names_of d_names_of k_names_of
  have b_names_of := F_names_of.binds (ps := ["mask", "names"]) fun _ _ _ _ _ _ us hl => match us, hl with | [_, _], _ => rfl
  have F_in_order := fun_mk (st := s_in_order) l_in_order d_in_order k_in_order
  have b_in_order := F_in_order.binds (ps := ["masks", "names"]) fun _ _ _ _ _ _ us hl => match us, hl with | [_, _], _ => rfl
  have F_least_masks := fun_mk (st := s_least_masks) l_least_masks d_least_masks k_least_masks
  have b_least_masks := F_least_masks.binds (ps := ["masks"]) fun _ _ _ _ _ _ us hl => match us, hl with | [_], _ => rfl
  have F_least_sets := fun_mk (st := s_least_sets) l_least_sets d_least_sets k_least_sets
  have b_least_sets := F_least_sets.binds (ps := ["sets"]) fun _ _ _ _ _ _ us hl => match us, hl with | [_], _ => rfl
  have F_support_table := fun_mk (st := s_support_table) l_support_table d_support_table k_support_table
  have b_support_table := F_support_table.binds (ps := ["names", "rules"]) fun _ _ _ _ _ _ us hl => match us, hl with | [_, _], _ => rfl
  have F_supported_in := fun_mk (st := s_supported_in) l_supported_in d_supported_in k_supported_in
  have b_supported_in := F_supported_in.binds (ps := ["plan", "parts", "props"]) fun _ _ _ _ _ _ us hl => match us, hl with | [_, _, _], _ => rfl
  have F_falling_in := fun_mk (st := s_falling_in) l_falling_in d_falling_in k_falling_in
  have b_falling_in := F_falling_in.binds (ps := ["plan", "parts", "props"]) fun _ _ _ _ _ _ us hl => match us, hl with | [_, _, _], _ => rfl
  have F_stands_in := fun_mk (st := s_stands_in) l_stands_in d_stands_in k_stands_in
  have b_stands_in := F_stands_in.binds (ps := ["plan", "parts", "props"]) fun _ _ _ _ _ _ us hl => match us, hl with | [_, _, _], _ => rfl
  have F_rest_in := fun_mk (st := s_rest_in) l_rest_in d_rest_in k_rest_in
  have b_rest_in := F_rest_in.binds (ps := ["plan", "parts", "props"]) fun _ _ _ _ _ _ us hl => match us, hl with | [_, _, _], _ => rfl
  have F_masks_in_order := fun_mk (st := s_masks_in_order) l_masks_in_order d_masks_in_order k_masks_in_order
  have b_masks_in_order := F_masks_in_order.binds (ps := ["many"]) fun _ _ _ _ _ _ us hl => match us, hl with | [_], _ => rfl
  have F_yard_of := fun_mk (st := s_yard_of) l_yard_of d_yard_of k_yard_of
  have b_yard_of := F_yard_of.binds (ps := ["plan", "mask"]) fun _ _ _ _ _ _ us hl => match us, hl with | [_, _], _ => rfl
  have F_parts_mask := fun_mk (st := s_parts_mask) l_parts_mask d_parts_mask k_parts_mask
  have b_parts_mask := F_parts_mask.binds (ps := ["plan", "names"]) fun _ _ _ _ _ _ us hl => match us, hl with | [_, _], _ => rfl
  have F_all_yards := funV_mk (st := s_all_yards) l_all_yards d_all_yards
  have D_all_yards : FunD K "all_yards" "all_yards" (defArgs s_all_yards) (defBody s_all_yards) (defScope s_all_yards) [] [("standing", V.bl true)] f_all_yards _ := ⟨⟨_, _, _, _, _, _, _, _, _, _, rfl, l_all_yards, d_all_yards, .inl ⟨rfl, rfl⟩, .inr ⟨kD_all_yards, rfl, fun q => fun hq => (List.mem_cons.mp hq).elim (fun e => by subst e; exact ⟨_, kq0_all_yards, rfl⟩) (fun hq => nomatch hq)⟩⟩, k_all_yards⟩
  obtain ⟨kn_all_yards_standing, kb_all_yards_standing⟩ := D_all_yards.kbinds0 (ps := ["plan", "standing"]) 1 ["standing"] [] (fun us mv ws => us ++ ws) (by simp) (by simp) (fun r rm rz => r.append rz) fun D doc pm an cdv ct us mv ws l1 l2 l3 => match us, l1, mv, l2, ws, l3 with | [_], _, [], _, [_], _ => rfl
  have F_is_name := fun_mk (st := s_is_name) l_is_name d_is_name k_is_name
  have b_is_name := F_is_name.binds (ps := ["word"]) fun _ _ _ _ _ _ us hl => match us, hl with | [_], _ => rfl
  have F_check_count := fun_mk (st := s_check_count) l_check_count d_check_count k_check_count
  have b_check_count := F_check_count.binds (ps := ["rows"]) fun _ _ _ _ _ _ us hl => match us, hl with | [_], _ => rfl
  have F_check_names := fun_mk (st := s_check_names) l_check_names d_check_names k_check_names
  have b_check_names := F_check_names.binds (ps := ["rows"]) fun _ _ _ _ _ _ us hl => match us, hl with | [_], _ => rfl
  have F_check_rules := fun_mk (st := s_check_rules) l_check_rules d_check_rules k_check_rules
  have b_check_rules := F_check_rules.binds (ps := ["rows"]) fun _ _ _ _ _ _ us hl => match us, hl with | [_], _ => rfl
  have F__law_deal := fun_mk (st := s__law_deal) l__law_deal d__law_deal k__law_deal
  have b__law_deal := F__law_deal.binds (ps := ["_law_script", "_law_base"]) fun _ _ _ _ _ _ us hl => match us, hl with | [_, _], _ => rfl
  have F__law_draw := fun_mk (st := s__law_draw) l__law_draw d__law_draw k__law_draw
  have b__law_draw := F__law_draw.binds (ps := ["_law_deal_here", "_law_many"]) fun _ _ _ _ _ _ us hl => match us, hl with | [_, _], _ => rfl
  have F__law_mixed := fun_mk (st := s__law_mixed) l__law_mixed d__law_mixed k__law_mixed
  have b__law_mixed := F__law_mixed.binds (ps := ["_law_deal_here", "_law_items"]) fun _ _ _ _ _ _ us hl => match us, hl with | [_, _], _ => rfl
  have F__law_some := fun_mk (st := s__law_some) l__law_some d__law_some k__law_some
  have b__law_some := F__law_some.binds (ps := ["_law_deal_here", "_law_items", "_law_one_in"]) fun _ _ _ _ _ _ us hl => match us, hl with | [_, _, _], _ => rfl
  have F__law_any_word := fun_mk (st := s__law_any_word) l__law_any_word d__law_any_word k__law_any_word
  have b__law_any_word := F__law_any_word.binds (ps := ["_law_deal_here", "_law_last"]) fun _ _ _ _ _ _ us hl => match us, hl with | [_, _], _ => rfl
  have F__law_words := fun_mk (st := s__law_words) l__law_words d__law_words k__law_words
  have b__law_words := F__law_words.binds (ps := ["_law_deal_here", "_law_many"]) fun _ _ _ _ _ _ us hl => match us, hl with | [_, _], _ => rfl
  have F__law_sets := fun_mk (st := s__law_sets) l__law_sets d__law_sets k__law_sets
  have b__law_sets := F__law_sets.binds (ps := ["_law_deal_here", "_law_others"]) fun _ _ _ _ _ _ us hl => match us, hl with | [_, _], _ => rfl
  have F__law_rows := fun_mk (st := s__law_rows) l__law_rows d__law_rows k__law_rows
  have b__law_rows := F__law_rows.binds (ps := ["_law_deal_here", "_law_many"]) fun _ _ _ _ _ _ us hl => match us, hl with | [_, _], _ => rfl
  have F__law_plan := fun_mk (st := s__law_plan) l__law_plan d__law_plan k__law_plan
  have b__law_plan := F__law_plan.binds (ps := ["_law_rows_here"]) fun _ _ _ _ _ _ us hl => match us, hl with | [_], _ => rfl
  have F__law_right := fun_mk (st := s__law_right) l__law_right d__law_right k__law_right
  have b__law_right := F__law_right.binds (ps := ["_law_yard", "_law_other", "_law_props", "_law_more"]) fun _ _ _ _ _ _ us hl => match us, hl with | [_, _, _, _], _ => rfl
  have F_law := fun_mk (st := s_law) l_law d_law k_law
  have b_law : ∀ (s : Shared) (v : Value), BindsTo s (PySem.W.fnOf "law" "law" (defArgs s_law) (defBody s_law) (defScope s_law) .none kV_law dc_law pm_law an_law cd_law ct_law) ⟨[v], []⟩ [("_law_script", v)] := fun s v => .of_eq rfl
  have b_law' := F_law.binds (ps := ["_law_script"]) fun _ _ _ _ _ _ us hl => match us, hl with | [_], _ => rfl
  have F_Yard___init__ := funV_mk (st := s_Yard___init__) l_Yard___init__ d_Yard___init__
  have rT_Yard___init__ : Vals [V.ref de0_Yard___init__] [Value.ref de0_Yard___init__] := .cons rfl (.nil)
  obtain ⟨dw_Yard___init___2, vd_Yard___init___2, bd_Yard___init___2⟩ := bindsV (ps := ["self", "plan", "parts"]) l_Yard___init__ d_Yard___init__ k_Yard___init__ dt_Yard___init__ rfl rT_Yard___init__ 2 0 (by simp) rfl fun _ _ _ _ _ _ _ us its h1 h2 => match us, h1, its, h2 with | [_, _], _, [_], _ => ⟨_, rfl, rfl⟩
  obtain ⟨dw_Yard___init___3, vd_Yard___init___3, bd_Yard___init___3⟩ := bindsV (ps := ["self", "plan", "parts"]) l_Yard___init__ d_Yard___init__ k_Yard___init__ dt_Yard___init__ rfl rT_Yard___init__ 3 1 (by simp) rfl fun _ _ _ _ _ _ _ us its h1 h2 => match us, h1, its, h2 with | [_, _, _], _, [_], _ => ⟨_, rfl, rfl⟩
  obtain rfl := vals_nil vd_Yard___init___3
  have b_Yard___init__ := bd_Yard___init___3
  have F_Yard_stands := fun_mk (st := s_Yard_stands) l_Yard_stands d_Yard_stands k_Yard_stands
  have b_Yard_stands := F_Yard_stands.binds (ps := ["self"]) fun _ _ _ _ _ _ us hl => match us, hl with | [_], _ => rfl
  have F_Yard_rest := fun_mk (st := s_Yard_rest) l_Yard_rest d_Yard_rest k_Yard_rest
  have b_Yard_rest := F_Yard_rest.binds (ps := ["self"]) fun _ _ _ _ _ _ us hl => match us, hl with | [_], _ => rfl
  have F_Yard_stands_under := fun_mk (st := s_Yard_stands_under) l_Yard_stands_under d_Yard_stands_under k_Yard_stands_under
  have b_Yard_stands_under := F_Yard_stands_under.binds (ps := ["self", "props"]) fun _ _ _ _ _ _ us hl => match us, hl with | [_, _], _ => rfl
  have F_Yard_rest_under := fun_mk (st := s_Yard_rest_under) l_Yard_rest_under d_Yard_rest_under k_Yard_rest_under
  have b_Yard_rest_under := F_Yard_rest_under.binds (ps := ["self", "props"]) fun _ _ _ _ _ _ us hl => match us, hl with | [_, _], _ => rfl
  have F_Yard___or__ := fun_mk (st := s_Yard___or__) l_Yard___or__ d_Yard___or__ k_Yard___or__
  have b_Yard___or__ := F_Yard___or__.binds (ps := ["self", "other"]) fun _ _ _ _ _ _ us hl => match us, hl with | [_, _], _ => rfl
  have F_Yard___sub__ := fun_mk (st := s_Yard___sub__) l_Yard___sub__ d_Yard___sub__ k_Yard___sub__
  have b_Yard___sub__ := F_Yard___sub__.binds (ps := ["self", "other"]) fun _ _ _ _ _ _ us hl => match us, hl with | [_, _], _ => rfl
  have F_Yard___eq__ := fun_mk (st := s_Yard___eq__) l_Yard___eq__ d_Yard___eq__ k_Yard___eq__
  have b_Yard___eq__ := F_Yard___eq__.binds (ps := ["self", "other"]) fun _ _ _ _ _ _ us hl => match us, hl with | [_, _], _ => rfl
  have F_Rule___init__ := fun_mk (st := s_Rule___init__) l_Rule___init__ d_Rule___init__ k_Rule___init__
  have b_Rule___init__ := F_Rule___init__.binds (ps := ["self", "least"]) fun _ _ _ _ _ _ us hl => match us, hl with | [_, _], _ => rfl
  have F_Rule_of_sets := fun_mk (st := s_Rule_of_sets) l_Rule_of_sets d_Rule_of_sets k_Rule_of_sets
  have b_Rule_of_sets := F_Rule_of_sets.binds (ps := ["cls", "sets"]) fun _ _ _ _ _ _ us hl => match us, hl with | [_, _], _ => rfl
  have F_Rule___eq__ := fun_mk (st := s_Rule___eq__) l_Rule___eq__ d_Rule___eq__ k_Rule___eq__
  have b_Rule___eq__ := F_Rule___eq__.binds (ps := ["self", "other"]) fun _ _ _ _ _ _ us hl => match us, hl with | [_, _], _ => rfl
  have F_Plan___init__ := fun_mk (st := s_Plan___init__) l_Plan___init__ d_Plan___init__ k_Plan___init__
  have b_Plan___init__ := F_Plan___init__.binds (ps := ["self", "rows"]) fun _ _ _ _ _ _ us hl => match us, hl with | [_, _], _ => rfl
  have F_Plan___eq__ := fun_mk (st := s_Plan___eq__) l_Plan___eq__ d_Plan___eq__ k_Plan___eq__
  have b_Plan___eq__ := F_Plan___eq__.binds (ps := ["self", "other"]) fun _ _ _ _ _ _ us hl => match us, hl with | [_, _], _ => rfl
  refine ⟨_, b_law, fun base _ _ => ?_⟩
  have y_all := PySem.W.mg_none_of X G z_all
  have y_any := PySem.W.mg_none_of X G z_any
  have y_enumerate := PySem.W.mg_none_of X G z_enumerate
  have y_int := PySem.W.mg_none_of X G z_int
  have y_isinstance := PySem.W.mg_none_of X G z_isinstance
  have y_len := PySem.W.mg_none_of X G z_len
  have y_list := PySem.W.mg_none_of X G z_list
  have y_max := PySem.W.mg_none_of X G z_max
  have y_range := PySem.W.mg_none_of X G z_range
  have y_reversed := PySem.W.mg_none_of X G z_reversed
  have y_set := PySem.W.mg_none_of X G z_set
  have y_sorted := PySem.W.mg_none_of X G z_sorted
  have y_sum := PySem.W.mg_none_of X G z_sum
  have y_tuple := PySem.W.mg_none_of X G z_tuple
  have g_check_parts := PySem.W.mg_of X G a_check_parts
  have g_check_plans := PySem.W.mg_of X G a_check_plans
  have g_names_in := PySem.W.mg_of X G a_names_in
  have g_mask_of := PySem.W.mg_of X G a_mask_of
  have g_names_of := PySem.W.mg_of X G a_names_of
  have g_in_order := PySem.W.mg_of X G a_in_order
  have g_least_masks := PySem.W.mg_of X G a_least_masks
  have g_least_sets := PySem.W.mg_of X G a_least_sets
  have g_support_table := PySem.W.mg_of X G a_support_table
  have g_supported_in := PySem.W.mg_of X G a_supported_in
  have g_falling_in := PySem.W.mg_of X G a_falling_in
  have g_stands_in := PySem.W.mg_of X G a_stands_in
  have g_rest_in := PySem.W.mg_of X G a_rest_in
  have g_masks_in_order := PySem.W.mg_of X G a_masks_in_order
  have g_yard_of := PySem.W.mg_of X G a_yard_of
  have g_parts_mask := PySem.W.mg_of X G a_parts_mask
  have g_all_yards := PySem.W.mg_of X G a_all_yards
  have g_is_name := PySem.W.mg_of X G a_is_name
  have g_check_count := PySem.W.mg_of X G a_check_count
  have g_check_names := PySem.W.mg_of X G a_check_names
  have g_check_rules := PySem.W.mg_of X G a_check_rules
  have g__law_deal := PySem.W.mg_of X G a__law_deal
  have g__law_draw := PySem.W.mg_of X G a__law_draw
  have g__law_mixed := PySem.W.mg_of X G a__law_mixed
  have g__law_some := PySem.W.mg_of X G a__law_some
  have g__law_any_word := PySem.W.mg_of X G a__law_any_word
  have g__law_words := PySem.W.mg_of X G a__law_words
  have g__law_sets := PySem.W.mg_of X G a__law_sets
  have g__law_rows := PySem.W.mg_of X G a__law_rows
  have g__law_plan := PySem.W.mg_of X G a__law_plan
  have g__law_right := PySem.W.mg_of X G a__law_right
  have g_law := PySem.W.mg_of X G a_law
  have gC_Yard := PySem.W.mg_of X G aC_Yard
  have gC_Rule := PySem.W.mg_of X G aC_Rule
  have gC_Plan := PySem.W.mg_of X G aC_Plan
  have gc_LETTERS := PySem.W.mg_of X G c_LETTERS
  have gc_LONGEST_NAME := PySem.W.mg_of X G c_LONGEST_NAME
  have gc_MOST_PARTS := PySem.W.mg_of X G c_MOST_PARTS
  have gc_RESERVED := PySem.W.mg_of X G c_RESERVED
  have GD := ok_draw (P := P) (w := w) (base := base) (k := 0) F__law_draw y_len
  have GM := ok_mix (k := 1) F__law_mixed GD g__law_draw k__law_draw b__law_draw y_list y_len y_range
  have GA := ok_any (k := 1) F__law_any_word GD g__law_draw k__law_draw b__law_draw y_range
  have GW := ok_wor (k := 2) F__law_words (GD.mono (by decide)) g__law_draw k__law_draw b__law_draw GM g__law_mixed k__law_mixed b__law_mixed GA g__law_any_word k__law_any_word b__law_any_word y_range y_len y_int
  obtain ⟨T, ec, el⟩ : ∃ T : Tx P w K mg base, T.c = ⟨C_Yard, C_Rule, C_Plan, kitOf K [C_Yard, C_Rule, C_Plan]⟩ ∧ (T.f_law = fa ∧ T.fd_law = PySem.W.fnOf "law" "law" (defArgs s_law) (defBody s_law) (defScope s_law) .none kV_law dc_law pm_law an_law cd_law ct_law) := ⟨{
    f_check_parts := f_check_parts,
    fd_check_parts := _,
    F_check_parts := F_check_parts,
    b_check_parts := b_check_parts,
    g_check_parts := g_check_parts,
    k_check_parts := k_check_parts,
    f_check_plans := f_check_plans,
    fd_check_plans := _,
    F_check_plans := F_check_plans,
    b_check_plans := b_check_plans,
    g_check_plans := g_check_plans,
    k_check_plans := k_check_plans,
    f_names_in := f_names_in,
    fd_names_in := _,
    F_names_in := F_names_in,
    b_names_in := b_names_in,
    g_names_in := g_names_in,
    k_names_in := k_names_in,
    f_mask_of := f_mask_of,
    fd_mask_of := _,
    F_mask_of := F_mask_of,
    b_mask_of := b_mask_of,
    g_mask_of := g_mask_of,
    k_mask_of := k_mask_of,
    f_names_of := f_names_of,
    fd_names_of := _,
    F_names_of := F_names_of,
    b_names_of := b_names_of,
    g_names_of := g_names_of,
    k_names_of := k_names_of,
    f_in_order := f_in_order,
    fd_in_order := _,
    F_in_order := F_in_order,
    b_in_order := b_in_order,
    g_in_order := g_in_order,
    k_in_order := k_in_order,
    f_least_masks := f_least_masks,
    fd_least_masks := _,
    F_least_masks := F_least_masks,
    b_least_masks := b_least_masks,
    g_least_masks := g_least_masks,
    k_least_masks := k_least_masks,
    f_least_sets := f_least_sets,
    fd_least_sets := _,
    F_least_sets := F_least_sets,
    b_least_sets := b_least_sets,
    g_least_sets := g_least_sets,
    k_least_sets := k_least_sets,
    f_support_table := f_support_table,
    fd_support_table := _,
    F_support_table := F_support_table,
    b_support_table := b_support_table,
    g_support_table := g_support_table,
    k_support_table := k_support_table,
    f_supported_in := f_supported_in,
    fd_supported_in := _,
    F_supported_in := F_supported_in,
    b_supported_in := b_supported_in,
    g_supported_in := g_supported_in,
    k_supported_in := k_supported_in,
    f_falling_in := f_falling_in,
    fd_falling_in := _,
    F_falling_in := F_falling_in,
    b_falling_in := b_falling_in,
    g_falling_in := g_falling_in,
    k_falling_in := k_falling_in,
    f_stands_in := f_stands_in,
    fd_stands_in := _,
    F_stands_in := F_stands_in,
    b_stands_in := b_stands_in,
    g_stands_in := g_stands_in,
    k_stands_in := k_stands_in,
    f_rest_in := f_rest_in,
    fd_rest_in := _,
    F_rest_in := F_rest_in,
    b_rest_in := b_rest_in,
    g_rest_in := g_rest_in,
    k_rest_in := k_rest_in,
    f_masks_in_order := f_masks_in_order,
    fd_masks_in_order := _,
    F_masks_in_order := F_masks_in_order,
    b_masks_in_order := b_masks_in_order,
    g_masks_in_order := g_masks_in_order,
    k_masks_in_order := k_masks_in_order,
    f_yard_of := f_yard_of,
    fd_yard_of := _,
    F_yard_of := F_yard_of,
    b_yard_of := b_yard_of,
    g_yard_of := g_yard_of,
    k_yard_of := k_yard_of,
    f_parts_mask := f_parts_mask,
    fd_parts_mask := _,
    F_parts_mask := F_parts_mask,
    b_parts_mask := b_parts_mask,
    g_parts_mask := g_parts_mask,
    k_parts_mask := k_parts_mask,
    f_all_yards := f_all_yards,
    fd_all_yards := _,
    F_all_yards := F_all_yards,
    kb_all_yards_standing := kb_all_yards_standing,
    g_all_yards := g_all_yards,
    k_all_yards := k_all_yards,
    f_is_name := f_is_name,
    fd_is_name := _,
    F_is_name := F_is_name,
    b_is_name := b_is_name,
    g_is_name := g_is_name,
    k_is_name := k_is_name,
    f_check_count := f_check_count,
    fd_check_count := _,
    F_check_count := F_check_count,
    b_check_count := b_check_count,
    g_check_count := g_check_count,
    k_check_count := k_check_count,
    f_check_names := f_check_names,
    fd_check_names := _,
    F_check_names := F_check_names,
    b_check_names := b_check_names,
    g_check_names := g_check_names,
    k_check_names := k_check_names,
    f_check_rules := f_check_rules,
    fd_check_rules := _,
    F_check_rules := F_check_rules,
    b_check_rules := b_check_rules,
    g_check_rules := g_check_rules,
    k_check_rules := k_check_rules,
    f__law_deal := f__law_deal,
    fd__law_deal := _,
    F__law_deal := F__law_deal,
    b__law_deal := b__law_deal,
    g__law_deal := g__law_deal,
    k__law_deal := k__law_deal,
    f__law_draw := f__law_draw,
    fd__law_draw := _,
    F__law_draw := F__law_draw,
    b__law_draw := b__law_draw,
    g__law_draw := g__law_draw,
    k__law_draw := k__law_draw,
    f__law_mixed := f__law_mixed,
    fd__law_mixed := _,
    F__law_mixed := F__law_mixed,
    b__law_mixed := b__law_mixed,
    g__law_mixed := g__law_mixed,
    k__law_mixed := k__law_mixed,
    f__law_some := f__law_some,
    fd__law_some := _,
    F__law_some := F__law_some,
    b__law_some := b__law_some,
    g__law_some := g__law_some,
    k__law_some := k__law_some,
    f__law_words := f__law_words,
    fd__law_words := _,
    F__law_words := F__law_words,
    b__law_words := b__law_words,
    g__law_words := g__law_words,
    k__law_words := k__law_words,
    f__law_sets := f__law_sets,
    fd__law_sets := _,
    F__law_sets := F__law_sets,
    b__law_sets := b__law_sets,
    g__law_sets := g__law_sets,
    k__law_sets := k__law_sets,
    f__law_rows := f__law_rows,
    fd__law_rows := _,
    F__law_rows := F__law_rows,
    b__law_rows := b__law_rows,
    g__law_rows := g__law_rows,
    k__law_rows := k__law_rows,
    f__law_plan := f__law_plan,
    fd__law_plan := _,
    F__law_plan := F__law_plan,
    b__law_plan := b__law_plan,
    g__law_plan := g__law_plan,
    k__law_plan := k__law_plan,
    f__law_right := f__law_right,
    fd__law_right := _,
    F__law_right := F__law_right,
    b__law_right := b__law_right,
    g__law_right := g__law_right,
    k__law_right := k__law_right,
    f_law := fa,
    fd_law := _,
    F_law := F_law,
    b_law := b_law',
    g_law := g_law,
    k_law := k_law,
    f_Yard___init__ := f_Yard___init__,
    fd_Yard___init__ := _,
    F_Yard___init__ := F_Yard___init__,
    b_Yard___init__ := b_Yard___init__,
    f_Yard_stands := f_Yard_stands,
    fd_Yard_stands := _,
    F_Yard_stands := F_Yard_stands,
    b_Yard_stands := b_Yard_stands,
    f_Yard_rest := f_Yard_rest,
    fd_Yard_rest := _,
    F_Yard_rest := F_Yard_rest,
    b_Yard_rest := b_Yard_rest,
    f_Yard_stands_under := f_Yard_stands_under,
    fd_Yard_stands_under := _,
    F_Yard_stands_under := F_Yard_stands_under,
    b_Yard_stands_under := b_Yard_stands_under,
    f_Yard_rest_under := f_Yard_rest_under,
    fd_Yard_rest_under := _,
    F_Yard_rest_under := F_Yard_rest_under,
    b_Yard_rest_under := b_Yard_rest_under,
    f_Yard___or__ := f_Yard___or__,
    fd_Yard___or__ := _,
    F_Yard___or__ := F_Yard___or__,
    b_Yard___or__ := b_Yard___or__,
    f_Yard___sub__ := f_Yard___sub__,
    fd_Yard___sub__ := _,
    F_Yard___sub__ := F_Yard___sub__,
    b_Yard___sub__ := b_Yard___sub__,
    f_Yard___eq__ := f_Yard___eq__,
    fd_Yard___eq__ := _,
    F_Yard___eq__ := F_Yard___eq__,
    b_Yard___eq__ := b_Yard___eq__,
    f_Rule___init__ := f_Rule___init__,
    fd_Rule___init__ := _,
    F_Rule___init__ := F_Rule___init__,
    b_Rule___init__ := b_Rule___init__,
    f_Rule_of_sets := f_Rule_of_sets,
    fd_Rule_of_sets := _,
    F_Rule_of_sets := F_Rule_of_sets,
    b_Rule_of_sets := b_Rule_of_sets,
    f_Rule___eq__ := f_Rule___eq__,
    fd_Rule___eq__ := _,
    F_Rule___eq__ := F_Rule___eq__,
    b_Rule___eq__ := b_Rule___eq__,
    f_Plan___init__ := f_Plan___init__,
    fd_Plan___init__ := _,
    F_Plan___init__ := F_Plan___init__,
    b_Plan___init__ := b_Plan___init__,
    f_Plan___eq__ := f_Plan___eq__,
    fd_Plan___eq__ := _,
    F_Plan___eq__ := F_Plan___eq__,
    b_Plan___eq__ := b_Plan___eq__,
    z_all := y_all,
    z_enumerate := y_enumerate,
    z_isinstance := y_isinstance,
    z_len := y_len,
    z_list := y_list,
    z_max := y_max,
    z_range := y_range,
    z_sorted := y_sorted,
    z_sum := y_sum,
    z_tuple := y_tuple,
    dv_Yard___init___2 := [V.ref de0_Yard___init__],
    dw_Yard___init___2 := dw_Yard___init___2,
    vd_Yard___init___2 := vd_Yard___init___2,
    bd_Yard___init___2 := bd_Yard___init___2,
    rd_Yard___init___2 := fun N H => .cons (rep_tupC (ds := []) (vs := []) le0_Yard___init__ (by decide) .nil (fun _ _ => .nil) N H) (.nil),
    c_LETTERS := _,
    gc_LETTERS := gc_LETTERS,
    rc_LETTERS := ⟨_, rfl⟩,
    c_LONGEST_NAME := _,
    gc_LONGEST_NAME := gc_LONGEST_NAME,
    rc_LONGEST_NAME := ⟨_, rfl⟩,
    c_MOST_PARTS := _,
    gc_MOST_PARTS := gc_MOST_PARTS,
    rc_MOST_PARTS := ⟨_, rfl⟩,
    ac_RESERVED := ac_RESERVED,
    gc_RESERVED := gc_RESERVED,
    rc_RESERVED := rep_tupC lt_RESERVED (by show 6 ≤ sizeLine; decide) (vs := [V.str "all", V.str "any", V.str "of", V.str "always", V.str "never", V.str "none"]) (.cons ⟨_, rfl⟩ (.cons ⟨_, rfl⟩ (.cons ⟨_, rfl⟩ (.cons ⟨_, rfl⟩ (.cons ⟨_, rfl⟩ (.cons ⟨_, rfl⟩ (.nil))))))) (fun N H => repL_of_strs ["all", "any", "of", "always", "never", "none"]),
    c := ⟨C_Yard, C_Rule, C_Plan, kitOf K [C_Yard, C_Rule, C_Plan]⟩,
    kit := kitOf_le,
    cl_Yard := ⟨pg_Yard, hd_Yard, po_Yard, sa_Yard⟩,
    g_Yard := gC_Yard,
    mk_Yard := ⟨mk_Yard, a_Yard___init__, fn_Yard___init__, kc_Yard⟩,
    mc_Yard := .type "type",
    cr_Yard := ⟨rd_Yard, ga_Yard⟩,
    cl_Rule := ⟨pg_Rule, hd_Rule, po_Rule, sa_Rule⟩,
    g_Rule := gC_Rule,
    mk_Rule := ⟨mk_Rule, a_Rule___init__, fn_Rule___init__, kc_Rule⟩,
    mc_Rule := .type "type",
    cr_Rule := ⟨rd_Rule, ga_Rule⟩,
    cl_Plan := ⟨pg_Plan, hd_Plan, po_Plan, sa_Plan⟩,
    g_Plan := gC_Plan,
    mk_Plan := ⟨mk_Plan, a_Plan___init__, fn_Plan___init__, kc_Plan⟩,
    mc_Plan := .type "type",
    cr_Plan := ⟨rd_Plan, ga_Plan⟩,
    cf := PySem.F.cmp_object,
    pc_Rule_of_sets := pc_Rule_of_sets,
    cm_Rule_of_sets := ⟨a_Rule_of_sets, ⟨_, rc_Rule_of_sets⟩, fi_Rule_of_sets⟩,
    fl_Plan__rules := fun C hC => by obtain rfl := List.mem_singleton.mp hC; exact ⟨⟨pg_Plan, hd_Plan, po_Plan, sa_Plan⟩, na_Plan__rules⟩,
    fl_Plan_names := fun C hC => by obtain rfl := List.mem_singleton.mp hC; exact ⟨⟨pg_Plan, hd_Plan, po_Plan, sa_Plan⟩, na_Plan_names⟩,
    fl_Plan_support := fun C hC => by obtain rfl := List.mem_singleton.mp hC; exact ⟨⟨pg_Plan, hd_Plan, po_Plan, sa_Plan⟩, na_Plan_support⟩,
    fl_Rule_least := fun C hC => by obtain rfl := List.mem_singleton.mp hC; exact ⟨⟨pg_Rule, hd_Rule, po_Rule, sa_Rule⟩, na_Rule_least⟩,
    fl_Rule_names := fun C hC => by obtain rfl := List.mem_singleton.mp hC; exact ⟨⟨pg_Rule, hd_Rule, po_Rule, sa_Rule⟩, na_Rule_names⟩,
    fl_Yard_mask := fun C hC => by obtain rfl := List.mem_singleton.mp hC; exact ⟨⟨pg_Yard, hd_Yard, po_Yard, sa_Yard⟩, na_Yard_mask⟩,
    fl_Yard_parts := fun C hC => by obtain rfl := List.mem_singleton.mp hC; exact ⟨⟨pg_Yard, hd_Yard, po_Yard, sa_Yard⟩, na_Yard_parts⟩,
    fl_Yard_plan := fun C hC => by obtain rfl := List.mem_singleton.mp hC; exact ⟨⟨pg_Yard, hd_Yard, po_Yard, sa_Yard⟩, na_Yard_plan⟩,
    mt_Yard_rest_under := ⟨a_Yard_rest_under, fn_Yard_rest_under, k_Yard_rest_under⟩,
    mt_Yard_stands_under := ⟨a_Yard_stands_under, fn_Yard_stands_under, k_Yard_stands_under⟩,
    ne_Plan := own_ne nq_Plan,
    ne_Yard := own_ne nq_Yard,
    at_Plan___eq__ := a_Plan___eq__,
    fn_Plan___eq__ := fn_Plan___eq__,
    fi_Plan___eq__ := fi_Plan___eq__,
    at_Rule___eq__ := a_Rule___eq__,
    fn_Rule___eq__ := fn_Rule___eq__,
    fi_Rule___eq__ := fi_Rule___eq__,
    at_Yard___eq__ := a_Yard___eq__,
    fn_Yard___eq__ := fn_Yard___eq__,
    fi_Yard___eq__ := fi_Yard___eq__,
    at_Yard___or__ := a_Yard___or__,
    fn_Yard___or__ := fn_Yard___or__,
    fi_Yard___or__ := fi_Yard___or__,
    at_Yard___sub__ := a_Yard___sub__,
    fn_Yard___sub__ := fn_Yard___sub__,
    fi_Yard___sub__ := fi_Yard___sub__,
    pp_Yard_rest := pp_Yard_rest,
    pr_Yard_rest := ⟨a_Yard_rest, gt_Yard_rest, tk_Yard_rest, _, rc_Yard_rest⟩,
    pp_Yard_stands := pp_Yard_stands,
    pr_Yard_stands := ⟨a_Yard_stands, gt_Yard_stands, tk_Yard_stands, _, rc_Yard_stands⟩,
    sf_Yard := sf_Yard,
    k_isi_Plan := kitOf_ref (List.forall_mem_cons.mpr ⟨⟨⟨pg_Yard, hd_Yard, po_Yard, sa_Yard⟩, ca_Yard, cg, ct, mo_Yard⟩, List.forall_mem_cons.mpr ⟨⟨⟨pg_Rule, hd_Rule, po_Rule, sa_Rule⟩, ca_Rule, cg, ct, mo_Rule⟩, List.forall_mem_cons.mpr ⟨⟨⟨pg_Plan, hd_Plan, po_Plan, sa_Plan⟩, ca_Plan, cg, ct, mo_Plan⟩, fun _ h => nomatch h⟩⟩⟩),
    k_isi_Rule := kitOf_ref (List.forall_mem_cons.mpr ⟨⟨⟨pg_Yard, hd_Yard, po_Yard, sa_Yard⟩, ca_Yard, cg, ct, mo_Yard⟩, List.forall_mem_cons.mpr ⟨⟨⟨pg_Rule, hd_Rule, po_Rule, sa_Rule⟩, ca_Rule, cg, ct, mo_Rule⟩, List.forall_mem_cons.mpr ⟨⟨⟨pg_Plan, hd_Plan, po_Plan, sa_Plan⟩, ca_Plan, cg, ct, mo_Plan⟩, fun _ h => nomatch h⟩⟩⟩),
    k_isi_Yard := kitOf_ref (List.forall_mem_cons.mpr ⟨⟨⟨pg_Yard, hd_Yard, po_Yard, sa_Yard⟩, ca_Yard, cg, ct, mo_Yard⟩, List.forall_mem_cons.mpr ⟨⟨⟨pg_Rule, hd_Rule, po_Rule, sa_Rule⟩, ca_Rule, cg, ct, mo_Rule⟩, List.forall_mem_cons.mpr ⟨⟨⟨pg_Plan, hd_Plan, po_Plan, sa_Plan⟩, ca_Plan, cg, ct, mo_Plan⟩, fun _ h => nomatch h⟩⟩⟩),
    ok_names_in := fn_pp (ok_nam (k := 0) F_names_in y_sorted) (fun _ _ h => by obtain ⟨_, rfl, h⟩ := a1_e h; exact h),
    ok_mask_of := fn_pp (ok_msk (k := 0) F_mask_of y_sum y_enumerate) (fun _ _ h => by obtain ⟨_, _, rfl, h⟩ := a2_e h; exact h),
    ok_names_of := fn_pp (ok_nof (k := 0) F_names_of y_tuple y_enumerate) (fun _ _ h => by obtain ⟨_, _, rfl, h⟩ := a2_e h; exact h),
    ok_least_masks := fn_pp (ok_lea (k := 0) F_least_masks y_sorted y_set y_any) (fun _ _ h => by obtain ⟨_, rfl, h⟩ := a1_e h; exact h),
    ok__law_mixed := mix_dw GM,
    ok__law_words := wor_dw GW,
    ok__law_draw := GD.imp fun _ _ _ _ h => draw_w h,
    ok__law_deal := ok_deal (k := 0) F__law_deal y_max y_list y_reversed }, rfl, rfl, rfl⟩
  have L := ok_law T fun ns hl => m_law ⟨by rw [ec]; exact kitOf_self (by simp), by rw [ec]; exact kitOf_self (by simp), by rw [ec]; exact kitOf_self (by simp)⟩ ns hl
  rw [el.1, el.2] at L
  exact L
end Dw

set_option maxHeartbeats 0
/-! KZ19c: the head and the law's end. -/
namespace Dw
open PySem PySem.Spec PyProof.Rows L2
def fc0 (K : PySem.W.Frag) : List Bool := [
  decide (dflA K (He.ga K "check_parts") = .none),
  decide (dflA K (He.ga K "check_plans") = .none),
  decide (dflA K (He.ga K "names_in") = .none),
  decide (dflA K (He.ga K "mask_of") = .none),
  decide (dflA K (He.ga K "names_of") = .none),
  decide (dflA K (He.ga K "in_order") = .none),
  decide (dflA K (He.ga K "least_masks") = .none),
  decide (dflA K (He.ga K "least_sets") = .none),
  decide (dflA K (He.ga K "support_table") = .none),
  decide (dflA K (He.ga K "supported_in") = .none),
  decide (dflA K (He.ga K "falling_in") = .none),
  decide (dflA K (He.ga K "stands_in") = .none),
  decide (dflA K (He.ga K "rest_in") = .none),
  decide (dflA K (He.ga K "masks_in_order") = .none),
  decide (dflA K (He.ga K "yard_of") = .none),
  decide (dflA K (He.ga K "parts_mask") = .none),
  decide (dflA K (He.ga K "all_yards") = .none),
  decide (dflA K (He.ga K "is_name") = .none),
  decide (dflA K (He.ga K "check_count") = .none),
  decide (dflA K (He.ga K "check_names") = .none),
  decide (dflA K (He.ga K "check_rules") = .none),
  decide (dflA K (He.ga K "_law_deal") = .none),
  decide (dflA K (He.ga K "_law_draw") = .none),
  decide (dflA K (He.ga K "_law_mixed") = .none),
  decide (dflA K (He.ga K "_law_some") = .none)]
def fc1 (K : PySem.W.Frag) : List Bool := [
  decide (dflA K (He.ga K "_law_any_word") = .none),
  decide (dflA K (He.ga K "_law_words") = .none),
  decide (dflA K (He.ga K "_law_sets") = .none),
  decide (dflA K (He.ga K "_law_rows") = .none),
  decide (dflA K (He.ga K "_law_plan") = .none),
  decide (dflA K (He.ga K "_law_right") = .none),
  decide (dflA K (He.ga K "law") = .none),
  decide (dflA K (He.ma K (He.ga K "Yard") "__init__") = .ref (dtA K (He.ma K (He.ga K "Yard") "__init__"))),
  decide (dflA K (pfA K (He.ma K (He.ga K "Yard") "stands") "property") = .none),
  decide (dflA K (pfA K (He.ma K (He.ga K "Yard") "rest") "property") = .none),
  decide (dflA K (He.ma K (He.ga K "Yard") "stands_under") = .none),
  decide (dflA K (He.ma K (He.ga K "Yard") "rest_under") = .none),
  decide (dflA K (He.ma K (He.ga K "Yard") "__or__") = .none),
  decide (dflA K (He.ma K (He.ga K "Yard") "__sub__") = .none),
  decide (dflA K (He.ma K (He.ga K "Yard") "__eq__") = .none),
  decide (dflA K (He.ma K (He.ga K "Rule") "__init__") = .none),
  decide (dflA K (pfA K (pcA K (He.ga K "Rule") "of_sets") "classmethod") = .none),
  decide (dflA K (He.ma K (He.ga K "Rule") "__eq__") = .none),
  decide (dflA K (He.ma K (He.ga K "Plan") "__init__") = .none),
  decide (dflA K (He.ma K (He.ga K "Plan") "__eq__") = .none),
  decide (kwdA K (He.ga K "all_yards") = .ref (kwD K (He.ga K "all_yards"))),
  decide (PySem.W.nsIn K mainGlobals "Yard" = some (some (.ref (He.ga K "Yard")))),
  decide (PySem.W.nsIn K mainGlobals "Rule" = some (some (.ref (He.ga K "Rule")))),
  decide (PySem.W.nsIn K mainGlobals "Plan" = some (some (.ref (He.ga K "Plan")))),
  decide (PySem.W.nsIn K mainGlobals "check_parts" = some (some (.ref (He.ga K "check_parts"))))]
def fc2 (K : PySem.W.Frag) : List Bool := [
  PySem.W.keepIn K (.ref (He.ga K "check_parts")),
  decide (PySem.W.nsIn K mainGlobals "check_plans" = some (some (.ref (He.ga K "check_plans")))),
  PySem.W.keepIn K (.ref (He.ga K "check_plans")),
  decide (PySem.W.nsIn K mainGlobals "names_in" = some (some (.ref (He.ga K "names_in")))),
  PySem.W.keepIn K (.ref (He.ga K "names_in")),
  decide (PySem.W.nsIn K mainGlobals "mask_of" = some (some (.ref (He.ga K "mask_of")))),
  PySem.W.keepIn K (.ref (He.ga K "mask_of")),
  decide (PySem.W.nsIn K mainGlobals "names_of" = some (some (.ref (He.ga K "names_of")))),
  PySem.W.keepIn K (.ref (He.ga K "names_of")),
  decide (PySem.W.nsIn K mainGlobals "in_order" = some (some (.ref (He.ga K "in_order")))),
  PySem.W.keepIn K (.ref (He.ga K "in_order")),
  decide (PySem.W.nsIn K mainGlobals "least_masks" = some (some (.ref (He.ga K "least_masks")))),
  PySem.W.keepIn K (.ref (He.ga K "least_masks")),
  decide (PySem.W.nsIn K mainGlobals "least_sets" = some (some (.ref (He.ga K "least_sets")))),
  PySem.W.keepIn K (.ref (He.ga K "least_sets")),
  decide (PySem.W.nsIn K mainGlobals "support_table" = some (some (.ref (He.ga K "support_table")))),
  PySem.W.keepIn K (.ref (He.ga K "support_table")),
  decide (PySem.W.nsIn K mainGlobals "supported_in" = some (some (.ref (He.ga K "supported_in")))),
  PySem.W.keepIn K (.ref (He.ga K "supported_in")),
  decide (PySem.W.nsIn K mainGlobals "falling_in" = some (some (.ref (He.ga K "falling_in")))),
  PySem.W.keepIn K (.ref (He.ga K "falling_in")),
  decide (PySem.W.nsIn K mainGlobals "stands_in" = some (some (.ref (He.ga K "stands_in")))),
  PySem.W.keepIn K (.ref (He.ga K "stands_in")),
  decide (PySem.W.nsIn K mainGlobals "rest_in" = some (some (.ref (He.ga K "rest_in")))),
  PySem.W.keepIn K (.ref (He.ga K "rest_in"))]
def fc3 (K : PySem.W.Frag) : List Bool := [
  decide (PySem.W.nsIn K mainGlobals "masks_in_order" = some (some (.ref (He.ga K "masks_in_order")))),
  PySem.W.keepIn K (.ref (He.ga K "masks_in_order")),
  decide (PySem.W.nsIn K mainGlobals "yard_of" = some (some (.ref (He.ga K "yard_of")))),
  PySem.W.keepIn K (.ref (He.ga K "yard_of")),
  decide (PySem.W.nsIn K mainGlobals "parts_mask" = some (some (.ref (He.ga K "parts_mask")))),
  PySem.W.keepIn K (.ref (He.ga K "parts_mask")),
  decide (PySem.W.nsIn K mainGlobals "all_yards" = some (some (.ref (He.ga K "all_yards")))),
  PySem.W.keepIn K (.ref (He.ga K "all_yards")),
  decide (PySem.W.nsIn K mainGlobals "is_name" = some (some (.ref (He.ga K "is_name")))),
  PySem.W.keepIn K (.ref (He.ga K "is_name")),
  decide (PySem.W.nsIn K mainGlobals "check_count" = some (some (.ref (He.ga K "check_count")))),
  PySem.W.keepIn K (.ref (He.ga K "check_count")),
  decide (PySem.W.nsIn K mainGlobals "check_names" = some (some (.ref (He.ga K "check_names")))),
  PySem.W.keepIn K (.ref (He.ga K "check_names")),
  decide (PySem.W.nsIn K mainGlobals "check_rules" = some (some (.ref (He.ga K "check_rules")))),
  PySem.W.keepIn K (.ref (He.ga K "check_rules")),
  decide (PySem.W.nsIn K mainGlobals "_law_deal" = some (some (.ref (He.ga K "_law_deal")))),
  PySem.W.keepIn K (.ref (He.ga K "_law_deal")),
  decide (PySem.W.nsIn K mainGlobals "_law_draw" = some (some (.ref (He.ga K "_law_draw")))),
  PySem.W.keepIn K (.ref (He.ga K "_law_draw")),
  decide (PySem.W.nsIn K mainGlobals "_law_mixed" = some (some (.ref (He.ga K "_law_mixed")))),
  PySem.W.keepIn K (.ref (He.ga K "_law_mixed")),
  decide (PySem.W.nsIn K mainGlobals "_law_some" = some (some (.ref (He.ga K "_law_some")))),
  PySem.W.keepIn K (.ref (He.ga K "_law_some")),
  decide (PySem.W.nsIn K mainGlobals "_law_any_word" = some (some (.ref (He.ga K "_law_any_word"))))]
def fc4 (K : PySem.W.Frag) : List Bool := [
  PySem.W.keepIn K (.ref (He.ga K "_law_any_word")),
  decide (PySem.W.nsIn K mainGlobals "_law_words" = some (some (.ref (He.ga K "_law_words")))),
  PySem.W.keepIn K (.ref (He.ga K "_law_words")),
  decide (PySem.W.nsIn K mainGlobals "_law_sets" = some (some (.ref (He.ga K "_law_sets")))),
  PySem.W.keepIn K (.ref (He.ga K "_law_sets")),
  decide (PySem.W.nsIn K mainGlobals "_law_rows" = some (some (.ref (He.ga K "_law_rows")))),
  PySem.W.keepIn K (.ref (He.ga K "_law_rows")),
  decide (PySem.W.nsIn K mainGlobals "_law_plan" = some (some (.ref (He.ga K "_law_plan")))),
  PySem.W.keepIn K (.ref (He.ga K "_law_plan")),
  decide (PySem.W.nsIn K mainGlobals "_law_right" = some (some (.ref (He.ga K "_law_right")))),
  PySem.W.keepIn K (.ref (He.ga K "_law_right")),
  decide (PySem.W.nsIn K mainGlobals "law" = some (some (.ref (He.ga K "law")))),
  PySem.W.keepIn K (.ref (He.ga K "law")),
  decide (PySem.W.findIn K (.ref (He.ga K "Yard")) "__init__" = some (some (.ref (He.ma K (He.ga K "Yard") "__init__")))),
  PySem.W.isFn K (.ref (He.ma K (He.ga K "Yard") "__init__")),
  PySem.W.fnIn K (He.ma K (He.ga K "Yard") "__init__"),
  PySem.W.keepIn K (.ref (He.ma K (He.ga K "Yard") "__init__")),
  decide (PySem.W.findIn K (.ref (He.ga K "Yard")) "stands" = some (some (.ref (He.ma K (He.ga K "Yard") "stands")))),
  pfB K (He.ma K (He.ga K "Yard") "stands") "property",
  decide (PySem.W.specialIn K (.ref (He.ma K (He.ga K "Yard") "stands")) "__get__" = some (some (.builtin "property.__get__"))),
  decide (PySem.W.takesIn K (.ref (He.ma K (He.ga K "Yard") "stands")) = some true),
  PySem.W.keepIn K (.ref (pfA K (He.ma K (He.ga K "Yard") "stands") "property")),
  decide (PySem.W.findIn K (.ref (He.ga K "Yard")) "rest" = some (some (.ref (He.ma K (He.ga K "Yard") "rest")))),
  pfB K (He.ma K (He.ga K "Yard") "rest") "property",
  decide (PySem.W.specialIn K (.ref (He.ma K (He.ga K "Yard") "rest")) "__get__" = some (some (.builtin "property.__get__")))]
def fc5 (K : PySem.W.Frag) : List Bool := [
  decide (PySem.W.takesIn K (.ref (He.ma K (He.ga K "Yard") "rest")) = some true),
  PySem.W.keepIn K (.ref (pfA K (He.ma K (He.ga K "Yard") "rest") "property")),
  decide (PySem.W.findIn K (.ref (He.ga K "Yard")) "stands_under" = some (some (.ref (He.ma K (He.ga K "Yard") "stands_under")))),
  PySem.W.isFn K (.ref (He.ma K (He.ga K "Yard") "stands_under")),
  PySem.W.fnIn K (He.ma K (He.ga K "Yard") "stands_under"),
  PySem.W.keepIn K (.ref (He.ma K (He.ga K "Yard") "stands_under")),
  decide (PySem.W.findIn K (.ref (He.ga K "Yard")) "rest_under" = some (some (.ref (He.ma K (He.ga K "Yard") "rest_under")))),
  PySem.W.isFn K (.ref (He.ma K (He.ga K "Yard") "rest_under")),
  PySem.W.fnIn K (He.ma K (He.ga K "Yard") "rest_under"),
  PySem.W.keepIn K (.ref (He.ma K (He.ga K "Yard") "rest_under")),
  decide (PySem.W.findIn K (.ref (He.ga K "Yard")) "__or__" = some (some (.ref (He.ma K (He.ga K "Yard") "__or__")))),
  PySem.W.isFn K (.ref (He.ma K (He.ga K "Yard") "__or__")),
  PySem.W.fnIn K (He.ma K (He.ga K "Yard") "__or__"),
  PySem.W.keepIn K (.ref (He.ma K (He.ga K "Yard") "__or__")),
  decide (PySem.W.findIn K (.ref (He.ga K "Yard")) "__sub__" = some (some (.ref (He.ma K (He.ga K "Yard") "__sub__")))),
  PySem.W.isFn K (.ref (He.ma K (He.ga K "Yard") "__sub__")),
  PySem.W.fnIn K (He.ma K (He.ga K "Yard") "__sub__"),
  PySem.W.keepIn K (.ref (He.ma K (He.ga K "Yard") "__sub__")),
  decide (PySem.W.findIn K (.ref (He.ga K "Yard")) "__eq__" = some (some (.ref (He.ma K (He.ga K "Yard") "__eq__")))),
  PySem.W.isFn K (.ref (He.ma K (He.ga K "Yard") "__eq__")),
  PySem.W.fnIn K (He.ma K (He.ga K "Yard") "__eq__"),
  PySem.W.keepIn K (.ref (He.ma K (He.ga K "Yard") "__eq__")),
  decide (PySem.W.findIn K (.ref (He.ga K "Rule")) "__init__" = some (some (.ref (He.ma K (He.ga K "Rule") "__init__")))),
  PySem.W.isFn K (.ref (He.ma K (He.ga K "Rule") "__init__")),
  PySem.W.fnIn K (He.ma K (He.ga K "Rule") "__init__")]
def fc6 (K : PySem.W.Frag) : List Bool := [
  PySem.W.keepIn K (.ref (He.ma K (He.ga K "Rule") "__init__")),
  pcB K (He.ga K "Rule") "of_sets",
  pfB K (pcA K (He.ga K "Rule") "of_sets") "classmethod",
  PySem.W.fnIn K (pfA K (pcA K (He.ga K "Rule") "of_sets") "classmethod"),
  PySem.W.keepIn K (.ref (pfA K (pcA K (He.ga K "Rule") "of_sets") "classmethod")),
  decide (PySem.W.findIn K (.ref (He.ga K "Rule")) "__eq__" = some (some (.ref (He.ma K (He.ga K "Rule") "__eq__")))),
  PySem.W.isFn K (.ref (He.ma K (He.ga K "Rule") "__eq__")),
  PySem.W.fnIn K (He.ma K (He.ga K "Rule") "__eq__"),
  PySem.W.keepIn K (.ref (He.ma K (He.ga K "Rule") "__eq__")),
  decide (PySem.W.findIn K (.ref (He.ga K "Plan")) "__init__" = some (some (.ref (He.ma K (He.ga K "Plan") "__init__")))),
  PySem.W.isFn K (.ref (He.ma K (He.ga K "Plan") "__init__")),
  PySem.W.fnIn K (He.ma K (He.ga K "Plan") "__init__"),
  PySem.W.keepIn K (.ref (He.ma K (He.ga K "Plan") "__init__")),
  decide (PySem.W.findIn K (.ref (He.ga K "Plan")) "__eq__" = some (some (.ref (He.ma K (He.ga K "Plan") "__eq__")))),
  PySem.W.isFn K (.ref (He.ma K (He.ga K "Plan") "__eq__")),
  PySem.W.fnIn K (He.ma K (He.ga K "Plan") "__eq__"),
  PySem.W.keepIn K (.ref (He.ma K (He.ga K "Plan") "__eq__")),
  PySem.W.plainGet K (He.ga K "Yard") Str.empty,
  PySem.W.hasDictIn K (He.ga K "Yard"),
  PySem.W.plainOver K (He.ga K "Yard"),
  decide (PySem.W.findIn K (.ref (He.ga K "Yard")) "__setattr__" = some (some (.builtin "object.__setattr__"))),
  PySem.W.makesIn K (He.ga K "Yard"),
  PySem.W.keepIn K (.ref (He.ga K "Yard")),
  PySem.W.readsIn K (He.ga K "Yard") (.type "type"),
  decide (PySem.W.specialIn K (.ref (He.ga K "Yard")) "__getattribute__" = some (some (.builtin "type.__getattribute__")))]
def fc7 (K : PySem.W.Frag) : List Bool := [
  decide (PySem.W.findIn K (.ref (He.ga K "Yard")) "__class__" = some (some (.builtin "object.__class__"))),
  decide (PySem.W.mroIn K (He.ga K "Yard") (.type "object") = some true),
  PySem.W.plainGet K (He.ga K "Rule") Str.empty,
  PySem.W.hasDictIn K (He.ga K "Rule"),
  PySem.W.plainOver K (He.ga K "Rule"),
  decide (PySem.W.findIn K (.ref (He.ga K "Rule")) "__setattr__" = some (some (.builtin "object.__setattr__"))),
  PySem.W.makesIn K (He.ga K "Rule"),
  PySem.W.keepIn K (.ref (He.ga K "Rule")),
  PySem.W.readsIn K (He.ga K "Rule") (.type "type"),
  decide (PySem.W.specialIn K (.ref (He.ga K "Rule")) "__getattribute__" = some (some (.builtin "type.__getattribute__"))),
  decide (PySem.W.findIn K (.ref (He.ga K "Rule")) "__class__" = some (some (.builtin "object.__class__"))),
  decide (PySem.W.mroIn K (He.ga K "Rule") (.type "object") = some true),
  PySem.W.plainGet K (He.ga K "Plan") Str.empty,
  PySem.W.hasDictIn K (He.ga K "Plan"),
  PySem.W.plainOver K (He.ga K "Plan"),
  decide (PySem.W.findIn K (.ref (He.ga K "Plan")) "__setattr__" = some (some (.builtin "object.__setattr__"))),
  PySem.W.makesIn K (He.ga K "Plan"),
  PySem.W.keepIn K (.ref (He.ga K "Plan")),
  PySem.W.readsIn K (He.ga K "Plan") (.type "type"),
  decide (PySem.W.specialIn K (.ref (He.ga K "Plan")) "__getattribute__" = some (some (.builtin "type.__getattribute__"))),
  decide (PySem.W.findIn K (.ref (He.ga K "Plan")) "__class__" = some (some (.builtin "object.__class__"))),
  decide (PySem.W.mroIn K (He.ga K "Plan") (.type "object") = some true),
  decide (PySem.W.specialIn K (.builtin "object.__class__") "__get__" = some (some (.builtin "getset_descriptor.__get__"))),
  decide (PySem.W.takesIn K (.builtin "object.__class__") = some true),
  decide (PySem.W.findIn K (.ref (He.ga K "Plan")) "_rules" = some none)]
def fc8 (K : PySem.W.Frag) : List Bool := [
  decide (PySem.W.findIn K (.ref (He.ga K "Plan")) "names" = some none),
  decide (PySem.W.findIn K (.ref (He.ga K "Plan")) "support" = some none),
  decide (PySem.W.findIn K (.ref (He.ga K "Rule")) "least" = some none),
  decide (PySem.W.findIn K (.ref (He.ga K "Rule")) "names" = some none),
  decide (PySem.W.findIn K (.ref (He.ga K "Yard")) "mask" = some none),
  decide (PySem.W.findIn K (.ref (He.ga K "Yard")) "parts" = some none),
  decide (PySem.W.findIn K (.ref (He.ga K "Yard")) "plan" = some none),
  PySem.W.selfFirst K (He.ga K "Yard"),
  neIn K (He.ga K "Plan") (He.ma K (He.ga K "Plan") "__eq__"),
  neIn K (He.ga K "Yard") (He.ma K (He.ga K "Yard") "__eq__"),
  decide (itsA K (dtA K (He.ma K (He.ga K "Yard") "__init__")) = some [.ref (deA K (dtA K (He.ma K (He.ga K "Yard") "__init__")) 0)]),
  decide (itsA K (deA K (dtA K (He.ma K (He.ga K "Yard") "__init__")) 0) = some []),
  kwB K (kwD K (He.ga K "all_yards")) "standing" true,
  strC K "LETTERS" "abcdefghijklmnopqrstuvwxyz",
  intC K "LONGEST_NAME" 6,
  intC K "MOST_PARTS" 8,
  decide (PySem.W.nsIn K mainGlobals "RESERVED" = some (some (.ref (He.ga K "RESERVED")))),
  strsB K (He.ga K "RESERVED") ["all", "any", "of", "always", "never", "none"],
  decide (PySem.W.nsIn K mainGlobals "all" = some none),
  decide (PySem.W.nsIn K mainGlobals "any" = some none),
  decide (PySem.W.nsIn K mainGlobals "enumerate" = some none),
  decide (PySem.W.nsIn K mainGlobals "int" = some none),
  decide (PySem.W.nsIn K mainGlobals "isinstance" = some none),
  decide (PySem.W.nsIn K mainGlobals "len" = some none),
  decide (PySem.W.nsIn K mainGlobals "list" = some none)]
def fc9 (K : PySem.W.Frag) : List Bool := [
  decide (PySem.W.nsIn K mainGlobals "max" = some none),
  decide (PySem.W.nsIn K mainGlobals "range" = some none),
  decide (PySem.W.nsIn K mainGlobals "reversed" = some none),
  decide (PySem.W.nsIn K mainGlobals "set" = some none),
  decide (PySem.W.nsIn K mainGlobals "sorted" = some none),
  decide (PySem.W.nsIn K mainGlobals "sum" = some none),
  decide (PySem.W.nsIn K mainGlobals "tuple" = some none)]
def fcs (K : PySem.W.Frag) : List Bool := fc0 K ++ (fc1 K ++ (fc2 K ++ (fc3 K ++ (fc4 K ++ (fc5 K ++ (fc6 K ++ (fc7 K ++ (fc8 K ++ (fc9 K
)))))))))
def dA_check_parts : DefA := ⟨fun K => (He.ga K "check_parts"), "check_parts", "check_parts", defArgs s_check_parts, defBody s_check_parts, defScope s_check_parts⟩
def dA_check_plans : DefA := ⟨fun K => (He.ga K "check_plans"), "check_plans", "check_plans", defArgs s_check_plans, defBody s_check_plans, defScope s_check_plans⟩
def dA_names_in : DefA := ⟨fun K => (He.ga K "names_in"), "names_in", "names_in", defArgs s_names_in, defBody s_names_in, defScope s_names_in⟩
def dA_mask_of : DefA := ⟨fun K => (He.ga K "mask_of"), "mask_of", "mask_of", defArgs s_mask_of, defBody s_mask_of, defScope s_mask_of⟩
def dA_names_of : DefA := ⟨fun K => (He.ga K "names_of"), "names_of", "names_of", defArgs s_names_of, defBody s_names_of, defScope s_names_of⟩
def dA_in_order : DefA := ⟨fun K => (He.ga K "in_order"), "in_order", "in_order", defArgs s_in_order, defBody s_in_order, defScope s_in_order⟩
def dA_least_masks : DefA := ⟨fun K => (He.ga K "least_masks"), "least_masks", "least_masks", defArgs s_least_masks, defBody s_least_masks, defScope s_least_masks⟩
def dA_least_sets : DefA := ⟨fun K => (He.ga K "least_sets"), "least_sets", "least_sets", defArgs s_least_sets, defBody s_least_sets, defScope s_least_sets⟩
def dA_support_table : DefA := ⟨fun K => (He.ga K "support_table"), "support_table", "support_table", defArgs s_support_table, defBody s_support_table, defScope s_support_table⟩
def dA_supported_in : DefA := ⟨fun K => (He.ga K "supported_in"), "supported_in", "supported_in", defArgs s_supported_in, defBody s_supported_in, defScope s_supported_in⟩
def dA_falling_in : DefA := ⟨fun K => (He.ga K "falling_in"), "falling_in", "falling_in", defArgs s_falling_in, defBody s_falling_in, defScope s_falling_in⟩
def dA_stands_in : DefA := ⟨fun K => (He.ga K "stands_in"), "stands_in", "stands_in", defArgs s_stands_in, defBody s_stands_in, defScope s_stands_in⟩
def dA_rest_in : DefA := ⟨fun K => (He.ga K "rest_in"), "rest_in", "rest_in", defArgs s_rest_in, defBody s_rest_in, defScope s_rest_in⟩
def dA_masks_in_order : DefA := ⟨fun K => (He.ga K "masks_in_order"), "masks_in_order", "masks_in_order", defArgs s_masks_in_order, defBody s_masks_in_order, defScope s_masks_in_order⟩
def dA_yard_of : DefA := ⟨fun K => (He.ga K "yard_of"), "yard_of", "yard_of", defArgs s_yard_of, defBody s_yard_of, defScope s_yard_of⟩
def dA_parts_mask : DefA := ⟨fun K => (He.ga K "parts_mask"), "parts_mask", "parts_mask", defArgs s_parts_mask, defBody s_parts_mask, defScope s_parts_mask⟩
def dA_all_yards : DefA := ⟨fun K => (He.ga K "all_yards"), "all_yards", "all_yards", defArgs s_all_yards, defBody s_all_yards, defScope s_all_yards⟩
def dA_is_name : DefA := ⟨fun K => (He.ga K "is_name"), "is_name", "is_name", defArgs s_is_name, defBody s_is_name, defScope s_is_name⟩
def dA_check_count : DefA := ⟨fun K => (He.ga K "check_count"), "check_count", "check_count", defArgs s_check_count, defBody s_check_count, defScope s_check_count⟩
def dA_check_names : DefA := ⟨fun K => (He.ga K "check_names"), "check_names", "check_names", defArgs s_check_names, defBody s_check_names, defScope s_check_names⟩
def dA_check_rules : DefA := ⟨fun K => (He.ga K "check_rules"), "check_rules", "check_rules", defArgs s_check_rules, defBody s_check_rules, defScope s_check_rules⟩
def dA__law_deal : DefA := ⟨fun K => (He.ga K "_law_deal"), "_law_deal", "_law_deal", defArgs s__law_deal, defBody s__law_deal, defScope s__law_deal⟩
def dA__law_draw : DefA := ⟨fun K => (He.ga K "_law_draw"), "_law_draw", "_law_draw", defArgs s__law_draw, defBody s__law_draw, defScope s__law_draw⟩
def dA__law_mixed : DefA := ⟨fun K => (He.ga K "_law_mixed"), "_law_mixed", "_law_mixed", defArgs s__law_mixed, defBody s__law_mixed, defScope s__law_mixed⟩
def dA__law_some : DefA := ⟨fun K => (He.ga K "_law_some"), "_law_some", "_law_some", defArgs s__law_some, defBody s__law_some, defScope s__law_some⟩
def dA__law_any_word : DefA := ⟨fun K => (He.ga K "_law_any_word"), "_law_any_word", "_law_any_word", defArgs s__law_any_word, defBody s__law_any_word, defScope s__law_any_word⟩
def dA__law_words : DefA := ⟨fun K => (He.ga K "_law_words"), "_law_words", "_law_words", defArgs s__law_words, defBody s__law_words, defScope s__law_words⟩
def dA__law_sets : DefA := ⟨fun K => (He.ga K "_law_sets"), "_law_sets", "_law_sets", defArgs s__law_sets, defBody s__law_sets, defScope s__law_sets⟩
def dA__law_rows : DefA := ⟨fun K => (He.ga K "_law_rows"), "_law_rows", "_law_rows", defArgs s__law_rows, defBody s__law_rows, defScope s__law_rows⟩
def dA__law_plan : DefA := ⟨fun K => (He.ga K "_law_plan"), "_law_plan", "_law_plan", defArgs s__law_plan, defBody s__law_plan, defScope s__law_plan⟩
def dA__law_right : DefA := ⟨fun K => (He.ga K "_law_right"), "_law_right", "_law_right", defArgs s__law_right, defBody s__law_right, defScope s__law_right⟩
def dA_law : DefA := ⟨fun K => (He.ga K "law"), "law", "law", defArgs s_law, defBody s_law, defScope s_law⟩
def dA_Yard___init__ : DefA := ⟨fun K => (He.ma K (He.ga K "Yard") "__init__"), "__init__", "Yard.__init__", defArgs s_Yard___init__, defBody s_Yard___init__, defScope s_Yard___init__⟩
def dA_Yard_stands : DefA := ⟨fun K => (pfA K (He.ma K (He.ga K "Yard") "stands") "property"), "stands", "Yard.stands", defArgs s_Yard_stands, defBody s_Yard_stands, defScope s_Yard_stands⟩
def dA_Yard_rest : DefA := ⟨fun K => (pfA K (He.ma K (He.ga K "Yard") "rest") "property"), "rest", "Yard.rest", defArgs s_Yard_rest, defBody s_Yard_rest, defScope s_Yard_rest⟩
def dA_Yard_stands_under : DefA := ⟨fun K => (He.ma K (He.ga K "Yard") "stands_under"), "stands_under", "Yard.stands_under", defArgs s_Yard_stands_under, defBody s_Yard_stands_under, defScope s_Yard_stands_under⟩
def dA_Yard_rest_under : DefA := ⟨fun K => (He.ma K (He.ga K "Yard") "rest_under"), "rest_under", "Yard.rest_under", defArgs s_Yard_rest_under, defBody s_Yard_rest_under, defScope s_Yard_rest_under⟩
def dA_Yard___or__ : DefA := ⟨fun K => (He.ma K (He.ga K "Yard") "__or__"), "__or__", "Yard.__or__", defArgs s_Yard___or__, defBody s_Yard___or__, defScope s_Yard___or__⟩
def dA_Yard___sub__ : DefA := ⟨fun K => (He.ma K (He.ga K "Yard") "__sub__"), "__sub__", "Yard.__sub__", defArgs s_Yard___sub__, defBody s_Yard___sub__, defScope s_Yard___sub__⟩
def dA_Yard___eq__ : DefA := ⟨fun K => (He.ma K (He.ga K "Yard") "__eq__"), "__eq__", "Yard.__eq__", defArgs s_Yard___eq__, defBody s_Yard___eq__, defScope s_Yard___eq__⟩
def dA_Rule___init__ : DefA := ⟨fun K => (He.ma K (He.ga K "Rule") "__init__"), "__init__", "Rule.__init__", defArgs s_Rule___init__, defBody s_Rule___init__, defScope s_Rule___init__⟩
def dA_Rule_of_sets : DefA := ⟨fun K => (pfA K (pcA K (He.ga K "Rule") "of_sets") "classmethod"), "of_sets", "Rule.of_sets", defArgs s_Rule_of_sets, defBody s_Rule_of_sets, defScope s_Rule_of_sets⟩
def dA_Rule___eq__ : DefA := ⟨fun K => (He.ma K (He.ga K "Rule") "__eq__"), "__eq__", "Rule.__eq__", defArgs s_Rule___eq__, defBody s_Rule___eq__, defScope s_Rule___eq__⟩
def dA_Plan___init__ : DefA := ⟨fun K => (He.ma K (He.ga K "Plan") "__init__"), "__init__", "Plan.__init__", defArgs s_Plan___init__, defBody s_Plan___init__, defScope s_Plan___init__⟩
def dA_Plan___eq__ : DefA := ⟨fun K => (He.ma K (He.ga K "Plan") "__eq__"), "__eq__", "Plan.__eq__", defArgs s_Plan___eq__, defBody s_Plan___eq__, defScope s_Plan___eq__⟩
def dc0 : List DefA := [dA_check_parts, dA_check_plans, dA_names_in, dA_mask_of, dA_names_of, dA_in_order, dA_least_masks, dA_least_sets, dA_support_table, dA_supported_in, dA_falling_in, dA_stands_in, dA_rest_in, dA_masks_in_order, dA_yard_of, dA_parts_mask, dA_all_yards, dA_is_name, dA_check_count, dA_check_names, dA_check_rules, dA__law_deal, dA__law_draw, dA__law_mixed, dA__law_some]
def dc1 : List DefA := [dA__law_any_word, dA__law_words, dA__law_sets, dA__law_rows, dA__law_plan, dA__law_right, dA_law, dA_Yard___init__, dA_Yard_stands, dA_Yard_rest, dA_Yard_stands_under, dA_Yard_rest_under, dA_Yard___or__, dA_Yard___sub__, dA_Yard___eq__, dA_Rule___init__, dA_Rule_of_sets, dA_Rule___eq__, dA_Plan___init__, dA_Plan___eq__]
def dcs : List DefA := dc0 ++ (dc1
)
def lz0 : List PySem.Str := ["_wall", "YardError", "NoText", "NoPlan", "OtherPlan", "NoPart", "check_parts", "check_plans", "names_in", "mask_of", "names_of", "in_order", "least_masks", "both_masks", "least_sets", "all_of", "some_of", "at_least", "one_more", "holds", "support_table", "supported_in", "falling_in", "stands_in", "rest_in", "masks_in_order", "EMPTY", "show_yard", "show_names", "Yard"]
def lz1 : List PySem.Str := ["yard_of", "parts_mask", "read_parts", "all_yards", "LETTERS", "RESERVED", "LONGEST_NAME", "is_name", "COUNTS", "ALWAYS", "NEVER", "read_tree", "tree_from", "trees_from", "word_at", "expect", "least_of", "show_set", "show_rule", "Rule", "MOST_PARTS", "Plan", "check_count", "check_names", "check_rules", "read_rows", "read_row", "_law_deal", "_law_draw", "_law_mixed"]
def lz2 : List PySem.Str := ["_law_some", "_law_any_word", "_law_words", "_law_sets", "_law_rows", "_law_plan", "_law_right"]
def lzs : List PySem.Str := lz0 ++ (lz1 ++ (lz2
))
open PySem.W PySem.Calls in
abbrev hdR : PySem.W.OpenRow := PySem.W.OpenLaw.row PySem.Challenge.rw_nestprops_k19_whole_the_rest_is_the_grea
abbrev hdK : PySem.W.Hook := hookA 0 1600 fcs dcs
def hdO (s : PySem.W.SharedT) : AlA := obsAG 0 1600 fcs dcs (HandSHeadRun.getT s)
theorem hdO_eq (s : PySem.W.SharedT) : hdO s = hdK.obs s.abs := obsAG_eq (HandSHeadRun.getT_eq s)
open PySem.W PySem.Calls in
theorem hd_A (w : World) (os : OsState) : (hdEnd hdR 20000 w os).map (fun s => (HandSHeadRun.looksF hdR.prog (boot_heap w.params) s.abs, HandSHeadRun.seenQ (view hdR.prog [79]) lzs (importedModules hdR.prog.main.body) (fun s => xlAt (view hdR.prog [79]) [] s && recOk hdR.toRowW.records s) s.abs)) = some (true, openGood (view hdR.prog [79]) lzs) := by
  kernel_rfl
theorem hd_B1 (w : World) (os : OsState) : (hdEnd hdR 20000 w os).map (fun s => (fcs (hdKK s)).all id) = some true := by
  kernel_rfl
theorem hd_B2 (w : World) (os : OsState) : (hdEnd hdR 20000 w os).map (fun s => (dcs.take 23).all fun d => codA (hdKK s) (d.a (hdKK s)) d.qual) = some true := by
  kernel_rfl
theorem hd_B3 (w : World) (os : OsState) : (hdEnd hdR 20000 w os).map (fun s => (dcs.drop 23).all fun d => codA (hdKK s) (d.a (hdKK s)) d.qual) = some true := by
  kernel_rfl
theorem opt_and3 {α β : Type} {o : Option α} {f : α → Bool} {c : α → β → Bool} {l : List β} (n : Nat) (h1 : o.map f = some true) (h2 : o.map (fun s => (l.take n).all (c s)) = some true) (h3 : o.map (fun s => (l.drop n).all (c s)) = some true) : o.map (fun s => f s && l.all (c s)) = some true := by
  cases o with
  | none => cases h1
  | some s =>
    have e1 : f s = true := Option.some.inj h1
    have e2 : (l.take n).all (c s) = true := Option.some.inj h2
    have e3 : (l.drop n).all (c s) = true := Option.some.inj h3
    have e : l.all (c s) = true := by rw [← List.take_append_drop n l, List.all_append, e2, e3]; rfl
    show some (f s && l.all (c s)) = _
    rw [e1, e]; rfl
theorem hd_B (w : World) (os : OsState) : (hdEnd hdR 20000 w os).map (fun s => (fcs (hdKK s)).all id && dcs.all fun d => codA (hdKK s) (d.a (hdKK s)) d.qual) = some true := opt_and3 (α := PySem.W.SharedT) (β := DefA) (o := hdEnd hdR 20000 w os) (f := fun s => (fcs (hdKK s)).all id) (c := fun s d => codA (hdKK s) (d.a (hdKK s)) d.qual) (l := dcs) 23 (hd_B1 w os) (hd_B2 w os) (hd_B3 w os)
theorem hd_C (w : World) (os : OsState) : (hdEnd hdR 20000 w os).map (fun s => dcs.map fun d => fnWA (hdKK s) (d.a (hdKK s))) = some (dcs.map DefA.val) := by
  kernel_rfl
theorem hd_run (w : World) : HandSHeadRun.RunEq hdR (PySem.W.view hdR.prog [79]) hdK hdO 20000 lzs w := fun os => run_join (hd_A w os) (hd_B w os) (hd_C w os)
theorem hd_facts {P : Program} {w : World} {K : PySem.W.Frag} {h : Heap} {mg : Str → Option Value} {fa : Addr} (X : K.In h) (G : h.Ns mainGlobals mg) (hfa : mg "law" = some (.ref fa)) (c : SaysA fcs dcs K) :
    ∃ fd : FuncData, (∀ (s : Shared) (v : Value), BindsTo s fd ⟨[v], []⟩ [("_law_script", v)]) ∧ ∀ base : Heap, K.In base → base.Ns mainGlobals mg → FnG P w K mg base 10 fa fd ["_law_script"] (spLaw K) := by
  have F : ∀ (i : Nat) (b : Bool), (fcs K)[i]? = some b → b = true := fun i b h => c.fact i h
  obtain ⟨oc_check_parts, od_check_parts, dV_check_parts, kV_check_parts, dc_check_parts, pm_check_parts, an_check_parts, cd_check_parts, ct_check_parts, sl_check_parts, l_check_parts, d_check_parts, v_check_parts⟩ := c.def_ 0 (d := dA_check_parts) rfl
  obtain rfl := v_check_parts.symm.trans (of_decide_eq_true (F 0 _ rfl))
  obtain ⟨oc_check_plans, od_check_plans, dV_check_plans, kV_check_plans, dc_check_plans, pm_check_plans, an_check_plans, cd_check_plans, ct_check_plans, sl_check_plans, l_check_plans, d_check_plans, v_check_plans⟩ := c.def_ 1 (d := dA_check_plans) rfl
  obtain rfl := v_check_plans.symm.trans (of_decide_eq_true (F 1 _ rfl))
  obtain ⟨oc_names_in, od_names_in, dV_names_in, kV_names_in, dc_names_in, pm_names_in, an_names_in, cd_names_in, ct_names_in, sl_names_in, l_names_in, d_names_in, v_names_in⟩ := c.def_ 2 (d := dA_names_in) rfl
  obtain rfl := v_names_in.symm.trans (of_decide_eq_true (F 2 _ rfl))
  obtain ⟨oc_mask_of, od_mask_of, dV_mask_of, kV_mask_of, dc_mask_of, pm_mask_of, an_mask_of, cd_mask_of, ct_mask_of, sl_mask_of, l_mask_of, d_mask_of, v_mask_of⟩ := c.def_ 3 (d := dA_mask_of) rfl
  obtain rfl := v_mask_of.symm.trans (of_decide_eq_true (F 3 _ rfl))
  obtain ⟨oc_names_of, od_names_of, dV_names_of, kV_names_of, dc_names_of, pm_names_of, an_names_of, cd_names_of, ct_names_of, sl_names_of, l_names_of, d_names_of, v_names_of⟩ := c.def_ 4 (d := dA_names_of) rfl
  obtain rfl := v_names_of.symm.trans (of_decide_eq_true (F 4 _ rfl))
  obtain ⟨oc_in_order, od_in_order, dV_in_order, kV_in_order, dc_in_order, pm_in_order, an_in_order, cd_in_order, ct_in_order, sl_in_order, l_in_order, d_in_order, v_in_order⟩ := c.def_ 5 (d := dA_in_order) rfl
  obtain rfl := v_in_order.symm.trans (of_decide_eq_true (F 5 _ rfl))
  obtain ⟨oc_least_masks, od_least_masks, dV_least_masks, kV_least_masks, dc_least_masks, pm_least_masks, an_least_masks, cd_least_masks, ct_least_masks, sl_least_masks, l_least_masks, d_least_masks, v_least_masks⟩ := c.def_ 6 (d := dA_least_masks) rfl
  obtain rfl := v_least_masks.symm.trans (of_decide_eq_true (F 6 _ rfl))
  obtain ⟨oc_least_sets, od_least_sets, dV_least_sets, kV_least_sets, dc_least_sets, pm_least_sets, an_least_sets, cd_least_sets, ct_least_sets, sl_least_sets, l_least_sets, d_least_sets, v_least_sets⟩ := c.def_ 7 (d := dA_least_sets) rfl
  obtain rfl := v_least_sets.symm.trans (of_decide_eq_true (F 7 _ rfl))
  obtain ⟨oc_support_table, od_support_table, dV_support_table, kV_support_table, dc_support_table, pm_support_table, an_support_table, cd_support_table, ct_support_table, sl_support_table, l_support_table, d_support_table, v_support_table⟩ := c.def_ 8 (d := dA_support_table) rfl
  obtain rfl := v_support_table.symm.trans (of_decide_eq_true (F 8 _ rfl))
  obtain ⟨oc_supported_in, od_supported_in, dV_supported_in, kV_supported_in, dc_supported_in, pm_supported_in, an_supported_in, cd_supported_in, ct_supported_in, sl_supported_in, l_supported_in, d_supported_in, v_supported_in⟩ := c.def_ 9 (d := dA_supported_in) rfl
  obtain rfl := v_supported_in.symm.trans (of_decide_eq_true (F 9 _ rfl))
  obtain ⟨oc_falling_in, od_falling_in, dV_falling_in, kV_falling_in, dc_falling_in, pm_falling_in, an_falling_in, cd_falling_in, ct_falling_in, sl_falling_in, l_falling_in, d_falling_in, v_falling_in⟩ := c.def_ 10 (d := dA_falling_in) rfl
  obtain rfl := v_falling_in.symm.trans (of_decide_eq_true (F 10 _ rfl))
  obtain ⟨oc_stands_in, od_stands_in, dV_stands_in, kV_stands_in, dc_stands_in, pm_stands_in, an_stands_in, cd_stands_in, ct_stands_in, sl_stands_in, l_stands_in, d_stands_in, v_stands_in⟩ := c.def_ 11 (d := dA_stands_in) rfl
  obtain rfl := v_stands_in.symm.trans (of_decide_eq_true (F 11 _ rfl))
  obtain ⟨oc_rest_in, od_rest_in, dV_rest_in, kV_rest_in, dc_rest_in, pm_rest_in, an_rest_in, cd_rest_in, ct_rest_in, sl_rest_in, l_rest_in, d_rest_in, v_rest_in⟩ := c.def_ 12 (d := dA_rest_in) rfl
  obtain rfl := v_rest_in.symm.trans (of_decide_eq_true (F 12 _ rfl))
  obtain ⟨oc_masks_in_order, od_masks_in_order, dV_masks_in_order, kV_masks_in_order, dc_masks_in_order, pm_masks_in_order, an_masks_in_order, cd_masks_in_order, ct_masks_in_order, sl_masks_in_order, l_masks_in_order, d_masks_in_order, v_masks_in_order⟩ := c.def_ 13 (d := dA_masks_in_order) rfl
  obtain rfl := v_masks_in_order.symm.trans (of_decide_eq_true (F 13 _ rfl))
  obtain ⟨oc_yard_of, od_yard_of, dV_yard_of, kV_yard_of, dc_yard_of, pm_yard_of, an_yard_of, cd_yard_of, ct_yard_of, sl_yard_of, l_yard_of, d_yard_of, v_yard_of⟩ := c.def_ 14 (d := dA_yard_of) rfl
  obtain rfl := v_yard_of.symm.trans (of_decide_eq_true (F 14 _ rfl))
  obtain ⟨oc_parts_mask, od_parts_mask, dV_parts_mask, kV_parts_mask, dc_parts_mask, pm_parts_mask, an_parts_mask, cd_parts_mask, ct_parts_mask, sl_parts_mask, l_parts_mask, d_parts_mask, v_parts_mask⟩ := c.def_ 15 (d := dA_parts_mask) rfl
  obtain rfl := v_parts_mask.symm.trans (of_decide_eq_true (F 15 _ rfl))
  obtain ⟨oc_all_yards, od_all_yards, dV_all_yards, kV_all_yards, dc_all_yards, pm_all_yards, an_all_yards, cd_all_yards, ct_all_yards, sl_all_yards, l_all_yards, d_all_yards, v_all_yards⟩ := c.def_ 16 (d := dA_all_yards) rfl
  obtain rfl := v_all_yards.symm.trans (of_decide_eq_true (F 16 _ rfl))
  obtain ⟨oc_is_name, od_is_name, dV_is_name, kV_is_name, dc_is_name, pm_is_name, an_is_name, cd_is_name, ct_is_name, sl_is_name, l_is_name, d_is_name, v_is_name⟩ := c.def_ 17 (d := dA_is_name) rfl
  obtain rfl := v_is_name.symm.trans (of_decide_eq_true (F 17 _ rfl))
  obtain ⟨oc_check_count, od_check_count, dV_check_count, kV_check_count, dc_check_count, pm_check_count, an_check_count, cd_check_count, ct_check_count, sl_check_count, l_check_count, d_check_count, v_check_count⟩ := c.def_ 18 (d := dA_check_count) rfl
  obtain rfl := v_check_count.symm.trans (of_decide_eq_true (F 18 _ rfl))
  obtain ⟨oc_check_names, od_check_names, dV_check_names, kV_check_names, dc_check_names, pm_check_names, an_check_names, cd_check_names, ct_check_names, sl_check_names, l_check_names, d_check_names, v_check_names⟩ := c.def_ 19 (d := dA_check_names) rfl
  obtain rfl := v_check_names.symm.trans (of_decide_eq_true (F 19 _ rfl))
  obtain ⟨oc_check_rules, od_check_rules, dV_check_rules, kV_check_rules, dc_check_rules, pm_check_rules, an_check_rules, cd_check_rules, ct_check_rules, sl_check_rules, l_check_rules, d_check_rules, v_check_rules⟩ := c.def_ 20 (d := dA_check_rules) rfl
  obtain rfl := v_check_rules.symm.trans (of_decide_eq_true (F 20 _ rfl))
  obtain ⟨oc__law_deal, od__law_deal, dV__law_deal, kV__law_deal, dc__law_deal, pm__law_deal, an__law_deal, cd__law_deal, ct__law_deal, sl__law_deal, l__law_deal, d__law_deal, v__law_deal⟩ := c.def_ 21 (d := dA__law_deal) rfl
  obtain rfl := v__law_deal.symm.trans (of_decide_eq_true (F 21 _ rfl))
  obtain ⟨oc__law_draw, od__law_draw, dV__law_draw, kV__law_draw, dc__law_draw, pm__law_draw, an__law_draw, cd__law_draw, ct__law_draw, sl__law_draw, l__law_draw, d__law_draw, v__law_draw⟩ := c.def_ 22 (d := dA__law_draw) rfl
  obtain rfl := v__law_draw.symm.trans (of_decide_eq_true (F 22 _ rfl))
  obtain ⟨oc__law_mixed, od__law_mixed, dV__law_mixed, kV__law_mixed, dc__law_mixed, pm__law_mixed, an__law_mixed, cd__law_mixed, ct__law_mixed, sl__law_mixed, l__law_mixed, d__law_mixed, v__law_mixed⟩ := c.def_ 23 (d := dA__law_mixed) rfl
  obtain rfl := v__law_mixed.symm.trans (of_decide_eq_true (F 23 _ rfl))
  obtain ⟨oc__law_some, od__law_some, dV__law_some, kV__law_some, dc__law_some, pm__law_some, an__law_some, cd__law_some, ct__law_some, sl__law_some, l__law_some, d__law_some, v__law_some⟩ := c.def_ 24 (d := dA__law_some) rfl
  obtain rfl := v__law_some.symm.trans (of_decide_eq_true (F 24 _ rfl))
  obtain ⟨oc__law_any_word, od__law_any_word, dV__law_any_word, kV__law_any_word, dc__law_any_word, pm__law_any_word, an__law_any_word, cd__law_any_word, ct__law_any_word, sl__law_any_word, l__law_any_word, d__law_any_word, v__law_any_word⟩ := c.def_ 25 (d := dA__law_any_word) rfl
  obtain rfl := v__law_any_word.symm.trans (of_decide_eq_true (F 25 _ rfl))
  obtain ⟨oc__law_words, od__law_words, dV__law_words, kV__law_words, dc__law_words, pm__law_words, an__law_words, cd__law_words, ct__law_words, sl__law_words, l__law_words, d__law_words, v__law_words⟩ := c.def_ 26 (d := dA__law_words) rfl
  obtain rfl := v__law_words.symm.trans (of_decide_eq_true (F 26 _ rfl))
  obtain ⟨oc__law_sets, od__law_sets, dV__law_sets, kV__law_sets, dc__law_sets, pm__law_sets, an__law_sets, cd__law_sets, ct__law_sets, sl__law_sets, l__law_sets, d__law_sets, v__law_sets⟩ := c.def_ 27 (d := dA__law_sets) rfl
  obtain rfl := v__law_sets.symm.trans (of_decide_eq_true (F 27 _ rfl))
  obtain ⟨oc__law_rows, od__law_rows, dV__law_rows, kV__law_rows, dc__law_rows, pm__law_rows, an__law_rows, cd__law_rows, ct__law_rows, sl__law_rows, l__law_rows, d__law_rows, v__law_rows⟩ := c.def_ 28 (d := dA__law_rows) rfl
  obtain rfl := v__law_rows.symm.trans (of_decide_eq_true (F 28 _ rfl))
  obtain ⟨oc__law_plan, od__law_plan, dV__law_plan, kV__law_plan, dc__law_plan, pm__law_plan, an__law_plan, cd__law_plan, ct__law_plan, sl__law_plan, l__law_plan, d__law_plan, v__law_plan⟩ := c.def_ 29 (d := dA__law_plan) rfl
  obtain rfl := v__law_plan.symm.trans (of_decide_eq_true (F 29 _ rfl))
  obtain ⟨oc__law_right, od__law_right, dV__law_right, kV__law_right, dc__law_right, pm__law_right, an__law_right, cd__law_right, ct__law_right, sl__law_right, l__law_right, d__law_right, v__law_right⟩ := c.def_ 30 (d := dA__law_right) rfl
  obtain rfl := v__law_right.symm.trans (of_decide_eq_true (F 30 _ rfl))
  obtain ⟨oc_law, od_law, dV_law, kV_law, dc_law, pm_law, an_law, cd_law, ct_law, sl_law, l_law, d_law, v_law⟩ := c.def_ 31 (d := dA_law) rfl
  obtain rfl := v_law.symm.trans (of_decide_eq_true (F 31 _ rfl))
  obtain ⟨oc_Yard___init__, od_Yard___init__, dV_Yard___init__, kV_Yard___init__, dc_Yard___init__, pm_Yard___init__, an_Yard___init__, cd_Yard___init__, ct_Yard___init__, sl_Yard___init__, l_Yard___init__, d_Yard___init__, v_Yard___init__⟩ := c.def_ 32 (d := dA_Yard___init__) rfl
  obtain rfl := v_Yard___init__.symm.trans (of_decide_eq_true (F 32 _ rfl))
  obtain ⟨oc_Yard_stands, od_Yard_stands, dV_Yard_stands, kV_Yard_stands, dc_Yard_stands, pm_Yard_stands, an_Yard_stands, cd_Yard_stands, ct_Yard_stands, sl_Yard_stands, l_Yard_stands, d_Yard_stands, v_Yard_stands⟩ := c.def_ 33 (d := dA_Yard_stands) rfl
  obtain rfl := v_Yard_stands.symm.trans (of_decide_eq_true (F 33 _ rfl))
  obtain ⟨oc_Yard_rest, od_Yard_rest, dV_Yard_rest, kV_Yard_rest, dc_Yard_rest, pm_Yard_rest, an_Yard_rest, cd_Yard_rest, ct_Yard_rest, sl_Yard_rest, l_Yard_rest, d_Yard_rest, v_Yard_rest⟩ := c.def_ 34 (d := dA_Yard_rest) rfl
  obtain rfl := v_Yard_rest.symm.trans (of_decide_eq_true (F 34 _ rfl))
  obtain ⟨oc_Yard_stands_under, od_Yard_stands_under, dV_Yard_stands_under, kV_Yard_stands_under, dc_Yard_stands_under, pm_Yard_stands_under, an_Yard_stands_under, cd_Yard_stands_under, ct_Yard_stands_under, sl_Yard_stands_under, l_Yard_stands_under, d_Yard_stands_under, v_Yard_stands_under⟩ := c.def_ 35 (d := dA_Yard_stands_under) rfl
  obtain rfl := v_Yard_stands_under.symm.trans (of_decide_eq_true (F 35 _ rfl))
  obtain ⟨oc_Yard_rest_under, od_Yard_rest_under, dV_Yard_rest_under, kV_Yard_rest_under, dc_Yard_rest_under, pm_Yard_rest_under, an_Yard_rest_under, cd_Yard_rest_under, ct_Yard_rest_under, sl_Yard_rest_under, l_Yard_rest_under, d_Yard_rest_under, v_Yard_rest_under⟩ := c.def_ 36 (d := dA_Yard_rest_under) rfl
  obtain rfl := v_Yard_rest_under.symm.trans (of_decide_eq_true (F 36 _ rfl))
  obtain ⟨oc_Yard___or__, od_Yard___or__, dV_Yard___or__, kV_Yard___or__, dc_Yard___or__, pm_Yard___or__, an_Yard___or__, cd_Yard___or__, ct_Yard___or__, sl_Yard___or__, l_Yard___or__, d_Yard___or__, v_Yard___or__⟩ := c.def_ 37 (d := dA_Yard___or__) rfl
  obtain rfl := v_Yard___or__.symm.trans (of_decide_eq_true (F 37 _ rfl))
  obtain ⟨oc_Yard___sub__, od_Yard___sub__, dV_Yard___sub__, kV_Yard___sub__, dc_Yard___sub__, pm_Yard___sub__, an_Yard___sub__, cd_Yard___sub__, ct_Yard___sub__, sl_Yard___sub__, l_Yard___sub__, d_Yard___sub__, v_Yard___sub__⟩ := c.def_ 38 (d := dA_Yard___sub__) rfl
  obtain rfl := v_Yard___sub__.symm.trans (of_decide_eq_true (F 38 _ rfl))
  obtain ⟨oc_Yard___eq__, od_Yard___eq__, dV_Yard___eq__, kV_Yard___eq__, dc_Yard___eq__, pm_Yard___eq__, an_Yard___eq__, cd_Yard___eq__, ct_Yard___eq__, sl_Yard___eq__, l_Yard___eq__, d_Yard___eq__, v_Yard___eq__⟩ := c.def_ 39 (d := dA_Yard___eq__) rfl
  obtain rfl := v_Yard___eq__.symm.trans (of_decide_eq_true (F 39 _ rfl))
  obtain ⟨oc_Rule___init__, od_Rule___init__, dV_Rule___init__, kV_Rule___init__, dc_Rule___init__, pm_Rule___init__, an_Rule___init__, cd_Rule___init__, ct_Rule___init__, sl_Rule___init__, l_Rule___init__, d_Rule___init__, v_Rule___init__⟩ := c.def_ 40 (d := dA_Rule___init__) rfl
  obtain rfl := v_Rule___init__.symm.trans (of_decide_eq_true (F 40 _ rfl))
  obtain ⟨oc_Rule_of_sets, od_Rule_of_sets, dV_Rule_of_sets, kV_Rule_of_sets, dc_Rule_of_sets, pm_Rule_of_sets, an_Rule_of_sets, cd_Rule_of_sets, ct_Rule_of_sets, sl_Rule_of_sets, l_Rule_of_sets, d_Rule_of_sets, v_Rule_of_sets⟩ := c.def_ 41 (d := dA_Rule_of_sets) rfl
  obtain rfl := v_Rule_of_sets.symm.trans (of_decide_eq_true (F 41 _ rfl))
  obtain ⟨oc_Rule___eq__, od_Rule___eq__, dV_Rule___eq__, kV_Rule___eq__, dc_Rule___eq__, pm_Rule___eq__, an_Rule___eq__, cd_Rule___eq__, ct_Rule___eq__, sl_Rule___eq__, l_Rule___eq__, d_Rule___eq__, v_Rule___eq__⟩ := c.def_ 42 (d := dA_Rule___eq__) rfl
  obtain rfl := v_Rule___eq__.symm.trans (of_decide_eq_true (F 42 _ rfl))
  obtain ⟨oc_Plan___init__, od_Plan___init__, dV_Plan___init__, kV_Plan___init__, dc_Plan___init__, pm_Plan___init__, an_Plan___init__, cd_Plan___init__, ct_Plan___init__, sl_Plan___init__, l_Plan___init__, d_Plan___init__, v_Plan___init__⟩ := c.def_ 43 (d := dA_Plan___init__) rfl
  obtain rfl := v_Plan___init__.symm.trans (of_decide_eq_true (F 43 _ rfl))
  obtain ⟨oc_Plan___eq__, od_Plan___eq__, dV_Plan___eq__, kV_Plan___eq__, dc_Plan___eq__, pm_Plan___eq__, an_Plan___eq__, cd_Plan___eq__, ct_Plan___eq__, sl_Plan___eq__, l_Plan___eq__, d_Plan___eq__, v_Plan___eq__⟩ := c.def_ 44 (d := dA_Plan___eq__) rfl
  obtain rfl := v_Plan___eq__.symm.trans (of_decide_eq_true (F 44 _ rfl))
  obtain rfl := (kwd_ok l_all_yards).trans (of_decide_eq_true (F 45 _ rfl))
  obtain ⟨re_Yard_stands, h_rc_Yard_stands⟩ := pf_ok (F 118 _ rfl)
  obtain ⟨re_Yard_rest, h_rc_Yard_rest⟩ := pf_ok (F 123 _ rfl)
  obtain ⟨re_Rule_of_sets, h_rc_Rule_of_sets⟩ := pf_ok (F 152 _ rfl)
  obtain ⟨dtd_Yard___init__, dtn_Yard___init__, dts_Yard___init__, h_dt_Yard___init__⟩ := its_ok (of_decide_eq_true (F 210 _ rfl))
  obtain ⟨le0_Yard___init___d, le0_Yard___init___n, le0_Yard___init___s, h_le0_Yard___init__⟩ := its_ok (of_decide_eq_true (F 211 _ rfl))
  have h_kq0_all_yards := kwB_ok (F 212 _ rfl)
  obtain ⟨tk_LETTERS, h_c_LETTERS⟩ := strC_ok (F 213 _ rfl)
  obtain ⟨tk_LONGEST_NAME, h_c_LONGEST_NAME⟩ := intC_ok (F 214 _ rfl)
  obtain ⟨tk_MOST_PARTS, h_c_MOST_PARTS⟩ := intC_ok (F 215 _ rfl)
  obtain ⟨acd_RESERVED, acn_RESERVED, acs_RESERVED, cv0_RESERVED, h_lt_RESERVED, hv0_RESERVED⟩ := strs_ok (ss := ["all", "any", "of", "always", "never", "none"]) (F 217 _ rfl)
  obtain ⟨t0_RESERVED, cv1_RESERVED, rfl, hv1_RESERVED⟩ := vals_str hv0_RESERVED
  obtain ⟨t1_RESERVED, cv2_RESERVED, rfl, hv2_RESERVED⟩ := vals_str hv1_RESERVED
  obtain ⟨t2_RESERVED, cv3_RESERVED, rfl, hv3_RESERVED⟩ := vals_str hv2_RESERVED
  obtain ⟨t3_RESERVED, cv4_RESERVED, rfl, hv4_RESERVED⟩ := vals_str hv3_RESERVED
  obtain ⟨t4_RESERVED, cv5_RESERVED, rfl, hv5_RESERVED⟩ := vals_str hv4_RESERVED
  obtain ⟨t5_RESERVED, cv6_RESERVED, rfl, hv6_RESERVED⟩ := vals_str hv5_RESERVED
  obtain rfl := vals_end hv6_RESERVED
  exact all_mk X G hfa (of_decide_eq_true (F 46 _ rfl)) (of_decide_eq_true (F 47 _ rfl)) (of_decide_eq_true (F 48 _ rfl)) (of_decide_eq_true (F 49 _ rfl)) l_check_parts d_check_parts (F 50 _ rfl) (of_decide_eq_true (F 51 _ rfl)) l_check_plans d_check_plans (F 52 _ rfl) (of_decide_eq_true (F 53 _ rfl)) l_names_in d_names_in (F 54 _ rfl) (of_decide_eq_true (F 55 _ rfl)) l_mask_of d_mask_of (F 56 _ rfl) (of_decide_eq_true (F 57 _ rfl)) l_names_of d_names_of (F 58 _ rfl) (of_decide_eq_true (F 59 _ rfl)) l_in_order d_in_order (F 60 _ rfl) (of_decide_eq_true (F 61 _ rfl)) l_least_masks d_least_masks (F 62 _ rfl) (of_decide_eq_true (F 63 _ rfl)) l_least_sets d_least_sets (F 64 _ rfl) (of_decide_eq_true (F 65 _ rfl)) l_support_table d_support_table (F 66 _ rfl) (of_decide_eq_true (F 67 _ rfl)) l_supported_in d_supported_in (F 68 _ rfl) (of_decide_eq_true (F 69 _ rfl)) l_falling_in d_falling_in (F 70 _ rfl) (of_decide_eq_true (F 71 _ rfl)) l_stands_in d_stands_in (F 72 _ rfl) (of_decide_eq_true (F 73 _ rfl)) l_rest_in d_rest_in (F 74 _ rfl) (of_decide_eq_true (F 75 _ rfl)) l_masks_in_order d_masks_in_order (F 76 _ rfl) (of_decide_eq_true (F 77 _ rfl)) l_yard_of d_yard_of (F 78 _ rfl) (of_decide_eq_true (F 79 _ rfl)) l_parts_mask d_parts_mask (F 80 _ rfl) (of_decide_eq_true (F 81 _ rfl)) l_all_yards d_all_yards (F 82 _ rfl) (of_decide_eq_true (F 83 _ rfl)) l_is_name d_is_name (F 84 _ rfl) (of_decide_eq_true (F 85 _ rfl)) l_check_count d_check_count (F 86 _ rfl) (of_decide_eq_true (F 87 _ rfl)) l_check_names d_check_names (F 88 _ rfl) (of_decide_eq_true (F 89 _ rfl)) l_check_rules d_check_rules (F 90 _ rfl) (of_decide_eq_true (F 91 _ rfl)) l__law_deal d__law_deal (F 92 _ rfl) (of_decide_eq_true (F 93 _ rfl)) l__law_draw d__law_draw (F 94 _ rfl) (of_decide_eq_true (F 95 _ rfl)) l__law_mixed d__law_mixed (F 96 _ rfl) (of_decide_eq_true (F 97 _ rfl)) l__law_some d__law_some (F 98 _ rfl) (of_decide_eq_true (F 99 _ rfl)) l__law_any_word d__law_any_word (F 100 _ rfl) (of_decide_eq_true (F 101 _ rfl)) l__law_words d__law_words (F 102 _ rfl) (of_decide_eq_true (F 103 _ rfl)) l__law_sets d__law_sets (F 104 _ rfl) (of_decide_eq_true (F 105 _ rfl)) l__law_rows d__law_rows (F 106 _ rfl) (of_decide_eq_true (F 107 _ rfl)) l__law_plan d__law_plan (F 108 _ rfl) (of_decide_eq_true (F 109 _ rfl)) l__law_right d__law_right (F 110 _ rfl) (of_decide_eq_true (F 111 _ rfl)) l_law d_law (F 112 _ rfl) (of_decide_eq_true (F 113 _ rfl)) (F 114 _ rfl) (F 115 _ rfl) l_Yard___init__ d_Yard___init__ (F 116 _ rfl) (of_decide_eq_true (F 117 _ rfl)) h_rc_Yard_stands (of_decide_eq_true (F 119 _ rfl)) (of_decide_eq_true (F 120 _ rfl)) l_Yard_stands d_Yard_stands (F 121 _ rfl) (of_decide_eq_true (F 122 _ rfl)) h_rc_Yard_rest (of_decide_eq_true (F 124 _ rfl)) (of_decide_eq_true (F 125 _ rfl)) l_Yard_rest d_Yard_rest (F 126 _ rfl) (of_decide_eq_true (F 127 _ rfl)) (F 128 _ rfl) (F 129 _ rfl) l_Yard_stands_under d_Yard_stands_under (F 130 _ rfl) (of_decide_eq_true (F 131 _ rfl)) (F 132 _ rfl) (F 133 _ rfl) l_Yard_rest_under d_Yard_rest_under (F 134 _ rfl) (of_decide_eq_true (F 135 _ rfl)) (F 136 _ rfl) (F 137 _ rfl) l_Yard___or__ d_Yard___or__ (F 138 _ rfl) (of_decide_eq_true (F 139 _ rfl)) (F 140 _ rfl) (F 141 _ rfl) l_Yard___sub__ d_Yard___sub__ (F 142 _ rfl) (of_decide_eq_true (F 143 _ rfl)) (F 144 _ rfl) (F 145 _ rfl) l_Yard___eq__ d_Yard___eq__ (F 146 _ rfl) (of_decide_eq_true (F 147 _ rfl)) (F 148 _ rfl) (F 149 _ rfl) l_Rule___init__ d_Rule___init__ (F 150 _ rfl) (pc_ok (F 151 _ rfl)) h_rc_Rule_of_sets (F 153 _ rfl) l_Rule_of_sets d_Rule_of_sets (F 154 _ rfl) (of_decide_eq_true (F 155 _ rfl)) (F 156 _ rfl) (F 157 _ rfl) l_Rule___eq__ d_Rule___eq__ (F 158 _ rfl) (of_decide_eq_true (F 159 _ rfl)) (F 160 _ rfl) (F 161 _ rfl) l_Plan___init__ d_Plan___init__ (F 162 _ rfl) (of_decide_eq_true (F 163 _ rfl)) (F 164 _ rfl) (F 165 _ rfl) l_Plan___eq__ d_Plan___eq__ (F 166 _ rfl) (F 167 _ rfl) (F 168 _ rfl) (F 169 _ rfl) (of_decide_eq_true (F 170 _ rfl)) (F 171 _ rfl) (F 172 _ rfl) (F 173 _ rfl) (of_decide_eq_true (F 174 _ rfl)) (of_decide_eq_true (F 175 _ rfl)) (of_decide_eq_true (F 176 _ rfl)) (F 177 _ rfl) (F 178 _ rfl) (F 179 _ rfl) (of_decide_eq_true (F 180 _ rfl)) (F 181 _ rfl) (F 182 _ rfl) (F 183 _ rfl) (of_decide_eq_true (F 184 _ rfl)) (of_decide_eq_true (F 185 _ rfl)) (of_decide_eq_true (F 186 _ rfl)) (F 187 _ rfl) (F 188 _ rfl) (F 189 _ rfl) (of_decide_eq_true (F 190 _ rfl)) (F 191 _ rfl) (F 192 _ rfl) (F 193 _ rfl) (of_decide_eq_true (F 194 _ rfl)) (of_decide_eq_true (F 195 _ rfl)) (of_decide_eq_true (F 196 _ rfl)) (of_decide_eq_true (F 197 _ rfl)) (of_decide_eq_true (F 198 _ rfl)) (of_decide_eq_true (F 199 _ rfl)) (of_decide_eq_true (F 200 _ rfl)) (of_decide_eq_true (F 201 _ rfl)) (of_decide_eq_true (F 202 _ rfl)) (of_decide_eq_true (F 203 _ rfl)) (of_decide_eq_true (F 204 _ rfl)) (of_decide_eq_true (F 205 _ rfl)) (of_decide_eq_true (F 206 _ rfl)) (F 207 _ rfl) (F 208 _ rfl) (F 209 _ rfl) h_dt_Yard___init__ h_le0_Yard___init__ h_kq0_all_yards h_c_LETTERS h_c_LONGEST_NAME h_c_MOST_PARTS (of_decide_eq_true (F 216 _ rfl)) h_lt_RESERVED (of_decide_eq_true (F 218 _ rfl)) (of_decide_eq_true (F 219 _ rfl)) (of_decide_eq_true (F 220 _ rfl)) (of_decide_eq_true (F 221 _ rfl)) (of_decide_eq_true (F 222 _ rfl)) (of_decide_eq_true (F 223 _ rfl)) (of_decide_eq_true (F 224 _ rfl)) (of_decide_eq_true (F 225 _ rfl)) (of_decide_eq_true (F 226 _ rfl)) (of_decide_eq_true (F 227 _ rfl)) (of_decide_eq_true (F 228 _ rfl)) (of_decide_eq_true (F 229 _ rfl)) (of_decide_eq_true (F 230 _ rfl)) (of_decide_eq_true (F 231 _ rfl))
end Dw
open PySem PySem.W PySem.Calls PyProof.Rows
theorem PySem.Challenge.cw_nestprops_k19_whole_the_rest_is_the_grea_holds : PySem.Challenge.rw_nestprops_k19_whole_the_rest_is_the_grea.Holds := by
  w_on; o_law
  refine HandSHeadRun.head_any (r := OpenLaw.row PySem.Challenge.rw_nestprops_k19_whole_the_rest_is_the_grea) (q := view (OpenLaw.row PySem.Challenge.rw_nestprops_k19_whole_the_rest_is_the_grea).prog [79]) (H := Dw.hdK) (ob := Dw.hdO) (M := 20000) (loose := Dw.lzs) (d := HandSHeadRun.topDef (OpenLaw.row PySem.Challenge.rw_nestprops_k19_whole_the_rest_is_the_grea).prog 79) (kwd := []) Dw.hdO_eq
    (by kernel_rfl) (fun s => by kernel_rfl) Dw.hd_run (by kernel_rfl) (by kernel_rfl) (by kernel_rfl) (by rfl) (by first | assumption | decide +kernel) (by decide +kernel) ⟨rfl, rfl, rfl, rfl, rfl, by decide +kernel⟩ ?hw ?hc
  case hw => w_witness2
  case hc =>
    refine Dw.walk_gE (l := PySem.Challenge.rw_nestprops_k19_whole_the_rest_is_the_grea) (n := 63) (k := 10) (x := "_law_script") rfl (by decide) (by kernel_rfl) ⟨rfl, by decide, by decide⟩ ?F
    intro w mg fa h Y G hmg0
    obtain ⟨K, KX, c⟩ := Y
    have hmg : mg ("law" : PySem.Str) = some (.ref fa) := by
      have e : (HandSHeadRun.topDef (OpenLaw.row PySem.Challenge.rw_nestprops_k19_whole_the_rest_is_the_grea).prog 79).name = ("law" : PySem.Str) := by kernel_rfl
      rw [← e]
      exact hmg0
    obtain ⟨fd, hb, hF⟩ := Dw.hd_facts (P := (PySem.Challenge.rw_nestprops_k19_whole_the_rest_is_the_grea).prog) (w := w) KX G hmg c
    exact ⟨K, fd, Dw.spLaw K, KX, hb, fun H a ns hl _ hS => ⟨a, ns, rfl, hS, hl, fun _ => rfl⟩, hF⟩
