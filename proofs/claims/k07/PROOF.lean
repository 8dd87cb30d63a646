import PyProof.Rows.All
import Wide.All
import OpenK.AllK
import Wide.FinOn
import HandS.ForMost
import HandS.ForExc
import HandS.Wide
import HandS.Property
import HandS.Style
import HandS.More
import HandS.IsInst
import HandS.Codes
import HandS.Dict
import HandS.Iter
import KE.SortData
import KE.KDictCopyH
import KE.DataMinMax
import HandS.SortKw
import HandS.Conv
import KE.KDictDisplayH
import HandS.Gcd
import KE.KMathGC
import HandS.DictComp
import HandS.SetBool
import HandS.Strs
import HandS.TupAny
import KE.KEqDict
import HandS.DictTup
import HandS.TupLen
import HandS.ExcInit
import HandS.ExcField
import HandS.ExcIs
import KE.KExcIs
import HandS.OwnEq
import HandS.ExcValue
import HandS.Conv
import KE.KDictSum
import KE.KDictKeyed
import KE.SortKeyHeap
import KE.KIntText
import HandS.HotCalls
import HandS.Deep
import HandS.SetKeys
import HandS.Sort
import PySem.Challenge.RW_nestsums_k07_alike_formulas
set_option Elab.async false
set_option linter.all false
set_option maxRecDepth 100000
/-! Data in the place of heaps: frozen data, live cells, worlds; what an expression or a statement does to them. -/
namespace DL
open PySem PySem.Spec PyProof.Rows L2

/-! ### data, cells, worlds -/
inductive D where
  | non | bl (b : Bool) | int (i : Int) | str (x : Str)
  | lst (xs : List D) | tup (xs : List D) | ins (n : Nat) (xs : List D)
  | root (j : Nat) | scr (xs : List D)
  | exc (n : Nat) (d : D)
inductive C where
  | lst (xs : List D)
  | dK (kvs : List (Key × D))
  | dT (kvs : List (List Key × D))
  | ins (n : Nat) (fs : List (Str × D))
  | fz (d : D)
  | zT (kvs : List (List Key × D))
  | dN (kvs : List (NestedKey × D))
  | zN (kvs : List (NestedKey × D))
def C.live : C → Prop
  | .fz _ => False
  | .zT _ => False
  | .zN _ => False
  | _ => True
abbrev Cells := List C
structure Wd where
  A : List Addr
  cs : Cells
  G : Addr → Prop
def Wd.Live (W : Wd) (a : Addr) : Prop := ∃ (j : Nat) (c : C), W.A[j]? = some a ∧ W.cs[j]? = some c ∧ c.live
/-- neither a live cell's place nor set aside -/
def Wd.Fz (W : Wd) (a : Addr) : Prop := ¬ W.Live a ∧ ¬ W.G a
/-- the text's classes: their places, their fields; the exceptions' classes -/
structure Tb where
  cl : Nat → Addr
  fl : Nat → List Str
  xc : Nat → Addr
  /-- the exception in hand: its place, its class, its dict -/
  ex : Option (Addr × Nat × Addr)

/-! nested keys, without texts -/
mutual
def nkD : NestedKey → D
  | .none => .non
  | .num i => .int i
  | .text x => .str x
  | .tup ks => .tup (nkDs ks)
def nkDs : List NestedKey → List D
  | [] => []
  | k :: ks => nkD k :: nkDs ks
end
mutual
def bareK : NestedKey → Bool
  | .none => true
  | .num _ => true
  | .text _ => false
  | .tup ks => bareKs ks
def bareKs : List NestedKey → Bool
  | [] => true
  | k :: ks => bareK k && bareKs ks
end
/-- keys, their places, values -/
abbrev NKV := List (NestedKey × Addr × V)
abbrev NPair : NKV → List (NestedKey × Addr × Value) → Prop := Paired fun p q => p.1 = q.1 ∧ p.2.1 = q.2.1 ∧ RelV p.2.2 q.2.2
/-- at a stands a dict with these nested keys -/
def NdH (a : Addr) (kvs : NKV) : Heap → Prop := fun h => kvs.length ≤ sizeLine ∧ (a == sysModules) = false ∧ (∀ p ∈ kvs, bareK p.1 = true ∧ p.1.depth ≤ 8) ∧
  ∃ xs, NPair kvs xs ∧ ∃ o es ep, h.get? a = some o ∧ o.ExactDict ∧ o.data = .dict es ep ∧ (∀ (P : Program) (w : World), es.toList = xs.map (entryOfKey (nestedKind P w))) ∧ (xs.map (·.1)).Nodup
def NdO (a : Addr) (kvs : NKV) : HO := .ext (NdH a kvs)
section
variable (K : PySem.W.Frag) (T : Tb)
mutual
inductive At (K : PySem.W.Frag) (T : Tb) (W : Wd) (H : Hp) : D → V → Prop
  | non : At K T W H .non .non
  | bl (b : Bool) : At K T W H (.bl b) (.bl b)
  | int (i : Int) : At K T W H (.int i) (.int i)
  | str (x : Str) : At K T W H (.str x) (.str x)
  | root {j : Nat} {a : Addr} : W.A[j]? = some a → At K T W H (.root j) (.ref a)
  | lst {a : Addr} {vs : List V} {ds : List D} : H a = some (.lst vs) → W.Fz a → AtL K T W H ds vs → At K T W H (.lst ds) (.ref a)
  | tup {a : Addr} {vs : List V} {ds : List D} : H a = some (.tup vs) → W.Fz a → AtL K T W H ds vs → At K T W H (.tup ds) (.ref a)
  | ins {a dx : Addr} {n : Nat} {vs : List V} {ds : List D} : H a = some (.ins (T.cl n) dx ((T.fl n).zip vs)) → vs.length = (T.fl n).length → W.Fz a → AtL K T W H ds vs → At K T W H (.ins n ds) (.ref a)
  | scr {a : Addr} {vs : List V} {ds : List D} : ((Rd H a (.lst vs) ∧ W.Fz a) ∨ ∀ H1, SqL K H1 a vs) → AtL K T W H ds vs → At K T W H (.scr ds) (.ref a)
  | exc {a dx : Addr} {n : Nat} {v : V} {d : D} : T.ex = some (a, n, dx) → H dx = some (.xd [(("value" : Str), v)]) → W.Fz dx → At K T W H d v → At K T W H (.exc n d) (.ref a)
inductive AtL (K : PySem.W.Frag) (T : Tb) (W : Wd) (H : Hp) : List D → List V → Prop
  | nil : AtL K T W H [] []
  | cons {d : D} {v : V} {ds : List D} {vs : List V} : At K T W H d v → AtL K T W H ds vs → AtL K T W H (d :: ds) (v :: vs)
end

def NAt (W : Wd) (H : Hp) : List (NestedKey × D) → NKV → Prop := Paired fun p q => p.1 = q.1 ∧ At K T W H (nkD p.1) (.ref q.2.1) ∧ At K T W H p.2 q.2.2
def CellAt (W : Wd) (H : Hp) (a : Addr) : C → Prop
  | .lst ds => ∃ vs, H a = some (.lst vs) ∧ AtL K T W H ds vs
  | .dK kvs => ∃ vs, H a = some (.dK ((kvs.map (·.1)).zip vs)) ∧ AtL K T W H (kvs.map (·.2)) vs
  | .dT kvs => ∃ vs, H a = some (.dT ((kvs.map (·.1)).zip vs)) ∧ AtL K T W H (kvs.map (·.2)) vs
  | .ins n fs => ∃ dx vs, H a = some (.ins (T.cl n) dx ((fs.map (·.1)).zip vs)) ∧ AtL K T W H (fs.map (·.2)) vs
  | .fz d => At K T W H d (.ref a)
  | .zT kvs => ∃ o vs, H a = some (.frz o (.dT ((kvs.map (·.1)).zip vs))) ∧ W.Fz a ∧ AtL K T W H (kvs.map (·.2)) vs
  | .dN kvs => ∃ ws, H a = some (NdO a ws) ∧ NAt K T W H kvs ws
  | .zN kvs => ∃ o ws, H a = some (.frz o (NdO a ws)) ∧ W.Fz a ∧ NAt K T W H kvs ws
structure Rep (W : Wd) (H : Hp) : Prop where
  len : W.A.length = W.cs.length
  inj : ∀ (i j : Nat) (a : Addr) (ci cj : C), W.A[i]? = some a → W.A[j]? = some a → W.cs[i]? = some ci → W.cs[j]? = some cj → ci.live → cj.live → i = j
  cell : ∀ (j : Nat) (a : Addr) (c : C), W.A[j]? = some a → W.cs[j]? = some c → CellAt K T W H a c
  apart : ∀ a, W.Live a → ¬ W.G a
  gth : ∀ a, W.G a → ∃ u, H a = some u ∧ ∀ xs, u ≠ .tup xs
structure Ex0 (W : Wd) (H : Hp) (W' : Wd) (H' : Hp) : Prop where
  keep : ∀ b o, H b = some o → ¬ W.Live b → H' b = some o ∧ ¬ W'.Live b
  pre : ∀ (j : Nat) (a : Addr), W.A[j]? = some a → W'.A[j]? = some a
  gk : ∀ b, H b ≠ none → W'.G b → W.G b
structure Ext (W : Wd) (H : Hp) (W' : Wd) (H' : Hp) : Prop where
  keep : ∀ b o, H b = some o → ¬ W.Live b → H' b = some o ∧ ¬ W'.Live b
  pre : ∀ (j : Nat) (a : Addr), W.A[j]? = some a → W'.A[j]? = some a
  g : W'.G = W.G
end
section
variable {K : PySem.W.Frag} {T : Tb} {W W1 W2 W3 : Wd} {H H1 H2 H3 : Hp}
theorem AtL.length : ∀ {ds : List D} {vs : List V}, AtL K T W H ds vs → ds.length = vs.length
  | _, _, .nil => rfl
  | _, _, .cons _ t => congrArg (· + 1) (AtL.length t)
theorem Ext.refl : Ext W H W H := ⟨fun _ _ h l => ⟨h, l⟩, fun _ _ h => h, rfl⟩
theorem Ext.trans (a : Ext W H W1 H1) (b : Ext W1 H1 W2 H2) : Ext W H W2 H2 :=
  ⟨fun c o h l => let ⟨h1, l1⟩ := a.keep c o h l; b.keep c o h1 l1, fun j c h => b.pre j c (a.pre j c h), b.g.trans a.g⟩
theorem Ext.o (x : Ext W H W1 H1) : Ex0 W H W1 H1 := ⟨x.keep, x.pre, fun b _ g => by rw [x.g] at g; exact g⟩
theorem Ex0.fz (x : Ex0 W H W1 H1) {a : Addr} {o : HO} (h : H a = some o) (f : W.Fz a) : H1 a = some o ∧ W1.Fz a :=
  let ⟨h1, l1⟩ := x.keep a o h f.1; ⟨h1, l1, fun g => f.2 (x.gk a (by rw [h]; exact Option.some_ne_none _) g)⟩
theorem Ext.fz (x : Ext W H W1 H1) {a : Addr} {o : HO} (h : H a = some o) (f : W.Fz a) : H1 a = some o ∧ W1.Fz a := x.o.fz h f
mutual
theorem At.ex0 (x : Ex0 W H W1 H1) : ∀ {d : D} {v : V}, At K T W H d v → At K T W1 H1 d v
  | _, _, .non => .non
  | _, _, .bl b => .bl b
  | _, _, .int i => .int i
  | _, _, .str s => .str s
  | _, _, .root h => .root (x.pre _ _ h)
  | _, _, .lst h f t => let ⟨h1, f1⟩ := x.fz h f; .lst h1 f1 (AtL.ex0 x t)
  | _, _, .tup h f t => let ⟨h1, f1⟩ := x.fz h f; .tup h1 f1 (AtL.ex0 x t)
  | _, _, .ins h l f t => let ⟨h1, f1⟩ := x.fz h f; .ins h1 l f1 (AtL.ex0 x t)
  | _, _, .scr h t => .scr (by
      rcases h with ⟨h, f⟩ | h
      · rcases h with h | ⟨o, h⟩
        · obtain ⟨h1, f1⟩ := x.fz h f
          exact .inl ⟨.inl h1, f1⟩
        · obtain ⟨h1, f1⟩ := x.fz h f
          exact .inl ⟨.inr ⟨o, h1⟩, f1⟩
      · exact .inr h) (AtL.ex0 x t)
  | _, _, .exc e h f t => let ⟨h1, f1⟩ := x.fz h f; .exc e h1 f1 (At.ex0 x t)
theorem AtL.ex0 (x : Ex0 W H W1 H1) : ∀ {ds : List D} {vs : List V}, AtL K T W H ds vs → AtL K T W1 H1 ds vs
  | _, _, .nil => .nil
  | _, _, .cons h t => .cons (At.ex0 x h) (AtL.ex0 x t)
end
theorem At.ext (x : Ext W H W1 H1) {d : D} {v : V} (h : At K T W H d v) : At K T W1 H1 d v := h.ex0 x.o
theorem AtL.ext (x : Ext W H W1 H1) {d : List D} {v : List V} (h : AtL K T W H d v) : AtL K T W1 H1 d v := h.ex0 x.o
theorem Ex0.trans (a : Ex0 W H W1 H1) (b : Ex0 W1 H1 W2 H2) (hk : ∀ b, H b ≠ none → H1 b ≠ none) : Ex0 W H W2 H2 :=
  ⟨fun c o h l => let ⟨h1, l1⟩ := a.keep c o h l; b.keep c o h1 l1, fun j c h => b.pre j c (a.pre j c h), fun c h g => a.gk c h (b.gk c (hk c h) g)⟩
theorem NAt.ex0 (x : Ex0 W H W1 H1) {kvs : List (NestedKey × D)} {ws : NKV} (h : NAt K T W H kvs ws) : NAt K T W1 H1 kvs ws := Paired.mapP h fun _ _ z => ⟨z.1, At.ex0 x z.2.1, At.ex0 x z.2.2⟩
theorem CellAt.ext (x : Ex0 W H W1 H1) {a : Addr} {c : C} (h : CellAt K T W H a c) (e : ∀ o, H a = some o → H1 a = some o) (hf : c.live ∨ a = a) : CellAt K T W1 H1 a c := by
  cases c with
  | dN kvs => obtain ⟨ws, h1, h2⟩ := h; exact ⟨ws, e _ h1, h2.ex0 x⟩
  | zN kvs =>
    obtain ⟨o, ws, h1, h2, h3⟩ := h
    obtain ⟨h4, h5⟩ := x.fz h1 h2
    exact ⟨o, ws, h4, h5, h3.ex0 x⟩
  | lst ds => obtain ⟨vs, h1, h2⟩ := h; exact ⟨vs, e _ h1, h2.ex0 x⟩
  | dK kvs => obtain ⟨vs, h1, h2⟩ := h; exact ⟨vs, e _ h1, h2.ex0 x⟩
  | dT kvs => obtain ⟨vs, h1, h2⟩ := h; exact ⟨vs, e _ h1, h2.ex0 x⟩
  | ins n fs => obtain ⟨dx, vs, h1, h2⟩ := h; exact ⟨dx, vs, e _ h1, h2.ex0 x⟩
  | fz d => exact At.ex0 x h
  | zT kvs =>
    obtain ⟨o, vs, h1, h2, h3⟩ := h
    obtain ⟨h4, h5⟩ := x.fz h1 h2
    exact ⟨o, vs, h4, h5, h3.ex0 x⟩
theorem Rep.live_some (r : Rep K T W H) {a : Addr} (l : W.Live a) : ∃ o, H a = some o := by
  obtain ⟨j, c, h1, h2, h3⟩ := l
  have q := r.cell j a c h1 h2
  cases c with
  | lst ds => obtain ⟨vs, h1, h2⟩ := q; exact ⟨_, h1⟩
  | dK kvs => obtain ⟨vs, h1, h2⟩ := q; exact ⟨_, h1⟩
  | dT kvs => obtain ⟨vs, h1, h2⟩ := q; exact ⟨_, h1⟩
  | ins n fs => obtain ⟨dx, vs, h1, h2⟩ := q; exact ⟨_, h1⟩
  | fz d => exact h3.elim
  | zT kvs => exact h3.elim
  | dN kvs => obtain ⟨ws, h1, h2⟩ := q; exact ⟨_, h1⟩
  | zN kvs => exact h3.elim
theorem Rep.fresh (r : Rep K T W H) {p : Addr} (hp : H p = none) : W.Fz p :=
  ⟨fun l => (by obtain ⟨o, e⟩ := r.live_some l; rw [hp] at e; cases e), fun g => (by obtain ⟨o, e, _⟩ := r.gth p g; rw [hp] at e; cases e)⟩
/-- a new frozen object -/
theorem Ext.laid {p : Addr} {o : HO} (hp : H p = none) : Ext W H W (upd H p o) :=
  ⟨fun b u h l => ⟨by rw [upd_ne (ne_of_none h hp)]; exact h, l⟩, fun _ _ h => h, rfl⟩
theorem gth_upd {p : Addr} {o : HO} (g : ∀ a, W.G a → ∃ u, H a = some u ∧ ∀ xs, u ≠ .tup xs) (h : W.G p → ∀ xs, o ≠ .tup xs) : ∀ a, W.G a → ∃ u, upd H p o a = some u ∧ ∀ xs, u ≠ .tup xs := fun a z => by
  by_cases e : a = p
  · subst e; exact ⟨o, upd_same, h z⟩
  · rw [upd_ne e]; exact g a z
theorem Rep.laid (r : Rep K T W H) {p : Addr} {o : HO} (hp : H p = none) : Rep K T W (upd H p o) :=
  ⟨r.len, r.inj, fun j a c h1 h2 => (r.cell j a c h1 h2).ext (Ext.laid hp).o (fun u e => by rw [upd_ne (ne_of_none e hp)]; exact e) (.inr rfl), r.apart, gth_upd r.gth fun z => ((r.fresh hp).2 z).elim⟩
/-- a new live cell -/
def Wd.push (W : Wd) (p : Addr) (c : C) : Wd := ⟨W.A ++ [p], W.cs ++ [c], W.G⟩
theorem push_at (hl : W.A.length = W.cs.length) {p a : Addr} {c d : C} {j : Nat} (h1 : (W.push p c).A[j]? = some a) (h2 : (W.push p c).cs[j]? = some d) :
    (W.A[j]? = some a ∧ W.cs[j]? = some d) ∨ (j = W.A.length ∧ a = p ∧ d = c) := by
  have h1 : (W.A ++ [p])[j]? = some a := h1
  have h2 : (W.cs ++ [c])[j]? = some d := h2
  by_cases hj : j < W.A.length
  · rw [List.getElem?_append_left hj] at h1
    rw [List.getElem?_append_left (by omega)] at h2
    exact .inl ⟨h1, h2⟩
  · have : j < W.A.length + 1 := by
      have := (List.getElem?_eq_some_iff.mp h1).1
      simpa using this
    have e : j = W.A.length := by omega
    subst e
    rw [List.getElem?_append_right (by omega)] at h1
    rw [List.getElem?_append_right (by omega), ← hl] at h2
    simp at h1 h2
    exact .inr ⟨rfl, h1.symm, h2.symm⟩
theorem push_live (hl : W.A.length = W.cs.length) {p a : Addr} {c : C} : (W.push p c).Live a → W.Live a ∨ a = p := by
  rintro ⟨j, d, h1, h2, h3⟩
  rcases push_at hl h1 h2 with ⟨x, y⟩ | ⟨_, x, _⟩
  · exact .inl ⟨j, d, x, y, h3⟩
  · exact .inr x
theorem Ext.pushed (r : Rep K T W H) {p : Addr} {o : HO} {c : C} (hp : H p = none) : Ext W H (W.push p c) (upd H p o) :=
  ⟨fun b u h l => ⟨by rw [upd_ne (ne_of_none h hp)]; exact h, fun z => by
      rcases push_live r.len z with z | z
      · exact l z
      · exact ne_of_none h hp z⟩,
   fun j a h => by
    show (W.A ++ [p])[j]? = some a
    rw [List.getElem?_append_left (List.getElem?_eq_some_iff.mp h).1]; exact h, rfl⟩
theorem Rep.at_some (r : Rep K T W H) {j : Nat} {a : Addr} {c : C} (h1 : W.A[j]? = some a) (h2 : W.cs[j]? = some c) (hf : c.live ∨ ∃ ds, c = .fz (.lst ds)) : ∃ o, H a = some o := by
  rcases hf with z | ⟨ds, z⟩
  · exact r.live_some ⟨j, c, h1, h2, z⟩
  · subst z
    have q : At K T W H (.lst ds) (.ref a) := r.cell j a _ h1 h2
    cases q with
    | lst h _ _ => exact ⟨_, h⟩
theorem Rep.pushed (r : Rep K T W H) {p : Addr} {o : HO} {c : C} (hp : H p = none) (hc : CellAt K T (W.push p c) (upd H p o) p c) : Rep K T (W.push p c) (upd H p o) := by
  have lv : ∀ (j : Nat) (a : Addr) (d : C), W.A[j]? = some a → W.cs[j]? = some d → d.live → a ≠ p := fun j a d h1 h2 h3 e => by
    obtain ⟨o, q⟩ := r.live_some ⟨j, d, h1, h2, h3⟩
    rw [e, hp] at q; cases q
  refine ⟨?_, fun i j a ci cj h1 h2 h3 h4 l1 l2 => ?_, fun j a d h1 h2 => ?_, fun a l g => ?_, gth_upd r.gth fun z => ((r.fresh hp).2 z).elim⟩
  · show (W.A ++ [p]).length = (W.cs ++ [c]).length
    simp [r.len]
  · rcases push_at r.len h1 h3 with ⟨x1, x2⟩ | ⟨x1, x2, _⟩
    · rcases push_at r.len h2 h4 with ⟨y1, y2⟩ | ⟨y1, y2, _⟩
      · exact r.inj i j a ci cj x1 y1 x2 y2 l1 l2
      · exact absurd y2 (lv i a ci x1 x2 l1)
    · rcases push_at r.len h2 h4 with ⟨y1, y2⟩ | ⟨y1, y2, _⟩
      · exact absurd x2 (lv j a cj y1 y2 l2)
      · rw [x1, y1]
  · rcases push_at r.len h1 h2 with ⟨x1, x2⟩ | ⟨x1, x2, x3⟩
    · exact (r.cell j a d x1 x2).ext (Ext.pushed r hp).o (fun u e => by rw [upd_ne (ne_of_none e hp)]; exact e) (.inr rfl)
    · rw [x2, x3]; exact hc
  · rcases push_live r.len l with l | l
    · exact r.apart a l g
    · obtain ⟨u, e, _⟩ := r.gth a g
      rw [l, hp] at e; cases e
/-- a cell is written -/
def Wd.put (W : Wd) (j : Nat) (c : C) : Wd := ⟨W.A, W.cs.set j c, W.G⟩
theorem put_at {j i : Nat} {b : Addr} {c x e : C} (h2 : W.cs[j]? = some c) (q2 : (W.put j x).cs[i]? = some e) : (i = j ∧ e = x) ∨ (i ≠ j ∧ W.cs[i]? = some e) := by
  have q2 : (W.cs.set j x)[i]? = some e := q2
  by_cases hi : i = j
  · subst hi
    rw [List.getElem?_set_self (List.getElem?_eq_some_iff.mp h2).1] at q2
    exact .inl ⟨rfl, (Option.some.inj q2).symm⟩
  · rw [List.getElem?_set_ne (Ne.symm hi)] at q2
    exact .inr ⟨hi, q2⟩
theorem put_live {j : Nat} {a : Addr} {c x : C} (h1 : W.A[j]? = some a) (h2 : W.cs[j]? = some c) (h3 : c.live) {b : Addr} (l : (W.put j x).Live b) : W.Live b := by
  obtain ⟨i, e, q1, q2, q3⟩ := l
  have q1 : W.A[i]? = some b := q1
  rcases put_at (b := b) h2 q2 with ⟨z1, z2⟩ | ⟨z1, z2⟩
  · subst z1
    exact ⟨i, c, q1, h2, h3⟩
  · exact ⟨i, e, q1, z2, q3⟩
theorem Ext.put {j : Nat} {a : Addr} {c x : C} {o : HO} (h1 : W.A[j]? = some a) (h2 : W.cs[j]? = some c) (h3 : c.live) : Ext W H (W.put j x) (upd H a o) :=
  ⟨fun b u h l => ⟨by rw [upd_ne (fun e => l (by rw [e]; exact ⟨j, c, h1, h2, h3⟩))]; exact h, fun z => l (put_live h1 h2 h3 z)⟩, fun _ _ h => h, rfl⟩
theorem Rep.put (r : Rep K T W H) {j : Nat} {a : Addr} {c d : C} {o : HO} (h1 : W.A[j]? = some a) (h2 : W.cs[j]? = some c) (h3 : c.live) (hc : CellAt K T (W.put j d) (upd H a o) a d) :
    Rep K T (W.put j d) (upd H a o) := by
  have was : ∀ (i : Nat) (b : Addr) (e : C), W.A[i]? = some b → (W.put j d).cs[i]? = some e → e.live → ∃ e', W.cs[i]? = some e' ∧ e'.live := fun i b e q1 q2 q3 => by
    rcases put_at (b := b) h2 q2 with ⟨z, _⟩ | ⟨_, z⟩
    · exact ⟨c, by rw [z]; exact h2, h3⟩
    · exact ⟨e, z, q3⟩
  refine ⟨?_, fun i k b ci ck q1 q2 q3 q4 l1 l2 => ?_, fun i b e q1 q2 => ?_, fun b l => r.apart b (put_live h1 h2 h3 l), gth_upd r.gth fun z => (r.apart a ⟨j, c, h1, h2, h3⟩ z).elim⟩
  · show W.A.length = (W.cs.set j d).length
    rw [List.length_set]; exact r.len
  · obtain ⟨e1, z1, y1⟩ := was i b ci q1 q3 l1
    obtain ⟨e2, z2, y2⟩ := was k b ck q2 q4 l2
    exact r.inj i k b e1 e2 q1 q2 z1 z2 y1 y2
  · rcases put_at (b := b) h2 q2 with ⟨z1, z2⟩ | ⟨z1, z2⟩
    · subst z1 z2
      have : b = a := Option.some.inj ((show W.A[i]? = some b from q1).symm.trans h1)
      subst this
      exact hc
    · have q := r.cell i b e q1 z2
      by_cases le : e.live
      · refine q.ext (Ext.put h1 h2 h3).o (fun u q => ?_) (.inl le)
        have nb : b ≠ a := fun z => z1 (r.inj i j a e c (by rw [← z]; exact q1) h1 z2 h2 le h3)
        rw [upd_ne nb]
        exact q
      · cases e with
        | fz d' => exact At.ex0 (Ext.put h1 h2 h3).o q
        | zT kvs =>
          obtain ⟨o', vs, g1, g2, g3⟩ := q
          obtain ⟨g4, g5⟩ := (Ext.put (x := d) (o := o) h1 h2 h3).fz g1 g2
          exact ⟨o', vs, g4, g5, g3.ext (Ext.put h1 h2 h3)⟩
        | zN kvs =>
          obtain ⟨o', ws, g1, g2, g3⟩ := q
          obtain ⟨g4, g5⟩ := (Ext.put (x := d) (o := o) h1 h2 h3).fz g1 g2
          exact ⟨o', ws, g4, g5, g3.ex0 (Ext.put h1 h2 h3).o⟩
        | _ => exact (le trivial).elim
/-- a live list is frozen: it stays where it is, nobody writes it any more -/
theorem Ext.freeze {j : Nat} {a : Addr} {c x : C} (h1 : W.A[j]? = some a) (h2 : W.cs[j]? = some c) (h3 : c.live) : Ext W H (W.put j x) H :=
  ⟨fun b u h l => ⟨h, fun z => l (put_live h1 h2 h3 z)⟩, fun _ _ h => h, rfl⟩
theorem Rep.freeze (r : Rep K T W H) {j : Nat} {a : Addr} {c : C} {d : D} (h1 : W.A[j]? = some a) (h2 : W.cs[j]? = some c) (h3 : c.live) (hd : (W.put j (.fz d)).Fz a → At K T (W.put j (.fz d)) H d (.ref a)) :
    Rep K T (W.put j (.fz d)) H ∧ (W.put j (.fz d)).Fz a := by
  have old : ∀ (i : Nat) (b : Addr) (e : C), (W.put j (.fz d)).cs[i]? = some e → e.live → i ≠ j ∧ W.cs[i]? = some e := fun i b e q2 q3 => by
    rcases put_at (b := b) h2 q2 with ⟨_, z⟩ | z
    · subst z; exact q3.elim
    · exact z
  have fz : (W.put j (.fz d)).Fz a := ⟨fun ⟨i, e, q1, q2, q3⟩ => (by
    obtain ⟨n, z⟩ := old i a e q2 q3
    exact n (r.inj i j a e c q1 h1 z h2 q3 h3)), r.apart a ⟨j, c, h1, h2, h3⟩⟩
  refine ⟨⟨?_, fun i k b ci ck q1 q2 q3 q4 l1 l2 => r.inj i k b ci ck q1 q2 (old i b ci q3 l1).2 (old k b ck q4 l2).2 l1 l2, fun i b e q1 q2 => ?_, fun b l => r.apart b (put_live h1 h2 h3 l), r.gth⟩, fz⟩
  · show W.A.length = (W.cs.set j (.fz d)).length
    rw [List.length_set]; exact r.len
  · rcases put_at (b := b) h2 q2 with ⟨z1, z2⟩ | ⟨_, z⟩
    · subst z1 z2
      have : b = a := Option.some.inj ((show W.A[i]? = some b from q1).symm.trans h1)
      subst this
      exact hd fz
    · exact (r.cell i b e q1 z).ext (Ext.freeze h1 h2 h3).o (fun _ q => q) (.inr rfl)
/-- a live dict is locked: it may be walked, nobody writes it any more -/
theorem Rep.lockT (r : Rep K T W H) {j : Nat} {a : Addr} {kvs : List (List Key × D)} {vs : List V} {o : Obj} (h1 : W.A[j]? = some a) (h2 : W.cs[j]? = some (.dT kvs)) (t : AtL K T W H (kvs.map (·.2)) vs) :
    Rep K T (W.put j (.zT kvs)) (upd H a (.frz o (.dT ((kvs.map (·.1)).zip vs)))) ∧ Ext W H (W.put j (.zT kvs)) (upd H a (.frz o (.dT ((kvs.map (·.1)).zip vs)))) := by
  have ex : Ext W H (W.put j (.zT kvs)) (upd H a (.frz o (.dT ((kvs.map (·.1)).zip vs)))) := .put h1 h2 trivial
  refine ⟨r.put h1 h2 trivial ⟨o, vs, upd_same, ⟨fun ⟨i, e, q1, q2, q3⟩ => ?_, r.apart a ⟨j, _, h1, h2, trivial⟩⟩, t.ext ex⟩, ex⟩
  rcases put_at (b := a) h2 q2 with ⟨_, z⟩ | ⟨n, z⟩
  · subst z; exact q3.elim
  · exact n (r.inj i j a e _ q1 h1 z h2 q3 trivial)
/-- the same for nested keys -/
theorem Rep.lockN (r : Rep K T W H) {j : Nat} {a : Addr} {kvs : List (NestedKey × D)} {ws : NKV} {o : Obj} (h1 : W.A[j]? = some a) (h2 : W.cs[j]? = some (.dN kvs)) (t : NAt K T W H kvs ws) :
    Rep K T (W.put j (.zN kvs)) (upd H a (.frz o (NdO a ws))) ∧ Ext W H (W.put j (.zN kvs)) (upd H a (.frz o (NdO a ws))) := by
  have ex : Ext W H (W.put j (.zN kvs)) (upd H a (.frz o (NdO a ws))) := .put h1 h2 trivial
  refine ⟨r.put h1 h2 trivial ⟨o, ws, upd_same, ⟨fun ⟨i, e, q1, q2, q3⟩ => ?_, r.apart a ⟨j, _, h1, h2, trivial⟩⟩, t.ex0 ex.o⟩, ex⟩
  rcases put_at (b := a) h2 q2 with ⟨_, z⟩ | ⟨n, z⟩
  · subst z; exact q3.elim
  · exact n (r.inj i j a e _ q1 h1 z h2 q3 trivial)
/-- another set of addresses set aside -/
def Wd.wG (W : Wd) (g : Addr → Prop) : Wd := ⟨W.A, W.cs, g⟩
end
end DL
namespace DL
open PySem PySem.Spec PyProof.Rows L2

/-! ### what a def promises where no text of an object is being made (guards) -/
structure FnG (P : Program) (w : World) (K : PySem.W.Frag) (mg : Str → Option Value) (base : Heap) (CX : CXT) (k : Nat) (f : Addr) (fd : FuncData) (ps : List Str) (sp : Sp) : Prop where
  len : ∀ vs H Q E, sp vs H Q E → vs.length = ps.length
  run : ∀ (A : Around) (outer : List Env) (s : Shared) (H : Hp) (args : Args) (us : List Value) (vs : List V) (Q : VK) (E : XK), A.guards = some [] → Room k A → Env0 P w K mg base A outer s H →
    BindsTo s fd args (ps.zip us) → Vals vs us → sp vs H Q E → codeAny (model P w) A (.call (.ref f) args) (CR CX outer P w H s Q E) s
theorem FnG.mono {P : Program} {w : World} {K : PySem.W.Frag} {mg : Str → Option Value} {base : Heap} {CX : CXT} {j k : Nat} {f : Addr} {fd : FuncData} {ps : List Str} {sp : Sp} (F : FnG P w K mg base CX j f fd ps sp) (h : j ≤ k) :
    FnG P w K mg base CX k f fd ps sp := ⟨F.len, fun A outer s H args us vs Q E hg hr => F.run A outer s H args us vs Q E hg (hr.mono h)⟩
theorem FnG.imp {P : Program} {w : World} {K : PySem.W.Frag} {mg : Str → Option Value} {base : Heap} {CX : CXT} {k : Nat} {f : Addr} {fd : FuncData} {ps : List Str} {sp sp' : Sp} (F : FnG P w K mg base CX k f fd ps sp)
    (h : ∀ vs H Q E, sp' vs H Q E → sp vs H Q E) : FnG P w K mg base CX k f fd ps sp' :=
  ⟨fun vs H Q E q => F.len vs H Q E (h _ _ _ _ q), fun A outer s H args us vs Q E hg hr he hb hv hs => F.run A outer s H args us vs Q E hg hr he hb hv (h _ _ _ _ hs)⟩

theorem fnG_of {CX : CXT} {P : Program} {w : World} {K : PySem.W.Frag} {mg : Str → Option Value} {base : Heap} {k : Nat} {f : Addr} {fd : FuncData} {x qual : Str} {st : Stmt} {N ps : List Str} {sp : Sp} (F : Fun K x qual st f fd)
    (S : FnScope N ps (defScope st)) (len : ∀ vs H Q E, sp vs H Q E → vs.length = ps.length)
    (hb : ∀ (cdv : Value) (A : Around) (outer : List Env) (s : Shared) (H : Hp) (vs : List V) (Q : VK) (E : XK), A.guards = some [] → Room k (A.deeper (envOfC qual (defScope st) s.heap.objs.size f cdv)) → sp vs H Q E →
      ∃ t, PSs (cxOf CX P w K mg base N qual (defScope st) f cdv A outer s H E) (defBody st) t ∧ t { nx := fun _ H' => Q .non H', rt := Q } (start N vs) H) : FnG P w K mg base CX (k + 1) f fd ps sp := by
  obtain ⟨oc, od, kV, doc, pm, an, cdv, ct, osl, rfl, lk, hcd⟩ := F.ex
  refine ⟨len, ?_⟩
  intro A outer s H args us vs Q E hg hr e0 hbi rv hsp
  have kx : K.In s.heap := e0.mod.kin.keeps fun b o z => (e0.bs b o z).1
  have nl : s.heap.NoLimit := e0.mod.nolimit.keeps fun b o z => (e0.bs b o z).1
  refine codeAny_call_function hr.depth (kx _ _ lk) rfl S.co S.gen rfl (PySem.W.codeRec_of kx hcd) (hbi _ _ _ _ ?_)
  refine wpAny_newFunctionEnv_cells S.kind (fun ⟨n, u⟩ hy => ?_) fun env he s1 ic => ?_
  · rcases S.par n (List.of_mem_zip hy).1 with q | q
    · exact .inl q
    · exact .inr ⟨q, PySem.W.cellsFrom_some _ _ _ (.inl q)⟩
  · subst he
    refine ⟨nl.keeps ic.toInCall.keep, codeAny_func ?_⟩
    obtain ⟨t, ht, hq⟩ := hb cdv A outer s H vs Q E hg (hr.deeper _) hsp
    refine wpAny_mono (ht.run [] s1 (start N vs) H _ (inv_start S hr.hd e0 (len _ _ _ _ hsp) rv ic) hq) ?_ fun _ _ z => z
    intro fl s' hs
    cases fl with
    | ret u =>
      obtain ⟨v, σ', H', J, r1, q⟩ := hs
      exact ⟨v, H', J.os, J.bare, J.base, J.hok, r1, q⟩
    | next =>
      obtain ⟨σ', H', J, q⟩ := hs
      exact ⟨V.non, H', J.os, J.bare, J.base, J.hok, rfl, q⟩
    | brk => exact (hs.choose_spec.choose_spec.2).elim
    | cont => exact (hs.choose_spec.choose_spec.2).elim

section
variable {X : Cx} {CX : CXT} {k : Nat} {f C : Addr} {fd : FuncData} {ps : List Str} {sp : Sp} {E : XK} {pins : List (Addr × Obj)} {σ : L2.St} {H : Hp} {s : Shared} {Q : VK}
theorem ends_of {Q' : VK} {r : Result} {s' : Shared} {pins : List (Addr × Obj)} {σ : L2.St} {H : Hp} {s : Shared} (I : Inv X pins σ H s) (hx : Passes CX X E) (h : CR CX X.stack X.prog X.w H s Q' E r s') :
    (∃ u, r = .ok (.ret u) ∧ EP X pins σ Q' u s') ∨ ∃ e, r = .error e ∧ X.xe e s' := by
  cases r with
  | error e => exact .inr ⟨e, rfl, hx pins σ H s e s' I h⟩
  | ok fl =>
    cases fl with
    | ret u => exact .inl ⟨u, rfl, I.after h⟩
    | next => exact False.elim h
    | brk => exact False.elim h
    | cont => exact False.elim h
/-- f(us) runs -/
theorem run_g {us : List Value} {vs : List V} (F : FnG X.prog X.w X.K X.mg X.base CX k f fd ps sp) (hg : X.A.guards = some []) (hr : Room k X.A) (hb : Binds X.K fd ps []) (hx : Passes CX X E)
    (I : Inv X pins σ H s) (r : Vals vs us) (h : sp vs H Q E) : wpAny (model X.prog X.w) X.A (call (.ref f) us) (EP X pins σ Q) X.xe s := by
  have hl : (us ++ []).length = ps.length := by rw [List.append_nil, ← r.length]; exact F.len _ _ _ _ h
  have b := hb s us I.kIn hl
  rw [List.append_nil] at b
  refine wpAny_call (codeAny_mono (F.run X.A X.stack s H ⟨us, []⟩ us vs Q E hg hr I.env0 b r h) fun q s' hq => ?_)
  rcases ends_of I hx hq with ⟨u, e, z⟩ | ⟨e, e1, z⟩
  · subst e; exact z
  · subst e1; exact z
/-- C(us) runs: a new instance, then __init__ -/
theorem run_mk {us : List Value} {vs : List V} (M : Mk X.K C f) (F : FnG X.prog X.w X.K X.mg X.base CX k f fd ps sp) (hg : X.A.guards = some []) (hr : Room (k + 1) X.A) (hb : Binds X.K fd ps []) (hx : Passes CX X E)
    (I : Inv X pins σ H s) (r : Vals vs us)
    (h : ∀ x dx, H x = none → H dx = none → dx ≠ x → sp (.ref x :: vs) (upd (upd H dx (.own x)) x (.ins C dx [])) (fun v H2 => v = .non ∧ Q (.ref x) H2) E) :
    wpAny (model X.prog X.w) X.A (call (.ref C) us) (EP X pins σ Q) X.xe s := by
  have hq := h (s.heap.objs.size + 1) s.heap.objs.size (I.hok.fresh (Nat.le_succ _)) (I.hok.fresh (Nat.le_refl _)) (Nat.ne_of_lt (Nat.lt_succ_self _))
  have J := Inv.made (C := C) I
  have r2 : Vals (V.ref (s.heap.objs.size + 1) :: vs) (Value.ref (s.heap.objs.size + 1) :: us) := .cons rfl r
  have hl : ((Value.ref (s.heap.objs.size + 1) :: us) ++ []).length = ps.length := by rw [List.append_nil, ← r2.length]; exact F.len _ _ _ _ hq
  have b := hb _ (Value.ref (s.heap.objs.size + 1) :: us) J.kIn hl
  rw [List.append_nil] at b
  refine wpAny_call (make_map (f := f) I.kIn M.makes M.init (beq_iff_eq.mp M.fn) (codeAny_mono (F.run _ X.stack _ _ ⟨Value.ref (s.heap.objs.size + 1) :: us, []⟩ _ _ _ E (by simpa [Around.under, Code.guards, Code.isGuard, guardIds, pushGuards] using hg) (hr.make C us []) (J.env0.make C us []) b r2 hq) fun q s' hq' => ?_))
  rcases ends_of J hx hq' with ⟨u, e, z⟩ | ⟨e, e1, z⟩
  · subst e
    obtain ⟨v, H', I3, rv, ev, q3⟩ := z
    subst ev
    exact ⟨rv, ⟨V.ref (s.heap.objs.size + 1), H', I3, rfl, q3⟩⟩
  · subst e1; exact z
end
end DL
namespace DL
open PySem PySem.Spec PyProof.Rows L2

abbrev Sl := List (Option D)
abbrev WQ := D → Cells → Prop
abbrev XQ := Nat → D → Cells → Prop
abbrev WE := Sl → Cells → WQ → XQ → Prop
abbrev WT := Sl → Cells → (Bool → Cells → Prop) → XQ → Prop
abbrev WA := Sl → Cells → (List D → Cells → Prop) → XQ → Prop
structure WD where
  nx : Sl → Cells → Prop
  rt : WQ
  xq : XQ
  bk : Sl → Cells → Prop := fun _ _ => False
  ct : Sl → Cells → Prop := fun _ _ => False
abbrev WS := WD → Sl → Cells → Prop

section
variable (K : PySem.W.Frag) (T : Tb) (W : Wd) (H : Hp)
def SlAt (sl : Sl) (σ : L2.St) : Prop := sl.length = σ.length ∧ ∀ (i : Nat) (d : D), sl[i]? = some (some d) → ∃ v, σ[i]? = some (some v) ∧ At K T W H d v
def PostE (Q' : WQ) (Q : VK) : Prop := ∀ d W' v H', Q' d W'.cs → Ext W H W' H' → Rep K T W' H' → At K T W' H' d v → Q v H'
def PostT (Q' : Bool → Cells → Prop) (Q : Bool → Hp → Prop) : Prop := ∀ b W' H', Q' b W'.cs → Ext W H W' H' → Rep K T W' H' → Q b H'
def PostA (Q' : List D → Cells → Prop) (Q : List V → Hp → Prop) : Prop := ∀ ds W' vs H', Q' ds W'.cs → Ext W H W' H' → Rep K T W' H' → AtL K T W' H' ds vs → Q vs H'
def PostN (Q' : Sl → Cells → Prop) (Q : L2.St → Hp → Prop) : Prop := ∀ sl' W' σ' H', Q' sl' W'.cs → Ext W H W' H' → Rep K T W' H' → SlAt K T W' H' sl' σ' → Q σ' H'
def PostX (X' : XQ) (E : XK) : Prop := ∀ n d W' v H' dx, X' n d W'.cs → Ext W H W' H' → Rep K T W' H' → At K T W' H' d v → H' dx = some (.xd [(("value" : Str), v)]) → W'.Fz dx → E (.ref (T.xc n)) (some dx) H'
structure PostD (D' : WD) (D : Ends) (E : XK) : Prop where
  nx : PostN K T W H D'.nx D.nx
  rt : PostE K T W H D'.rt D.rt
  bk : PostN K T W H D'.bk D.bk
  ct : PostN K T W H D'.ct D.ct
  xq : PostX K T W H D'.xq E
end
section
variable {K : PySem.W.Frag} {T : Tb} {W W1 : Wd} {H H1 : Hp} (x : Ext W H W1 H1)
include x
theorem SlAt.ext {sl : Sl} {σ : L2.St} (h : SlAt K T W H sl σ) : SlAt K T W1 H1 sl σ := ⟨h.1, fun i d e => let ⟨v, a, b⟩ := h.2 i d e; ⟨v, a, b.ext x⟩⟩
theorem PostE.st {Q' : WQ} {Q : VK} (h : PostE K T W H Q' Q) : PostE K T W1 H1 Q' Q := fun d W' v H' q e r a => h d W' v H' q (x.trans e) r a
theorem PostT.st {Q' : Bool → Cells → Prop} {Q : Bool → Hp → Prop} (h : PostT K T W H Q' Q) : PostT K T W1 H1 Q' Q := fun d W' H' q e r => h d W' H' q (x.trans e) r
theorem PostA.st {Q' : List D → Cells → Prop} {Q : List V → Hp → Prop} (h : PostA K T W H Q' Q) : PostA K T W1 H1 Q' Q := fun d W' v H' q e r a => h d W' v H' q (x.trans e) r a
theorem PostN.st {Q' : Sl → Cells → Prop} {Q : L2.St → Hp → Prop} (h : PostN K T W H Q' Q) : PostN K T W1 H1 Q' Q := fun d W' v H' q e r a => h d W' v H' q (x.trans e) r a
theorem PostX.st {X' : XQ} {E : XK} (h : PostX K T W H X' E) : PostX K T W1 H1 X' E := fun n d W' v H' dx q e r a b f => h n d W' v H' dx q (x.trans e) r a b f
theorem PostD.st {D' : WD} {D : Ends} {E : XK} (h : PostD K T W H D' D E) : PostD K T W1 H1 D' D E := ⟨h.nx.st x, h.rt.st x, h.bk.st x, h.ct.st x, h.xq.st x⟩
end

/-! ### the judgements -/
section
variable (X : Cx) (T : Tb) (E : XK)
structure DE (e : Expr) (m : WE) : Prop where
  ex : ∃ t, PE X e t ∧ ∀ sl W σ H Q' X' Q, SlAt X.K T W H sl σ → Rep X.K T W H → m sl W.cs Q' X' → PostE X.K T W H Q' Q → PostX X.K T W H X' E → t σ H Q
structure DT (e : Expr) (m : WT) : Prop where
  ex : ∃ t, PT X e t ∧ ∀ sl W σ H Q' X' Q, SlAt X.K T W H sl σ → Rep X.K T W H → m sl W.cs Q' X' → PostT X.K T W H Q' Q → PostX X.K T W H X' E → t σ H Q
structure DW (e : Expr) (m : WT) : Prop where
  ex : ∃ t, PW X e t ∧ ∀ sl W σ H Q' X' Q, SlAt X.K T W H sl σ → Rep X.K T W H → m sl W.cs Q' X' → PostT X.K T W H Q' Q → PostX X.K T W H X' E → t σ H Q
structure DA (es : List Expr) (m : WA) : Prop where
  ex : ∃ t, PA X es t ∧ ∀ sl W σ H Q' X' Q, SlAt X.K T W H sl σ → Rep X.K T W H → m sl W.cs Q' X' → PostA X.K T W H Q' Q → PostX X.K T W H X' E → t σ H Q
structure DS (st : Stmt) (m : WS) : Prop where
  ex : ∃ t, PS X st t ∧ ∀ sl W σ H D' D, SlAt X.K T W H sl σ → Rep X.K T W H → m D' sl W.cs → PostD X.K T W H D' D E → t D σ H
structure DSs (st : List Stmt) (m : WS) : Prop where
  ex : ∃ t, PSs X st t ∧ ∀ sl W σ H D' D, SlAt X.K T W H sl σ → Rep X.K T W H → m D' sl W.cs → PostD X.K T W H D' D E → t D σ H
end

/-! ### names, constants -/
section
variable {X : Cx} {T : Tb} {E : XK}
def wVar (i : Nat) : WE := fun sl cs Q _ => match sl[i]? with
  | some (some d) => Q d cs
  | _ => False
theorem dv (i : Nat) {x : Str} {pos : Pos} (hN : X.N[i]? = some x := by rfl) (hv : Vis X.env.scope x := by first | exact Or.inl rfl | exact Or.inr (Or.inl rfl) | exact Or.inr (Or.inr rfl)) (hd : (x == ("__debug__" : Str)) = false := by decide)
    (hcd : (x == ("__classdict__" : Str)) = false := by decide) : DE X T E (.Name x pos) (wVar i) := by
  refine ⟨_, pe_var hN hv hd hcd, fun sl W σ H Q' X' Q hs r h p _ => ?_⟩
  unfold wVar at h
  split at h
  · rename_i d e
    obtain ⟨v, e1, a⟩ := hs.2 i d e
    exact ⟨v, e1, p d W v H h .refl r a⟩
  · exact h.elim
def wC (d : D) : WE := fun _ cs Q _ => Q d cs
theorem de_int {i j pos} : DE X T E (.Constant (.int i) j pos) (wC (.int i)) := ⟨_, pe_int, fun _ W _ H _ _ _ _ r h p _ => p _ W _ H h .refl r (.int i)⟩
theorem de_bl {b j pos} : DE X T E (.Constant (.bool b) j pos) (wC (.bl b)) := ⟨_, pe_bl, fun _ W _ H _ _ _ _ r h p _ => p _ W _ H h .refl r (.bl b)⟩
theorem de_non {j pos} : DE X T E (.Constant .none j pos) (wC .non) := ⟨_, pe_non, fun _ W _ H _ _ _ _ r h p _ => p _ W _ H h .refl r .non⟩
theorem de_str {x j pos} : DE X T E (.Constant (.str x) j pos) (wC (.str x)) := ⟨_, pe_str, fun _ W _ H _ _ _ _ r h p _ => p _ W _ H h .refl r (.str x)⟩

/-! ### by values -/
abbrev G2 := D → D → Cells → WQ → Prop
abbrev GL := List D → Cells → WQ → Prop
def OkR (K : PySem.W.Frag) (T : Tb) (r : R2) (g : G2) : Prop := ∀ W H d e v u Q' Q, Rep K T W H → At K T W H d v → At K T W H e u → g d e W.cs Q' → PostE K T W H Q' Q → r v u H Q
def OkL (K : PySem.W.Frag) (T : Tb) (r : List V → Hp → VK → Prop) (g : GL) : Prop := ∀ W H ds vs Q' Q, Rep K T W H → AtL K T W H ds vs → g ds W.cs Q' → PostE K T W H Q' Q → r vs H Q
def OkU (K : PySem.W.Frag) (T : Tb) (r : V → Hp → VK → Prop) (g : D → Cells → WQ → Prop) : Prop := ∀ W H d v Q' Q, Rep K T W H → At K T W H d v → g d W.cs Q' → PostE K T W H Q' Q → r v H Q
def OkM (K : PySem.W.Frag) (T : Tb) (r : V → List V → Hp → VK → Prop) (g : D → List D → Cells → WQ → Prop) : Prop := ∀ W H d v ds vs Q' Q, Rep K T W H → At K T W H d v → AtL K T W H ds vs → g d ds W.cs Q' → PostE K T W H Q' Q → r v vs H Q

def wBin (g : G2) (a b : WE) : WE := fun sl cs Q X => a sl cs (fun d cs1 => b sl cs1 (fun e cs2 => g d e cs2 Q) X) X
variable {a b c e : Expr} {ma mb mc m : WE} {pos : Pos}
theorem two {r : R2} {g : G2} {ta tb : TE} (hg : OkR X.K T r g)
    (ha : ∀ sl W σ H Q' X' Q, SlAt X.K T W H sl σ → Rep X.K T W H → ma sl W.cs Q' X' → PostE X.K T W H Q' Q → PostX X.K T W H X' E → ta σ H Q)
    (hb : ∀ sl W σ H Q' X' Q, SlAt X.K T W H sl σ → Rep X.K T W H → mb sl W.cs Q' X' → PostE X.K T W H Q' Q → PostX X.K T W H X' E → tb σ H Q)
    {sl : Sl} {W : Wd} {σ : L2.St} {H : Hp} {Q' : WQ} {X' : XQ} {Q : VK} (hs : SlAt X.K T W H sl σ) (rp : Rep X.K T W H) (h : wBin g ma mb sl W.cs Q' X') (p : PostE X.K T W H Q' Q) (px : PostX X.K T W H X' E) : tOp r ta tb σ H Q := by
  refine ha sl W σ H _ X' _ hs rp h (fun d W1 v H1 q1 x1 r1 a1 => ?_) px
  refine hb sl W1 σ H1 _ X' _ (hs.ext x1) r1 q1 (fun e W2 u H2 q2 x2 r2 a2 => ?_) (px.st x1)
  exact hg W2 H2 d e v u Q' Q r2 (a1.ext x2) a2 q2 ((p.st x1).st x2)
theorem de_op {op : Operator} {r : R2} {g : G2} (ho : OpR X (binaryOp op) r) (hg : OkR X.K T r g) (ha : DE X T E a ma) (hb : DE X T E b mb) : DE X T E (.BinOp a op b pos) (wBin g ma mb) := by
  obtain ⟨ta, pa, sa⟩ := ha.ex
  obtain ⟨tb, pb, sb⟩ := hb.ex
  exact ⟨_, pe_op ho pa pb, fun sl W σ H Q' X' Q hs rp h p px => two hg sa sb hs rp h p px⟩
theorem de_cmp {op : CmpOp} {r : R2} {g : G2} (ho : OpR X (compareOp op) r) (hg : OkR X.K T r g) (ha : DE X T E a ma) (hb : DE X T E b mb) (hm : behindInMarks op b = false) : DE X T E (.Compare a [op] [b] pos) (wBin g ma mb) := by
  obtain ⟨ta, pa, sa⟩ := ha.ex
  obtain ⟨tb, pb, sb⟩ := hb.ex
  exact ⟨_, pe_cmpR ho pa pb hm, fun sl W σ H Q' X' Q hs rp h p px => two hg sa sb hs rp h p px⟩
def wTst (m : WE) : WT := fun sl cs Q X => m sl cs (fun d cs1 => match d with
  | .bl b => Q b cs1
  | _ => False) X
theorem tst {t : TE} (sa : ∀ sl W σ H Q' X' Q, SlAt X.K T W H sl σ → Rep X.K T W H → m sl W.cs Q' X' → PostE X.K T W H Q' Q → PostX X.K T W H X' E → t σ H Q)
    {sl : Sl} {W : Wd} {σ : L2.St} {H : Hp} {Q' : Bool → Cells → Prop} {X' : XQ} {Q : Bool → Hp → Prop} (hs : SlAt X.K T W H sl σ) (rp : Rep X.K T W H) (h : wTst m sl W.cs Q' X') (p : PostT X.K T W H Q' Q) (px : PostX X.K T W H X' E) :
    t σ H fun x H' => ∃ k, x = .bl k ∧ Q k H' := by
  refine sa sl W σ H _ X' _ hs rp h (fun d W1 v H1 q1 x1 r1 a1 => ?_) px
  cases d with
  | bl k => cases a1; exact ⟨k, rfl, p k W1 H1 q1 x1 r1⟩
  | _ => exact q1.elim
theorem dt_cmp {op : CmpOp} {r : R2} {g : G2} (ho : OpR X (compareOp op) r) (hg : OkR X.K T r g) (ha : DE X T E a ma) (hb : DE X T E b mb) (hm : behindInMarks op b = false) : DT X T E (.Compare a [op] [b] pos) (wTst (wBin g ma mb)) := by
  obtain ⟨ta, pa, sa⟩ := ha.ex
  obtain ⟨tb, pb, sb⟩ := hb.ex
  exact ⟨_, pt_cmpR ho pa pb hm, fun sl W σ H Q' X' Q hs rp h p px => tst (fun _ _ _ _ _ _ _ hs rp h p px => two hg sa sb hs rp h p px) hs rp h p px⟩
/-- an expression that gives a bool, as a test -/
theorem dt_val (ha : DE X T E a ma) (he : ∀ whole, isTrue a X.env whole = (do let v ← whole; standAt a.pos; holding [v] (truthy v)) := by intro _; rfl) : DT X T E a (wTst ma) := by
  obtain ⟨ta, pa, sa⟩ := ha.ex
  exact ⟨_, pt_val pa he, fun sl W σ H Q' X' Q hs rp h p px => tst sa hs rp h p px⟩
def wUn (g : D → Cells → WQ → Prop) (a : WE) : WE := fun sl cs Q X => a sl cs (fun d cs1 => g d cs1 Q) X
theorem de_un {op : UnaryOp} {r : V → Hp → VK → Prop} {g : D → Cells → WQ → Prop} (ho : UnR X (unaryOp op) r) (hg : OkU X.K T r g) (ha : DE X T E a ma) : DE X T E (.UnaryOp op a pos) (wUn g ma) := by
  obtain ⟨ta, pa, sa⟩ := ha.ex
  exact ⟨_, pe_un ho pa, fun sl W σ H Q' X' Q hs rp h p px => sa sl W σ H _ X' _ hs rp h (fun d W1 v H1 q1 x1 r1 a1 => hg W1 H1 d v Q' Q r1 a1 q1 (p.st x1)) px⟩
/-- a[b] -/
theorem de_ix {r : R2} {g : G2} (hr : IxR X r) (hg : OkR X.K T r g) (ha : DE X T E a ma) (hb : DE X T E b mb) (hs : PlainIx b := by intro _ _; rfl) : DE X T E (.Subscript a b pos) (wBin g ma mb) := by
  obtain ⟨ta, pa, sa⟩ := ha.ex
  obtain ⟨tb, pb, sb⟩ := hb.ex
  exact ⟨_, pe_ix hr pa pb hs, fun sl W σ H Q' X' Q hs rp h p px => two hg sa sb hs rp h p px⟩

/-! ### argument lists -/
def wNil : WA := fun _ cs Q _ => Q [] cs
def wCons (a : WE) (r : WA) : WA := fun sl cs Q X => a sl cs (fun d cs1 => r sl cs1 (fun ds cs2 => Q (d :: ds) cs2) X) X
theorem da_nil : DA X T E [] wNil := ⟨_, pa_nil, fun _ W _ H _ _ _ _ r h p _ => p _ W _ H h .refl r .nil⟩
theorem da_cons {es : List Expr} {mr : WA} (ha : DE X T E e m) (hr : DA X T E es mr) (hs : starEach (e :: es) X.env = (false, eval e X.env) :: starEach es X.env := by rfl) : DA X T E (e :: es) (wCons m mr) := by
  obtain ⟨ta, pa, sa⟩ := ha.ex
  obtain ⟨tr, pr, sr⟩ := hr.ex
  refine ⟨_, pa_cons pa pr hs, fun sl W σ H Q' X' Q hs rp h p px => ?_⟩
  refine sa sl W σ H _ X' _ hs rp h (fun d W1 v H1 q1 x1 r1 a1 => ?_) px
  exact sr sl W1 σ H1 _ X' _ (hs.ext x1) r1 q1 (fun ds W2 vs H2 q2 x2 r2 a2 => p _ W2 _ H2 q2 (x1.trans x2) r2 (.cons (a1.ext x2) a2)) (px.st x1)
def wArg (g : GL) (ma : WA) : WE := fun sl cs Q X => ma sl cs (fun ds cs1 => g ds cs1 Q) X
variable {es : List Expr} {mr : WA} {x : Str} {p : Pos} {id Ty : String} {r : List V → Hp → VK → Prop} {g : GL}
theorem args_ok {t : TA} (hg : OkL X.K T r g) (sa : ∀ sl W σ H Q' X' Q, SlAt X.K T W H sl σ → Rep X.K T W H → mr sl W.cs Q' X' → PostA X.K T W H Q' Q → PostX X.K T W H X' E → t σ H Q)
    {sl : Sl} {W : Wd} {σ : L2.St} {H : Hp} {Q' : WQ} {X' : XQ} {Q : VK} (hs : SlAt X.K T W H sl σ) (rp : Rep X.K T W H) (h : wArg g mr sl W.cs Q' X') (p : PostE X.K T W H Q' Q) (px : PostX X.K T W H X' E) : t σ H fun vs H1 => r vs H1 Q :=
  sa sl W σ H _ X' _ hs rp h (fun ds W1 vs H1 q1 x1 r1 a1 => hg W1 H1 ds vs Q' Q r1 a1 q1 (p.st x1)) px
/-- a built-in by its name -/
theorem de_callB (hc : CallR X (.builtin id) r) (hg : OkL X.K T r g) (hm : X.mg x = none) (hv : bootBuiltins x = some (.builtin id)) (ha : DA X T E (e :: es) mr) (gl : Gl X x := by rfl) (hn : x ≠ "__name__" := by decide) (hdb : (x == ("__debug__" : Str)) = false := by decide)
    (hs : starEach (e :: es) X.env = (false, eval e X.env) :: starEach es X.env := by rfl) (hpl : (backTo pos (starEach es X.env)).any (·.1) = false := by rfl) :
    DE X T E (.Call (.Name x p) (e :: es) [] pos) (wArg g mr) := by
  obtain ⟨t, pa, sa⟩ := ha.ex
  exact ⟨_, pe_callB hc gl hm hv pa hn hdb hs hpl, fun sl W σ H Q' X' Q hs rp h p px => args_ok hg sa hs rp h p px⟩
theorem de_callTy (hc : CallR X (.type Ty) r) (hg : OkL X.K T r g) (hm : X.mg x = none) (hv : bootBuiltins x = some (.type Ty)) (ha : DA X T E (e :: es) mr) (gl : Gl X x := by rfl) (hn : x ≠ "__name__" := by decide) (hdb : (x == ("__debug__" : Str)) = false := by decide)
    (hs : starEach (e :: es) X.env = (false, eval e X.env) :: starEach es X.env := by rfl) (hpl : (backTo pos (starEach es X.env)).any (·.1) = false := by rfl) :
    DE X T E (.Call (.Name x p) (e :: es) [] pos) (wArg g mr) := by
  obtain ⟨t, pa, sa⟩ := ha.ex
  exact ⟨_, pe_callTy hc gl hm hv pa hn hdb hs hpl, fun sl W σ H Q' X' Q hs rp h p px => args_ok hg sa hs rp h p px⟩
/-- a tuple, a frozen list, a live list -/
def gTupD : GL := fun ds cs Q => ds.length ≤ sizeLine ∧ Q (.tup ds) cs
def gLstD : GL := fun ds cs Q => ds.length ≤ sizeLine ∧ Q (.lst ds) cs
def gRootD : GL := fun ds cs Q => ds.length ≤ sizeLine ∧ Q (.root cs.length) (cs ++ [.lst ds])
theorem de_tup {k} (ha : DA X T E es mr) : DE X T E (.Tuple es k pos) (wArg gTupD mr) := by
  obtain ⟨t, pa, sa⟩ := ha.ex
  refine ⟨_, pe_tup pa, fun sl W σ H Q' X' Q hs rp h p px => ?_⟩
  refine sa sl W σ H _ X' _ hs rp h (fun ds W1 vs H1 q1 x1 r1 a1 => ⟨by rw [← a1.length]; exact q1.1, fun l hl => ?_⟩) px
  exact p _ W1 _ _ q1.2 (x1.trans (.laid hl)) (r1.laid hl) (.tup upd_same (r1.fresh hl) (a1.ext (.laid hl)))
theorem de_lst (ha : DA X T E es mr) : DE X T E (.List es pos) (wArg gLstD mr) := by
  obtain ⟨t, pa, sa⟩ := ha.ex
  refine ⟨_, pe_lst pa, fun sl W σ H Q' X' Q hs rp h p px => ?_⟩
  refine sa sl W σ H _ X' _ hs rp h (fun ds W1 vs H1 q1 x1 r1 a1 => ⟨by rw [← a1.length]; exact q1.1, fun l hl => ?_⟩) px
  exact p _ W1 _ _ q1.2 (x1.trans (.laid hl)) (r1.laid hl) (.lst upd_same (r1.fresh hl) (a1.ext (.laid hl)))
theorem new_root {K : PySem.W.Frag} {W : Wd} {H : Hp} {ds : List D} {vs : List V} {l : Addr} (r : Rep K T W H) (hl : H l = none) (a : AtL K T W H ds vs) :
    Ext W H (W.push l (.lst ds)) (upd H l (.lst vs)) ∧ Rep K T (W.push l (.lst ds)) (upd H l (.lst vs)) ∧ At K T (W.push l (.lst ds)) (upd H l (.lst vs)) (.root W.cs.length) (.ref l) := by
  refine ⟨.pushed r hl, r.pushed hl ⟨vs, upd_same, a.ext (.pushed r hl)⟩, .root ?_⟩
  show (W.A ++ [l])[W.cs.length]? = some l
  rw [← r.len, List.getElem?_append_right (Nat.le_refl _), Nat.sub_self]
  rfl
theorem de_root (ha : DA X T E es mr) : DE X T E (.List es pos) (wArg gRootD mr) := by
  obtain ⟨t, pa, sa⟩ := ha.ex
  refine ⟨_, pe_lst pa, fun sl W σ H Q' X' Q hs rp h p px => ?_⟩
  refine sa sl W σ H _ X' _ hs rp h (fun ds W1 vs H1 q1 x1 r1 a1 => ⟨by rw [← a1.length]; exact q1.1, fun l hl => ?_⟩) px
  obtain ⟨e1, e2, e3⟩ := new_root r1 hl a1
  exact p _ _ _ _ q1.2 (x1.trans e1) e2 e3
end
end DL
namespace DL
open PySem PySem.Spec PyProof.Rows L2

section
variable {X : Cx} {T : Tb} {E : XK} {a b c e : Expr} {ma mb mc m : WE} {mt mt' : WT} {pos : Pos} {rest : List Expr}
/-! ### and, or, not, if else -/
def wAndT (t u : WT) : WT := fun sl cs Q X => t sl cs (fun k cs1 => if k = true then u sl cs1 Q X else Q false cs1) X
def wOrT (t u : WT) : WT := fun sl cs Q X => t sl cs (fun k cs1 => if k = true then Q true cs1 else u sl cs1 Q X) X
def wNotT (t : WT) : WT := fun sl cs Q X => t sl cs (fun k cs1 => Q (!k) cs1) X
theorem DW.dt (h : DW X T E e mt) : DT X T E e mt := let ⟨t, p, s⟩ := h.ex; ⟨t, p.pt, s⟩
theorem dw_and1 (ha : DT X T E a mt) : DW X T E (.BoolOp .And [a] pos) mt := let ⟨t, p, s⟩ := ha.ex; ⟨t, pw_and1 p, s⟩
theorem dw_or1 (ha : DT X T E a mt) : DW X T E (.BoolOp .Or [a] pos) mt := let ⟨t, p, s⟩ := ha.ex; ⟨t, pw_or1 p, s⟩
theorem dw_and (ha : DT X T E a mt) (hb : DW X T E (.BoolOp .And (b :: rest) pos) mt') : DW X T E (.BoolOp .And (a :: b :: rest) pos) (wAndT mt mt') := by
  obtain ⟨t, p, s⟩ := ha.ex
  obtain ⟨t', p', s'⟩ := hb.ex
  refine ⟨_, pw_and p p', fun sl W σ H Q' X' Q hs rp h po px => ?_⟩
  refine s sl W σ H _ X' _ hs rp h (fun k W1 H1 q1 x1 r1 => ?_) px
  cases k with
  | true =>
    rw [if_pos rfl] at q1 ⊢
    exact s' sl W1 σ H1 Q' X' Q (hs.ext x1) r1 q1 (po.st x1) (px.st x1)
  | false =>
    rw [if_neg Bool.false_ne_true] at q1 ⊢
    exact po _ W1 H1 q1 x1 r1
theorem dw_or (ha : DT X T E a mt) (hb : DW X T E (.BoolOp .Or (b :: rest) pos) mt') : DW X T E (.BoolOp .Or (a :: b :: rest) pos) (wOrT mt mt') := by
  obtain ⟨t, p, s⟩ := ha.ex
  obtain ⟨t', p', s'⟩ := hb.ex
  refine ⟨_, pw_or p p', fun sl W σ H Q' X' Q hs rp h po px => ?_⟩
  refine s sl W σ H _ X' _ hs rp h (fun k W1 H1 q1 x1 r1 => ?_) px
  cases k with
  | true =>
    rw [if_pos rfl] at q1 ⊢
    exact po _ W1 H1 q1 x1 r1
  | false =>
    rw [if_neg Bool.false_ne_true] at q1 ⊢
    exact s' sl W1 σ H1 Q' X' Q (hs.ext x1) r1 q1 (po.st x1) (px.st x1)
theorem dt_not (ha : DT X T E a mt) : DT X T E (.UnaryOp .Not a pos) (wNotT mt) := by
  obtain ⟨t, p, s⟩ := ha.ex
  exact ⟨_, pt_not p, fun sl W σ H Q' X' Q hs rp h po px => s sl W σ H _ X' _ hs rp h (fun k W1 H1 q1 x1 r1 => po _ W1 H1 q1 x1 r1) px⟩
/-- .. as values, all but the last bools -/
def wAndV (a b : WE) : WE := fun sl cs Q X => a sl cs (fun d cs1 => match d with
  | .bl k => if k = true then b sl cs1 Q X else Q (.bl false) cs1
  | _ => False) X
def wOrV (a b : WE) : WE := fun sl cs Q X => a sl cs (fun d cs1 => match d with
  | .bl k => if k = true then Q (.bl true) cs1 else b sl cs1 Q X
  | _ => False) X
def wNotV (a : WE) : WE := fun sl cs Q X => a sl cs (fun d cs1 => match d with
  | .bl k => Q (.bl (!k)) cs1
  | _ => False) X
theorem de_one {op} (h : DE X T E a m) : DE X T E (.BoolOp op [a] pos) m := let ⟨t, p, s⟩ := h.ex; ⟨t, pe_one p, s⟩
theorem de_and (ha : DE X T E a ma) (hb : DE X T E (.BoolOp .And (b :: rest) pos) mb) : DE X T E (.BoolOp .And (a :: b :: rest) pos) (wAndV ma mb) := by
  obtain ⟨t, p, s⟩ := ha.ex
  obtain ⟨t', p', s'⟩ := hb.ex
  refine ⟨_, pe_and p p', fun sl W σ H Q' X' Q hs rp h po px => ?_⟩
  refine s sl W σ H _ X' _ hs rp h (fun d W1 v H1 q1 x1 r1 a1 => ?_) px
  cases d with
  | bl k =>
    cases a1
    refine ⟨k, rfl, ?_⟩
    cases k with
    | true =>
      have q1 : mb sl W1.cs Q' X' := q1
      exact iteT (s' sl W1 σ H1 Q' X' Q (hs.ext x1) r1 q1 (po.st x1) (px.st x1))
    | false => exact iteF (po _ W1 _ H1 q1 x1 r1 (.bl false))
  | _ => exact q1.elim
theorem de_or (ha : DE X T E a ma) (hb : DE X T E (.BoolOp .Or (b :: rest) pos) mb) : DE X T E (.BoolOp .Or (a :: b :: rest) pos) (wOrV ma mb) := by
  obtain ⟨t, p, s⟩ := ha.ex
  obtain ⟨t', p', s'⟩ := hb.ex
  refine ⟨_, pe_or p p', fun sl W σ H Q' X' Q hs rp h po px => ?_⟩
  refine s sl W σ H _ X' _ hs rp h (fun d W1 v H1 q1 x1 r1 a1 => ?_) px
  cases d with
  | bl k =>
    cases a1
    refine ⟨k, rfl, ?_⟩
    cases k with
    | true => exact iteT (po _ W1 _ H1 q1 x1 r1 (.bl true))
    | false =>
      have q1 : mb sl W1.cs Q' X' := q1
      exact iteF (s' sl W1 σ H1 Q' X' Q (hs.ext x1) r1 q1 (po.st x1) (px.st x1))
  | _ => exact q1.elim
theorem de_not (ha : DE X T E a ma) : DE X T E (.UnaryOp .Not a pos) (wNotV ma) := by
  obtain ⟨t, p, s⟩ := ha.ex
  refine ⟨_, pe_not p, fun sl W σ H Q' X' Q hs rp h po px => ?_⟩
  refine s sl W σ H _ X' _ hs rp h (fun d W1 v H1 q1 x1 r1 a1 => ?_) px
  cases d with
  | bl k => cases a1; exact ⟨k, rfl, po _ W1 _ H1 q1 x1 r1 (.bl _)⟩
  | _ => exact q1.elim
def wIf (t : WT) (a b : WE) : WE := fun sl cs Q X => t sl cs (fun k cs1 => if k = true then a sl cs1 Q X else b sl cs1 Q X) X
theorem de_ifExp (hc : DT X T E c mt) (ha : DE X T E a ma) (hb : DE X T E b mb) : DE X T E (.IfExp c a b pos) (wIf mt ma mb) := by
  obtain ⟨t, p, s⟩ := hc.ex
  obtain ⟨t1, p1, s1⟩ := ha.ex
  obtain ⟨t2, p2, s2⟩ := hb.ex
  refine ⟨_, pe_ifExp p p1 p2, fun sl W σ H Q' X' Q hs rp h po px => ?_⟩
  refine s sl W σ H _ X' _ hs rp h (fun k W1 H1 q1 x1 r1 => ?_) px
  cases k with
  | true =>
    rw [if_pos rfl] at q1 ⊢
    exact s1 sl W1 σ H1 Q' X' Q (hs.ext x1) r1 q1 (po.st x1) (px.st x1)
  | false =>
    rw [if_neg Bool.false_ne_true] at q1 ⊢
    exact s2 sl W1 σ H1 Q' X' Q (hs.ext x1) r1 q1 (po.st x1) (px.st x1)
end

/-! ### blocks and small statements -/
section
variable {X : Cx} {T : Tb} {E : XK} {st : Stmt} {rest : List Stmt} {t u : WS} {e : Expr} {m : WE} {pos : Pos} {mt : WT}
abbrev wNext : WS := fun D sl cs => D.nx sl cs
def wSeq (t u : WS) : WS := fun D sl cs => t { D with nx := fun sl' cs' => u D sl' cs' } sl cs
theorem dss_nil : DSs X T E [] wNext := ⟨_, pss_nil, fun sl W σ H D' D hs rp h p => p.nx sl W σ H h .refl rp hs⟩
theorem dss_cons (h1 : DS X T E st t) (h2 : DSs X T E rest u) : DSs X T E (st :: rest) (wSeq t u) := by
  obtain ⟨t1, p1, s1⟩ := h1.ex
  obtain ⟨t2, p2, s2⟩ := h2.ex
  refine ⟨_, pss_cons p1 p2, fun sl W σ H D' D hs rp h p => ?_⟩
  refine s1 sl W σ H _ _ hs rp h ⟨fun sl1 W1 σ1 H1 q1 x1 r1 a1 => ?_, p.rt, p.bk, p.ct, p.xq⟩
  exact s2 sl1 W1 σ1 H1 D' D a1 r1 q1 (p.st x1)
theorem dss_one (h1 : DS X T E st t) : DSs X T E [st] t := let ⟨t1, p1, s1⟩ := h1.ex; ⟨t1, pss_one p1, s1⟩
def wBreak : WS := fun D sl cs => D.bk sl cs
def wCont : WS := fun D sl cs => D.ct sl cs
theorem ds_pass : DS X T E (.Pass pos) wNext := ⟨_, ps_pass, fun sl W σ H D' D hs rp h p => p.nx sl W σ H h .refl rp hs⟩
theorem ds_break : DS X T E (.Break pos) wBreak := ⟨_, ps_break, fun sl W σ H D' D hs rp h p => p.bk sl W σ H h .refl rp hs⟩
theorem ds_continue : DS X T E (.Continue pos) wCont := ⟨_, ps_continue, fun sl W σ H D' D hs rp h p => p.ct sl W σ H h .refl rp hs⟩
def wDrop (m : WE) : WS := fun D sl cs => m sl cs (fun _ cs1 => D.nx sl cs1) D.xq
theorem ds_expr (he : DE X T E e m) (hs : swapsWith e none pos.line X.env = pure false := by rfl) : DS X T E (.Expr e pos) (wDrop m) := by
  obtain ⟨t, p, s⟩ := he.ex
  exact ⟨_, ps_expr p hs, fun sl W σ H D' D hs rp h p => s sl W σ H _ _ _ hs rp h (fun d W1 v H1 q1 x1 r1 _ => p.nx sl W1 σ H1 q1 x1 r1 (hs.ext x1)) p.xq⟩
def wRet (m : WE) : WS := fun D sl cs => m sl cs D.rt D.xq
theorem ds_ret (he : DE X T E e m) : DS X T E (.Return (some e) pos) (wRet m) := by
  obtain ⟨t, p, s⟩ := he.ex
  exact ⟨_, ps_ret p, fun sl W σ H D' D hs rp h p => s sl W σ H _ _ _ hs rp h p.rt p.xq⟩
def wRetN : WS := fun D _ cs => D.rt .non cs
theorem ds_retN : DS X T E (.Return none pos) wRetN := ⟨_, ps_retN, fun sl W σ H D' D hs rp h p => p.rt .non W .non H h .refl rp .non⟩
def wIfS (c : WT) (t u : WS) : WS := fun D sl cs => c sl cs (fun k cs1 => if k = true then t D sl cs1 else u D sl cs1) D.xq
theorem ds_if {c : Expr} {a b : List Stmt} (hc : DT X T E c mt) (ha : DSs X T E a t) (hb : DSs X T E b u) : DS X T E (.If c a b pos) (wIfS mt t u) := by
  obtain ⟨t0, p, s⟩ := hc.ex
  obtain ⟨t1, p1, s1⟩ := ha.ex
  obtain ⟨t2, p2, s2⟩ := hb.ex
  refine ⟨_, ps_if p p1 p2, fun sl W σ H D' D hs rp h po => ?_⟩
  refine s sl W σ H _ _ _ hs rp h (fun k W1 H1 q1 x1 r1 => ?_) po.xq
  cases k with
  | true =>
    rw [if_pos rfl] at q1 ⊢
    exact s1 sl W1 σ H1 D' D (hs.ext x1) r1 q1 (po.st x1)
  | false =>
    rw [if_neg Bool.false_ne_true] at q1 ⊢
    exact s2 sl W1 σ H1 D' D (hs.ext x1) r1 q1 (po.st x1)
/-- what is never come to -/
def wNever : WS := fun _ _ _ => False
theorem ds_never : DS X T E st wNever := ⟨_, ps_never, fun _ _ _ _ _ _ _ _ h _ => h.elim⟩
end

/-! ### targets: a name, names in a tuple -/
section
variable {X : Cx} {T : Tb} {E : XK} {pos : Pos}
theorem SlAt.set {K : PySem.W.Frag} {W : Wd} {H : Hp} {sl : Sl} {σ : L2.St} {d : D} {v : V} (h : SlAt K T W H sl σ) (i : Nat) (a : At K T W H d v) : SlAt K T W H (sl.set i (some d)) (σ.set i (some v)) := by
  refine ⟨by rw [List.length_set, List.length_set]; exact h.1, fun j e q => ?_⟩
  by_cases hj : i = j
  · subst hj
    have hi : i < sl.length := by
      have := (List.getElem?_eq_some_iff.mp q).1
      rwa [List.length_set] at this
    rw [List.getElem?_set_self hi] at q
    cases q
    exact ⟨v, List.getElem?_set_self (by rw [← h.1]; exact hi), a⟩
  · rw [List.getElem?_set_ne hj] at q
    rw [List.getElem?_set_ne hj]
    exact h.2 j e q
abbrev WG := D → Sl → Cells → (Sl → Cells → Prop) → Prop
abbrev WGs := List D → Sl → Cells → (Sl → Cells → Prop) → Prop
/-- target e, by m; it stores into the slots gs alone -/
structure DG (X : Cx) (T : Tb) (e : Expr) (m : WG) (gs : List Nat) : Prop where
  ex : ∃ t, PG X e t ∧ ∀ sl W σ H d v Q' Q, SlAt X.K T W H sl σ → Rep X.K T W H → At X.K T W H d v → m d sl W.cs Q' →
    (∀ sl' σ', Q' sl' W.cs → SlAt X.K T W H sl' σ' → σ'.length = σ.length → (∀ i, i ∉ gs → σ'[i]? = σ[i]?) → Q σ' H) → t v σ H Q
structure DGs (X : Cx) (T : Tb) (es : List Expr) (m : WGs) (gs : List Nat) : Prop where
  ex : ∃ t, PGs X es t ∧ ∀ sl W σ H ds vs Q' Q, SlAt X.K T W H sl σ → Rep X.K T W H → AtL X.K T W H ds vs → m ds sl W.cs Q' →
    (∀ sl' σ', Q' sl' W.cs → SlAt X.K T W H sl' σ' → σ'.length = σ.length → (∀ i, i ∉ gs → σ'[i]? = σ[i]?) → Q σ' H) → t vs σ H Q
def wgName (i : Nat) : WG := fun d sl cs Q => Q (sl.set i (some d)) cs
theorem dg_name {i : Nat} {x : Str} (hN : X.N.Nodup) (hi : X.N[i]? = some x := by rfl) (hx : Loc X.env.scope x := by first | exact Or.inl rfl | exact Or.inr rfl) (hf : X.fn x = true ∨ X.env.scope.names.lookup x = some .local := by first | exact .inl rfl | exact .inr rfl | assumption) :
    DG X T (.Name x pos) (wgName i) [i] := by
  refine ⟨_, pg_name (i := i) hN hi hx hf, fun sl W σ H d v Q' Q hs rp a h k => k _ _ h (hs.set i a) (List.length_set ..) fun j hj => List.getElem?_set_ne fun e => hj (by simp [e])⟩
def wgNil : WGs := fun ds sl cs Q => match ds with
  | [] => Q sl cs
  | _ => False
def wgCons (t : WG) (u : WGs) : WGs := fun ds sl cs Q => match ds with
  | d :: r => t d sl cs fun sl' cs' => u r sl' cs' Q
  | [] => False
theorem dgs_nil : DGs X T [] wgNil [] := by
  refine ⟨_, pgs_nil, fun sl W σ H ds vs Q' Q hs rp a h k => ?_⟩
  cases a with
  | nil => exact ⟨rfl, k sl σ h hs rfl fun _ _ => rfl⟩
  | cons _ _ => exact h.elim
theorem dgs_cons {e : Expr} {es : List Expr} {t : WG} {u : WGs} {g gs : List Nat} (h1 : DG X T e t g) (h2 : DGs X T es u gs) (hs : (assignEach (e :: es) X.env).map (·.2) = assign e X.env :: (assignEach es X.env).map (·.2) := by rfl) :
    DGs X T (e :: es) (wgCons t u) (g ++ gs) := by
  obtain ⟨t1, p1, s1⟩ := h1.ex
  obtain ⟨t2, p2, s2⟩ := h2.ex
  refine ⟨_, pgs_cons p1 p2 hs, fun sl W σ H ds vs Q' Q hs rp a h k => ?_⟩
  cases a with
  | nil => exact h.elim
  | cons a1 a2 =>
    refine ⟨_, _, rfl, s1 sl W σ H _ _ _ _ hs rp a1 h fun sl' σ' q1 hs1 l1 f1 => ?_⟩
    refine s2 sl' W σ' H _ _ _ _ hs1 rp a2 q1 fun sl2 σ2 q2 hs2 l2 f2 => ?_
    refine k sl2 σ2 q2 hs2 (l2.trans l1) fun i hi => ?_
    rw [List.mem_append, not_or] at hi
    exact (f2 i hi.2).trans (f1 i hi.1)
def wgTup (n : Nat) (t : WGs) : WG := fun d sl cs Q => match d with
  | .tup ds => ds.length = n ∧ t ds sl cs Q
  | _ => False
theorem dg_tup {es : List Expr} {k : Nat} {t : WGs} {gs : List Nat} {n : Nat} (hc : X.calm = true) (h : DGs X T es t gs) (hn : (assignEach es X.env).length = n := by rfl) (hst : (assignEach es X.env).findIdx? (·.1) = none := by rfl) :
    DG X T (.Tuple es k pos) (wgTup n t) gs := by
  obtain ⟨t1, p1, s1⟩ := h.ex
  refine ⟨_, pg_tup hc p1 hn hst, fun sl W σ H d v Q' Q hs rp a h k => ?_⟩
  cases d with
  | tup ds =>
    cases a with
    | tup h1 f1 t1 => exact ⟨_, _, rfl, .of h1, by rw [← t1.length]; exact h.1, s1 sl W σ H _ _ _ _ hs rp t1 h.2 k⟩
  | _ => exact h.elim
/-- target = value -/
def wAsg (m : WE) (g : WG) : WS := fun D sl cs => m sl cs (fun d cs1 => g d sl cs1 D.nx) D.xq
theorem ds_asg {tg e : Expr} {m : WE} {g : WG} {gs : List Nat} (he : DE X T E e m) (hg : DG X T tg g gs) (hs : swapsWithSole [tg] e pos.line X.env = pure false := by rfl) (hw : swappedStores [tg] e X.env = pure none := by rfl)
    (h1 : (assignEach [tg] X.env).map (·.2) = [assign tg X.env] := by rfl) : DS X T E (.Assign [tg] e pos) (wAsg m g) := by
  obtain ⟨t1, p1, s1⟩ := he.ex
  obtain ⟨t2, p2, s2⟩ := hg.ex
  refine ⟨_, ps_asg p1 p2 hs hw h1, fun sl W σ H D' D hs rp h p => ?_⟩
  refine s1 sl W σ H _ _ _ hs rp h (fun d W1 v H1 q1 x1 r1 a1 => ?_) p.xq
  exact s2 sl W1 σ H1 _ _ _ _ (hs.ext x1) r1 a1 q1 fun sl' σ' q2 hs2 _ _ => p.nx sl' W1 σ' H1 q2 x1 r1 hs2
theorem ds_set {i : Nat} {x : Str} {e : Expr} {m : WE} {pos' : Pos} (hN : X.N.Nodup) (he : DE X T E e m) (hi : X.N[i]? = some x := by rfl) (hx : Loc X.env.scope x := by first | exact Or.inl rfl | exact Or.inr rfl) (hs : swapsWith e (some (.Name x pos')) pos.line X.env = pure false := by rfl)
    (hf : X.fn x = true ∨ X.env.scope.names.lookup x = some .local := by first | exact .inl rfl | exact .inr rfl | assumption) : DS X T E (.Assign [.Name x pos'] e pos) (wAsg m (wgName i)) := by
  obtain ⟨t1, p1, s1⟩ := he.ex
  refine ⟨_, ps_set (i := i) hN hi hx p1 hs hf, fun sl W σ H D' D hs rp h p => ?_⟩
  exact s1 sl W σ H _ _ _ hs rp h (fun d W1 v H1 q1 x1 r1 a1 => p.nx _ W1 _ H1 q1 x1 r1 ((hs.ext x1).set i a1)) p.xq
/-- a, b = x, y -/
def wPar (i j : Nat) (ma : WA) : WS := fun D sl cs => ma sl cs (fun ds cs1 => match ds with
  | [d, e] => D.nx ((sl.set i (some d)).set j (some e)) cs1
  | _ => False) D.xq
theorem ds_par {i j : Nat} {x y : Str} {a b : Expr} {ma : WA} {px py pt : Pos} {kt k2 pt2} (hN : X.N.Nodup) (hc : X.calm = true) (hx : X.env.scope.names.lookup x = some .local) (hy : X.env.scope.names.lookup y = some .local) (hi : X.N[i]? = some x := by rfl) (hj : X.N[j]? = some y := by rfl) (hij : i ≠ j := by decide)
    (ha : DA X T E [a, b] ma)
    (hw : swappedStores [.Tuple [.Name x px, .Name y py] kt pt] (.Tuple [a, b] k2 pt2) X.env = pure (some [x, y]) := by rfl)
    (hs : swapsWithSole [.Tuple [.Name x px, .Name y py] kt pt] (.Tuple [a, b] k2 pt2) pos.line X.env = pure false := by rfl) :
    DS X T E (.Assign [.Tuple [.Name x px, .Name y py] kt pt] (.Tuple [a, b] k2 pt2) pos) (wPar i j ma) := by
  obtain ⟨t1, p1, s1⟩ := ha.ex
  refine ⟨_, ps_par hc hN hi hj hij hx hy p1 hw hs, fun sl W σ H D' D hs rp h p => ?_⟩
  refine s1 sl W σ H _ _ _ hs rp h (fun ds W1 vs H1 q1 x1 r1 a1 => ?_) p.xq
  cases a1 with
  | nil => exact q1.elim
  | cons a1 a2 =>
    cases a2 with
    | nil => exact q1.elim
    | cons a2 a3 =>
      cases a3 with
      | nil => exact ⟨_, _, rfl, p.nx _ W1 _ H1 q1 x1 r1 (((hs.ext x1).set i a1).set j a2)⟩
      | cons _ _ => exact q1.elim
end
end DL
namespace DL
open PySem PySem.Spec PyProof.Rows L2

/-! ### what is frozen stays -/
structure Exz (W : Wd) (H : Hp) (W' : Wd) (H' : Hp) : Prop where
  fz : ∀ b o, H b = some o → W.Fz b → H' b = some o ∧ W'.Fz b
  pre : ∀ (j : Nat) (a : Addr), W.A[j]? = some a → W'.A[j]? = some a
section
variable {K : PySem.W.Frag} {T : Tb} {W W1 W2 : Wd} {H H1 H2 : Hp}
mutual
theorem At.exz (x : Exz W H W1 H1) : ∀ {d : D} {v : V}, At K T W H d v → At K T W1 H1 d v
  | _, _, .non => .non
  | _, _, .bl b => .bl b
  | _, _, .int i => .int i
  | _, _, .str s => .str s
  | _, _, .root h => .root (x.pre _ _ h)
  | _, _, .lst h f t => let ⟨h1, f1⟩ := x.fz _ _ h f; .lst h1 f1 (AtL.exz x t)
  | _, _, .tup h f t => let ⟨h1, f1⟩ := x.fz _ _ h f; .tup h1 f1 (AtL.exz x t)
  | _, _, .ins h l f t => let ⟨h1, f1⟩ := x.fz _ _ h f; .ins h1 l f1 (AtL.exz x t)
  | _, _, .scr h t => .scr (by
      rcases h with ⟨h, f⟩ | h
      · rcases h with h | ⟨o, h⟩
        · obtain ⟨h1, f1⟩ := x.fz _ _ h f
          exact .inl ⟨.inl h1, f1⟩
        · obtain ⟨h1, f1⟩ := x.fz _ _ h f
          exact .inl ⟨.inr ⟨o, h1⟩, f1⟩
      · exact .inr h) (AtL.exz x t)
  | _, _, .exc e h f t => let ⟨h1, f1⟩ := x.fz _ _ h f; .exc e h1 f1 (At.exz x t)
theorem AtL.exz (x : Exz W H W1 H1) : ∀ {ds : List D} {vs : List V}, AtL K T W H ds vs → AtL K T W1 H1 ds vs
  | _, _, .nil => .nil
  | _, _, .cons h t => .cons (At.exz x h) (AtL.exz x t)
end
theorem Exz.refl : Exz W H W H := ⟨fun _ _ h f => ⟨h, f⟩, fun _ _ h => h⟩
theorem Ex0.z (x : Ex0 W H W1 H1) : Exz W H W1 H1 := ⟨fun _ _ h f => x.fz h f, x.pre⟩
end
/-! ### reading lists: what is read off a datum -/
def cellL : Option C → Option (List D)
  | some (.lst ds) => some ds
  | some (.fz (.lst ds)) => some ds
  | _ => none
def cellF : Option C → Option (List D)
  | some (.fz (.lst ds)) => some ds
  | _ => none
theorem cellL_some {o : Option C} {ds : List D} (h : cellL o = some ds) : o = some (.lst ds) ∨ o = some (.fz (.lst ds)) := by
  unfold cellL at h
  split at h
  · cases h; exact .inl rfl
  · cases h; exact .inr rfl
  · cases h
theorem cellF_some {o : Option C} {ds : List D} (h : cellF o = some ds) : o = some (.fz (.lst ds)) := by
  unfold cellF at h
  split at h
  · cases h; rfl
  · cases h
def derefL (cs : Cells) : D → Option (List D)
  | .lst ds => some ds
  | .root j => cellL cs[j]?
  | _ => none
/-- .. that nobody writes -/
def frozL (cs : Cells) : D → Option (List D)
  | .lst ds => some ds
  | .scr ds => some ds
  | .root j => cellF cs[j]?
  | _ => none
section
variable {K : PySem.W.Frag} {T : Tb} {W W1 : Wd} {H H1 : Hp} {d : D} {v : V} {ds : List D}
theorem derefL_at (r : Rep K T W H) (a : At K T W H d v) (h : derefL W.cs d = some ds) : ∃ l vs, v = .ref l ∧ H l = some (.lst vs) ∧ AtL K T W H ds vs := by
  cases a with
  | lst h1 f1 t1 =>
    cases h
    exact ⟨_, _, rfl, h1, t1⟩
  | @root j l h1 =>
    rcases cellL_some h with q | q
    · obtain ⟨vs, e1, e2⟩ := r.cell _ _ _ h1 q
      exact ⟨_, _, rfl, e1, e2⟩
    · have z : At K T W H (.lst ds) (.ref l) := r.cell _ _ _ h1 q
      cases z with
      | lst e1 _ e2 => exact ⟨_, _, rfl, e1, e2⟩
  | _ => cases h
theorem frozL_at (r : Rep K T W H) (a : At K T W H d v) (h : frozL W.cs d = some ds) : ∃ l vs, v = .ref l ∧ ∀ {W1 : Wd} {H1 : Hp}, Exz W H W1 H1 → SqL K H1 l vs ∧ AtL K T W1 H1 ds vs := by
  have fin : ∀ {l : Addr} {ds : List D}, At K T W H (.lst ds) (.ref l) → ∃ l' vs, V.ref l = .ref l' ∧ ∀ {W1 : Wd} {H1 : Hp}, Exz W H W1 H1 → SqL K H1 l' vs ∧ AtL K T W1 H1 ds vs := fun {l ds} a => by
    cases a with
    | lst h1 f1 t1 => exact ⟨_, _, rfl, fun x => ⟨.of (x.fz _ _ h1 f1).1, t1.exz x⟩⟩
  cases a with
  | lst h1 f1 t1 =>
    cases h
    exact fin (.lst h1 f1 t1)
  | scr h1 t1 =>
    cases h
    refine ⟨_, _, rfl, fun x => ⟨?_, t1.exz x⟩⟩
    rcases h1 with ⟨h1, f1⟩ | h1
    · rcases h1 with h1 | ⟨o, h1⟩
      · exact .inl (.inl (x.fz _ _ h1 f1).1)
      · exact .inl (.inr ⟨o, (x.fz _ _ h1 f1).1⟩)
    · exact h1 _
  | @root j l h1 => exact fin (r.cell _ _ _ h1 (cellF_some h))
  | _ => cases h
theorem Ex0.refl : Ex0 W H W H := ⟨fun _ _ h l => ⟨h, l⟩, fun _ _ h => h, fun _ _ g => g⟩
theorem AtL.get : ∀ {ds : List D} {vs : List V} {i : Nat} {v : V}, AtL K T W H ds vs → vs[i]? = some v → ∃ d, ds[i]? = some d ∧ At K T W H d v
  | _, _, _, _, .nil, e => by simp at e
  | _, _, 0, _, .cons h _, e => by simp at e; subst e; exact ⟨_, rfl, h⟩
  | _, _, i + 1, v, .cons _ t, e => by
    obtain ⟨d, h1, h2⟩ := AtL.get (i := i) (v := v) t (by simpa using e)
    exact ⟨d, by simpa using h1, h2⟩
theorem AtL.get' : ∀ {ds : List D} {vs : List V} {i : Nat} {d : D}, AtL K T W H ds vs → ds[i]? = some d → ∃ v, vs[i]? = some v ∧ At K T W H d v
  | _, _, _, _, .nil, e => by simp at e
  | _, _, 0, _, .cons h _, e => by simp at e; subst e; exact ⟨_, rfl, h⟩
  | _, _, i + 1, v, .cons _ t, e => by
    obtain ⟨d, h1, h2⟩ := AtL.get' (i := i) (d := v) t (by simpa using e)
    exact ⟨d, by simpa using h1, h2⟩
theorem AtL.append : ∀ {ds es : List D} {vs us : List V}, AtL K T W H ds vs → AtL K T W H es us → AtL K T W H (ds ++ es) (vs ++ us)
  | _, _, _, _, .nil, s => s
  | _, _, _, _, .cons r t, s => .cons r (AtL.append t s)
end

/-! ### what is walked -/
structure ItOK (K : PySem.W.Frag) (T : Tb) (J : It) (ds : List D) (W0 : Wd) (H0 : Hp) : Prop where
  go : ∀ i W H, Exz W0 H0 W H → Rep K T W H → i < ds.length → J.go i H
  yld : ∀ i W H x H', Exz W0 H0 W H → Rep K T W H → i < ds.length → J.yld i H x H' → ∃ d, ds[i]? = some d ∧ Ext W H W H' ∧ Rep K T W H' ∧ At K T W H' d x
  stop : ∀ i W H, Exz W0 H0 W H → Rep K T W H → ds.length ≤ i → J.stop i H
structure DI (X : Cx) (T : Tb) (E : XK) (tg iter : Expr) (m : WA) : Prop where
  ex : ∃ wi, PI X tg iter wi ∧ ∀ sl W σ H Q' X' R, SlAt X.K T W H sl σ → Rep X.K T W H → m sl W.cs Q' X' →
    (∀ ds W1 J H1, Q' ds W1.cs → Ext W H W1 H1 → Rep X.K T W1 H1 → ItOK X.K T J ds W1 H1 → R J H1) → PostX X.K T W H X' E → wi σ H R
section
variable {X : Cx} {T : Tb} {E : XK} {tg e : Expr} {m : WE} {pos p : Pos}
def wFroz (m : WE) : WA := fun sl cs Q X => m sl cs (fun d cs1 => match frozL cs1 d with
  | some ds => Q ds cs1
  | none => False) X
theorem it_list {K : PySem.W.Frag} {W0 : Wd} {H0 : Hp} {l : Addr} {vs : List V} {ds : List D} (q : ∀ {W1 : Wd} {H1 : Hp}, Exz W0 H0 W1 H1 → SqL K H1 l vs ∧ AtL K T W1 H1 ds vs) : ItOK K T (Itl K l) ds W0 H0 := by
  refine ⟨fun i W H x r hi => ?_, fun i W H y H' x r hi hy => ?_, fun i W H x r hi => ?_⟩
  · obtain ⟨q1, q2⟩ := q x
    obtain ⟨v, e1, _⟩ := q2.get' (List.getElem?_eq_getElem hi)
    exact ⟨_, _, q1, e1⟩
  · obtain ⟨q1, q2⟩ := q x
    obtain ⟨e, hy⟩ := hy
    subst e
    obtain ⟨d, e1, e2⟩ := q2.get (hy _ q1)
    exact ⟨d, e1, .refl, r, e2⟩
  · obtain ⟨q1, q2⟩ := q x
    exact ⟨_, q1, by rw [← q2.length]; exact hi⟩
theorem di_list (he : DE X T E e m) : DI X T E tg e (wFroz m) := by
  obtain ⟨t, p, s⟩ := he.ex
  refine ⟨_, pi_list p, fun sl W σ H Q' X' R hs rp h k px => ?_⟩
  refine s sl W σ H _ X' _ hs rp h (fun d W1 v H1 q1 x1 r1 a1 => ?_) px
  split at q1
  · rename_i ds e1
    obtain ⟨l, vs, ev, q⟩ := frozL_at r1 a1 e1
    exact ⟨l, ev, ⟨vs, (q .refl).1⟩, k ds W1 _ H1 q1 x1 r1 (it_list q)⟩
  · exact q1.elim
def wTupI (m : WE) : WA := fun sl cs Q X => m sl cs (fun d cs1 => match d with
  | .tup ds => Q ds cs1
  | _ => False) X
theorem di_tup (he : DE X T E e m) : DI X T E tg e (wTupI m) := by
  obtain ⟨t, p, s⟩ := he.ex
  refine ⟨_, pi_tup p, fun sl W σ H Q' X' R hs rp h k px => ?_⟩
  refine s sl W σ H _ X' _ hs rp h (fun d W1 v H1 q1 x1 r1 a1 => ?_) px
  cases d with
  | tup ds =>
    cases a1 with
    | @tup l vs _ h1 f1 t1 =>
      refine ⟨_, rfl, ⟨_, .of h1⟩, k ds W1 _ H1 q1 x1 r1 ⟨fun i W H x r hi => ?_, fun i W H y H' x r hi hy => ?_, fun i W H x r hi => ?_⟩⟩
      · obtain ⟨v, e1, _⟩ := (t1.exz x).get' (List.getElem?_eq_getElem hi)
        exact ⟨_, _, .of (x.fz _ _ h1 f1).1, e1⟩
      · obtain ⟨e, hy⟩ := hy
        subst e
        obtain ⟨d, e1, e2⟩ := (t1.exz x).get (hy _ (.of (x.fz _ _ h1 f1).1))
        exact ⟨d, e1, .refl, r, e2⟩
      · exact ⟨_, .of (x.fz _ _ h1 f1).1, by rw [← t1.length]; exact hi⟩
  | _ => exact q1.elim
def intsD (lo : Int) (n : Nat) : List D := (List.range n).map fun i => .int (lo + (i : Nat))
theorem ints_len {lo : Int} {n : Nat} : (intsD lo n).length = n := by unfold intsD; simp
theorem ints_get {lo : Int} {n i : Nat} (h : i < n) : (intsD lo n)[i]? = some (.int (lo + i)) := by unfold intsD; simp [h]
theorem it_range {K : PySem.W.Frag} {lo : Int} {n : Nat} {W0 : Wd} {H0 : Hp} : ItOK K T (Itr lo n) (intsD lo n) W0 H0 :=
  ⟨fun i W H x r hi => by rw [ints_len] at hi; exact hi, fun i W H y H' x r hi hy => by
    rw [ints_len] at hi
    obtain ⟨e, e2⟩ := hy
    subst e e2
    exact ⟨_, ints_get hi, .refl, r, .int _⟩, fun i W H x r hi => by rw [ints_len] at hi; exact hi⟩
def wRng1 (ma : WA) : WA := fun sl cs Q X => ma sl cs (fun ds cs1 => match ds with
  | [.int j] => (-(2 ^ 62) ≤ j ∧ j < 2 ^ 62) ∧ Q (intsD 0 j.toNat) cs1
  | _ => False) X
theorem di_range1 {a : Expr} {ma : WA} (hm : X.mg "range" = none) (ha : DA X T E [a] ma) (hg : Gl X "range" := by rfl) (hs : starEach [a] X.env = [(false, eval a X.env)] := by rfl) : DI X T E tg (.Call (.Name "range" p) [a] [] pos) (wRng1 ma) := by
  obtain ⟨t, pa, s⟩ := ha.ex
  refine ⟨_, pi_range1 hg hm pa hs, fun sl W σ H Q' X' R hs rp h k px => ?_⟩
  refine s sl W σ H _ X' _ hs rp h (fun ds W1 vs H1 q1 x1 r1 a1 => ?_) px
  cases a1 with
  | nil => exact q1.elim
  | cons a1 a2 =>
    cases a2 with
    | nil =>
      cases a1 with
      | int j => exact ⟨j, rfl, q1.1.1, q1.1.2, k _ W1 _ H1 q1.2 x1 r1 it_range⟩
      | _ => exact q1.elim
    | cons _ _ => cases a1 <;> exact q1.elim
def wRng2 (ma : WA) : WA := fun sl cs Q X => ma sl cs (fun ds cs1 => match ds with
  | [.int i, .int j] => (-(2 ^ 62) ≤ i ∧ i < 2 ^ 62 ∧ -(2 ^ 62) ≤ j ∧ j < 2 ^ 62) ∧ Q (intsD i (j - i).toNat) cs1
  | _ => False) X
theorem di_range2 {a b : Expr} {ma : WA} (hm : X.mg "range" = none) (ha : DA X T E [a, b] ma) (hg : Gl X "range" := by rfl) (hs : starEach [a, b] X.env = [(false, eval a X.env), (false, eval b X.env)] := by rfl) (hs2 : starEach [b] X.env = [(false, eval b X.env)] := by rfl) :
    DI X T E tg (.Call (.Name "range" p) [a, b] [] pos) (wRng2 ma) := by
  obtain ⟨t, pa, s⟩ := ha.ex
  refine ⟨_, pi_range2 hg hm pa hs hs2, fun sl W σ H Q' X' R hs rp h k px => ?_⟩
  refine s sl W σ H _ X' _ hs rp h (fun ds W1 vs H1 q1 x1 r1 a1 => ?_) px
  cases a1 with
  | nil => exact q1.elim
  | cons a1 a2 =>
    cases a2 with
    | nil => cases a1 <;> exact q1.elim
    | cons a2 a3 =>
      cases a3 with
      | nil =>
        cases a1 with
        | int i =>
          cases a2 with
          | int j => exact ⟨i, j, rfl, q1.1, k _ W1 _ H1 q1.2 x1 r1 it_range⟩
          | _ => exact q1.elim
        | _ => exact q1.elim
      | cons _ _ => cases a1 <;> first | exact q1.elim | (cases a2 <;> exact q1.elim)

/-! ### for -/
def forW (g : WG) (tb : WS) (D0 : WD) : List D → Sl → Cells → Prop
  | [], sl, cs => D0.nx sl cs
  | d :: ds, sl, cs => g d sl cs fun sl1 cs1 => tb { nx := fun s c => forW g tb D0 ds s c, rt := D0.rt, xq := D0.xq, bk := D0.nx, ct := fun s c => forW g tb D0 ds s c } sl1 cs1
def wFor (mi : WA) (g : WG) (tb : WS) : WS := fun D0 sl cs => mi sl cs (fun ds cs1 => forW g tb D0 ds sl cs1) D0.xq
theorem ds_for {iter : Expr} {body : List Stmt} {mi : WA} {g : WG} {gs : List Nat} {tb : WS} (hp : PassesOwn (model X.prog X.w) X.A X.env X.xe) (hc : X.calm = true) (hi : DI X T E tg iter mi) (hg : DG X T tg g gs) (hb : DSs X T E body tb)
    (hs : ∀ x, foldedSetIterable iter X.env x = pure x := by intro _; rfl) : DS X T E (.For tg iter body [] pos) (wFor mi g tb) := by
  obtain ⟨wi, p1, s1⟩ := hi.ex
  obtain ⟨tg', p2, s2⟩ := hg.ex
  obtain ⟨t3, p3, s3⟩ := hb.ex
  refine ⟨_, ps_for hp hc p1 p2 p3 hs, fun sl W σ H D' Dn hs rp h po => ?_⟩
  refine s1 sl W σ H _ _ _ hs rp h (fun ds W1 J H1 q1 x1 r1 ok => ?_) po.xq
  refine ⟨fun i m σ' H' => ∃ sl' W', SlAt X.K T W' H' sl' σ' ∧ Rep X.K T W' H' ∧ Ext W1 H1 W' H' ∧ m = ds.length - i ∧ i ≤ ds.length ∧ forW g tb D' (ds.drop i) sl' W'.cs,
    ⟨_, sl, W1, hs.ext x1, r1, .refl, rfl, Nat.zero_le _, by rw [List.drop_zero]; exact q1⟩, ?_⟩
  rintro i m σ2 H2 ⟨sl2, W2, hs2, r2, x2, rfl, hi, q2⟩
  by_cases hlt : i < ds.length
  · refine .inr ⟨ok.go i W2 H2 x2.o.z r2 hlt, fun σ' H' => ∃ sl' W', SlAt X.K T W' H' sl' σ' ∧ Rep X.K T W' H' ∧ Ext W1 H1 W' H' ∧ forW g tb D' (ds.drop (i + 1)) sl' W'.cs,
      fun σ' H' ⟨sl', W', z1, z2, z3, z4⟩ => ⟨ds.length - (i + 1), by omega, sl', W', z1, z2, z3, rfl, hlt, z4⟩, fun y H3 hy => ?_⟩
    obtain ⟨d, ed, x3, r3, a3⟩ := ok.yld i W2 H2 y H3 x2.o.z r2 hlt hy
    have hd : ds.drop i = d :: ds.drop (i + 1) := by
      rw [List.drop_eq_getElem_cons hlt]
      congr 1
      exact Option.some.inj ((List.getElem?_eq_getElem hlt).symm.trans ed)
    rw [hd] at q2
    refine s2 sl2 W2 σ2 H3 d y _ _ (hs2.ext x3) r3 a3 q2 fun sl4 σ4 q4 hs4 _ _ => ?_
    refine s3 sl4 W2 σ4 H3 _ _ hs4 r3 q4 ⟨fun sl5 W5 σ5 H5 q5 x5 r5 a5 => ?_, (po.rt.st x1).st (x2.trans x3), fun sl5 W5 σ5 H5 q5 x5 r5 a5 => ?_, fun sl5 W5 σ5 H5 q5 x5 r5 a5 => ?_, (po.xq.st x1).st (x2.trans x3)⟩
    · exact ⟨sl5, W5, a5, r5, x2.trans (x3.trans x5), q5⟩
    · exact po.nx sl5 W5 σ5 H5 q5 (x1.trans (x2.trans (x3.trans x5))) r5 a5
    · exact ⟨sl5, W5, a5, r5, x2.trans (x3.trans x5), q5⟩
  · have e : i = ds.length := by omega
    subst e
    rw [List.drop_length] at q2
    exact .inl ⟨ok.stop _ W2 H2 x2.o.z r2 (Nat.le_refl _), po.nx sl2 W2 σ2 H2 q2 (x1.trans x2) r2 hs2⟩
end
end DL
namespace DL
open PySem PySem.Spec PyProof.Rows L2

section
variable {K : PySem.W.Frag} {T : Tb} {W W1 W2 : Wd} {H H1 H2 : Hp}
theorem CellAt.exz (x : Exz W H W1 H1) {a : Addr} {c : C} (h : CellAt K T W H a c) (e : c.live → ∀ o, H a = some o → H1 a = some o) : CellAt K T W1 H1 a c := by
  cases c with
  | lst ds => obtain ⟨vs, h1, h2⟩ := h; exact ⟨vs, e trivial _ h1, h2.exz x⟩
  | dK kvs => obtain ⟨vs, h1, h2⟩ := h; exact ⟨vs, e trivial _ h1, h2.exz x⟩
  | dT kvs => obtain ⟨vs, h1, h2⟩ := h; exact ⟨vs, e trivial _ h1, h2.exz x⟩
  | ins n fs => obtain ⟨dx, vs, h1, h2⟩ := h; exact ⟨dx, vs, e trivial _ h1, h2.exz x⟩
  | fz d => exact At.exz x h
  | zT kvs =>
    obtain ⟨o, vs, h1, h2, h3⟩ := h
    obtain ⟨h4, h5⟩ := x.fz _ _ h1 h2
    exact ⟨o, vs, h4, h5, h3.exz x⟩
  | dN kvs => obtain ⟨ws, h1, h2⟩ := h; exact ⟨ws, e trivial _ h1, Paired.mapP h2 fun _ _ z => ⟨z.1, At.exz x z.2.1, At.exz x z.2.2⟩⟩
  | zN kvs =>
    obtain ⟨o, ws, h1, h2, h3⟩ := h
    obtain ⟨h4, h5⟩ := x.fz _ _ h1 h2
    exact ⟨o, ws, h4, h5, Paired.mapP h3 fun _ _ z => ⟨z.1, At.exz x z.2.1, At.exz x z.2.2⟩⟩
/-- an object that is set aside is written -/
theorem Exz.aside {p : Addr} {o : HO} (g : W.G p) : Exz W H W (upd H p o) :=
  ⟨fun b u h f => ⟨by rw [upd_ne (fun e => f.2 (by rw [e]; exact g))]; exact h, f⟩, fun _ _ h => h⟩
theorem Rep.aside (r : Rep K T W H) {p : Addr} {o : HO} (g : W.G p) (nt : ∀ xs, o ≠ .tup xs := by intro _ z; cases z) : Rep K T W (upd H p o) :=
  ⟨r.len, r.inj, fun j a c h1 h2 => (r.cell j a c h1 h2).exz (.aside g) fun l u e => by rw [upd_ne (fun z => r.apart a ⟨j, c, h1, h2, l⟩ (by rw [z]; exact g))]; exact e, r.apart, gth_upd r.gth fun _ => nt⟩
/-- fewer objects set aside -/
theorem Exz.less {g : Addr → Prop} (h : ∀ a, g a → W.G a) : Exz W H (W.wG g) H := ⟨fun b u q f => ⟨q, f.1, fun z => f.2 (h b z)⟩, fun _ _ q => q⟩
theorem Rep.less (r : Rep K T W H) {g : Addr → Prop} (h : ∀ a, g a → W.G a) : Rep K T (W.wG g) H :=
  ⟨r.len, r.inj, fun j a c h1 h2 => (r.cell j a c h1 h2).exz (.less h) fun _ _ e => e, fun a l z => r.apart a l (h a z), fun a z => r.gth a (h a z)⟩
/-- a new object is laid and set aside -/
theorem Ex0.lay {p : Addr} {o : HO} (hp : H p = none) : Ex0 W H (W.wG fun a => W.G a ∨ a = p) (upd H p o) :=
  ⟨fun b u h l => ⟨by rw [upd_ne (ne_of_none h hp)]; exact h, l⟩, fun _ _ h => h, fun b h z => z.elim id fun e => absurd (by rw [e]; exact hp) h⟩
theorem Rep.lay (r : Rep K T W H) {p : Addr} {o : HO} (hp : H p = none) (nt : ∀ xs, o ≠ .tup xs := by intro _ z; cases z) : Rep K T (W.wG fun a => W.G a ∨ a = p) (upd H p o) :=
  ⟨r.len, r.inj, fun j a c h1 h2 => (r.cell j a c h1 h2).ext (Ex0.lay hp) (fun u e => by rw [upd_ne (ne_of_none e hp)]; exact e) (.inr rfl),
   fun a l z => z.elim (r.apart a l) (fun e => (by
    obtain ⟨o, q⟩ := r.live_some l
    rw [e, hp] at q; cases q)),
   fun a z => by
    by_cases e : a = p
    · subst e; exact ⟨o, upd_same, nt⟩
    · rw [upd_ne e]; exact r.gth a (z.elim id fun q => absurd q e)⟩
theorem Rep.aside_not (r : Rep K T W H) {p : Addr} (g : W.G p) : ¬ W.Live p := fun l => r.apart p l g
end

/-! ### one reading for all blocks -/
section
variable (K : PySem.W.Frag) (T : Tb) (E : XK)
def canE (m : WE) : TE := fun σ H Q => ∃ sl W Q' X', SlAt K T W H sl σ ∧ Rep K T W H ∧ m sl W.cs Q' X' ∧ PostE K T W H Q' Q ∧ PostX K T W H X' E
def canT (m : WT) : TT := fun σ H Q => ∃ sl W Q' X', SlAt K T W H sl σ ∧ Rep K T W H ∧ m sl W.cs Q' X' ∧ PostT K T W H Q' Q ∧ PostX K T W H X' E
def canG (m : WG) (gs : List Nat) : TG := fun v σ H Q => ∃ sl W d Q', SlAt K T W H sl σ ∧ Rep K T W H ∧ At K T W H d v ∧ m d sl W.cs Q' ∧
  ∀ sl' σ', Q' sl' W.cs → SlAt K T W H sl' σ' → σ'.length = σ.length → (∀ i, i ∉ gs → σ'[i]? = σ[i]?) → Q σ' H
end
structure DTs (X : Cx) (T : Tb) (E : XK) (es : List Expr) (m : WT) : Prop where
  ex : ∃ t, PTs X es t ∧ ∀ sl W σ H Q' X' Q, SlAt X.K T W H sl σ → Rep X.K T W H → m sl W.cs Q' X' → PostT X.K T W H Q' Q → PostX X.K T W H X' E → t σ H Q
section
variable {X : Cx} {T : Tb} {E : XK} {e : Expr} {es : List Expr} {m : WE} {mt : WT} {g : WG} {gs : List Nat}
def wYes : WT := fun _ cs Q _ => Q true cs
theorem dts_nil : DTs X T E [] wYes := ⟨_, pts_nil, fun sl W σ H Q' X' Q hs rp h p _ => p true W H h .refl rp⟩
theorem dts_one (h : DT X T E e mt) : DTs X T E [e] mt := let ⟨t, p, s⟩ := h.ex; ⟨t, pts_one p, s⟩
theorem DE.can (h : DE X T E e m) : PE X e (canE X.K T E m) := let ⟨t, p, s⟩ := h.ex; ⟨fun pins s0 σ H Q I ⟨sl, W, Q', X', a, b, c, d, f⟩ => p.run pins s0 σ H Q I (s sl W σ H Q' X' Q a b c d f)⟩
theorem DTs.can (h : DTs X T E es mt) : PTs X es (canT X.K T E mt) := let ⟨t, p, s⟩ := h.ex; ⟨fun pins s0 σ H Q I ⟨sl, W, Q', X', a, b, c, d, f⟩ => p.run pins s0 σ H Q I (s sl W σ H Q' X' Q a b c d f)⟩
theorem DG.can (h : DG X T e g gs) : PG X e (canG X.K T g gs) := let ⟨t, p, s⟩ := h.ex; ⟨fun pins s0 σ H v u Q I r ⟨sl, W, d, Q', a, b, c, f, k⟩ => p.run pins s0 σ H v u Q I r (s sl W σ H d v Q' Q a b c f k)⟩
end

/-! ### list comprehensions -/
def wipeD (sl : Sl) : List Nat → Sl
  | [] => sl
  | v :: vs => (wipeD sl vs).set v none
theorem wipeD_length (sl : Sl) : ∀ vs : List Nat, (wipeD sl vs).length = sl.length
  | [] => rfl
  | v :: vs => by unfold wipeD; rw [List.length_set, wipeD_length sl vs]
theorem wipeD_some {sl : Sl} {i : Nat} {x : D} : ∀ {vs : List Nat}, (wipeD sl vs)[i]? = some (some x) → sl[i]? = some (some x) ∧ i ∉ vs
  | [], h => ⟨h, by simp⟩
  | v :: vs, h => by
    unfold wipeD at h
    by_cases hi : v = i
    · subst hi
      by_cases hv : v < (wipeD sl vs).length
      · rw [List.getElem?_set_self hv] at h; cases h
      · rw [List.getElem?_eq_none (by simpa using hv)] at h; cases h
    · rw [List.getElem?_set_ne hi] at h
      obtain ⟨h1, h2⟩ := wipeD_some h
      exact ⟨h1, by simp only [List.mem_cons, not_or]; exact ⟨fun e => hi e.symm, h2⟩⟩
theorem wipe_get (σ : L2.St) (i : Nat) : ∀ vs : List Nat, (wipe σ vs)[i]? = if i ∈ vs then σ[i]?.map (fun _ => none) else σ[i]?
  | [] => by simp [wipe]
  | v :: vs => by
    unfold wipe
    by_cases hi : v = i
    · subst hi
      rw [if_pos List.mem_cons_self, List.getElem?_set]
      rw [if_pos rfl, wipe_length]
      by_cases hv : v < σ.length
      · rw [if_pos hv, List.getElem?_eq_getElem hv]; rfl
      · rw [if_neg hv, List.getElem?_eq_none (by omega)]; rfl
    · rw [List.getElem?_set_ne hi, wipe_get σ i vs]
      by_cases hm : i ∈ vs
      · rw [if_pos hm, if_pos (List.mem_cons_of_mem _ hm)]
      · rw [if_neg hm, if_neg (by simp only [List.mem_cons, not_or]; exact ⟨fun e => hi e.symm, hm⟩)]
theorem wipe_eq {σ σ2 : L2.St} {vs gs : List Nat} (hg : ∀ i ∈ gs, i ∈ vs) (hl : σ2.length = (wipe σ vs).length) (h : ∀ i, i ∉ gs → σ2[i]? = (wipe σ vs)[i]?) : wipe σ2 vs = wipe σ vs := by
  rw [wipe_length] at hl
  refine List.ext_getElem? fun i => ?_
  rw [wipe_get, wipe_get]
  by_cases hm : i ∈ vs
  · rw [if_pos hm, if_pos hm]
    by_cases hi : i < σ.length
    · rw [List.getElem?_eq_getElem hi, List.getElem?_eq_getElem (by omega)]; rfl
    · rw [List.getElem?_eq_none (by omega), List.getElem?_eq_none (by omega)]
  · rw [if_neg hm, if_neg hm, h i fun z => hm (hg i z), wipe_get, if_neg hm]
theorem SlAt.wipe {K : PySem.W.Frag} {T : Tb} {W : Wd} {H : Hp} {sl : Sl} {σ : L2.St} (h : SlAt K T W H sl σ) (vs : List Nat) : SlAt K T W H (wipeD sl vs) (wipe σ vs) := by
  refine ⟨by rw [wipeD_length, wipe_length]; exact h.1, fun i d e => ?_⟩
  obtain ⟨e1, e2⟩ := wipeD_some e
  obtain ⟨v, h1, h2⟩ := h.2 i d e1
  exact ⟨v, by rw [wipe_get, if_neg e2]; exact h1, h2⟩
theorem SlAt.ex0 {K : PySem.W.Frag} {T : Tb} {W W1 : Wd} {H H1 : Hp} {sl : Sl} {σ : L2.St} (x : Ex0 W H W1 H1) (h : SlAt K T W H sl σ) : SlAt K T W1 H1 sl σ := ⟨h.1, fun i d e => let ⟨v, a, b⟩ := h.2 i d e; ⟨v, a, b.ex0 x⟩⟩
def lcW (g : WG) (mt : WT) (me : WE) (sl : Sl) (Q : List D → Cells → Prop) : List D → List D → Cells → Prop
  | [], acc, cs => Q acc cs
  | d :: ds, acc, cs => g d sl cs fun sl2 cs2 => mt sl2 cs2 (fun b cs3 => if b = true then me sl2 cs3 (fun y cs4 => lcW g mt me sl Q ds (acc ++ [y]) cs4) (fun _ _ _ => False) else lcW g mt me sl Q ds acc cs3) (fun _ _ _ => False)
def wLc (mi : WA) (g : WG) (mt : WT) (me : WE) (vs : List Nat) : WE := fun sl cs Q X => mi sl cs (fun ds cs1 => ds.length ≤ sizeLine ∧ lcW g mt me (wipeD sl vs) (fun acc cs2 => Q (.lst acc) cs2) ds [] cs1) X
theorem post_no {K : PySem.W.Frag} {T : Tb} {W : Wd} {H : Hp} {E : XK} : PostX K T W H (fun _ _ _ => False) E := fun _ _ _ _ _ _ z => z.elim
section
variable {X : Cx} {T : Tb} {E : XK}
theorem lc_ok {mi : WA} {g : WG} {gs : List Nat} {mt : WT} {me : WE} {vs : List Nat} {wi : TI} (hgs : ∀ i ∈ gs, i ∈ vs)
    (s1 : ∀ sl W σ H Q' X' R, SlAt X.K T W H sl σ → Rep X.K T W H → mi sl W.cs Q' X' → (∀ ds W1 J H1, Q' ds W1.cs → Ext W H W1 H1 → Rep X.K T W1 H1 → ItOK X.K T J ds W1 H1 → R J H1) → PostX X.K T W H X' E → wi σ H R)
    {sl : Sl} {W : Wd} {σ : L2.St} {H : Hp} {Q' : WQ} {X' : XQ} {Q : VK} (hs : SlAt X.K T W H sl σ) (rp : Rep X.K T W H) (h : wLc mi g mt me vs sl W.cs Q' X')
    (po : ∀ ds W' l H', Q' (.lst ds) W'.cs → Ext W H W' H' → Rep X.K T W' H' → At X.K T W' H' (.lst ds) (.ref l) → Q (.ref l) H') (px : PostX X.K T W H X' E) :
    tLc wi (canG X.K T g gs) (canT X.K T E0 mt) (canE X.K T E0 me) vs σ H Q := by
  refine s1 sl W σ H _ X' _ hs rp h (fun ds W1 J H1 ⟨hz, q1⟩ x1 r1 ok => ?_) px
  intro L hL
  refine ⟨fun i m H' => ∃ Wi acc us, H' L = some (.lst us) ∧ AtL X.K T Wi H' acc us ∧ us.length ≤ i ∧ (∀ a, W1.G a → Wi.G a) ∧ Wi.G L ∧ Rep X.K T Wi H' ∧ Ex0 W1 H1 Wi H' ∧ m = ds.length - i ∧ i ≤ ds.length ∧
      lcW g mt me (wipeD sl vs) (fun acc cs2 => Q' (.lst acc) cs2) (ds.drop i) acc Wi.cs,
    ⟨_, W1.wG fun a => W1.G a ∨ a = L, [], [], upd_same, .nil, Nat.le_refl _, fun a z => .inl z, .inr rfl, r1.lay hL, .lay hL, rfl, Nat.zero_le _, by rw [List.drop_zero]; exact q1⟩, ?_⟩
  rintro i m H2 ⟨Wi, acc, us, hu, au, lu, g1, gL, r2, x2, rfl, hi, q2⟩
  have trk : ∀ b, H1 b ≠ none → H2 b ≠ none ∨ W1.Live b := fun b hb => by
    by_cases l : W1.Live b
    · exact .inr l
    · cases e : H1 b with
      | none => exact absurd e hb
      | some o => left; rw [(x2.keep b o e l).1]; exact Option.some_ne_none _
  -- composing: what stood at the start stays
  have comp : ∀ {W3 : Wd} {H3 : Hp}, Ext Wi H2 W3 H3 → Ex0 W1 H1 W3 H3 := fun {W3 H3} x3 =>
    ⟨fun b o e l => let ⟨e1, l1⟩ := x2.keep b o e l; x3.keep b o e1 l1, fun j a e => x3.pre j a (x2.pre j a e), fun b hb z => by rw [x3.g] at z; exact x2.gk b hb z⟩
  by_cases hlt : i < ds.length
  · refine .inr ⟨ok.go i Wi H2 x2.z r2 hlt, fun H' => ∃ Wi acc us, H' L = some (.lst us) ∧ AtL X.K T Wi H' acc us ∧ us.length ≤ i + 1 ∧ (∀ a, W1.G a → Wi.G a) ∧ Wi.G L ∧ Rep X.K T Wi H' ∧ Ex0 W1 H1 Wi H' ∧
      lcW g mt me (wipeD sl vs) (fun acc cs2 => Q' (.lst acc) cs2) (ds.drop (i + 1)) acc Wi.cs,
      fun H' ⟨Wj, acc, us, z1, z2, z3, z4, z5, z6, z7, z8⟩ => ⟨ds.length - (i + 1), by omega, Wj, acc, us, z1, z2, z3, z4, z5, z6, z7, rfl, hlt, z8⟩, fun y H3 hy => ?_⟩
    obtain ⟨d, ed, x3, r3, a3⟩ := ok.yld i Wi H2 y H3 x2.z r2 hlt hy
    have hd : ds.drop i = d :: ds.drop (i + 1) := by
      rw [List.drop_eq_getElem_cons hlt]
      congr 1
      exact Option.some.inj ((List.getElem?_eq_getElem hlt).symm.trans ed)
    rw [hd] at q2
    have hs3 : SlAt X.K T Wi H3 (wipeD sl vs) (wipe σ vs) := ((hs.ext x1).ex0 (comp x3)).wipe vs
    have nl : ¬ Wi.Live L := r2.aside_not gL
    have hu3 := (x3.keep L _ hu nl).1
    refine ⟨_, Wi, d, _, hs3, r3, a3, q2, fun sl4 σ4 q4 hs4 l4 f4 => ⟨wipe_eq hgs l4 f4, ?_⟩⟩
    refine ⟨sl4, Wi, _, _, hs4, r3, q4, fun b W5 H5 q5 x5 r5 => ?_, post_no⟩
    have hu5 := x5.keep L _ hu3 nl
    have au5 := (au.ext x3).ext x5
    cases b with
    | true =>
      have q5 : me sl4 W5.cs (fun y cs4 => lcW g mt me (wipeD sl vs) (fun acc cs2 => Q' (.lst acc) cs2) (ds.drop (i + 1)) (acc ++ [y]) cs4) (fun _ _ _ => False) := q5
      refine iteT ⟨sl4, W5, _, _, hs4.ext x5, r5, q5, fun dy W6 y6 H6 q6 x6 r6 a6 => ?_, post_no⟩
      have hu6 := x6.keep L _ hu5.1 hu5.2
      have gL6 : W6.G L := by rw [x6.g, x5.g]; exact gL
      refine ⟨us, hu6.1, Nat.lt_of_le_of_lt lu (by omega), W6, acc ++ [dy], us ++ [y6], upd_same, ((au5.ext x6).append (.cons a6 .nil)).exz (.aside gL6), by rw [List.length_append, List.length_singleton]; omega, fun a z => by rw [x6.g, x5.g]; exact g1 a z, gL6, r6.aside gL6, ?_, q6⟩
      have x0 := comp ((x3.trans x5).trans x6)
      exact ⟨fun b o e l => let ⟨e1, l1⟩ := x0.keep b o e l; ⟨by rw [upd_ne (ne_of_none e hL)]; exact e1, l1⟩, x0.pre, x0.gk⟩
    | false =>
      have q5 : lcW g mt me (wipeD sl vs) (fun acc cs2 => Q' (.lst acc) cs2) (ds.drop (i + 1)) acc W5.cs := q5
      exact iteF ⟨W5, acc, us, hu5.1, au5, by omega, fun a z => by rw [x5.g]; exact g1 a z, by rw [x5.g]; exact gL, r5, comp (x3.trans x5), q5⟩
  · have e : i = ds.length := by omega
    subst e
    rw [List.drop_length] at q2
    refine .inl ⟨ok.stop _ Wi H2 x2.z r2 (Nat.le_refl _), ?_⟩
    have xf : Ext W1 H1 (Wi.wG W1.G) H2 := ⟨x2.keep, x2.pre, rfl⟩
    exact po acc (Wi.wG W1.G) L H2 q2 (x1.trans xf) (r2.less g1) (.lst hu ⟨r2.aside_not gL, fun z => (by obtain ⟨u, e, _⟩ := r1.gth L z; rw [hL] at e; cases e)⟩ (au.exz (.less g1)))
theorem de_lc {elt tg iter : Expr} {ifs : List Expr} {scope : Scope} {own : List (Str × Nat)} {pos : Pos} {mi : WA} {g : WG} {gs : List Nat} {mt : WT} {me : WE} (hc : X.calm = true) (hN : X.N.Nodup) (hi : DI X T E tg iter mi) (ok : BlkOk X.N X.env.scope scope own) (hgs : ∀ i ∈ gs, i ∈ own.map (·.2))
    (hg : ∀ (s : Shared) (H : Hp) (C : Addr) (cl : List (Str × Addr)) (fp : List Addr), DG (X.blk s H scope (compEnvC scope cl C X.env) fp) T tg g gs) (ht : ∀ (s : Shared) (H : Hp) (C : Addr) (cl : List (Str × Addr)) (fp : List Addr), DTs (X.blk s H scope (compEnvC scope cl C X.env) fp) T E0 ifs mt)
    (he : ∀ (s : Shared) (H : Hp) (C : Addr) (cl : List (Str × Addr)) (fp : List Addr), DE (X.blk s H scope (compEnvC scope cl C X.env) fp) T E0 elt me) (hs : ∀ x, foldedSetIterable iter X.env x = pure x := by intro _; rfl) :
    DE X T E (.ListComp elt [⟨tg, iter, ifs, 0⟩] scope pos) (wLc mi g mt me (own.map (·.2))) := by
  obtain ⟨wi, p1, s1⟩ := hi.ex
  refine ⟨_, pe_lc (g := canG X.K T g gs) (tt := canT X.K T E0 mt) (te := canE X.K T E0 me) hc hN p1 ok (fun s H C cl fp => (hg s H C cl fp).can) (fun s H C cl fp => (ht s H C cl fp).can) (fun s H C cl fp => (he s H C cl fp).can) hs, ?_⟩
  exact fun sl W σ H Q' X' Q hs rp h po px => lc_ok hgs s1 hs rp h (fun ds W' l H' q x r a => po _ W' _ H' q x r a) px
/-- name = [..] on one line, the name a local -/
theorem ds_lc {i : Nat} {y : Str} {py : Pos} {elt tg iter : Expr} {ifs : List Expr} {scope : Scope} {own : List (Str × Nat)} {pos spos : Pos} {mi : WA} {g : WG} {gs : List Nat} {mt : WT} {me : WE} (hc : X.calm = true) (hN : X.N.Nodup) (hyl : X.env.scope.names.lookup y = some .local)
    (hsw : swapsWith (.ListComp elt [⟨tg, iter, ifs, 0⟩] scope pos) (some (.Name y py)) spos.line X.env = pure true) (hi : DI X T E tg iter mi) (ok : BlkOk X.N X.env.scope scope own) (hgs : ∀ i ∈ gs, i ∈ own.map (·.2))
    (hg : ∀ (s : Shared) (H : Hp) (C : Addr) (cl : List (Str × Addr)) (fp : List Addr), DG (X.blk s H scope (compEnvC scope cl C X.env) fp) T tg g gs) (ht : ∀ (s : Shared) (H : Hp) (C : Addr) (cl : List (Str × Addr)) (fp : List Addr), DTs (X.blk s H scope (compEnvC scope cl C X.env) fp) T E0 ifs mt)
    (he : ∀ (s : Shared) (H : Hp) (C : Addr) (cl : List (Str × Addr)) (fp : List Addr), DE (X.blk s H scope (compEnvC scope cl C X.env) fp) T E0 elt me) (hy : X.N[i]? = some y := by rfl) (hs : ∀ x, foldedSetIterable iter X.env x = pure x := by intro _; rfl) :
    DS X T E (.Assign [.Name y py] (.ListComp elt [⟨tg, iter, ifs, 0⟩] scope pos) spos) (wAsg (wLc mi g mt me (own.map (·.2))) (wgName i)) := by
  obtain ⟨wi, p1, s1⟩ := hi.ex
  refine ⟨_, ps_setLc (i := i) (g := canG X.K T g gs) (tt := canT X.K T E0 mt) (te := canE X.K T E0 me) hc hN hy hyl hsw p1 ok (fun s H C cl fp => (hg s H C cl fp).can) (fun s H C cl fp => (ht s H C cl fp).can) (fun s H C cl fp => (he s H C cl fp).can) hs, ?_⟩
  exact fun sl W σ H D' Dn hs rp h p => lc_ok hgs s1 hs rp h (fun ds W' l H' q x r a => p.nx _ W' _ H' q x r ((hs.ext x).set i a)) p.xq
end
end DL
namespace DL
open PySem PySem.Spec PyProof.Rows L2

/-! ### ints -/
section
variable {X : Cx} {T : Tb}
abbrev rAddI : R2 := rI0 fun i j => .int (i + j)
abbrev rSubI : R2 := rI0 fun i j => .int (i - j)
abbrev rMulI : R2 := rI IntMulOk fun i j => .int (i * j)
def CPowW (i n : Int) : Prop := 0 ≤ n ∧ (Builtin.Int.intBits i : Int) * n ≤ 2 ^ 27
abbrev rPowI : R2 := rI CPowW fun i j => .int (i ^ j.toNat)
abbrev rDivI : R2 := rI CDivW fun i j => .int (i / j)
abbrev rModI : R2 := rI (fun _ j => 0 < j) fun i j => .int (i % j)
theorem op_mulI : OpR X (binaryOp .Mult) rMulI := opI fun _ _ _ _ _ _ _ hc q => mul_int q hc
theorem op_powI : OpR X (binaryOp .Pow) rPowI := opI fun _ _ _ _ _ _ _ hc q => pow_int hc.1 hc.2 q
def gI (Cd : Int → Int → Prop) (f : Int → Int → Int) : G2 := fun d e cs Q => match d, e with
  | .int i, .int j => Cd i j ∧ Q (.int (f i j)) cs
  | _, _ => False
theorem ok_I {K : PySem.W.Frag} {Cd : Int → Int → Prop} {f : Int → Int → Int} : OkR K T (rI Cd fun i j => .int (f i j)) (gI Cd f) := by
  intro W H d e v u Q' Q r a b h p
  unfold gI at h
  split at h
  · cases a; cases b
    exact ⟨_, _, rfl, rfl, h.1, p _ W _ H h.2 .refl r (.int _)⟩
  · exact h.elim
def gI0 (f : Int → Int → Int) : G2 := fun d e cs Q => match d, e with
  | .int i, .int j => Q (.int (f i j)) cs
  | _, _ => False
theorem ok_I0 {K : PySem.W.Frag} {f : Int → Int → Int} : OkR K T (rI0 fun i j => .int (f i j)) (gI0 f) := by
  intro W H d e v u Q' Q r a b h p
  unfold gI0 at h
  split at h
  · cases a; cases b
    exact ⟨_, _, rfl, rfl, p _ W _ H h .refl r (.int _)⟩
  · exact h.elim
def gB0 (f : Int → Int → Bool) : G2 := fun d e cs Q => match d, e with
  | .int i, .int j => Q (.bl (f i j)) cs
  | _, _ => False
theorem ok_B0 {K : PySem.W.Frag} {f : Int → Int → Bool} : OkR K T (rI0 fun i j => .bl (f i j)) (gB0 f) := by
  intro W H d e v u Q' Q r a b h p
  unfold gB0 at h
  split at h
  · cases a; cases b
    exact ⟨_, _, rfl, rfl, p _ W _ H h .refl r (.bl _)⟩
  · exact h.elim
theorem OkR.or_ {K : PySem.W.Frag} {r r' : R2} {g : G2} (h : ∀ W H d e v u Q' Q, Rep K T W H → At K T W H d v → At K T W H e u → g d e W.cs Q' → PostE K T W H Q' Q → r v u H Q ∨ r' v u H Q) : OkR K T (fun x y H Q => r x y H Q ∨ r' x y H Q) g :=
  fun W H d e v u Q' Q rp a b c p => h W H d e v u Q' Q rp a b c p
/-- a + b: ints, texts, lists -/
def gAdd : G2 := fun d e cs Q => match d, e with
  | .int i, .int j => Q (.int (i + j)) cs
  | .str x, .str y => x.length + y.length ≤ sizeLine ∧ Q (.str (x ++ y)) cs
  | _, _ => match derefL cs d, derefL cs e with
    | some ds, some es => ds.length + es.length ≤ sizeLine ∧ Q (.lst (ds ++ es)) cs
    | _, _ => False
def rAddS : R2 := fun x y H Q => ∃ i j, x = .str i ∧ y = .str j ∧ i.length + j.length ≤ sizeLine ∧ Q (.str (i ++ j)) H
def rAddD : R2 := fun x y H Q => rAddI x y H Q ∨ rAddS x y H Q ∨ rCat x y H Q
theorem op_addD : OpR X (binaryOp .Add) rAddD := OpR.or op_add (OpR.or op_add_str op_cat)
theorem ok_add {K : PySem.W.Frag} : OkR K T rAddD gAdd := by
  intro W H d e v u Q' Q r a b h p
  unfold gAdd at h
  split at h
  · cases a; cases b
    exact .inl ⟨_, _, rfl, rfl, p _ W _ H h .refl r (.int _)⟩
  · cases a; cases b
    exact .inr (.inl ⟨_, _, rfl, rfl, h.1, p _ W _ H h.2 .refl r (.str _)⟩)
  · split at h
    · rename_i e1 e2
      obtain ⟨l, vs, rfl, h1, t1⟩ := derefL_at r a e1
      obtain ⟨m, us, rfl, h2, t2⟩ := derefL_at r b e2
      refine .inr (.inr ⟨l, m, vs, us, rfl, rfl, h1, h2, by rw [← t1.length, ← t2.length]; exact h.1, fun q hq => ?_⟩)
      exact p _ W _ _ h.2 (.laid hq) (r.laid hq) (.lst upd_same (r.fresh hq) ((t1.append t2).ext (.laid hq)))
    · exact h.elim
/-- .. a live list comes -/
def gCatR : G2 := fun d e cs Q => match derefL cs d, derefL cs e with
    | some ds, some es => ds.length + es.length ≤ sizeLine ∧ Q (.root cs.length) (cs ++ [.lst (ds ++ es)])
    | _, _ => False
theorem ok_catR {K : PySem.W.Frag} : OkR K T rCat gCatR := by
  intro W H d e v u Q' Q r a b h p
  unfold gCatR at h
  split at h
  · rename_i e1 e2
    obtain ⟨l, vs, rfl, h1, t1⟩ := derefL_at r a e1
    obtain ⟨m, us, rfl, h2, t2⟩ := derefL_at r b e2
    refine ⟨l, m, vs, us, rfl, rfl, h1, h2, by rw [← t1.length, ← t2.length]; exact h.1, fun q hq => ?_⟩
    obtain ⟨z1, z2, z3⟩ := new_root r hq (t1.append t2)
    exact p _ _ _ _ h.2 z1 z2 z3
  · exact h.elim
/-- a * b: ints, or a list repeated -/
def gMul : G2 := fun d e cs Q => match d, e with
  | .int i, .int j => IntMulOk i j ∧ Q (.int (i * j)) cs
  | d, .int k => match derefL cs d with
    | some ds => (-(2 ^ 63) ≤ k ∧ k < 2 ^ 63) ∧ ds.length * k.toNat ≤ sizeLine ∧ Q (.lst (List.replicate k.toNat ds).flatten) cs
    | none => False
  | _, _ => False
def rMulD : R2 := fun x y H Q => rMulI x y H Q ∨ rRep x y H Q
theorem op_mulD : OpR X (binaryOp .Mult) rMulD := OpR.or op_mulI op_rep
theorem AtL.rep {K : PySem.W.Frag} {W : Wd} {H : Hp} {ds : List D} {vs : List V} (h : AtL K T W H ds vs) : ∀ k : Nat, AtL K T W H (List.replicate k ds).flatten (List.replicate k vs).flatten
  | 0 => .nil
  | k + 1 => by rw [List.replicate_succ, List.replicate_succ, List.flatten_cons, List.flatten_cons]; exact h.append (AtL.rep h k)
theorem ok_mul {K : PySem.W.Frag} : OkR K T rMulD gMul := by
  intro W H d e v u Q' Q r a b h p
  unfold gMul at h
  split at h
  · cases a; cases b
    exact .inl ⟨_, _, rfl, rfl, h.1, p _ W _ H h.2 .refl r (.int _)⟩
  · split at h
    · rename_i e1
      obtain ⟨l, vs, rfl, h1, t1⟩ := derefL_at r a e1
      cases b
      refine .inr ⟨l, _, vs, rfl, rfl, h1, h.1.1, h.1.2, by rw [← t1.length]; exact h.2.1, fun q hq => ?_⟩
      exact p _ W _ _ h.2.2 (.laid hq) (r.laid hq) (.lst upd_same (r.fresh hq) ((t1.rep _).ext (.laid hq)))
    · exact h.elim
  · exact h.elim
theorem un_negD : UnR X (unaryOp .USub) (rU fun i => .int (-i)) := un_neg
def gNeg : D → Cells → WQ → Prop := fun d cs Q => match d with
  | .int i => Q (.int (-i)) cs
  | _ => False
theorem ok_neg {K : PySem.W.Frag} : OkU K T (rU fun i => .int (-i)) gNeg := by
  intro W H d v Q' Q r a h p
  cases a with
  | int i => exact ⟨_, rfl, p _ W _ H h .refl r (.int _)⟩
  | _ => exact h.elim

/-! ### data, as the model's own plain data -/
mutual
def pyW (f : Nat → Option PyData) : D → Option PyData
  | .non => some .none
  | .bl b => some (.bool b)
  | .int i => some (.int i)
  | .str x => some (.str x)
  | .lst ds => (pyWL f ds).map .list
  | .scr ds => (pyWL f ds).map .list
  | .tup ds => (pyWL f ds).map .tuple
  | .root j => f j
  | .ins _ _ => none
  | .exc _ _ => none
def pyWL (f : Nat → Option PyData) : List D → Option (List PyData)
  | [] => some []
  | d :: ds => match pyW f d, pyWL f ds with
    | some p, some ps => some (p :: ps)
    | _, _ => none
end
def cellPy (cs : Cells) (f : Nat → Option PyData) (j : Nat) : Option PyData := match cellL cs[j]? with
  | some ds => (pyWL f ds).map .list
  | none => none
def py (cs : Cells) : D → Option PyData := pyW (cellPy cs (cellPy cs (cellPy cs fun _ => none)))
section
variable {K : PySem.W.Frag} {W : Wd} {H : Hp}
mutual
theorem pyW_at {f : Nat → Option PyData} (hf : ∀ j l q, f j = some q → W.A[j]? = some l → Dp K H (.ref l) q) : ∀ (d : D) (v : V) (q : PyData), pyW f d = some q → At K T W H d v → Dp K H v q
  | .non, _, _, h, a => by cases a; simp only [pyW] at h; cases h; exact .non
  | .bl b, _, _, h, a => by cases a; simp only [pyW] at h; cases h; exact .bl b
  | .int i, _, _, h, a => by cases a; simp only [pyW] at h; cases h; exact .int i
  | .str x, _, _, h, a => by cases a; simp only [pyW] at h; cases h; exact .str x
  | .lst ds, _, _, h, a => by
    cases a with
    | lst h1 f1 t1 =>
      simp only [pyW] at h
      cases e : pyWL f ds with
      | none => rw [e] at h; cases h
      | some qs => rw [e] at h; cases h; exact .lst (.of h1) (pyWL_at hf ds _ qs e t1)
  | .scr ds, _, _, h, a => by
    cases a with
    | scr h1 t1 =>
      simp only [pyW] at h
      cases e : pyWL f ds with
      | none => rw [e] at h; cases h
      | some qs =>
        rw [e] at h; cases h
        refine .lst ?_ (pyWL_at hf ds _ qs e t1)
        rcases h1 with ⟨h1, _⟩ | h1
        · exact .inl h1
        · exact h1 _
  | .tup ds, _, _, h, a => by
    cases a with
    | tup h1 f1 t1 =>
      simp only [pyW] at h
      cases e : pyWL f ds with
      | none => rw [e] at h; cases h
      | some qs => rw [e] at h; cases h; exact .tup (.of h1) (pyWL_at hf ds _ qs e t1)
  | .root j, _, _, h, a => by
    cases a with
    | root h1 => simp only [pyW] at h; exact hf _ _ _ h h1
  | .ins _ _, _, _, h, _ => by simp only [pyW] at h; cases h
  | .exc _ _, _, _, h, _ => by simp only [pyW] at h; cases h
theorem pyWL_at {f : Nat → Option PyData} (hf : ∀ j l q, f j = some q → W.A[j]? = some l → Dp K H (.ref l) q) : ∀ (ds : List D) (vs : List V) (qs : List PyData), pyWL f ds = some qs → AtL K T W H ds vs → DpAll K H vs qs
  | [], _, _, h, a => by cases a; simp only [pyWL] at h; cases h; exact .nil
  | d :: ds, _, _, h, a => by
    cases a with
    | cons a1 a2 =>
      simp only [pyWL] at h
      split at h
      · rename_i q qs e1 e2
        cases h
        exact .cons (pyW_at hf d _ q e1 a1) (pyWL_at hf ds _ qs e2 a2)
      · cases h
end
theorem cellPy_at (r : Rep K T W H) {f : Nat → Option PyData} (hf : ∀ j l q, f j = some q → W.A[j]? = some l → Dp K H (.ref l) q) : ∀ j l q, cellPy W.cs f j = some q → W.A[j]? = some l → Dp K H (.ref l) q := by
  intro j l q h hl
  unfold cellPy at h
  split at h
  · rename_i ds e
    have a : At K T W H (.root j) (.ref l) := .root hl
    obtain ⟨l', vs, e1, h1, t1⟩ := derefL_at (d := .root j) r a e
    cases e1
    cases e2 : pyWL f ds with
    | none => rw [e2] at h; cases h
    | some qs => rw [e2] at h; cases h; exact .lst (.of h1) (pyWL_at hf ds _ qs e2 t1)
  · cases h
theorem py_at (r : Rep K T W H) {d : D} {v : V} {q : PyData} (h : py W.cs d = some q) (a : At K T W H d v) : Dp K H v q :=
  pyW_at (cellPy_at r (cellPy_at r (cellPy_at r fun _ _ _ z => by cases z))) d v q h a
end
theorem str_beq (i j : Str) : (i == j) = decide (i = j) := by rw [Bool.eq_iff_iff]; simp
/-! ### == and != of data -/
def gEqD (k : Bool → Bool) : G2 := fun d e cs Q => match d, e with
  | .int i, .int j => Q (.bl (k (decide (i = j)))) cs
  | .bl i, .bl j => Q (.bl (k (decide (i = j)))) cs
  | .str i, .str j => Q (.bl (k (decide (i = j)))) cs
  | _, _ => match py cs d, py cs e with
    | some p, some q => SeqAt.shaped p = true ∧ SeqAt.shaped q = true ∧ Q (.bl (k (PyData.eqv p q))) cs
    | _, _ => False
def rEqA (K : PySem.W.Frag) : R2 := fun x y H Q => rEq x y H Q ∨ rEqD K x y H Q
def rNeA (K : PySem.W.Frag) : R2 := fun x y H Q => rNe x y H Q ∨ rNeD K x y H Q
theorem op_eqA (hu : X.A.units + 64 < cLine) : OpR X (compareOp .Eq) (rEqA X.K) := OpR.or op_eq (op_eqD hu)
theorem op_neA (hu : X.A.units + 64 < cLine) : OpR X (compareOp .NotEq) (rNeA X.K) := OpR.or op_ne (op_neD hu)
theorem ok_eq {K : PySem.W.Frag} : OkR K T (rEqA K) (gEqD id) := by
  intro W H d e v u Q' Q r a b h p
  unfold gEqD at h
  split at h
  · cases a; cases b
    refine .inl ⟨rfl, ?_⟩
    rw [dec_int, Bool.beq_eq_decide_eq]
    exact p _ W _ H h .refl r (.bl _)
  · cases a; cases b
    refine .inl ⟨rfl, ?_⟩
    rw [dec_bl, Bool.beq_eq_decide_eq]
    exact p _ W _ H h .refl r (.bl _)
  · cases a; cases b
    refine .inl ⟨rfl, ?_⟩
    rw [dec_str, str_beq]
    exact p _ W _ H h .refl r (.bl _)
  · split at h
    · rename_i q1 q2 e1 e2
      exact .inr ⟨q1, q2, py_at r e1 a, py_at r e2 b, h.1, h.2.1, p _ W _ H h.2.2 .refl r (.bl _)⟩
    · exact h.elim
theorem ok_ne {K : PySem.W.Frag} : OkR K T (rNeA K) (gEqD not) := by
  intro W H d e v u Q' Q r a b h p
  unfold gEqD at h
  split at h
  · cases a; cases b
    refine .inl ⟨rfl, ?_⟩
    rw [dec_int, Bool.beq_eq_decide_eq]
    exact p _ W _ H h .refl r (.bl _)
  · cases a; cases b
    refine .inl ⟨rfl, ?_⟩
    rw [dec_bl, Bool.beq_eq_decide_eq]
    exact p _ W _ H h .refl r (.bl _)
  · cases a; cases b
    refine .inl ⟨rfl, ?_⟩
    rw [dec_str, str_beq]
    exact p _ W _ H h .refl r (.bl _)
  · split at h
    · rename_i q1 q2 e1 e2
      exact .inr ⟨q1, q2, py_at r e1 a, py_at r e2 b, h.1, h.2.1, p _ W _ H h.2.2 .refl r (.bl _)⟩
    · exact h.elim
end
end DL
namespace DL
open PySem PySem.Spec PyProof.Rows L2

/-! ### what a def does to data; calls -/
abbrev SD := List D → Cells → WQ → XQ → Prop
def spD (K : PySem.W.Frag) (T : Tb) (S : SD) : Sp := fun vs H Q E => ∃ ds W Q' X', AtL K T W H ds vs ∧ Rep K T W H ∧ S ds W.cs Q' X' ∧ PostE K T W H Q' Q ∧ PostX K T W H X' E
abbrev DFn (P : Program) (w : World) (K : PySem.W.Frag) (mg : Str → Option Value) (base : Heap) (T : Tb) (CX : CXT) (k : Nat) (f : Addr) (fd : FuncData) (ps : List Str) (S : SD) : Prop := FnG P w K mg base CX k f fd ps (spD K T S)
theorem SlAt.start {K : PySem.W.Frag} {T : Tb} {W : Wd} {H : Hp} {N : List Str} : ∀ {ds : List D} {vs : List V}, AtL K T W H ds vs → SlAt K T W H (ds.map some ++ List.replicate (N.length - ds.length) none) (start N vs) := by
  intro ds vs a
  have hl := a.length
  refine ⟨by unfold L2.start; simp [hl], fun i d e => ?_⟩
  by_cases hi : i < ds.length
  · rw [List.getElem?_append_left (by simpa using hi), List.getElem?_map, List.getElem?_eq_getElem hi] at e
    cases e
    obtain ⟨v, e1, e2⟩ := a.get' (List.getElem?_eq_getElem hi)
    refine ⟨v, ?_, e2⟩
    unfold L2.start
    rw [List.getElem?_append_left (by simp; omega), List.getElem?_map, e1]
    rfl
  · rw [List.getElem?_append_right (by simpa using hi), List.getElem?_replicate] at e
    split at e <;> cases e
def startD (n : Nat) (ds : List D) : Sl := ds.map some ++ List.replicate (n - ds.length) none
/-- what a body does, by its mirror m and its slots' number -/
def Body (S : SD) (m : WS) (n : Nat) : Prop := ∀ ds cs Q X', S ds cs Q X' → m { nx := fun _ cs' => Q .non cs', rt := Q, xq := fun _ _ _ => False } (startD n ds) cs
def BodyX (S : SD) (m : WS) (n : Nat) : Prop := ∀ ds cs Q X', S ds cs Q X' → m { nx := fun _ cs' => Q .non cs', rt := Q, xq := X' } (startD n ds) cs
structure FnB (K : PySem.W.Frag) (f : Addr) (fd : FuncData) (ps : List Str) : Prop where
  b : Binds K fd ps []
  kp : PySem.W.keepIn K (.ref f) = true
structure FnH (K : PySem.W.Frag) (mg : Str → Option Value) (x : Str) (f : Addr) (fd : FuncData) (ps : List Str) : Prop extends FnB K f fd ps where
  m : mg x = some (.ref f)
section
variable {P : Program} {w : World} {K : PySem.W.Frag} {mg : Str → Option Value} {base : Heap} {T : Tb} {k : Nat} {f : Addr} {fd : FuncData} {x qual : Str} {st : Stmt} {N ps : List Str} {S : SD}
/-- a def that raises nothing, by its body -/
theorem DFn.ok (F : Fun K x qual st f fd) (Sc : FnScope N ps (defScope st)) (len : ∀ ds cs Q X', S ds cs Q X' → ds.length = ps.length)
    (hb : ∀ (cdv : Value) (A : Around) (outer : List Env) (s : Shared) (H : Hp) (E : XK), A.guards = some [] → Room k (A.deeper (envOfC qual (defScope st) s.heap.objs.size f cdv)) →
      ∃ m, DSs (cxOf CX0 P w K mg base N qual (defScope st) f cdv A outer s H E).nox T E0 (defBody st) m ∧ ∀ ds cs Q X', S ds cs Q X' → m { nx := fun _ cs' => Q .non cs', rt := Q, xq := fun _ _ _ => False } (startD N.length ds) cs) :
    DFn P w K mg base T CX0 (k + 1) f fd ps S := by
  refine fnG_of F Sc (fun vs H Q E ⟨ds, W, Q', X', a, r, h, p, px⟩ => ?_) fun cdv A outer s H vs Q E hg hr ⟨ds, W, Q', X', a, r, h, p, px⟩ => ?_
  · rw [← a.length]; exact len _ _ _ _ h
  · obtain ⟨m, hm, hq⟩ := hb cdv A outer s H E hg hr
    obtain ⟨t, pt, st⟩ := hm.ex
    refine ⟨t, pt.nox, st (startD N.length ds) W (start N vs) H _ _ (SlAt.start a) r (hq ds W.cs Q' X' h) ⟨fun sl' W' σ' H' q x r' _ => p .non W' .non H' q x r' .non, p, fun _ _ _ _ z => z.elim, fun _ _ _ _ z => z.elim, fun _ _ _ _ _ _ z => z.elim⟩⟩
/-- a def that may raise -/
theorem DFn.okX (F : Fun K x qual st f fd) (Sc : FnScope N ps (defScope st)) (len : ∀ ds cs Q X', S ds cs Q X' → ds.length = ps.length)
    (hb : ∀ (cdv : Value) (A : Around) (outer : List Env) (s : Shared) (H : Hp) (E : XK), A.guards = some [] → Room k (A.deeper (envOfC qual (defScope st) s.heap.objs.size f cdv)) →
      ∃ m, DSs (cxOf (L2.CX P w) P w K mg base N qual (defScope st) f cdv A outer s H E) T E (defBody st) m ∧ ∀ ds cs Q X', S ds cs Q X' → m { nx := fun _ cs' => Q .non cs', rt := Q, xq := X' } (startD N.length ds) cs) :
    DFn P w K mg base T (L2.CX P w) (k + 1) f fd ps S := by
  refine fnG_of F Sc (fun vs H Q E ⟨ds, W, Q', X', a, r, h, p, px⟩ => ?_) fun cdv A outer s H vs Q E hg hr ⟨ds, W, Q', X', a, r, h, p, px⟩ => ?_
  · rw [← a.length]; exact len _ _ _ _ h
  · obtain ⟨m, hm, hq⟩ := hb cdv A outer s H E hg hr
    obtain ⟨t, pt, st⟩ := hm.ex
    refine ⟨t, pt, st (startD N.length ds) W (start N vs) H _ _ (SlAt.start a) r (hq ds W.cs Q' X' h) ⟨fun sl' W' σ' H' q x r' _ => p .non W' .non H' q x r' .non, p, fun _ _ _ _ z => z.elim, fun _ _ _ _ z => z.elim, px⟩⟩
end
section
variable {X : Cx} {T : Tb} {E : XK} {CX : CXT} {k : Nat} {f C : Addr} {fd : FuncData} {ps : List Str} {S : SD} {x m : Str} {p pos apos : Pos} {e o : Expr} {es : List Expr} {mr : WA} {mo : WE}
def wCall (S : SD) (mr : WA) : WE := fun sl cs Q X => mr sl cs (fun ds cs1 => S ds cs1 Q X) X
theorem de_call (F : DFn X.prog X.w X.K X.mg X.base T CX k f fd ps S) (hg : X.A.guards = some []) (hr : Room k X.A) (hm : X.mg x = some (.ref f)) (hk : PySem.W.keepIn X.K (.ref f) = true) (hb : Binds X.K fd ps []) (hx : Passes CX X E)
    (ha : DA X T E (e :: es) mr) (gl : Gl X x := by rfl) (hdb : (x == ("__debug__" : Str)) = false := by decide) (he : starEach (e :: es) X.env = (false, eval e X.env) :: starEach es X.env := by rfl) (hpl : (backTo pos (starEach es X.env)).any (·.1) = false := by rfl) :
    DE X T E (.Call (.Name x p) (e :: es) [] pos) (wCall S mr) := by
  obtain ⟨t, pa, sa⟩ := ha.ex
  refine ⟨fun σ H Q => t σ H fun vs H1 => spD X.K T S vs H1 Q E, ⟨fun pins s σ H Q I h => ?_⟩, fun sl W σ H Q' X' Q hs rp h po px => ?_⟩
  · refine wpAny_Call_Name_kw (ld_glob I gl hm (PySem.W.callWith_K (h₀ := X.base) I.ok.mod.kin hk (thn (pa.run pos pins s σ H _ I h) fun us s1 z => ?_) he hpl) hdb)
    obtain ⟨vs, H1, J, r, q⟩ := z
    exact ⟨J.kIn, run_g F hg hr hb hx J r q⟩
  · exact sa sl W σ H _ X' _ hs rp h (fun ds W1 vs H1 q1 x1 r1 a1 => ⟨ds, W1, Q', X', a1, r1, q1, po.st x1, px.st x1⟩) px
theorem de_call0 (F : DFn X.prog X.w X.K X.mg X.base T CX k f fd ps S) (hg : X.A.guards = some []) (hr : Room k X.A) (hm : X.mg x = some (.ref f)) (hk : PySem.W.keepIn X.K (.ref f) = true) (hb : Binds X.K fd ps []) (hx : Passes CX X E)
    (gl : Gl X x := by rfl) (hdb : (x == ("__debug__" : Str)) = false := by decide) : DE X T E (.Call (.Name x p) [] [] pos) (wCall S wNil) := by
  refine ⟨fun σ H Q => spD X.K T S [] H Q E, ⟨fun pins s σ H Q I h => ?_⟩, fun sl W σ H Q' X' Q hs rp h po px => ⟨[], W, Q', X', .nil, rp, h, po, px⟩⟩
  exact wpAny_Call_Name_kw (ld_glob I gl hm (PySem.W.callWith_K0 I.kIn hk (run_g (us := []) F hg hr hb hx I .nil h)) hdb)
/-- o.m(..), o frozen of the class n -/
def wMeth (n : Nat) (S : SD) (mo : WE) (mr : WA) : WE := fun sl cs Q X => mo sl cs (fun d cs1 => match d with
  | .ins n' _ => n' = n ∧ mr sl cs1 (fun ds cs2 => S (d :: ds) cs2 Q X) X
  | _ => False) X
theorem lookup_zip_none {m : Str} : ∀ {ns : List Str} {vs : List V}, m ∉ ns → (ns.zip vs).lookup m = none
  | [], vs, _ => by cases vs <;> rfl
  | n :: ns, [], _ => rfl
  | n :: ns, v :: vs, h => by
    rw [List.zip_cons_cons, List.lookup_cons]
    have h1 : (m == n) = false := by
      rw [beq_eq_false_iff_ne]; intro z; exact h (by rw [z]; exact List.mem_cons_self)
    rw [h1]
    exact lookup_zip_none fun z => h (List.mem_cons_of_mem _ z)
theorem de_meth {n : Nat} {pl : Sem Bool} (F : DFn X.prog X.w X.K X.mg X.base T CX k f fd ps S) (hg : X.A.guards = some []) (hr : Room k X.A) (c : Cls X.K (T.cl n)) (hm : Meth X.K (T.cl n) m f) (hnf : m ∉ T.fl n) (hb : Binds X.K fd ps []) (hx : Passes CX X E)
    (ho : DE X T E o mo) (ha : DA X T E (e :: es) mr) (he : starEach (e :: es) X.env = (false, eval e X.env) :: starEach es X.env := by rfl) (hpl : (backTo pos (starEach es X.env)).any (·.1) = false := by rfl)
    (ht : eval (.Call (.Attribute o m apos) (e :: es) [] pos) X.env = (do
      let ov ← eval o X.env
      standAt apos.atName
      let (f, first) ← holding [ov] (getMethod ov m pl)
      callWith pos f first (backTo pos (starEach (e :: es) X.env)) (backToKw pos (keywordEach [] X.env))) := by rfl) :
    DE X T E (.Call (.Attribute o m apos) (e :: es) [] pos) (wMeth n S mo mr) := by
  obtain ⟨to, po, so⟩ := ho.ex
  obtain ⟨t, pa, sa⟩ := ha.ex
  refine ⟨fun σ H Q => to σ H fun v H1 => ∃ a dx fs, v = .ref a ∧ H1 a = some (.ins (T.cl n) dx fs) ∧ fs.lookup m = none ∧ t σ H1 fun vs H2 => spD X.K T S (.ref a :: vs) H2 Q E, ⟨fun pins s σ H Q I h => ?_⟩, fun sl W σ H Q' X' Q hs rp h pe px => ?_⟩
  · refine PySem.W.methodCall_KW (pl := pl) (thn (po.run pins s σ H _ I h) fun u s1 z => ?_) ht
    obtain ⟨v, H1, J, rv, a, dx, fs, rfl, ea, l, q⟩ := z
    cases rv
    refine getmeth_ok J ea c hm l (PySem.W.callWith_K (first := [.ref a]) (h₀ := X.base) I.ok.mod.kin hm.kp (thn (pa.run pos pins s1 σ H1 _ J q) fun us s2 z => ?_) he hpl)
    obtain ⟨vs, H2, J2, r, q2⟩ := z
    exact ⟨J2.kIn, run_g (us := .ref a :: us) F hg hr hb hx J2 (.cons (show L2.RelV (.ref a) (.ref a) from rfl) r) q2⟩
  · refine so sl W σ H _ X' _ hs rp h (fun d W1 v H1 q1 x1 r1 a1 => ?_) px
    cases a1 with
    | @ins a dx n' vs ds h1 l1 f1 t1 =>
      obtain ⟨e1, q1⟩ := q1
      subst e1
      refine ⟨a, dx, _, rfl, h1, lookup_zip_none hnf, ?_⟩
      refine sa sl W1 σ H1 _ X' _ (hs.ext x1) r1 q1 (fun es W2 us H2 q2 x2 r2 a2 => ?_) (px.st x1)
      exact ⟨.ins n' ds :: es, W2, Q', X', .cons (At.ext x2 (.ins h1 l1 f1 t1)) a2, r2, q2, (pe.st x1).st x2, (px.st x1).st x2⟩
    | _ => exact q1.elim
end
end DL
namespace DL
open PySem PySem.Spec PyProof.Rows L2

section
variable {K : PySem.W.Frag} {T : Tb} {W : Wd} {H : Hp}
theorem lookup_zipD {f : Str} : ∀ {ns : List Str} {ds : List D} {vs : List V} {d : D}, AtL K T W H ds vs → (ns.zip ds).lookup f = some d → ∃ v, (ns.zip vs).lookup f = some v ∧ At K T W H d v
  | [], ds, vs, d, _, h => by cases ds <;> cases h
  | n :: ns, _, _, _, .nil, h => by cases h
  | n :: ns, _, _, d, .cons (d := e) (v := u) a t, h => by
    rw [List.zip_cons_cons, List.lookup_cons] at h ⊢
    cases q : (f == n) with
    | true => rw [q] at h; cases h; exact ⟨_, rfl, a⟩
    | false => rw [q] at h; exact lookup_zipD t h
def putFD (f : Str) (d : D) : List (Str × D) → List (Str × D)
  | [] => [(f, d)]
  | (g, e) :: r => if g = f then (g, d) :: r else (g, e) :: putFD f d r
theorem putF_zip {f : Str} {d : D} {v : V} (a : At K T W H d v) : ∀ (fs : List (Str × D)) (vs : List V), AtL K T W H (fs.map (·.2)) vs →
    ∃ us, putF f v ((fs.map (·.1)).zip vs) = ((putFD f d fs).map (·.1)).zip us ∧ AtL K T W H ((putFD f d fs).map (·.2)) us
  | [], _, .nil => ⟨[v], rfl, .cons a .nil⟩
  | (g, e) :: r, _, .cons (v := u) (vs := vs) b t => by
    by_cases q : g = f
    · refine ⟨v :: vs, ?_, ?_⟩
      · show (if g = f then (g, v) :: _ else _) = _
        unfold putFD
        rw [if_pos q, if_pos q]
        rfl
      · unfold putFD
        rw [if_pos q]
        exact .cons a t
    · obtain ⟨us, h1, h2⟩ := putF_zip a r vs t
      refine ⟨u :: us, ?_, ?_⟩
      · show (if g = f then _ else (g, u) :: putF f v ((r.map (·.1)).zip vs)) = _
        unfold putFD
        rw [if_neg q, if_neg q, h1]
        rfl
      · unfold putFD
        rw [if_neg q]
        exact .cons b h2
end
section
variable {X : Cx} {T : Tb} {E : XK} {CX : CXT} {k : Nat} {f C p : Addr} {fd : FuncData} {ps : List Str} {S : SD} {x m : Str} {pos ppos apos : Pos} {e o : Expr} {es : List Expr} {mr : WA} {mo me : WE}
/-! ### a new object, frozen behind its __init__ -/
def mkPost (fl : Nat → List Str) (n j : Nat) (Q : WQ) : WQ := fun d cs2 => d = .non ∧ ∃ fs, cs2[j]? = some (.ins n fs) ∧ fs.map (·.1) = fl n ∧ Q (.ins n (fs.map (·.2))) (cs2.set j (.fz (.ins n (fs.map (·.2)))))
def wMake (fl : Nat → List Str) (n : Nat) (S : SD) (mr : WA) : WE := fun sl cs Q X => mr sl cs (fun ds cs1 => S (.root cs1.length :: ds) (cs1 ++ [.ins n []]) (mkPost fl n cs1.length Q) X) X
theorem make_post {K : PySem.W.Frag} {W1 W : Wd} {H1 H : Hp} {n : Nat} {ds : List D} {vs : List V} {Q' : WQ} {X' : XQ} {Q : VK} (x1 : Ext W H W1 H1) (r1 : Rep K T W1 H1) (a1 : AtL K T W1 H1 ds vs) (po : PostE K T W H Q' Q) (px : PostX K T W H X' E)
    (q1 : S (.root W1.cs.length :: ds) (W1.cs ++ [.ins n []]) (mkPost T.fl n W1.cs.length Q') X')
    {y dx : Addr} (ny : H1 y = none) (nd : H1 dx = none) (ne : dx ≠ y) :
    spD K T S (.ref y :: vs) (upd (upd H1 dx (.own y)) y (.ins (T.cl n) dx [])) (fun v H2 => v = .non ∧ Q (.ref y) H2) E := by
  have r2 := r1.laid (o := .own y) nd
  have ny2 : upd H1 dx (.own y) y = none := by rw [upd_ne (Ne.symm ne)]; exact ny
  have x2 := (Ext.laid (W := W1) (o := .own y) nd).trans (Ext.pushed r2 (o := .ins (T.cl n) dx []) (c := .ins n []) ny2)
  have r3 : Rep K T (W1.push y (.ins n [])) (upd (upd H1 dx (.own y)) y (.ins (T.cl n) dx [])) := r2.pushed ny2 ⟨dx, [], upd_same, .nil⟩
  have hj : (W1.push y (.ins n [])).A[W1.cs.length]? = some y := by
    show (W1.A ++ [y])[W1.cs.length]? = some y
    rw [← r1.len, List.getElem?_append_right (Nat.le_refl _), Nat.sub_self]
    rfl
  refine ⟨_, W1.push y (.ins n []), _, X', .cons (.root hj) (a1.ext x2), r3, q1, fun d W4 v H4 q4 x4 r4 a4 => ?_, (px.st x1).st x2⟩
  obtain ⟨e, fs, h1, h2, h3⟩ := q4
  subst e
  cases a4
  refine ⟨rfl, ?_⟩
  have hj4 := x4.pre _ _ hj
  obtain ⟨dx', us, e1, e2⟩ := r4.cell _ _ _ hj4 h1
  have hlen : us.length = (T.fl n).length := by rw [← h2, List.length_map, ← e2.length, List.length_map]
  obtain ⟨r5, f5⟩ := r4.freeze hj4 h1 trivial (d := .ins n (fs.map (·.2))) fun fz => .ins (by rw [← h2]; exact e1) hlen fz (e2.ext (.freeze hj4 h1 trivial))
  have x5 : Ext W4 H4 (W4.put W1.cs.length (.fz (.ins n (fs.map (·.2))))) H4 := .freeze hj4 h1 trivial
  exact po _ (W4.put W1.cs.length (.fz (.ins n (fs.map (·.2))))) _ H4 h3 (x1.trans (x2.trans (x4.trans x5))) r5 (.ins (by rw [← h2]; exact e1) hlen f5 (e2.ext x5))
theorem de_make {n : Nat} (M : Mk X.K (T.cl n) f) (F : DFn X.prog X.w X.K X.mg X.base T CX k f fd ps S) (hg : X.A.guards = some []) (hr : Room (k + 1) X.A) (hm : X.mg x = some (.ref (T.cl n))) (hb : Binds X.K fd ps []) (hx : Passes CX X E)
    (ha : DA X T E (e :: es) mr) (gl : Gl X x := by rfl) (hdb : (x == ("__debug__" : Str)) = false := by decide) (he : starEach (e :: es) X.env = (false, eval e X.env) :: starEach es X.env := by rfl) (hpl : (backTo pos (starEach es X.env)).any (·.1) = false := by rfl) :
    DE X T E (.Call (.Name x ppos) (e :: es) [] pos) (wMake T.fl n S mr) := by
  obtain ⟨t, pa, sa⟩ := ha.ex
  refine ⟨fun σ H Q => t σ H fun vs H1 => ∀ y dx, H1 y = none → H1 dx = none → dx ≠ y → spD X.K T S (.ref y :: vs) (upd (upd H1 dx (.own y)) y (.ins (T.cl n) dx [])) (fun v H2 => v = .non ∧ Q (.ref y) H2) E,
    ⟨fun pins s σ H Q I h => ?_⟩, fun sl W σ H Q' X' Q hs rp h po px => ?_⟩
  · refine wpAny_Call_Name_kw (ld_glob I gl hm (PySem.W.callWith_K (h₀ := X.base) I.ok.mod.kin M.kp (thn (pa.run pos pins s σ H _ I h) fun us s1 z => ?_) he hpl) hdb)
    obtain ⟨vs, H1, J, r, q⟩ := z
    exact ⟨J.kIn, run_mk M F hg hr hb hx J r q⟩
  · exact sa sl W σ H _ X' _ hs rp h (fun ds W1 vs H1 q1 x1 r1 a1 y dx ny nd ne => make_post x1 r1 a1 po px q1 ny nd ne) px
/-- o.f = e, o a live object -/
def wFldS (n : Nat) (f : Str) (mo me : WE) : WS := fun D0 sl cs => me sl cs (fun d cs1 => mo sl cs1 (fun q cs2 => match q with
  | .root j => match cs2[j]? with
    | some (.ins n' fs) => n' = n ∧ fs.length < 1000 ∧ D0.nx sl (cs2.set j (.ins n (putFD f d fs)))
    | _ => False
  | _ => False) D0.xq) D0.xq
theorem ds_fld {n : Nat} {fn : Str} {apos' : Pos} (c : Cls X.K (T.cl n)) (nf : NoAttr X.K (T.cl n) fn) (ho : DE X T E o mo) (he : DE X T E e me) (hs : swapsWith e (some (.Attribute o fn apos')) pos.line X.env = pure false := by rfl) :
    DS X T E (.Assign [.Attribute o fn apos'] e pos) (wFldS n fn mo me) := by
  obtain ⟨to, po, so⟩ := ho.ex
  obtain ⟨te, pe, se⟩ := he.ex
  refine ⟨_, ps_fld po pe hs, fun sl W σ H D' Dn hs rp h p => ?_⟩
  refine se sl W σ H _ _ _ hs rp h (fun d W1 v H1 q1 x1 r1 a1 => ?_) p.xq
  refine so sl W1 σ H1 _ _ _ (hs.ext x1) r1 q1 (fun q W2 u H2 q2 x2 r2 a2 => ?_) (p.xq.st x1)
  cases a2 with
  | @root j a hj =>
    have q2 : (match W2.cs[j]? with
      | some (.ins n' fs) => n' = n ∧ fs.length < 1000 ∧ D'.nx sl (W2.cs.set j (.ins n (putFD fn d fs)))
      | _ => False) := q2
    split at q2
    · rename_i n' fs ec
      obtain ⟨e1, q2, q3⟩ := q2
      subst e1
      obtain ⟨dx, vs, h1, h2⟩ := r2.cell _ _ _ hj ec
      have hlen : ((fs.map (·.1)).zip vs).length < 1000 := by
        rw [List.length_zip, List.length_map]
        omega
      refine ⟨a, _, dx, _, rfl, h1, c, nf, hlen, ?_⟩
      have ex : Ext W2 H2 (W2.put j (.ins n' (putFD fn d fs))) (upd H2 a (.ins (T.cl n') dx (putF fn v ((fs.map (·.1)).zip vs)))) := .put hj ec trivial
      obtain ⟨us, e2, e3⟩ := putF_zip ((a1.ext x2).ext ex) fs vs (h2.ext ex)
      exact p.nx sl (W2.put j (.ins n' (putFD fn d fs))) σ _ q3 (x1.trans (x2.trans ex)) (r2.put hj ec trivial ⟨dx, us, by rw [upd_same, e2], e3⟩) ((hs.ext x1).ext (x2.trans ex))
    · exact q2.elim
  | _ => exact q2.elim
/-- o.f, a field -/
def fldD (fl : Nat → List Str) (n : Nat) (f : Str) (cs : Cells) : D → Option D
  | .ins n' ds => if n' = n then ((fl n).zip ds).lookup f else none
  | .root j => match cs[j]? with
    | some (.ins n' fs) => if n' = n then ((fs.map (·.1)).zip (fs.map (·.2))).lookup f else none
    | _ => none
  | _ => none
def wFld (fl : Nat → List Str) (n : Nat) (f : Str) (mo : WE) : WE := fun sl cs Q X => mo sl cs (fun d cs1 => match fldD fl n f cs1 d with
  | some e => Q e cs1
  | none => False) X
theorem de_fld {n : Nat} {fn : Str} (c : Cls X.K (T.cl n)) (nf : NoAttr X.K (T.cl n) fn) (ho : DE X T E o mo) (hb : attributeBase o fn X.env (eval o X.env) = eval o X.env := by rfl) : DE X T E (.Attribute o fn pos) (wFld T.fl n fn mo) := by
  obtain ⟨to, po, so⟩ := ho.ex
  refine ⟨_, pe_fld po hb, fun sl W σ H Q' X' Q hs rp h pe px => ?_⟩
  refine so sl W σ H _ X' _ hs rp h (fun d W1 v H1 q1 x1 r1 a1 => ?_) px
  split at q1
  · rename_i e' ef
    cases a1 with
    | @ins a dx n' vs ds h1 l1 f1 t1 =>
      have ef : (if n' = n then ((T.fl n).zip ds).lookup fn else none) = some e' := ef
      by_cases hn : n' = n
      · subst hn
        rw [if_pos rfl] at ef
        obtain ⟨v, e1, e2⟩ := lookup_zipD t1 ef
        exact ⟨a, _, dx, _, v, rfl, h1, c, nf, e1, pe _ W1 v H1 q1 x1 r1 e2⟩
      · rw [if_neg hn] at ef; cases ef
    | @root j a hj =>
      have ef : (match W1.cs[j]? with
        | some (.ins n' fs) => if n' = n then ((fs.map (·.1)).zip (fs.map (·.2))).lookup fn else none
        | _ => none) = some e' := ef
      split at ef
      · rename_i n' fs ec
        by_cases hn : n' = n
        · subst hn
          rw [if_pos rfl] at ef
          obtain ⟨dx, vs, h1, h2⟩ := r1.cell _ _ _ hj ec
          obtain ⟨v, e1, e2⟩ := lookup_zipD h2 ef
          exact ⟨a, _, dx, _, v, rfl, h1, c, nf, e1, pe _ W1 v H1 q1 x1 r1 e2⟩
        · rw [if_neg hn] at ef; cases ef
      · cases ef
    | _ => cases ef
  · exact q1.elim
/-- o.f, a property -/
def wProp (n : Nat) (S : SD) (mo : WE) : WE := fun sl cs Q X => mo sl cs (fun d cs1 => match d with
  | .ins n' ds => n' = n ∧ S [.ins n' ds] cs1 Q (fun _ _ _ => False)
  | .root j => (∃ fs, cs1[j]? = some (.ins n fs)) ∧ S [.root j] cs1 Q (fun _ _ _ => False)
  | _ => False) X
theorem getprop_g {g a dx : Addr} {fs : List (Str × V)} {fn : Str} {pins : List (Addr × Obj)} {σ : L2.St} {H : Hp} {s : Shared} {Q : VK} {b : Bool} {E' : Value → Shared → Prop} {sp : Sp} (I : Inv X pins σ H s) (ea : H a = some (.ins C dx fs)) (c : Cls X.K C) (hp : PropOf X.K C fn p g)
    (F : FnG X.prog X.w X.K X.mg X.base CX0 k g fd ps sp) (hg : X.A.guards = some []) (hr : Room (k + 1) X.A) (hb : Binds X.K fd ps []) (h : sp [.ref a] H Q E0) : wpAny (model X.prog X.w) X.A (getAttr (.ref a) fn b) (EP X pins σ Q) E' s := by
  obtain ⟨mA, O, _, _, _, _⟩ := ins_get I.hok ea
  obtain ⟨od, J, _⟩ := O.look
  obtain ⟨rest, hrec⟩ := hp.rec_
  have J1 := I.tok (s.toks + 1)
  have hl : ([Value.ref a] ++ []).length = ps.length := (F.len _ _ _ _ h : _)
  have bb := hb { s with toks := s.toks + 1 } [.ref a] J1.kIn hl
  have hc : (PySem.W.clsIn X.K C).isSome = true := by
    obtain ⟨cd, hc, _⟩ := PySem.W.any_some c.hd
    rw [hc]; rfl
  refine PySem.W.get_bind I.kIn J (PySem.W.plainGet_of (c.get fn)).1 (PySem.W.findObj_data hc hp.at_ hp.get hp.tak) (PySem.W.plainGet_of (c.get fn)).2 (wpAny_call (PySem.W.prop_get (s := { s with toks := s.toks + 1 }) I.kIn hrec ?_))
  refine codeAny_mono (F.run X.A.in1 X.stack { s with toks := s.toks + 1 } H ⟨[.ref a], []⟩ [.ref a] [.ref a] Q E0 hg hr.in1 J1.env0.in1 bb (.cons rfl .nil) h) fun q s' hq => ?_
  cases q with
  | error er => exact False.elim hq
  | ok fl =>
    cases fl with
    | ret u =>
      obtain ⟨v, H', J2, rv, q3⟩ := J1.after hq
      show wpAny _ _ (handedOut u) _ _ _
      rw [PySem.W.handedOut_of (handed_of rv)]
      exact wpAny_pure ⟨v, H', J2, rv, q3⟩
    | next => exact False.elim hq
    | brk => exact False.elim hq
    | cont => exact False.elim hq
theorem de_prop {n : Nat} {g : Addr} {fn : Str} (F : DFn X.prog X.w X.K X.mg X.base T CX0 k g fd ps S) (hg : X.A.guards = some []) (hr : Room (k + 1) X.A) (c : Cls X.K (T.cl n)) (hp : PropOf X.K (T.cl n) fn p g) (hb : Binds X.K fd ps [])
    (ho : DE X T E o mo) (hab : attributeBase o fn X.env (eval o X.env) = eval o X.env := by rfl) : DE X T E (.Attribute o fn pos) (wProp n S mo) := by
  obtain ⟨to, po, so⟩ := ho.ex
  refine ⟨fun σ H Q => to σ H fun v H1 => ∃ a dx fs, v = .ref a ∧ H1 a = some (.ins (T.cl n) dx fs) ∧ spD X.K T S [.ref a] H1 Q E0, ⟨fun pins s σ H Q I h => ?_⟩, fun sl W σ H Q' X' Q hs rp h pe px => ?_⟩
  · refine attr_of hab (thn (po.run pins s σ H _ I h) fun u s1 z => ?_)
    obtain ⟨v, H1, J, rv, a, dx, fs, rfl, ea, q⟩ := z
    cases rv
    exact getprop_g J ea c hp F hg hr hb q
  · refine so sl W σ H _ X' _ hs rp h (fun d W1 v H1 q1 x1 r1 a1 => ?_) px
    cases a1 with
    | @ins a dx n' vs ds h1 l1 f1 t1 =>
      obtain ⟨e1, q1⟩ := q1
      subst e1
      exact ⟨a, dx, _, rfl, h1, [.ins n' ds], W1, Q', _, .cons (.ins h1 l1 f1 t1) .nil, r1, q1, pe.st x1, fun _ _ _ _ _ _ z => z.elim⟩
    | @root j a hj =>
      obtain ⟨⟨fs, e1⟩, q1⟩ := q1
      obtain ⟨dx, vs, h1, h2⟩ := r1.cell _ _ _ hj e1
      exact ⟨a, dx, _, rfl, h1, [.root j], W1, Q', _, .cons (.root hj) .nil, r1, q1, pe.st x1, fun _ _ _ _ _ _ z => z.elim⟩
    | _ => exact q1.elim
end
end DL
namespace DL
open PySem PySem.Spec PyProof.Rows L2

section
variable {X : Cx} {T : Tb} {E : XK}
/-! ### reading a sequence -/
def seqD (cs : Cells) : D → Option (List D)
  | .lst ds => some ds
  | .scr ds => some ds
  | .tup ds => some ds
  | .root j => cellL cs[j]?
  | _ => none
section
variable {K : PySem.W.Frag} {W : Wd} {H : Hp} {d : D} {v : V} {ds : List D}
theorem seqD_at (r : Rep K T W H) (a : At K T W H d v) (h : seqD W.cs d = some ds) : ∃ l vs, v = .ref l ∧ (SqL K H l vs ∨ SqT K H l vs) ∧ AtL K T W H ds vs := by
  cases a with
  | lst h1 f1 t1 => cases h; exact ⟨_, _, rfl, .inl (.of h1), t1⟩
  | tup h1 f1 t1 => cases h; exact ⟨_, _, rfl, .inr (.of h1), t1⟩
  | scr h1 t1 =>
    cases h
    refine ⟨_, _, rfl, .inl ?_, t1⟩
    rcases h1 with ⟨h1, _⟩ | h1
    · exact .inl h1
    · exact h1 _
  | root h1 =>
    obtain ⟨l, vs, e, h2, t2⟩ := derefL_at r (d := .root _) (.root h1) h
    exact ⟨l, vs, e, .inl (.of h2), t2⟩
  | _ => cases h
/-- .. a list alone -/
def lisD (cs : Cells) : D → Option (List D)
  | .lst ds => some ds
  | .scr ds => some ds
  | .root j => cellL cs[j]?
  | _ => none
theorem lisD_at (r : Rep K T W H) (a : At K T W H d v) (h : lisD W.cs d = some ds) : ∃ l vs, v = .ref l ∧ SqL K H l vs ∧ AtL K T W H ds vs := by
  cases a with
  | lst h1 f1 t1 => cases h; exact ⟨_, _, rfl, .of h1, t1⟩
  | scr h1 t1 =>
    cases h
    refine ⟨_, _, rfl, ?_, t1⟩
    rcases h1 with ⟨h1, _⟩ | h1
    · exact .inl h1
    · exact h1 _
  | root h1 =>
    obtain ⟨l, vs, e, h2, t2⟩ := derefL_at r (d := .root _) (.root h1) h
    exact ⟨l, vs, e, .of h2, t2⟩
  | _ => cases h
theorem AtL.ints : ∀ {ns : List Int} {vs : List V}, AtL K T W H (ns.map D.int) vs → vs = ns.map V.int
  | [], _, .nil => rfl
  | n :: ns, _, .cons a t => by cases a; rw [AtL.ints t]; rfl
theorem AtL.bls : ∀ {ns : List Bool} {vs : List V}, AtL K T W H (ns.map D.bl) vs → vs = ns.map V.bl
  | [], _, .nil => rfl
  | n :: ns, _, .cons a t => by cases a; rw [AtL.bls t]; rfl
theorem atL_ints : ∀ (ns : List Int), AtL K T W H (ns.map D.int) (ns.map V.int)
  | [] => .nil
  | n :: ns => .cons (.int n) (atL_ints ns)
end
/-! ### built-ins of one argument -/
def g1 (g : D → Cells → WQ → Prop) : GL := fun ds cs Q => match ds with
  | [d] => g d cs Q
  | _ => False
theorem ok_1 {K : PySem.W.Frag} {r : List V → Hp → VK → Prop} {g : D → Cells → WQ → Prop} (h : ∀ W H d v Q' Q, Rep K T W H → At K T W H d v → g d W.cs Q' → PostE K T W H Q' Q → r [v] H Q) : OkL K T r (g1 g) := by
  intro W H ds vs Q' Q rp a q p
  cases a with
  | nil => exact q.elim
  | cons a1 a2 =>
    cases a2 with
    | nil => exact h W H _ _ Q' Q rp a1 q p
    | cons _ _ => exact q.elim
def g2L (g : D → D → Cells → WQ → Prop) : GL := fun ds cs Q => match ds with
  | [d, e] => g d e cs Q
  | _ => False
theorem ok_2L {K : PySem.W.Frag} {r : List V → Hp → VK → Prop} {g : D → D → Cells → WQ → Prop} (h : ∀ W H d e v u Q' Q, Rep K T W H → At K T W H d v → At K T W H e u → g d e W.cs Q' → PostE K T W H Q' Q → r [v, u] H Q) : OkL K T r (g2L g) := by
  intro W H ds vs Q' Q rp a q p
  cases a with
  | nil => exact q.elim
  | cons a1 a2 =>
    cases a2 with
    | nil => exact q.elim
    | cons a2 a3 =>
      cases a3 with
      | nil => exact h W H _ _ _ _ Q' Q rp a1 a2 q p
      | cons _ _ => exact q.elim
def gLen : GL := g1 fun d cs Q => match seqD cs d with
  | some ds => Q (.int ds.length) cs
  | none => False
def rLenS (K : PySem.W.Frag) : List V → Hp → VK → Prop := fun xs H Q => ∃ p ys, xs = [.ref p] ∧ (SqL K H p ys ∨ SqT K H p ys) ∧ Q (.int ys.length) H
theorem call_lenD : CallR X (.builtin "len") (rLenS X.K) := call_len_seq
theorem ok_len {K : PySem.W.Frag} : OkL K T (rLenS K) gLen := ok_1 fun W H d v Q' Q r a q p => by
  split at q
  · rename_i ds e
    obtain ⟨l, vs, rfl, h, t⟩ := seqD_at r a e
    exact ⟨l, vs, rfl, h, by rw [← t.length]; exact p _ W _ H q .refl r (.int _)⟩
  · exact q.elim
def gAbs : GL := g1 fun d cs Q => match d with
  | .int i => Q (.int (if i < 0 then -i else i)) cs
  | _ => False
def rAbs : List V → Hp → VK → Prop := fun xs H Q => ∃ i, xs = [.int i] ∧ Q (.int (if i < 0 then -i else i)) H
theorem call_absD : CallR X (.builtin "abs") rAbs := call_abs
theorem ok_abs {K : PySem.W.Frag} : OkL K T rAbs gAbs := ok_1 fun W H d v Q' Q r a q p => by
  cases a with
  | int i => exact ⟨i, rfl, p _ W _ H q .refl r (.int _)⟩
  | _ => exact q.elim
def gIntC : GL := g1 fun d cs Q => match d with
  | .int i => Q (.int i) cs
  | .bl k => Q (.int (if k then 1 else 0)) cs
  | _ => False
def rIntC : List V → Hp → VK → Prop := fun xs H Q => (∃ i, xs = [.int i] ∧ Q (.int i) H) ∨ ∃ k, xs = [.bl k] ∧ Q (.int (if k then 1 else 0)) H
theorem call_intD : CallR X (.type "int") rIntC := call_int1
theorem ok_intC {K : PySem.W.Frag} : OkL K T rIntC gIntC := ok_1 fun W H d v Q' Q r a q p => by
  cases a with
  | int i => exact .inl ⟨i, rfl, p _ W _ H q .refl r (.int _)⟩
  | bl k => exact .inr ⟨k, rfl, p _ W _ H q .refl r (.int _)⟩
  | _ => exact q.elim
def gStrI : GL := g1 fun d cs Q => match d with
  | .int i => i.natAbs.log2 < 1920 ∧ Q (.str (toString i)) cs
  | _ => False
def rStrI : List V → Hp → VK → Prop := fun xs H Q => ∃ i, xs = [.int i] ∧ i.natAbs.log2 < 1920 ∧ Q (.str (toString i)) H
theorem call_strD : CallR X (.type "str") rStrI := call_str_int
theorem ok_strI {K : PySem.W.Frag} : OkL K T rStrI gStrI := ok_1 fun W H d v Q' Q r a q p => by
  cases a with
  | int i => exact ⟨i, rfl, q.1, p _ W _ H q.2 .refl r (.str _)⟩
  | _ => exact q.elim
def gMax2 : GL := g2L fun d e cs Q => match d, e with
  | .int i, .int j => Q (.int (if j > i then j else i)) cs
  | _, _ => False
def rMax2 : List V → Hp → VK → Prop := fun xs H Q => ∃ i j, xs = [.int i, .int j] ∧ Q (.int (if j > i then j else i)) H
theorem call_maxD (hc : X.calm = true) : CallR X (.builtin "max") rMax2 := call_max2 hc
theorem ok_max2 {K : PySem.W.Frag} : OkL K T rMax2 gMax2 := ok_2L fun W H d e v u Q' Q r a b q p => by
  cases a with
  | int i =>
    cases b with
    | int j => exact ⟨i, j, rfl, p _ W _ H q .refl r (.int _)⟩
    | _ => exact q.elim
  | _ => exact q.elim
def gMin2 : GL := g2L fun d e cs Q => match d, e with
  | .int i, .int j => Q (.int (if j < i then j else i)) cs
  | _, _ => False
def rMin2 : List V → Hp → VK → Prop := fun xs H Q => ∃ i j, xs = [.int i, .int j] ∧ Q (.int (if j < i then j else i)) H
theorem call_minD (hc : X.calm = true) : CallR X (.builtin "min") rMin2 := call_min2 hc
theorem ok_min2 {K : PySem.W.Frag} : OkL K T rMin2 gMin2 := ok_2L fun W H d e v u Q' Q r a b q p => by
  cases a with
  | int i =>
    cases b with
    | int j => exact ⟨i, j, rfl, p _ W _ H q .refl r (.int _)⟩
    | _ => exact q.elim
  | _ => exact q.elim
/-- sum of a list of ints -/
def asInts : List D → Option (List Int)
  | [] => some []
  | .int i :: ds => (asInts ds).map (i :: ·)
  | _ :: _ => none
theorem asInts_map : ∀ (ns : List Int), asInts (ns.map D.int) = some ns
  | [] => rfl
  | n :: ns => by show (asInts (ns.map D.int)).map (n :: ·) = _; rw [asInts_map ns]; rfl
theorem asInts_some : ∀ {ds : List D} {ns : List Int}, asInts ds = some ns → ds = ns.map D.int
  | [], ns, h => by cases h; rfl
  | .int i :: ds, ns, h => by
    have h : (asInts ds).map (i :: ·) = some ns := h
    cases e : asInts ds with
    | none => rw [e] at h; cases h
    | some ms => rw [e] at h; cases h; rw [asInts_some e]; rfl
  | .non :: _, _, h => by cases h
  | .bl _ :: _, _, h => by cases h
  | .str _ :: _, _, h => by cases h
  | .lst _ :: _, _, h => by cases h
  | .tup _ :: _, _, h => by cases h
  | .ins _ _ :: _, _, h => by cases h
  | .root _ :: _, _, h => by cases h
  | .scr _ :: _, _, h => by cases h
def asBls : List D → Option (List Bool)
  | [] => some []
  | .bl i :: ds => (asBls ds).map (i :: ·)
  | _ :: _ => none
theorem asBls_map : ∀ (ns : List Bool), asBls (ns.map D.bl) = some ns
  | [] => rfl
  | n :: ns => by show (asBls (ns.map D.bl)).map (n :: ·) = _; rw [asBls_map ns]; rfl
theorem asBls_some : ∀ {ds : List D} {ns : List Bool}, asBls ds = some ns → ds = ns.map D.bl
  | [], ns, h => by cases h; rfl
  | .bl i :: ds, ns, h => by
    have h : (asBls ds).map (i :: ·) = some ns := h
    cases e : asBls ds with
    | none => rw [e] at h; cases h
    | some ms => rw [e] at h; cases h; rw [asBls_some e]; rfl
  | .non :: _, _, h => by cases h
  | .int _ :: _, _, h => by cases h
  | .str _ :: _, _, h => by cases h
  | .lst _ :: _, _, h => by cases h
  | .tup _ :: _, _, h => by cases h
  | .ins _ _ :: _, _, h => by cases h
  | .root _ :: _, _, h => by cases h
  | .scr _ :: _, _, h => by cases h
def gInts (g : List Int → Cells → WQ → Prop) : GL := g1 fun d cs Q => match lisD cs d with
  | some ds => match asInts ds with
    | some ns => g ns cs Q
    | none => False
  | none => False
def gSum : GL := gInts fun ns cs Q => Q (.int ns.sum) cs
theorem ok_sum {K : PySem.W.Frag} : OkL K T (rSum K) gSum := ok_1 fun W H d v Q' Q r a q p => by
  split at q
  · rename_i ds e
    split at q
    · rename_i ns e2
      obtain ⟨l, vs, rfl, h, t⟩ := lisD_at r a e
      rw [asInts_some e2] at t
      rw [t.ints] at h
      exact ⟨l, ns, rfl, h, p _ W _ H q .refl r (.int _)⟩
    · exact q.elim
  · exact q.elim
def gMaxL : GL := gInts fun ns cs Q => 0 < ns.length ∧ ∀ m, m ∈ ns → (∀ y, y ∈ ns → y ≤ m) → Q (.int m) cs
theorem ok_maxL {K : PySem.W.Frag} : OkL K T (rMax K) gMaxL := ok_1 fun W H d v Q' Q r a q p => by
  split at q
  · rename_i ds e
    split at q
    · rename_i ns e2
      obtain ⟨l, vs, rfl, h, t⟩ := lisD_at r a e
      rw [asInts_some e2] at t
      rw [t.ints] at h
      exact ⟨l, ns, rfl, h, q.1, fun m h1 h2 => p _ W _ H (q.2 m h1 h2) .refl r (.int _)⟩
    · exact q.elim
  · exact q.elim
def gMinL : GL := gInts fun ns cs Q => 0 < ns.length ∧ ∀ m, m ∈ ns → (∀ y, y ∈ ns → m ≤ y) → Q (.int m) cs
theorem ok_minL {K : PySem.W.Frag} : OkL K T (rMin K) gMinL := ok_1 fun W H d v Q' Q r a q p => by
  split at q
  · rename_i ds e
    split at q
    · rename_i ns e2
      obtain ⟨l, vs, rfl, h, t⟩ := lisD_at r a e
      rw [asInts_some e2] at t
      rw [t.ints] at h
      exact ⟨l, ns, rfl, h, q.1, fun m h1 h2 => p _ W _ H (q.2 m h1 h2) .refl r (.int _)⟩
    · exact q.elim
  · exact q.elim
def gBls (g : List Bool → Bool) : GL := g1 fun d cs Q => match lisD cs d with
  | some ds => match asBls ds with
    | some ns => Q (.bl (g ns)) cs
    | none => False
  | none => False
theorem ok_any {K : PySem.W.Frag} : OkL K T (rAny K) (gBls fun bs => bs.any id) := ok_1 fun W H d v Q' Q r a q p => by
  split at q
  · rename_i ds e
    split at q
    · rename_i ns e2
      obtain ⟨l, vs, rfl, h, t⟩ := lisD_at r a e
      rw [asBls_some e2] at t
      rw [t.bls] at h
      exact ⟨l, ns, rfl, h, p _ W _ H q .refl r (.bl _)⟩
    · exact q.elim
  · exact q.elim
theorem ok_all {K : PySem.W.Frag} : OkL K T (rAll K) (gBls fun bs => bs.all id) := ok_1 fun W H d v Q' Q r a q p => by
  split at q
  · rename_i ds e
    split at q
    · rename_i ns e2
      obtain ⟨l, vs, rfl, h, t⟩ := lisD_at r a e
      rw [asBls_some e2] at t
      rw [t.bls] at h
      exact ⟨l, ns, rfl, h, p _ W _ H q .refl r (.bl _)⟩
    · exact q.elim
  · exact q.elim
/-- list(x), frozen or live; tuple(x) -/
def rListOf (K : PySem.W.Frag) : List V → Hp → VK → Prop := fun xs H Q => ∃ p ys, xs = [.ref p] ∧ (SqL K H p ys ∨ SqT K H p ys) ∧ ∀ l, H l = none → Q (.ref l) (upd H l (.lst ys))
theorem call_listD : CallR X (.type "list") (rListOf X.K) := call_list_of
def gListOf : GL := g1 fun d cs Q => match seqD cs d with
  | some ds => Q (.lst ds) cs
  | none => False
def gListOfR : GL := g1 fun d cs Q => match seqD cs d with
  | some ds => Q (.root cs.length) (cs ++ [.lst ds])
  | none => False
theorem ok_listOf {K : PySem.W.Frag} : OkL K T (rListOf K) gListOf := ok_1 fun W H d v Q' Q r a q p => by
  split at q
  · rename_i ds e
    obtain ⟨l, vs, rfl, h, t⟩ := seqD_at r a e
    exact ⟨l, vs, rfl, h, fun m hm => p _ W _ _ q (.laid hm) (r.laid hm) (.lst upd_same (r.fresh hm) (t.ext (.laid hm)))⟩
  · exact q.elim
theorem ok_listOfR {K : PySem.W.Frag} : OkL K T (rListOf K) gListOfR := ok_1 fun W H d v Q' Q r a q p => by
  split at q
  · rename_i ds e
    obtain ⟨l, vs, rfl, h, t⟩ := seqD_at r a e
    refine ⟨l, vs, rfl, h, fun m hm => ?_⟩
    obtain ⟨z1, z2, z3⟩ := new_root r hm t
    exact p _ _ _ _ q z1 z2 z3
  · exact q.elim
def rTupOf (K : PySem.W.Frag) : List V → Hp → VK → Prop := fun xs H Q => ∃ p ys, xs = [.ref p] ∧ ((SqL K H p ys ∧ ∀ l, H l = none → Q (.ref l) (upd H l (.tup ys))) ∨ (SqT K H p ys ∧ Q (.ref p) H))
theorem call_tupleD : CallR X (.type "tuple") (rTupOf X.K) := call_tuple_of
def gTupOf : GL := g1 fun d cs Q => match lisD cs d with
  | some ds => Q (.tup ds) cs
  | none => match d with
    | .tup ds => Q (.tup ds) cs
    | _ => False
theorem ok_tupOf {K : PySem.W.Frag} : OkL K T (rTupOf K) gTupOf := ok_1 fun W H d v Q' Q r a q p => by
  split at q
  · rename_i ds e
    obtain ⟨l, vs, rfl, h, t⟩ := lisD_at r a e
    exact ⟨l, vs, rfl, .inl ⟨h, fun m hm => p _ W _ _ q (.laid hm) (r.laid hm) (.tup upd_same (r.fresh hm) (t.ext (.laid hm)))⟩⟩
  · cases a with
    | tup h1 f1 t1 => exact ⟨_, _, rfl, .inr ⟨.of h1, p _ W _ H q .refl r (.tup h1 f1 t1)⟩⟩
    | _ => exact q.elim
/-! ### places -/
def gIx : G2 := fun d e cs Q => match e with
  | .int i => match seqD cs d with
    | some ds => match atI ds i with
      | some x => Q x cs
      | none => False
    | none => False
  | _ => False
theorem atI_at {K : PySem.W.Frag} {W : Wd} {H : Hp} {ds : List D} {vs : List V} {i : Int} {x : D} (t : AtL K T W H ds vs) (h : atI ds i = some x) : ∃ v, atI vs i = some v ∧ At K T W H x v := by
  unfold atI at h ⊢
  rw [← t.length]
  cases e : ixN ds.length i with
  | none => rw [e] at h; cases h
  | some j =>
    rw [e] at h
    obtain ⟨v, h1, h2⟩ := t.get' (show ds[j]? = some x from h)
    exact ⟨v, h1, h2⟩
def rIxD (K : PySem.W.Frag) : R2 := fun x y H Q => rIxL K x y H Q ∨ rIxT K x y H Q
theorem ix_seqD : IxR X (rIxD X.K) := ix_list.or ix_tup
theorem ok_ix {K : PySem.W.Frag} : OkR K T (rIxD K) gIx := by
  intro W H d e v u Q' Q r a b h p
  unfold gIx at h
  split at h
  · split at h
    · rename_i ds e1
      split at h
      · rename_i x e2
        obtain ⟨l, vs, rfl, q, t⟩ := seqD_at r a e1
        obtain ⟨y, h1, h2⟩ := atI_at t e2
        cases b
        rcases q with q | q
        · exact .inl ⟨l, vs, _, y, rfl, rfl, q, h1, p _ W y H h .refl r h2⟩
        · exact .inr ⟨l, vs, _, y, rfl, rfl, q, h1, p _ W y H h .refl r h2⟩
      · exact h.elim
    · exact h.elim
  · exact h.elim
/-! ### slices of lists -/
def cutD (xs : List D) (lo hi : Option Int) : List D := (xs.drop (HT.sIx xs.length 0 lo)).take (HT.sIx xs.length xs.length hi - HT.sIx xs.length 0 lo)
theorem AtL.drop {K : PySem.W.Frag} {W : Wd} {H : Hp} : ∀ {ds : List D} {vs : List V} (n : Nat), AtL K T W H ds vs → AtL K T W H (ds.drop n) (vs.drop n)
  | _, _, 0, t => t
  | _, _, _ + 1, .nil => .nil
  | _, _, n + 1, .cons _ t => AtL.drop n t
theorem AtL.take {K : PySem.W.Frag} {W : Wd} {H : Hp} : ∀ {ds : List D} {vs : List V} (n : Nat), AtL K T W H ds vs → AtL K T W H (ds.take n) (vs.take n)
  | _, _, 0, _ => .nil
  | _, _, _ + 1, .nil => .nil
  | _, _, n + 1, .cons a t => .cons a (AtL.take n t)
theorem AtL.reverse {K : PySem.W.Frag} {W : Wd} {H : Hp} : ∀ {ds : List D} {vs : List V}, AtL K T W H ds vs → AtL K T W H ds.reverse vs.reverse
  | _, _, .nil => .nil
  | _, _, .cons a t => by rw [List.reverse_cons, List.reverse_cons]; exact (AtL.reverse t).append (.cons a .nil)
abbrev WO := Sl → Cells → (Option Int → Cells → Prop) → XQ → Prop
structure DO (X : Cx) (T : Tb) (E : XK) (e : Option Expr) (m : WO) : Prop where
  ex : ∃ t, PO X e t ∧ ∀ sl W σ H Q' X' Q, SlAt X.K T W H sl σ → Rep X.K T W H → m sl W.cs Q' X' → (∀ i W1 H1, Q' i W1.cs → Ext W H W1 H1 → Rep X.K T W1 H1 → Q i H1) → PostX X.K T W H X' E → t σ H Q
def woNo : WO := fun _ cs Q _ => Q none cs
def woSome (m : WE) : WO := fun sl cs Q X => m sl cs (fun d cs1 => match d with
  | .int i => Q (some i) cs1
  | _ => False) X
theorem do_none : DO X T E none woNo := ⟨_, po_none, fun sl W σ H Q' X' Q hs rp h k px => k _ W H h .refl rp⟩
theorem do_some {e : Expr} {m : WE} (h : DE X T E e m) : DO X T E (some e) (woSome m) := by
  obtain ⟨t, p, s⟩ := h.ex
  refine ⟨_, po_some p, fun sl W σ H Q' X' Q hs rp h k px => ?_⟩
  refine s sl W σ H _ X' _ hs rp h (fun d W1 v H1 q1 x1 r1 a1 => ?_) px
  cases a1 with
  | int i => exact ⟨i, rfl, k _ W1 H1 q1 x1 r1⟩
  | _ => exact q1.elim
def wSl (root : Bool) (me : WE) (ml mh : WO) : WE := fun sl cs Q X => me sl cs (fun d cs1 => ml sl cs1 (fun lo cs2 => mh sl cs2 (fun hi cs3 => match lisD cs3 d with
  | some ds => (match root with
    | true => Q (.root cs3.length) (cs3 ++ [.lst (cutD ds lo hi)])
    | false => Q (.lst (cutD ds lo hi)) cs3)
  | none => False) X) X) X
theorem de_slice (root : Bool) {e : Expr} {lo hi : Option Expr} {me : WE} {ml mh : WO} {p2 pos : Pos} (he : DE X T E e me) (hl : DO X T E lo ml) (hh : DO X T E hi mh) : DE X T E (.Subscript e (.Slice lo hi none p2) pos) (wSl root me ml mh) := by
  obtain ⟨t, p, s⟩ := he.ex
  obtain ⟨t1, p1, s1⟩ := hl.ex
  obtain ⟨t2, p2, s2⟩ := hh.ex
  refine ⟨_, pe_slice sl_list p p1 p2, fun sl W σ H Q' X' Q hs rp h po px => ?_⟩
  refine s sl W σ H _ X' _ hs rp h (fun d W1 v H1 q1 x1 r1 a1 => ?_) px
  refine s1 sl W1 σ H1 _ X' _ (hs.ext x1) r1 q1 (fun lo W2 H2 q2 x2 r2 => ?_) (px.st x1)
  refine s2 sl W2 σ H2 _ X' _ ((hs.ext x1).ext x2) r2 q2 (fun hi W3 H3 q3 x3 r3 => ?_) ((px.st x1).st x2)
  split at q3
  · rename_i ds e
    obtain ⟨l, vs, rfl, h1, t⟩ := lisD_at r3 ((a1.ext x2).ext x3) e
    have t' : AtL X.K T W3 H3 (cutD ds lo hi) (cutV vs lo hi) := by
      unfold cutD cutV
      rw [← t.length]
      exact (t.drop _).take _
    refine ⟨l, vs, rfl, h1, fun q hq => ?_⟩
    cases root with
    | true =>
      obtain ⟨z1, z2, z3⟩ := new_root r3 hq t'
      exact po _ _ _ _ q3 (x1.trans (x2.trans (x3.trans z1))) z2 z3
    | false => exact po _ W3 _ _ q3 (x1.trans (x2.trans (x3.trans (.laid hq)))) (r3.laid hq) (.lst upd_same (r3.fresh hq) (t'.ext (.laid hq)))
  · exact q3.elim
/-- xs[::-1] -/
def wRev (root : Bool) (me : WE) : WE := fun sl cs Q X => me sl cs (fun d cs1 => match lisD cs1 d with
  | some ds => (match root with
    | true => Q (.root cs1.length) (cs1 ++ [.lst ds.reverse])
    | false => Q (.lst ds.reverse) cs1)
  | none => False) X
theorem de_rev (root : Bool) {e : Expr} {me : WE} {k : Nat} {p1 p2 p3 pos : Pos} (he : DE X T E e me) : DE X T E (.Subscript e (.Slice none none (some (.UnaryOp .USub (.Constant (.int 1) k p1) p2)) p3) pos) (wRev root me) := by
  obtain ⟨t, p, s⟩ := he.ex
  refine ⟨_, pe_revL p, fun sl W σ H Q' X' Q hs rp h po px => ?_⟩
  refine s sl W σ H _ X' _ hs rp h (fun d W1 v H1 q1 x1 r1 a1 => ?_) px
  split at q1
  · rename_i ds e
    obtain ⟨l, vs, rfl, h1, t⟩ := lisD_at r1 a1 e
    refine ⟨l, vs, rfl, h1, fun q hq => ?_⟩
    cases root with
    | true =>
      obtain ⟨z1, z2, z3⟩ := new_root r1 hq t.reverse
      exact po _ _ _ _ q1 (x1.trans z1) z2 z3
    | false => exact po _ W1 _ _ q1 (x1.trans (.laid hq)) (r1.laid hq) (.lst upd_same (r1.fresh hq) (t.reverse.ext (.laid hq)))
  · exact q1.elim
end
end DL
namespace DL
open PySem PySem.Spec PyProof.Rows L2

section
variable {X : Cx} {T : Tb} {E : XK}
/-! ### methods of lists -/
abbrev GM := D → List D → Cells → WQ → Prop
def wBM (g : GM) (mo : WE) (mr : WA) : WE := fun sl cs Q X => mo sl cs (fun d cs1 => (derefL cs1 d).isSome = true ∧ mr sl cs1 (fun ds cs2 => g d ds cs2 Q) X) X
def wBM0 (g : GM) (mo : WE) : WE := fun sl cs Q X => mo sl cs (fun d cs1 => (derefL cs1 d).isSome = true ∧ g d [] cs1 Q) X
theorem ty_list {K : PySem.W.Frag} {W : Wd} {H : Hp} {d : D} {v : V} (r : Rep K T W H) (a : At K T W H d v) (h : (derefL W.cs d).isSome = true) : tyV K "list" v H := by
  obtain ⟨ds, e⟩ := Option.isSome_iff_exists.mp h
  obtain ⟨l, vs, rfl, h1, _⟩ := derefL_at r a e
  exact .inl ⟨rfl, vs, .of h1⟩
theorem de_bm {o e : Expr} {es : List Expr} {mo : WE} {mr : WA} {name : Str} {id : String} {apos cpos : Pos} {r : V → List V → Hp → VK → Prop} {g : GM} (slot : Slot "list" name id) (hty : typeOf (.builtin id) = pure (.type "method_descriptor")) (hm : MtR X id r) (hg : OkM X.K T r g)
    (ho : DE X T E o mo) (ha : DA X T E (e :: es) mr) (hbase : attributeBase o name X.env (eval o X.env) = eval o X.env := by rfl)
    (hfew : ((backTo cpos (starEach (e :: es) X.env)).all (fun x => !x.1) && (backToKw cpos (keywordEach [] X.env)).all (fun x => x.1.isSome)
      && decide ((e :: es).length + ([] : List Keyword).length + (if ([] : List Keyword).isEmpty then 0 else 1) < 30)) = true := by rfl)
    (hline : (apos.endLine == cpos.line) = true := by rfl) (hs : starEach (e :: es) X.env = (false, eval e X.env) :: starEach es X.env := by rfl) (hplain : (backTo cpos (starEach es X.env)).any (·.1) = false := by rfl) :
    DE X T E (.Call (.Attribute o name apos) (e :: es) [] cpos) (wBM g mo mr) := by
  obtain ⟨to, po, so⟩ := ho.ex
  obtain ⟨ta, pa, sa⟩ := ha.ex
  refine ⟨_, pe_bm PySem.F.plainAttrs_list slot hty hm po pa hbase hfew hline hs hplain, fun sl W σ H Q' X' Q hs rp h p px => ?_⟩
  refine so sl W σ H _ X' _ hs rp h (fun d W1 v H1 q1 x1 r1 a1 => ⟨ty_list r1 a1 q1.1, ?_⟩) px
  refine sa sl W1 σ H1 _ X' _ (hs.ext x1) r1 q1.2 (fun ds W2 vs H2 q2 x2 r2 a2 => ?_) (px.st x1)
  exact hg W2 H2 d v ds vs Q' Q r2 (a1.ext x2) a2 q2 ((p.st x1).st x2)
theorem de_bm0 {o : Expr} {mo : WE} {name : Str} {id : String} {apos cpos : Pos} {r : V → List V → Hp → VK → Prop} {g : GM} (slot : Slot "list" name id) (hty : typeOf (.builtin id) = pure (.type "method_descriptor")) (hm : MtR X id r) (hg : OkM X.K T r g)
    (ho : DE X T E o mo) (hbase : attributeBase o name X.env (eval o X.env) = eval o X.env := by rfl) (hline : (apos.endLine == cpos.line) = true := by rfl) : DE X T E (.Call (.Attribute o name apos) [] [] cpos) (wBM0 g mo) := by
  obtain ⟨to, po, so⟩ := ho.ex
  refine ⟨_, pe_bm0 PySem.F.plainAttrs_list slot hty hm po hbase hline, fun sl W σ H Q' X' Q hs rp h p px => ?_⟩
  exact so sl W σ H _ X' _ hs rp h (fun d W1 v H1 q1 x1 r1 a1 => ⟨ty_list r1 a1 q1.1, hg W1 H1 d v [] [] Q' Q r1 a1 .nil q1.2 (p.st x1)⟩) px
/-- the live list behind a datum -/
def liveL (cs : Cells) : D → Option (Nat × List D)
  | .root j => match cs[j]? with
    | some (.lst ds) => some (j, ds)
    | _ => none
  | _ => none
theorem liveL_at {K : PySem.W.Frag} {W : Wd} {H : Hp} {d : D} {v : V} {j : Nat} {ds : List D} (r : Rep K T W H) (a : At K T W H d v) (h : liveL W.cs d = some (j, ds)) :
    ∃ l vs, v = .ref l ∧ W.A[j]? = some l ∧ W.cs[j]? = some (.lst ds) ∧ H l = some (.lst vs) ∧ AtL K T W H ds vs := by
  cases a with
  | @root i l h1 =>
    have h : (match W.cs[i]? with
      | some (.lst ds) => some (i, ds)
      | _ => none) = some (j, ds) := h
    split at h
    · rename_i ec
      cases h
      obtain ⟨vs, e1, e2⟩ := r.cell _ _ _ h1 ec
      exact ⟨l, vs, rfl, h1, ec, e1, e2⟩
    · cases h
  | _ => cases h
/-- a live list gets other items -/
theorem put_list {K : PySem.W.Frag} {W : Wd} {H : Hp} {j : Nat} {l : Addr} {ds es : List D} {us : List V} (r : Rep K T W H) (h1 : W.A[j]? = some l) (h2 : W.cs[j]? = some (.lst ds)) (t : AtL K T W H es us) :
    Ext W H (W.put j (.lst es)) (upd H l (.lst us)) ∧ Rep K T (W.put j (.lst es)) (upd H l (.lst us)) := by
  have ex : Ext W H (W.put j (.lst es)) (upd H l (.lst us)) := .put h1 h2 trivial
  exact ⟨ex, r.put h1 h2 trivial ⟨us, upd_same, t.ext ex⟩⟩
def gAppend : GM := fun d ds cs Q => match ds, liveL cs d with
  | [x], some (j, xs) => xs.length < sizeLine ∧ Q .non (cs.set j (.lst (xs ++ [x])))
  | _, _ => False
theorem ok_append {K : PySem.W.Frag} : OkM K T rAppend gAppend := by
  intro W H d v ds vs Q' Q r a b h p
  unfold gAppend at h
  split at h
  · rename_i x j xs e
    obtain ⟨l, us, rfl, h1, h2, h3, t⟩ := liveL_at r a e
    cases b with
    | cons b1 b2 =>
      cases b2
      obtain ⟨z1, z2⟩ := put_list r h1 h2 (t.append (.cons b1 .nil))
      exact ⟨l, us, _, rfl, rfl, h3, by rw [← t.length]; exact h.1, p _ (W.put j (.lst (xs ++ [x]))) _ _ h.2 z1 z2 .non⟩
  · exact h.elim
def rInsert : V → List V → Hp → VK → Prop := fun x vs H Q => ∃ (l : Addr) (xs : List V) (i : Int) (y : V), x = .ref l ∧ vs = [.int i, y] ∧ H l = some (.lst xs) ∧ xs.length < sizeLine ∧ 0 ≤ i ∧ i < 2 ^ 63 ∧ Q .non (upd H l (.lst (xs.take i.toNat ++ [y] ++ xs.drop i.toNat)))
theorem mt_insertD : MtR X "list.insert" rInsert := mt_insert
def gInsert : GM := fun d ds cs Q => match ds, liveL cs d with
  | [.int i, x], some (j, xs) => xs.length < sizeLine ∧ 0 ≤ i ∧ i < 2 ^ 63 ∧ Q .non (cs.set j (.lst (xs.take i.toNat ++ [x] ++ xs.drop i.toNat)))
  | _, _ => False
theorem ok_insert {K : PySem.W.Frag} : OkM K T rInsert gInsert := by
  intro W H d v ds vs Q' Q r a b h p
  unfold gInsert at h
  split at h
  · rename_i i x j xs e
    obtain ⟨l, us, rfl, h1, h2, h3, t⟩ := liveL_at r a e
    cases b with
    | cons b1 b2 =>
      cases b1
      cases b2 with
      | cons b2 b3 =>
        cases b3
        obtain ⟨z1, z2⟩ := put_list r h1 h2 (((t.take i.toNat).append (.cons b2 .nil)).append (t.drop i.toNat))
        exact ⟨l, us, _, _, rfl, rfl, h3, by rw [← t.length]; exact h.1, h.2.1, h.2.2.1, p _ (W.put j (.lst (xs.take i.toNat ++ [x] ++ xs.drop i.toNat))) _ _ h.2.2.2 z1 z2 .non⟩
  · exact h.elim
def gReverse : GM := fun d ds cs Q => match ds, liveL cs d with
  | [], some (j, xs) => Q .non (cs.set j (.lst xs.reverse))
  | _, _ => False
theorem ok_reverse {K : PySem.W.Frag} : OkM K T rReverse gReverse := by
  intro W H d v ds vs Q' Q r a b h p
  unfold gReverse at h
  split at h
  · rename_i j xs e
    obtain ⟨l, us, rfl, h1, h2, h3, t⟩ := liveL_at r a e
    cases b
    obtain ⟨z1, z2⟩ := put_list r h1 h2 t.reverse
    exact ⟨l, us, rfl, rfl, h3, p _ (W.put j (.lst xs.reverse)) _ _ h z1 z2 .non⟩
  · exact h.elim
def gExtend : GM := fun d ds cs Q => match ds, liveL cs d with
  | [e], some (j, xs) => match derefL cs e with
    | some es => xs.length + es.length ≤ sizeLine ∧ Q .non (cs.set j (.lst (xs ++ es)))
    | none => False
  | _, _ => False
theorem ok_extend {K : PySem.W.Frag} : OkM K T rExtend gExtend := by
  intro W H d v ds vs Q' Q r a b h p
  unfold gExtend at h
  split at h
  · rename_i e j xs el
    split at h
    · rename_i es e2
      obtain ⟨l, us, rfl, h1, h2, h3, t⟩ := liveL_at r a el
      cases b with
      | cons b1 b2 =>
        cases b2
        obtain ⟨m, ws, rfl, h4, t4⟩ := derefL_at r b1 e2
        obtain ⟨z1, z2⟩ := put_list r h1 h2 (t.append t4)
        exact ⟨l, m, us, ws, rfl, rfl, h3, h4, by rw [← t.length, ← t4.length]; exact h.1, p _ (W.put j (.lst (xs ++ es))) _ _ h.2 z1 z2 .non⟩
    · exact h.elim
  · exact h.elim
theorem AtL.erase {K : PySem.W.Frag} {W : Wd} {H : Hp} : ∀ {ds : List D} {vs : List V} (i : Nat), AtL K T W H ds vs → AtL K T W H (ds.eraseIdx i) (vs.eraseIdx i)
  | _, _, _, .nil => .nil
  | _, _, 0, .cons _ t => t
  | _, _, i + 1, .cons a t => .cons a (AtL.erase i t)
def gPopAt : GM := fun d ds cs Q => match ds, liveL cs d with
  | [.int i], some (j, xs) => (-(2 ^ 63) ≤ i ∧ i < 2 ^ 63) ∧ match seqIndex? i xs.length with
    | some k => match xs[k]? with
      | some y => Q y (cs.set j (.lst (xs.eraseIdx k)))
      | none => False
    | none => False
  | _, _ => False
theorem ok_popAt {K : PySem.W.Frag} : OkM K T rPopAt gPopAt := by
  intro W H d v ds vs Q' Q r a b h p
  unfold gPopAt at h
  split at h
  · rename_i i j xs e
    obtain ⟨hb, h⟩ := h
    split at h
    · rename_i k ek
      split at h
      · rename_i y ey
        obtain ⟨l, us, rfl, h1, h2, h3, t⟩ := liveL_at r a e
        cases b with
        | cons b1 b2 =>
          cases b1; cases b2
          obtain ⟨u, e1, e2⟩ := t.get' ey
          obtain ⟨z1, z2⟩ := put_list r h1 h2 (t.erase k)
          exact ⟨l, us, i, k, u, rfl, rfl, h3, hb.1, hb.2, by rw [← t.length]; exact ek, e1, p _ (W.put j (.lst (xs.eraseIdx k))) _ _ h z1 z2 (e2.ext z1)⟩
      · exact h.elim
    · exact h.elim
  · exact h.elim
def gPop : GM := fun d ds cs Q => match ds, liveL cs d with
  | [], some (j, xs) => match xs[xs.length - 1]? with
    | some y => Q y (cs.set j (.lst xs.dropLast))
    | none => False
  | _, _ => False
theorem AtL.dropLast {K : PySem.W.Frag} {W : Wd} {H : Hp} : ∀ {ds : List D} {vs : List V}, AtL K T W H ds vs → AtL K T W H ds.dropLast vs.dropLast
  | _, _, .nil => .nil
  | _, _, .cons _ .nil => .nil
  | _, _, .cons a (.cons b t) => .cons a (AtL.dropLast (.cons b t))
theorem ok_pop {K : PySem.W.Frag} : OkM K T rPop gPop := by
  intro W H d v ds vs Q' Q r a b h p
  unfold gPop at h
  split at h
  · rename_i j xs e
    split at h
    · rename_i y ey
      obtain ⟨l, us, rfl, h1, h2, h3, t⟩ := liveL_at r a e
      cases b
      obtain ⟨u, e1, e2⟩ := t.get' ey
      obtain ⟨z1, z2⟩ := put_list r h1 h2 t.dropLast
      exact ⟨l, us, u, rfl, rfl, h3, by rw [← t.length]; exact e1, p _ (W.put j (.lst xs.dropLast)) _ _ h z1 z2 (e2.ext z1)⟩
    · exact h.elim
  · exact h.elim
/-! ### o[i] = e -/
abbrev GS := D → D → D → Cells → (Cells → Prop) → Prop
def OkS (K : PySem.W.Frag) (T : Tb) (r : TSet) (g : GS) : Prop := ∀ W H o i d ov iv v (Q' : Cells → Prop) (Q : Hp → Prop), Rep K T W H → At K T W H o ov → At K T W H i iv → At K T W H d v → g o i d W.cs Q' →
  (∀ W1 H1, Q' W1.cs → Ext W H W1 H1 → Rep K T W1 H1 → Q H1) → r ov iv v H Q
def gSetL : GS := fun o i d cs Q => match i, liveL cs o with
  | .int k, some (j, xs) => match ixN xs.length k with
    | some n => Q (cs.set j (.lst (xs.set n d)))
    | none => False
  | _, _ => False
theorem AtL.set {K : PySem.W.Frag} {W : Wd} {H : Hp} {d : D} {v : V} (a : At K T W H d v) : ∀ {ds : List D} {vs : List V} (i : Nat), AtL K T W H ds vs → AtL K T W H (ds.set i d) (vs.set i v)
  | _, _, _, .nil => .nil
  | _, _, 0, .cons _ t => .cons a t
  | _, _, i + 1, .cons b t => .cons b (AtL.set a i t)
theorem ok_setL {K : PySem.W.Frag} : OkS K T rSetL gSetL := by
  intro W H o i d ov iv v Q' Q r a b c h p
  unfold gSetL at h
  split at h
  · rename_i k j xs e
    split at h
    · rename_i n en
      obtain ⟨l, us, rfl, h1, h2, h3, t⟩ := liveL_at r a e
      cases b
      obtain ⟨z1, z2⟩ := put_list r h1 h2 (t.set c n)
      exact ⟨l, us, k, n, rfl, rfl, h3, by rw [← t.length]; exact en, p (W.put j (.lst (xs.set n d))) _ h z1 z2⟩
    · exact h.elim
  · exact h.elim
def wSub (g : GS) (mo mi me : WE) : WS := fun D0 sl cs => me sl cs (fun d cs1 => mo sl cs1 (fun o cs2 => mi sl cs2 (fun i cs3 => g o i d cs3 (fun cs4 => D0.nx sl cs4)) D0.xq) D0.xq) D0.xq
theorem ds_sub {o i e : Expr} {mo mi me : WE} {r : TSet} {g : GS} {tpos pos : Pos} (hr : PSet X r) (hg : OkS X.K T r g) (ho : DE X T E o mo) (hi : DE X T E i mi) (he : DE X T E e me)
    (ha : ∀ v, assign (.Subscript o i tpos) X.env v = (do
      let ov ← holding [v] (eval o X.env)
      let iv ← holding [v, ov] (eval i X.env)
      standAt tpos
      holding [v, ov, iv] (setItem ov iv v)
      release [v, ov, iv] []) := by intro _; rfl)
    (hs : swapsWithSole [.Subscript o i tpos] e pos.line X.env = pure false := by rfl) (hw : swappedStores [.Subscript o i tpos] e X.env = pure none := by rfl)
    (h1 : (assignEach [.Subscript o i tpos] X.env).map (·.2) = [assign (.Subscript o i tpos) X.env] := by rfl) : DS X T E (.Assign [.Subscript o i tpos] e pos) (wSub g mo mi me) := by
  obtain ⟨to, po, so⟩ := ho.ex
  obtain ⟨ti, pi, si⟩ := hi.ex
  obtain ⟨te, pe, se⟩ := he.ex
  refine ⟨_, ps_asg pe (pg_sub po pi hr ha) hs hw h1, fun sl W σ H D' Dn hs rp h p => ?_⟩
  refine se sl W σ H _ _ _ hs rp h (fun d W1 v H1 q1 x1 r1 a1 => ?_) p.xq
  refine so sl W1 σ H1 _ _ _ (hs.ext x1) r1 q1 (fun o W2 ov H2 q2 x2 r2 a2 => ?_) (p.xq.st x1)
  refine si sl W2 σ H2 _ _ _ ((hs.ext x1).ext x2) r2 q2 (fun i W3 iv H3 q3 x3 r3 a3 => ?_) ((p.xq.st x1).st x2)
  refine hg W3 H3 o i d ov iv v _ _ r3 (a2.ext x3) a3 ((a1.ext x2).ext x3) q3 fun W4 H4 q4 x4 r4 => ?_
  have x := x1.trans (x2.trans (x3.trans x4))
  exact p.nx sl W4 σ H4 q4 x r4 (hs.ext x)
/-! ### name op= e; o[i] op= e -/
abbrev TIpD := D → D → Cells → WQ → Prop
theorem ipR {op : Operator} {r : R2} (ho : OpR X (inplaceOp op) r) : PIp X op r := fun pins s σ H x y v u Q I rx ry h => ho pins s σ H x y v u Q I rx ry h
def wAug (i : Nat) (g : G2) (me : WE) : WS := fun D0 sl cs => match sl[i]? with
  | some (some d) => me sl cs (fun e cs1 => g d e cs1 (fun z cs2 => D0.nx (sl.set i (some z)) cs2)) D0.xq
  | _ => False
theorem ds_aug {i : Nat} {x : Str} {e : Expr} {me : WE} {op : Operator} {r : R2} {g : G2} {pos' pos : Pos} (hN : X.N.Nodup) (ho : OpR X (inplaceOp op) r) (hg : OkR X.K T r g) (he : DE X T E e me) (hi : X.N[i]? = some x := by rfl) (hx : Loc X.env.scope x := by first | exact Or.inl rfl | exact Or.inr rfl)
    (hf : X.fn x = true ∨ X.env.scope.names.lookup x = some .local := by first | exact .inl rfl | exact .inr rfl | assumption) : DS X T E (.AugAssign (.Name x pos') op e pos) (wAug i g me) := by
  obtain ⟨te, pe, se⟩ := he.ex
  refine ⟨_, ps_aug (i := i) hN hi hx pe (ipR ho) hf, fun sl W σ H D' Dn hs rp h p => ?_⟩
  unfold wAug at h
  split at h
  · rename_i d e0
    obtain ⟨v, e1, a⟩ := hs.2 i d e0
    refine ⟨v, e1, se sl W σ H _ _ _ hs rp h (fun d2 W1 u H1 q1 x1 r1 a1 => ?_) p.xq⟩
    exact hg W1 H1 d d2 v u _ _ r1 (a.ext x1) a1 q1 fun z W2 zv H2 q2 x2 r2 a2 => p.nx _ W2 _ H2 q2 (x1.trans x2) r2 ((hs.ext (x1.trans x2)).set i a2)
  · exact h.elim
end
end DL
namespace DL
open PySem PySem.Spec PyProof.Rows L2

section
variable {X : Cx} {T : Tb} {E : XK}
/-! ### xs[i] op= e -/
theorem get_list : PGet X (rIxL X.K) := by
  intro pins s σ H o i ov iv Q I ro ri h
  obtain ⟨p, xs, k, z, rfl, rfl, hq, he, q⟩ := h
  cases ro
  obtain ⟨t, rfl⟩ := ri
  obtain ⟨its, r, pl, hz⟩ := I.list hq
  obtain ⟨j, h1, h2, h3, h4, h5⟩ := atI_get he
  obtain ⟨u, eu, ru⟩ := r.get h2
  have hl := r.length
  have hn := line63
  have fin : EP X pins σ Q u s := ⟨z, H, I, ru, q⟩
  by_cases h0 : 0 ≤ k
  · have hj : k.toNat = j := by
      rw [seqIndex_of h0 h5] at h1
      exact Option.some.inj h1
    exact wpAny_getItem_list pl.isList h0 (by omega) (by rw [hj]; simpa using eu) fin
  · have hj : (k + (its.toArray.size : Int)).toNat = j := by
      rw [seqIndex_neg (by omega) h4] at h1
      rw [List.size_toArray, ← hl]
      exact Option.some.inj h1
    exact wpAny_getItem_list_neg pl.isList (by omega) (by rw [List.size_toArray]; omega) (by omega) (by rw [hj]; simpa using eu) fin
def gIxL : G2 := fun d e cs Q => match e with
  | .int i => match derefL cs d with
    | some ds => match atI ds i with
      | some x => Q x cs
      | none => False
    | none => False
  | _ => False
def wAugS (gg : G2) (gs : GS) (mo mi me : WE) : WS := fun D0 sl cs => mo sl cs (fun o cs1 => mi sl cs1 (fun i cs2 => gIxL o i cs2 (fun x cs3 => me sl cs3 (fun e cs4 => gg x e cs4 (fun z cs5 => gs o i z cs5 (fun cs6 => D0.nx sl cs6))) D0.xq)) D0.xq) D0.xq
theorem ds_augS {o i e : Expr} {mo mi me : WE} {op : Operator} {r : R2} {g : G2} {tpos pos : Pos} (hr : OpR X (inplaceOp op) r) (hg : OkR X.K T r g) (ho : DE X T E o mo) (hi : DE X T E i mi) (he : DE X T E e me)
    (ha : ∀ ov iv new, augStore i ov iv new = (do holding [new, ov, iv] (setItem ov iv new); release [new, ov, iv] []; pure .next) := by intros; rfl) : DS X T E (.AugAssign (.Subscript o i tpos) op e pos) (wAugS g gSetL mo mi me) := by
  obtain ⟨to, po, so⟩ := ho.ex
  obtain ⟨ti, pi, si⟩ := hi.ex
  obtain ⟨te, pe, se⟩ := he.ex
  refine ⟨_, ps_augS po pi get_list pe (ipR hr) set_list ha, fun sl W σ H D' Dn hs rp h p => ?_⟩
  refine so sl W σ H _ _ _ hs rp h (fun o W1 ov H1 q1 x1 r1 a1 => ?_) p.xq
  refine si sl W1 σ H1 _ _ _ (hs.ext x1) r1 q1 (fun i W2 iv H2 q2 x2 r2 a2 => ?_) (p.xq.st x1)
  have a12 := a1.ext x2
  unfold gIxL at q2
  split at q2
  · rename_i k
    split at q2
    · rename_i ds e1
      split at q2
      · rename_i x e2
        obtain ⟨l, vs, rfl, h1, t⟩ := derefL_at r2 a12 e1
        obtain ⟨y, h2, h3⟩ := atI_at t e2
        cases a2
        refine ⟨l, vs, k, y, rfl, rfl, .of h1, h2, ?_⟩
        have x12 := x1.trans x2
        refine se sl W2 σ H2 _ _ _ (hs.ext x12) r2 q2 (fun e W3 u H3 q3 x3 r3 a3 => ?_) (p.xq.st x12)
        refine hg W3 H3 x e y u _ _ r3 (h3.ext x3) a3 q3 fun z W4 zv H4 q4 x4 r4 a4 => ?_
        refine ok_setL W4 H4 o (.int k) z _ _ zv _ _ r4 (a12.ext (x3.trans x4)) (.int k) a4 q4 fun W5 H5 q5 x5 r5 => ?_
        have x := x12.trans (x3.trans (x4.trans x5))
        exact p.nx sl W5 σ H5 q5 x r5 (hs.ext x)
      · exact q2.elim
    · exact q2.elim
  · exact q2.elim
/-! ### the in-place operators by values -/
theorem iop_addD : OpR X (inplaceOp .Add) rAddI := iop_add
theorem iop_subD : OpR X (inplaceOp .Sub) rSubI := iop_sub
theorem iop_mulD : OpR X (inplaceOp .Mult) rMulI := opI fun _ _ _ _ _ _ _ hc q => imul_int q hc
/-! ### repr of data -/
mutual
theorem dp_nodict {K : PySem.W.Frag} {H : Hp} : ∀ {v : V} {d : PyData}, Dp K H v d → d.hasDict = false
  | _, _, .non => by simp only [PyData.hasDict]
  | _, _, .bl _ => by simp only [PyData.hasDict]
  | _, _, .int _ => by simp only [PyData.hasDict]
  | _, _, .str _ => by simp only [PyData.hasDict]
  | _, _, .lst _ t => by simp only [PyData.hasDict]; exact dp_nodictL t
  | _, _, .tup _ t => by simp only [PyData.hasDict]; exact dp_nodictL t
theorem dp_nodictL {K : PySem.W.Frag} {H : Hp} : ∀ {vs : List V} {ds : List PyData}, DpAll K H vs ds → PyData.hasDictAll ds = false
  | _, _, .nil => by simp only [PyData.hasDictAll]
  | _, _, .cons a t => by simp only [PyData.hasDictAll, dp_nodict a, dp_nodictL t, Bool.or_false]
end
def rReprD (K : PySem.W.Frag) : List V → Hp → VK → Prop := fun xs H Q => ∃ x d, xs = [x] ∧ Dp K H x d ∧ d.showable = true ∧ d.depth ≤ 60 ∧ d.shown.length ≤ sizeLine ∧ Q (.str d.shown) H
theorem call_reprD (hg : X.A.guards = some []) (hu : X.A.units + 64 < cLine) : CallR X (.builtin "repr") (rReprD X.K) := by
  intro pins s σ H xs us Q I r h
  obtain ⟨x, d, rfl, hd, h1, h2, h3, q⟩ := h
  obtain ⟨u, rfl, ru⟩ := vals1 r
  have nd := dp_nodict hd
  cases hd with
  | non =>
    cases ru
    refine PySem.P.repr_of_none ⟨.str "None", H, I.tok _, ⟨_, rfl⟩, ?_⟩
    simp only [PyData.shown] at q
    exact q
  | bl b =>
    cases ru
    refine PySem.P.repr_of_bool ⟨.str _, H, I.tok _, ⟨_, rfl⟩, ?_⟩
    simp only [PyData.shown] at q
    exact q
  | int i =>
    obtain ⟨t, rfl⟩ := ru
    simp only [PyData.shown] at q
    simp only [PyData.showable, decide_eq_true_eq] at h1
    exact PySem.P.repr_of_int h1 ⟨.str _, H, I.tok _, ⟨_, rfl⟩, q⟩
  | str x =>
    obtain ⟨t, rfl⟩ := ru
    simp only [PyData.shown] at q h3
    exact PySem.P.repr_of_str ⟨.str _, H, I.tok _, ⟨_, rfl⟩, q⟩ h3
  | lst hs ha =>
    obtain ⟨as, rr⟩ := Dp.reads I _ _ _ (.lst hs ha) ru
    cases ru
    refine repr_of_reads' rr h1 (fun z => by rw [nd] at z; cases z) hg (by omega) (fun _ _ e => e) (fun h' u tk hk => ?_) h3
    exact ⟨.str _, H, I.kept hk, ⟨u, rfl⟩, q⟩
  | tup hs ha =>
    obtain ⟨as, rr⟩ := Dp.reads I _ _ _ (.tup hs ha) ru
    cases ru
    refine repr_of_reads' rr h1 (fun z => by rw [nd] at z; cases z) hg (by omega) (fun _ _ e => e) (fun h' u tk hk => ?_) h3
    exact ⟨.str _, H, I.kept hk, ⟨u, rfl⟩, q⟩
def gRepr : GL := g1 fun d cs Q => match py cs d with
  | some p => p.showable = true ∧ p.depth ≤ 60 ∧ p.shown.length ≤ sizeLine ∧ Q (.str p.shown) cs
  | none => False
theorem ok_repr {K : PySem.W.Frag} : OkL K T (rReprD K) gRepr := ok_1 fun W H d v Q' Q r a q p => by
  split at q
  · rename_i e0 e
    exact ⟨v, _, rfl, py_at r e a, q.1, q.2.1, q.2.2.1, p _ W _ H q.2.2.2 .refl r (.str _)⟩
  · exact q.elim
/-! ### is None, is True -/
def isNonD : D → Bool
  | .non => true
  | _ => false
def gIsN (k : Bool → Bool) : G2 := fun d e cs Q => match e with
  | .non => Q (.bl (k (isNonD d))) cs
  | _ => False
def rIsN : R2 := fun x y H Q => y = .non ∧ Q (.bl (decide (x = .non))) H
def rNotN : R2 := fun x y H Q => y = .non ∧ Q (.bl (!decide (x = .non))) H
theorem op_isND : OpR X (compareOp .Is) rIsN := op_isN
theorem op_notND : OpR X (compareOp .IsNot) rNotN := op_notN
theorem at_non {K : PySem.W.Frag} {W : Wd} {H : Hp} {d : D} {v : V} (a : At K T W H d v) : decide (v = .non) = isNonD d := by
  cases a with
  | non => rfl
  | _ => exact decide_eq_false fun e => nomatch e
theorem ok_isN {K : PySem.W.Frag} : OkR K T rIsN (gIsN id) := by
  intro W H d e v u Q' Q r a b h p
  cases b with
  | non => exact ⟨rfl, by rw [at_non a]; exact p _ W _ H h .refl r (.bl _)⟩
  | _ => exact h.elim
theorem ok_notN {K : PySem.W.Frag} : OkR K T rNotN (gIsN not) := by
  intro W H d e v u Q' Q r a b h p
  cases b with
  | non => exact ⟨rfl, by rw [at_non a]; exact p _ W _ H h .refl r (.bl _)⟩
  | _ => exact h.elim
/-! ### a live list's variable, frozen as it is read -/
def wFz (i : Nat) : WE := fun sl cs Q _ => match sl[i]? with
  | some (some (.root j)) => match cs[j]? with
    | some (.lst ds) => Q (.lst ds) (cs.set j (.fz (.lst ds)))
    | some (.fz (.lst ds)) => Q (.lst ds) cs
    | _ => False
  | some (some d) => Q d cs
  | _ => False
theorem dvf (i : Nat) {x : Str} {pos : Pos} (hN : X.N[i]? = some x := by rfl) (hv : Vis X.env.scope x := by first | exact Or.inl rfl | exact Or.inr (Or.inl rfl) | exact Or.inr (Or.inr rfl)) (hd : (x == ("__debug__" : Str)) = false := by decide)
    (hcd : (x == ("__classdict__" : Str)) = false := by decide) : DE X T E (.Name x pos) (wFz i) := by
  refine ⟨_, pe_var hN hv hd hcd, fun sl W σ H Q' X' Q hs r h p _ => ?_⟩
  unfold wFz at h
  split at h
  · rename_i j e
    obtain ⟨v, e1, a⟩ := hs.2 i _ e
    refine ⟨v, e1, ?_⟩
    cases a with
    | root hj =>
      split at h
      · rename_i ds ec
        obtain ⟨vs, h1, h2⟩ := r.cell _ _ _ hj ec
        have x : Ext W H (W.put j (.fz (.lst ds))) H := .freeze hj ec trivial
        obtain ⟨r2, f2⟩ := r.freeze hj ec trivial (d := .lst ds) fun fz => .lst h1 fz (h2.ext x)
        exact p _ (W.put j (.fz (.lst ds))) _ H h x r2 (.lst h1 f2 (h2.ext x))
      · rename_i ds ec
        exact p _ W _ H h .refl r (r.cell _ _ _ hj ec)
      · exact h.elim
  · rename_i d _ e
    obtain ⟨v, e1, a⟩ := hs.2 i _ e
    exact ⟨v, e1, p _ W _ H h .refl r a⟩
  · exact h.elim
/-! ### enumerate, zip, range by steps -/
def enumD : Nat → List D → List D
  | _, [] => []
  | i, d :: ds => .tup [.int i, d] :: enumD (i + 1) ds
theorem enumD_len : ∀ (i : Nat) (ds : List D), (enumD i ds).length = ds.length
  | _, [] => rfl
  | i, d :: ds => congrArg (· + 1) (enumD_len (i + 1) ds)
theorem enumD_get : ∀ (k : Nat) (ds : List D) (i : Nat) (d : D), ds[i]? = some d → (enumD k ds)[i]? = some (.tup [.int ((k + i : Nat) : Int), d])
  | _, [], _, _, h => by simp at h
  | k, e :: ds, 0, d, h => by
    have : e = d := by simpa using h
    subst this
    rfl
  | k, e :: ds, i + 1, d, h => by
    have q := enumD_get (k + 1) ds i d (by simpa using h)
    rw [show k + 1 + i = k + (i + 1) by omega] at q
    exact q
def wEnum (ma : WA) : WA := fun sl cs Q X => ma sl cs (fun ds cs1 => match ds with
  | [d] => match frozL cs1 d with
    | some es => Q (enumD 0 es) cs1
    | none => False
  | _ => False) X
theorem di_enum {e : Expr} {ma : WA} {p pos tpos : Pos} {elts : List Expr} {kk : Nat} (hm : X.mg "enumerate" = none) (ha : DA X T E [e] ma) (hg : Gl X "enumerate" := by rfl) (hs : starEach [e] X.env = [(false, eval e X.env)] := by rfl) :
    DI X T E (.Tuple elts kk tpos) (.Call (.Name "enumerate" p) [e] [] pos) (wEnum ma) := by
  obtain ⟨t, pa, s⟩ := ha.ex
  refine ⟨_, pi_enum hg hm pa hs, fun sl W σ H Q' X' R hs rp h k px => ?_⟩
  refine s sl W σ H _ X' _ hs rp h (fun ds W1 vs H1 q1 x1 r1 a1 => ?_) px
  cases a1 with
  | nil => exact q1.elim
  | cons a1 a2 =>
    cases a2 with
    | cons _ _ => exact q1.elim
    | nil =>
      rename_i d v
      have q1 : (match frozL W1.cs d with
        | some es => Q' (enumD 0 es) W1.cs
        | none => False) := q1
      split at q1
      · rename_i es e1
        obtain ⟨l, us, rfl, q⟩ := frozL_at r1 a1 e1
        refine ⟨l, us, rfl, (q .refl).1, k _ W1 _ H1 q1 x1 r1 ⟨fun i W2 H2 x r hi => ?_, fun i W2 H2 y H3 x r hi hy => ?_, fun i W2 H2 x r hi => ?_⟩⟩
        · obtain ⟨q1, q2⟩ := q x
          rw [enumD_len] at hi
          obtain ⟨v, e1, _⟩ := q2.get' (List.getElem?_eq_getElem hi)
          exact ⟨_, _, q1, e1⟩
        · obtain ⟨q1, q2⟩ := q x
          obtain ⟨Tt, z, rfl, nT, rfl, hz⟩ := hy
          obtain ⟨d, e1, e2⟩ := q2.get (hz _ q1)
          have hx : Ext W2 H2 W2 (upd H2 Tt (.tup [.int (i : Nat), z])) := .laid nT
          refine ⟨_, by have := enumD_get 0 es i d e1; rw [Nat.zero_add] at this; exact this, hx, r.laid nT, .tup upd_same (r.fresh nT) (.cons (.int _) (.cons (e2.ext hx) .nil))⟩
        · obtain ⟨q1, q2⟩ := q x
          rw [enumD_len] at hi
          exact ⟨_, q1, by rw [← q2.length]; exact hi⟩
      · exact q1.elim
def wZip (ma : WA) : WA := fun sl cs Q X => ma sl cs (fun ds cs1 => match ds with
  | [d, e] => match frozL cs1 d, frozL cs1 e with
    | some xs, some ys => Q (List.zipWith (fun x y => .tup [x, y]) xs ys) cs1
    | _, _ => False
  | _ => False) X
theorem di_zip {e e2 : Expr} {ma : WA} {p pos tpos : Pos} {elts : List Expr} {kk : Nat} (hm : X.mg "zip" = none) (ha : DA X T E [e, e2] ma) (hg : Gl X "zip" := by rfl)
    (hs : starEach [e, e2] X.env = (false, eval e X.env) :: starEach [e2] X.env := by rfl) (hpl : (backTo pos (starEach [e2] X.env)).any (·.1) = false := by rfl) :
    DI X T E (.Tuple elts kk tpos) (.Call (.Name "zip" p) [e, e2] [] pos) (wZip ma) := by
  obtain ⟨t, pa, s⟩ := ha.ex
  refine ⟨_, pi_zip hg hm pa hs hpl, fun sl W σ H Q' X' R hs rp h k px => ?_⟩
  refine s sl W σ H _ X' _ hs rp h (fun ds W1 vs H1 q1 x1 r1 a1 => ?_) px
  split at q1
  · rename_i d e
    split at q1
    · rename_i xs ys e1 e2
      cases a1 with
      | cons a1 a2 =>
        cases a2 with
        | cons a2 a3 =>
          cases a3
          obtain ⟨l, us, rfl, q⟩ := frozL_at r1 a1 e1
          obtain ⟨m, ws, rfl, q'⟩ := frozL_at r1 a2 e2
          refine ⟨l, m, us, ws, rfl, (q .refl).1, (q' .refl).1, k _ W1 _ H1 q1 x1 r1 ⟨fun i W2 H2 x r hi => ?_, fun i W2 H2 y H3 x r hi hy => ?_, fun i W2 H2 x r hi => ?_⟩⟩
          · obtain ⟨q1, q2⟩ := q x
            obtain ⟨q3, q4⟩ := q' x
            rw [List.length_zipWith] at hi
            obtain ⟨v, e1, _⟩ := q2.get' (List.getElem?_eq_getElem (by omega : i < xs.length))
            obtain ⟨v2, e2, _⟩ := q4.get' (List.getElem?_eq_getElem (by omega : i < ys.length))
            exact ⟨_, _, _, _, q1, q3, e1, e2⟩
          · obtain ⟨q1, q2⟩ := q x
            obtain ⟨q3, q4⟩ := q' x
            obtain ⟨Tt, z, z2, rfl, nT, rfl, hz, hz2⟩ := hy
            obtain ⟨d, e1, a1⟩ := q2.get (hz _ q1)
            obtain ⟨d2, e2, a2⟩ := q4.get (hz2 _ q3)
            have hx : Ext W2 H2 W2 (upd H2 Tt (.tup [z, z2])) := .laid nT
            exact ⟨.tup [d, d2], by rw [List.getElem?_zipWith, e1, e2], hx, r.laid nT, .tup upd_same (r.fresh nT) (.cons (a1.ext hx) (.cons (a2.ext hx) .nil))⟩
          · obtain ⟨q1, q2⟩ := q x
            obtain ⟨q3, q4⟩ := q' x
            rw [List.length_zipWith] at hi
            refine ⟨_, _, q1, q3, ?_⟩
            rw [← q2.length, ← q4.length]
            omega
    · exact q1.elim
  · exact q1.elim
def stepsD (lo c : Int) (n : Nat) : List D := (List.range n).map fun i => .int (lo + (i : Nat) * c)
theorem stepsD_len {lo c : Int} {n : Nat} : (stepsD lo c n).length = n := by unfold stepsD; simp
def wRng3 (ma : WA) : WA := fun sl cs Q X => ma sl cs (fun ds cs1 => match ds with
  | [.int i, .int j, .int c] => ∃ n, RgC i j c n ∧ Q (stepsD i c n) cs1
  | _ => False) X
theorem di_range3 {tg a b c : Expr} {ma : WA} {p pos : Pos} (hm : X.mg "range" = none) (ha : DA X T E [a, b, c] ma) (hg : Gl X "range" := by rfl)
    (hs : starEach [a, b, c] X.env = (false, eval a X.env) :: starEach [b, c] X.env := by rfl) (hpl : (backTo pos (starEach [b, c] X.env)).any (·.1) = false := by rfl) :
    DI X T E tg (.Call (.Name "range" p) [a, b, c] [] pos) (wRng3 ma) := by
  obtain ⟨t, pa, s⟩ := ha.ex
  refine ⟨_, pi_range3 hg hm pa hs hpl, fun sl W σ H Q' X' R hs rp h k px => ?_⟩
  refine s sl W σ H _ X' _ hs rp h (fun ds W1 vs H1 q1 x1 r1 a1 => ?_) px
  split at q1
  · rename_i i j c
    obtain ⟨n, hn, q1⟩ := q1
    cases a1 with
    | cons a1 a2 =>
      cases a1
      cases a2 with
      | cons a2 a3 =>
        cases a2
        cases a3 with
        | cons a3 a4 =>
          cases a3
          cases a4
          refine ⟨i, j, c, n, rfl, hn, k _ W1 _ H1 q1 x1 r1 ⟨fun i' W2 H2 x r hi => ?_, fun i' W2 H2 y H3 x r hi hy => ?_, fun i' W2 H2 x r hi => ?_⟩⟩
          · rw [stepsD_len] at hi; exact hi
          · rw [stepsD_len] at hi
            obtain ⟨e1, e2⟩ := hy
            subst e1 e2
            exact ⟨_, by unfold stepsD; rw [List.getElem?_map, List.getElem?_range hi]; rfl, .refl, r, .int _⟩
          · rw [stepsD_len] at hi; exact hi
  · exact q1.elim
end
end DL
namespace DL
open PySem PySem.Spec PyProof.Rows L2

/-! ### the end: the law's own call, nothing tracked but the script -/
theorem lawG {P : Program} {w : World} {K : PySem.W.Frag} {mg mb : Str → Option Value} {k : Nat} {fa a : Addr} {fd : FuncData} {x : Str} {T : Tb} {S : SD} {s1 : Shared} {vs : List Value} {ns : List Int}
    (kx : K.In s1.heap) (gl : s1.heap.Ns mainGlobals mg) (bl : s1.heap.Ns builtinsNs mb) (bb : ∀ x : Str, x ≠ "__name__" → mb x = bootBuiltins x) (nl : s1.heap.NoLimit) (ng : s1.gens = #[])
    (ha : s1.heap.get? a = some { cls := .type "list", data := .seq vs.toArray }) (hi : IntsAre vs ns) (hz : ns.length ≤ sizeLine) (hr : Room k callerA)
    (F : ∀ base : Heap, K.In base → base.Ns mainGlobals mg → DFn P w K mg base T CX0 k fa fd [x] S) (hb : ∀ (s : Shared) (u : Value), BindsTo s fd ⟨[u], []⟩ [(x, u)])
    (hS : S [.scr (ns.map D.int)] [] (fun d _ => d = .bl true) fun _ _ _ => False) :
    codeAny (model P w) callerA (.call (.ref fa) ⟨[.ref a], []⟩) (fun r s' => r = .ok (.ret (.bool true)) ∧ OldK s1.heap s'.heap ∧ s'.os = s1.os ∧ AllBare s'.gens) s1 := by
  have rv : Vals (ns.map V.int) vs := vals_ints hi
  have go : ∀ H : Hp, (∀ b o, H b = some o → b = a ∧ K.lookup a = none ∧ ∃ ob, o = .frz ob (.lst (ns.map V.int))) → SqL K H a (ns.map V.int) → HOk P w H s1.heap →
      codeAny (model P w) callerA (.call (.ref fa) ⟨[.ref a], []⟩) (fun r s' => r = .ok (.ret (.bool true)) ∧ OldK s1.heap s'.heap ∧ s'.os = s1.os ∧ AllBare s'.gens) s1 := by
    intro H only sq ok
    have out : ∀ {b : Addr} {o : Obj}, s1.heap.get? b = some o → (b = a → K.lookup a ≠ none ∨ ∃ es ep, o.data = .dict es ep) → (hidT s1.heap H).get? b = some o := fun {b o} e h => by
      refine hidT_get e ?_
      cases q : H b with
      | none => rfl
      | some u =>
        obtain ⟨eb, n1, _⟩ := only b u q
        subst eb
        rcases h rfl with h | ⟨es, ep, d⟩
        · exact absurd n1 h
        · rw [ha] at e
          cases e
          exact nomatch (show Data.seq vs.toArray _ = Data.dict es ep from d)
    have nsB : ∀ {b : Addr} {m : Str → Option Value}, s1.heap.Ns b m → (hidT s1.heap H).Ns b m := fun {b m} ⟨o, es, ep, e, d, r⟩ => ⟨o, es, ep, out e fun _ => .inr ⟨es, ep, d⟩, d, r⟩
    have kB : K.In (hidT s1.heap H) := fun b o e => out (kx b o e) fun z => .inl (by rw [← z, e]; exact Option.some_ne_none _)
    have md : Mod K mg (hidT s1.heap H) := ⟨kB, nsB gl, ⟨mb, nsB bl, bb⟩, nl.elim fun mc z => ⟨mc, nsB z.1, z.2⟩⟩
    have env : Env0 P w K mg (hidT s1.heap H) callerA [] s1 H := ⟨rfl, md, fun b o e => of_hidT e, Nat.le_of_eq (hidT_size _ _), trivial, (fun b z => nomatch z), ok, .of_eq ng⟩
    have sp : spD K T S [.ref a] H (fun v _ => v = .bl true) fun _ _ _ => False := by
      refine ⟨[.scr (ns.map D.int)], ⟨[], [], fun _ => False⟩, _, _, .cons (.scr ?_ (atL_ints ns)) .nil, ⟨rfl, fun i j b _ _ e => by simp at e, fun j b _ e => by simp at e, fun _ _ z => z, fun _ z => z.elim⟩, hS, fun d W' v H' q _ _ at' => ?_, fun _ _ _ _ _ _ z => z.elim⟩
      · rcases sq with q | q
        · exact .inl ⟨q, fun ⟨j, c, e, _⟩ => by simp at e, fun z => z⟩
        · exact .inr fun _ => .inr q
      · subst q
        cases at'
        rfl
    refine codeAny_mono ((F _ kB (nsB gl)).run callerA [] s1 H ⟨[.ref a], []⟩ [.ref a] [.ref a] _ _ rfl hr env (hb s1 (.ref a)) (.cons rfl .nil) sp) fun r s' h => ?_
    cases r with
    | error e => exact False.elim h
    | ok fl =>
      cases fl with
      | next => exact False.elim h
      | brk => exact False.elim h
      | cont => exact False.elim h
      | ret u =>
        obtain ⟨v, H', os, bare, un, ok', r', q⟩ := h
        have q : v = .bl true := q
        subst q
        obtain rfl : u = Value.bool true := r'
        refine ⟨rfl, OldK.of_keep fun b o e => ?_, os, bare⟩
        cases q : H b with
        | none => exact un.keep b o e q (fun z => nomatch z) (fun z => nomatch z)
        | some u =>
          obtain ⟨_, _, ob, z⟩ := only b u q
          subst z
          obtain ⟨e1, _⟩ := ok b _ q
          obtain ⟨e2, _⟩ := ok' b _ (un.frzs b ob _ q)
          rw [e] at e1
          cases e1
          exact e2
  cases hk : K.lookup a with
  | some o =>
    have e := kx a o hk
    rw [ha] at e
    cases e
    exact go (fun _ => none) (fun b o z => nomatch z) (.inr ⟨_, vs.toArray, _, hk, rfl, rfl, rfl, by rw [List.size_toArray, hi.length]; exact hz, by simpa using rv⟩) fun b o z => nomatch z
  | none =>
    have self : (fun b => if b = a then some (HO.frz { cls := .type "list", data := .seq vs.toArray } (.lst (ns.map V.int))) else none : Hp) a = some (HO.frz { cls := .type "list", data := .seq vs.toArray } (.lst (ns.map V.int))) := if_pos rfl
    refine go (fun b => if b = a then some (.frz { cls := .type "list", data := .seq vs.toArray } (.lst (ns.map V.int))) else none) (fun b o z => ?_) (.inl (.inr ⟨_, self⟩)) fun b o z => ?_
    · by_cases hba : b = a
      · rw [if_pos hba] at z
        cases z
        exact ⟨hba, hk, _, rfl⟩
      · rw [if_neg hba] at z
        cases z
    · by_cases hba : b = a
      · have z : (if b = a then some (HO.frz { cls := .type "list", data := .seq vs.toArray } (.lst (ns.map V.int))) else none) = some o := z
        rw [if_pos hba] at z
        cases z
        subst hba
        exact ⟨ha, by rw [List.length_map]; exact hz, vs, _, rv, ha⟩
      · have z : (if b = a then some (HO.frz { cls := .type "list", data := .seq vs.toArray } (.lst (ns.map V.int))) else none) = some o := z
        rw [if_neg hba] at z
        cases z
theorem walkG {l : PySem.W.OpenLaw} {n k : Nat} {q : Program} {loose : List Str} {XP : (Str → Option Value) → Heap → Prop} {YP : World → Heap → Prop} {d : DefRec} {K : Params → PySem.W.Frag} {S : SD} {x : Str}
    (hn : l.most = some n) (hn2 : n ≤ sizeLine) (hdf : d.params.defaults = []) (hr : Room k callerA) (hY : ∀ (w : World) (h : Heap), YP w h → (K w.params).In h)
    (F : ∀ (w : World) (mg : Str → Option Value) (fa : Addr) (h : Heap), (K w.params).In h → h.Ns mainGlobals mg → mg d.name = some (.ref fa) →
      ∃ (fd : FuncData) (T : Tb), (∀ (s : Shared) (u : Value), BindsTo s fd ⟨[u], []⟩ [(x, u)]) ∧ ∀ base : Heap, (K w.params).In base → base.Ns mainGlobals mg → DFn l.prog w (K w.params) mg base T CX0 k fa fd [x] S)
    (hS : ∀ ns : List Int, ns.length ≤ n → S [.scr (ns.map D.int)] [] (fun d _ => d = .bl true) fun _ _ _ => False) :
    PySem.W.WalkO q loose XP YP l.row.toRowW d [] (fun f vs => PySem.call f vs) := by
  refine Att.attach_call hn hdf fun w s0 s1 mg mb fa o pm cd doc a vs ns G Y _ _ _ hmg hobj hints hlen hg => ?_
  obtain ⟨fd, T, hb, hF⟩ := F w mg fa _ (hY w _ Y) G.T.g hmg
  exact lawG (hY w _ Y) G.T.g G.T.b G.T.builtins G.T.nolimit hg hobj hints (Nat.le_trans hlen hn2) hr hF hb (hS ns hlen)
end DL
namespace DL
open PySem PySem.Spec PyProof.Rows L2

/-! ### == of two objects of a class with an == of its own -/
section
variable {X : Cx} {T : Tb} {E : XK} {CX : CXT} {k n : Nat} {f C : Addr} {fd : FuncData} {ps : List Str} {S : SD}
def rEqO (K : PySem.W.Frag) (T : Tb) (S : SD) (C : Addr) (neg : Bool) : R2 := fun x y H Q => ∃ a b dx dy fs gs, x = .ref a ∧ y = .ref b ∧ H a = some (.ins C dx fs) ∧ H b = some (.ins C dy gs) ∧
  spD K T S [.ref a, .ref b] H (fun v H' => ∃ b, v = .bl b ∧ Q (.bl (neg != b)) H') E0
theorem op_eqO (hg : X.A.guards = some []) (hr : Room k X.A) (F : DFn X.prog X.w X.K X.mg X.base T CX0 k f fd ps S) (B : FnB X.K f fd ps) (m : Meth X.K C "__eq__" f) : OpR X (compareOp .Eq) (rEqO X.K T S C false) := by
  intro pins s σ H x y v u Q I rx ry hq
  obtain ⟨a, b, dx, dy, fs, gs, rfl, rfl, ha, hb', hs⟩ := hq
  cases rx
  cases ry
  obtain ⟨mA, J, _⟩ := ins_get I.hok ha
  obtain ⟨mB, J', _⟩ := ins_get I.hok hb'
  obtain ⟨od, J, _⟩ := J.look
  obtain ⟨od', J', _⟩ := J'.look
  obtain ⟨m', hF⟩ := I.fr
  show wpAny (model X.prog X.w) X.A (richCompare .Eq (.ref a) (.ref b)) (EP X pins σ Q) X.xe s
  refine PySem.W.cmp_K (op := .Eq) (tb := .ref C) hr.units0 hF I.ok.mod.kin J J'.type (by simp [PySem.W.notFirst]) m.at_ m.fn ?_
  refine wpAny_mono (run_g (us := [.ref a, .ref b]) F hg hr B.b pass0 I (.cons (show L2.RelV (.ref a) (.ref a) from rfl) (.cons (show L2.RelV (.ref b) (.ref b) from rfl) .nil)) hs) (fun r s' z => ?_) fun _ _ x => x
  obtain ⟨v, H', I', rv, b, rfl, q⟩ := z
  have rv : r = .bool b := rv
  subst rv
  exact ⟨.bl _, H', I', rfl, by cases b <;> exact q⟩
def gEqO (k : Bool → Bool) (n : Nat) (S : SD) : G2 := fun d e cs Q => match d, e with
  | .ins n1 _, .ins n2 _ => n1 = n ∧ n2 = n ∧ S [d, e] cs (fun r cs' => match r with
    | .bl b => Q (.bl (k b)) cs'
    | _ => False) fun _ _ _ => False
  | _, _ => False
theorem ok_eqO {K : PySem.W.Frag} : OkR K T (rEqO K T S (T.cl n) false) (gEqO id n S) := fun W H d e v u Q' Q r a b h p => by
  cases a with
  | @ins a dx n1 vs ds h1 l1 f1 t1 =>
    cases b with
    | @ins b dy n2 us es h2 l2 f2 t2 =>
      obtain ⟨e1, e2, h⟩ := h
      subst e1 e2
      refine ⟨a, b, dx, dy, _, _, rfl, rfl, h1, h2, _, W, _, _, .cons (.ins h1 l1 f1 t1) (.cons (.ins h2 l2 f2 t2) .nil), r, h, fun d W' v H' q x r' at' => ?_, fun _ _ _ _ _ _ z => z.elim⟩
      cases d with
      | bl b => cases at'; exact ⟨b, rfl, by cases b <;> exact p _ W' _ H' q x r' (.bl _)⟩
      | _ => exact q.elim
    | _ => exact h.elim
  | _ => exact h.elim

/-! ### isinstance(x, C) -/
theorem kit_self {K : PySem.W.Frag} {C : Addr} : PySem.W.kitOne K (.ref C) (.ref C) = some true := by
  unfold PySem.W.kitOne
  exact if_pos (beq_self_eq_true _)
variable {e : Expr} {me : WE} {p p2 pos : Pos} {x : Str}
def wIsi (n : Nat) (me : WE) : WE := fun sl cs Q X => me sl cs (fun d cs1 => match d with
  | .ins n' _ => n' = n ∧ Q (.bl true) cs1
  | _ => False) X
theorem de_isi (c : C8.InsC X.K (T.cl n)) (hz : X.mg "isinstance" = none) (hm : X.mg x = some (.ref (T.cl n))) (he : DE X T E e me) (gl : Gl X "isinstance" := by rfl) (gl2 : Gl X x := by rfl)
    (hs : starEach [e, .Name x p2] X.env = (false, eval e X.env) :: starEach [.Name x p2] X.env := by rfl) (hdb : (x == ("__debug__" : Str)) = false := by decide) (hb : bootBuiltins "isinstance" = some (.builtin "isinstance") := by first | rfl | decide +kernel) :
    DE X T E (.Call (.Name "isinstance" p) [e, .Name x p2] [] pos) (wIsi n me) := by
  obtain ⟨t, pe, se⟩ := he.ex
  refine ⟨_, pe_callB (C8.call_isC c) gl hz hb (pa_cons pe (pa_cons (C8.pe_gc gl2 ⟨_, hm, (show L2.RelV (.ref (T.cl n)) (.ref (T.cl n)) from rfl)⟩ hdb) pa_nil rfl) hs) (by decide) (by decide) hs rfl, fun sl W σ H Q' X' Q hs rp h po px => ?_⟩
  refine se sl W σ H _ X' _ hs rp h (fun d W1 v H1 q1 x1 r1 a1 => ?_) px
  cases a1 with
  | @ins a dx n' vs ds h1 l1 f1 t1 =>
    obtain ⟨e1, q1⟩ := q1
    subst e1
    exact ⟨a, dx, _, rfl, h1, po _ W1 _ H1 q1 x1 r1 (.bl true)⟩
  | _ => exact q1.elim
end

/-! ### keywords -/
def pick {α : Type} : List Nat → List α → List α
  | [], _ => []
  | i :: r, xs => match xs[i]? with
    | some x => x :: pick r xs
    | none => pick r xs
theorem pick_vals : ∀ (pm : List Nat) {vs : List V} {us : List Value}, Vals vs us → Vals (pick pm vs) (pick pm us)
  | [], _, _, _ => .nil
  | i :: r, vs, us, h => by
    unfold pick
    cases q : vs[i]? with
    | none =>
      have : us[i]? = none := by
        rw [List.getElem?_eq_none_iff] at q ⊢
        rw [← h.length]; exact q
      rw [this]
      exact pick_vals r h
    | some v =>
      obtain ⟨u, e1, e2⟩ := h.get q
      rw [e1]
      exact .cons e2 (pick_vals r h)
theorem pick_at {K : PySem.W.Frag} {T : Tb} {W : Wd} {H : Hp} : ∀ (pm : List Nat) {ds : List D} {vs : List V}, AtL K T W H ds vs → AtL K T W H (pick pm ds) (pick pm vs)
  | [], _, _, _ => .nil
  | i :: r, ds, vs, h => by
    unfold pick
    cases q : ds[i]? with
    | none =>
      have : vs[i]? = none := by
        rw [List.getElem?_eq_none_iff] at q ⊢
        rw [← h.length]; exact q
      rw [this]
      exact pick_at r h
    | some v =>
      obtain ⟨u, e1, e2⟩ := h.get' q
      rw [e1]
      exact .cons e2 (pick_at r h)
theorem atl_app {K : PySem.W.Frag} {T : Tb} {W : Wd} {H : Hp} : ∀ {ds es : List D} {vs us : List V}, AtL K T W H ds vs → AtL K T W H es us → AtL K T W H (ds ++ es) (vs ++ us)
  | _, _, _, _, .nil, b => b
  | _, _, _, _, .cons h t, b => .cons h (atl_app t b)
theorem vals_app : ∀ {ds es : List V} {vs us : List Value}, Vals ds vs → Vals es us → Vals (ds ++ es) (vs ++ us)
  | _, _, _, _, .nil, b => b
  | _, _, _, _, .cons h t, b => .cons h (vals_app t b)
/-- how a def binds: j values ahead, n by position, the keywords ks -/
structure KB (K : PySem.W.Frag) (fd : FuncData) (ps ks : List Str) (j n : Nat) (pm : List Nat) : Prop where
  to : ∀ (s : Shared) (fi us ws : List Value), K.In s.heap → fi.length = j → us.length = n → ws.length = ks.length → BindsTo s fd ⟨fi ++ us, ks.zip ws⟩ (ps.zip (fi ++ pick pm (us ++ ws)))
theorem fun_kb {K : PySem.W.Frag} {x qual : Str} {st : Stmt} {f : Addr} {fd : FuncData} {ps ks : List Str} {j n : Nat} {pm : List Nat} (F : Fun K x qual st f fd)
    (h : ∀ (kV doc pm' : Value) (an : Option Addr) (cdv ct : Value) (fi us ws : List Value), fi.length = j → us.length = n → ws.length = ks.length →
      bindArgs (PySem.W.fnOf x qual (defArgs st) (defBody st) (defScope st) .none kV doc pm' an cdv ct) ⟨fi ++ us, ks.zip ws⟩ = pure (ps.zip (fi ++ pick pm (us ++ ws)))) : KB K fd ps ks j n pm := by
  obtain ⟨oc, od, kV, doc, pm', an, cdv, ct, osl, rfl, lk, hcd⟩ := F.ex
  exact ⟨fun s fi us ws _ h1 h2 h3 => .of_eq (h kV doc pm' an cdv ct fi us ws h1 h2 h3)⟩
section
variable {X : Cx} {T : Tb} {E : XK} {CX : CXT} {k n j : Nat} {f C : Addr} {fd : FuncData} {ps ks : List Str} {S : SD} {x m : Str} {p pos apos ppos : Pos} {o : Expr} {es : List Expr} {kws : List Keyword} {mr mk : WA} {mo me : WE} {pm : List Nat} {e : Expr}
structure DK (X : Cx) (T : Tb) (E : XK) (kws : List Keyword) (m : WA) : Prop where
  ex : ∃ t, PK X kws t ∧ ∀ sl W σ H Q' X' Q, SlAt X.K T W H sl σ → Rep X.K T W H → m sl W.cs Q' X' → PostA X.K T W H Q' Q → PostX X.K T W H X' E → t σ H Q
theorem dk_nil : DK X T E [] wNil := ⟨_, pk_nil, fun _ W _ H _ _ _ _ r h p _ => p _ W _ H h .refl r .nil⟩
theorem dk_cons {nm : Option Str} {kpos : Pos} (ha : DE X T E e me) (hr : DK X T E kws mr) : DK X T E (⟨nm, e, kpos⟩ :: kws) (wCons me mr) := by
  obtain ⟨ta, pa, sa⟩ := ha.ex
  obtain ⟨tr, pr, sr⟩ := hr.ex
  refine ⟨_, pk_cons pa pr, fun sl W σ H Q' X' Q hs rp h p px => ?_⟩
  refine sa sl W σ H _ X' _ hs rp h (fun d W1 v H1 q1 x1 r1 a1 => ?_) px
  exact sr sl W1 σ H1 _ X' _ (hs.ext x1) r1 q1 (fun ds W2 vs H2 q2 x2 r2 a2 => p _ W2 _ H2 q2 (x1.trans x2) r2 (.cons (a1.ext x2) a2)) (px.st x1)
/-- the positional arguments are there, or there is none -/
def PQ (X : Cx) (es : List Expr) (t : TA) : Prop := (es = [] ∧ t = tNil) ∨ (PA X es t ∧ ∃ e r, es = e :: r ∧ starEach (e :: r) X.env = (false, eval e X.env) :: starEach r X.env)
structure DQ (X : Cx) (T : Tb) (E : XK) (es : List Expr) (m : WA) : Prop where
  ex : ∃ t, PQ X es t ∧ ∀ sl W σ H Q' X' Q, SlAt X.K T W H sl σ → Rep X.K T W H → m sl W.cs Q' X' → PostA X.K T W H Q' Q → PostX X.K T W H X' E → t σ H Q
theorem dq_nil : DQ X T E [] wNil := ⟨_, .inl ⟨rfl, rfl⟩, fun _ W _ H _ _ _ _ r h p _ => p _ W _ H h .refl r .nil⟩
theorem dq_of (h : DA X T E (e :: es) mr) (he : starEach (e :: es) X.env = (false, eval e X.env) :: starEach es X.env := by rfl) : DQ X T E (e :: es) mr := let ⟨t, pa, sa⟩ := h.ex; ⟨t, .inr ⟨pa, e, es, rfl, he⟩, sa⟩
theorem cw_K {pins : List (Addr × Obj)} {σ : L2.St} {H : Hp} {s : Shared} {first : List Value} {fv : Value} {t tk : TA} {Q : Value → Shared → Prop} {R : List V → List V → Hp → Prop} (I : Inv X pins σ H s) (hk : PySem.W.keepIn X.K fv = true) (pa : PQ X es t) (pk : PK X kws tk)
    (hall : (backToKw pos (keywordEach kws X.env)).all (·.1.isSome) = true) (hks : (backToKw pos (keywordEach kws X.env)).filterMap (·.1) = ks)
    (hpl : ((backTo pos (starEach es X.env)).any (·.1) || (backToKw pos (keywordEach kws X.env)).any (·.1.isNone)) = false)
    (h : t σ H fun vs H1 => tk σ H1 fun zs H2 => R vs zs H2)
    (go : ∀ vs us zs ws H2 s2, Inv X pins σ H2 s2 → Vals vs us → Vals zs ws → R vs zs H2 → wpAny (model X.prog X.w) X.A (call fv (first ++ us) (ks.zip ws)) Q X.xe s2) :
    wpAny (model X.prog X.w) X.A (callWith pos fv first (backTo pos (starEach es X.env)) (backToKw pos (keywordEach kws X.env))) Q X.xe s := by
  rcases pa with ⟨e0, e1⟩ | ⟨pa, e, r, e0, he⟩
  · subst e0 e1
    refine PySem.W.callWith_KW0 (h₀ := X.base) I.ok.mod.kin hk hall (thn (pk.run pos pins s σ H _ I h) fun ws s2 ⟨zs, H2, I2, rz, q2⟩ => ⟨I2.kIn, ?_⟩) hpl
    rw [hks]
    exact go [] [] zs ws H2 s2 I2 .nil rz q2
  · subst e0
    refine PySem.W.callWith_KW (h₀ := X.base) I.ok.mod.kin hk hall (thn (pa.run pos pins s σ H _ I h) fun us s1 ⟨vs, H1, I1, r, q⟩ => ?_) hpl he
    refine thn (pk.run pos pins s1 σ H1 _ I1 q) fun ws s2 ⟨zs, H2, I2, rz, q2⟩ => ⟨I2.kIn, ?_⟩
    rw [hks]
    exact go vs us zs ws H2 s2 I2 r rz q2
/-- f(us, ks = ws) runs -/
theorem run_gk {pins : List (Addr × Obj)} {σ : L2.St} {H : Hp} {s : Shared} {Q : VK} {fi us ws : List Value} {fz vs zs : List V} {sp : Sp} (F : FnG X.prog X.w X.K X.mg X.base CX k f fd ps sp) (hg : X.A.guards = some []) (hr : Room k X.A) (hb : KB X.K fd ps ks j n pm) (hx : Passes CX X E)
    (I : Inv X pins σ H s) (rf : Vals fz fi) (r : Vals vs us) (rz : Vals zs ws) (l0 : fz.length = j) (l1 : vs.length = n) (l2 : zs.length = ks.length) (h : sp (fz ++ pick pm (vs ++ zs)) H Q E) : wpAny (model X.prog X.w) X.A (call (.ref f) (fi ++ us) (ks.zip ws)) (EP X pins σ Q) X.xe s := by
  have b := hb.to s fi us ws I.kIn (rf.length.symm.trans l0) (r.length.symm.trans l1) (rz.length.symm.trans l2)
  refine wpAny_call (codeAny_mono (F.run X.A X.stack s H ⟨fi ++ us, ks.zip ws⟩ _ _ Q E hg hr I.env0 b (vals_app rf (pick_vals pm (vals_app r rz))) h) fun q s' hq => ?_)
  rcases ends_of I hx hq with ⟨u, e, z⟩ | ⟨e, e1, z⟩
  · subst e; exact z
  · subst e1; exact z
def wKw (n k : Nat) (mr mk : WA) (R : List D → Cells → WQ → XQ → Prop) : WE := fun sl cs Q X => mr sl cs (fun ds cs1 => mk sl cs1 (fun es cs2 => ds.length = n ∧ es.length = k ∧ R (ds ++ es) cs2 Q X) X) X
def wCallK (S : SD) (pm : List Nat) (n k : Nat) (mr mk : WA) : WE := wKw n k mr mk fun ds cs Q X => S (pick pm ds) cs Q X
theorem de_callK (F : DFn X.prog X.w X.K X.mg X.base T CX k f fd ps S) (hg : X.A.guards = some []) (hr : Room k X.A) (hm : X.mg x = some (.ref f)) (hk : PySem.W.keepIn X.K (.ref f) = true) (hb : KB X.K fd ps ks 0 n pm) (hx : Passes CX X E)
    (ha : DQ X T E es mr) (hkw : DK X T E kws mk) (gl : Gl X x := by rfl) (hdb : (x == ("__debug__" : Str)) = false := by decide) (hall : (backToKw pos (keywordEach kws X.env)).all (·.1.isSome) = true := by rfl) (hks : (backToKw pos (keywordEach kws X.env)).filterMap (·.1) = ks := by rfl)
    (hpl : ((backTo pos (starEach es X.env)).any (·.1) || (backToKw pos (keywordEach kws X.env)).any (·.1.isNone)) = false := by rfl) {kn : Nat} (hkn : ks.length = kn := by rfl) :
    DE X T E (.Call (.Name x p) es kws pos) (wCallK S pm n kn mr mk) := by
  subst hkn
  obtain ⟨t, pa, sa⟩ := ha.ex
  obtain ⟨tk, pk, sk⟩ := hkw.ex
  refine ⟨fun σ H Q => t σ H fun vs H1 => tk σ H1 fun zs H2 => vs.length = n ∧ zs.length = ks.length ∧ spD X.K T S (pick pm (vs ++ zs)) H2 Q E, ⟨fun pins s σ H Q I h => ?_⟩, fun sl W σ H Q' X' Q hs rp h po px => ?_⟩
  · refine wpAny_Call_Name_kw (ld_glob I gl hm ?_ hdb)
    exact cw_K (first := []) I hk pa pk hall hks hpl h fun vs us zs ws H2 s2 I2 r rz ⟨l1, l2, q⟩ => run_gk (fi := []) (fz := []) F hg hr hb hx I2 .nil r rz rfl l1 l2 q
  · refine sa sl W σ H _ X' _ hs rp h (fun ds W1 vs H1 q1 x1 r1 a1 => ?_) px
    refine sk sl W1 σ H1 _ X' _ (hs.ext x1) r1 q1 (fun es W2 us H2 q2 x2 r2 a2 => ?_) (px.st x1)
    obtain ⟨l1, l2, q2⟩ := q2
    exact ⟨a1.length.symm.trans l1, a2.length.symm.trans l2, _, W2, Q', X', pick_at pm (atl_app (a1.ext x2) a2), r2, q2, (po.st x1).st x2, (px.st x1).st x2⟩
def wMethK (c : Nat) (S : SD) (pm : List Nat) (n k : Nat) (mo : WE) (mr mk : WA) : WE := fun sl cs Q X => mo sl cs (fun d cs1 => match d with
  | .ins n' _ => n' = c ∧ wKw n k mr mk (fun ds cs2 Q X => S (d :: pick pm ds) cs2 Q X) sl cs1 Q X
  | _ => False) X
theorem de_methK {c : Nat} {pl : Sem Bool} (F : DFn X.prog X.w X.K X.mg X.base T CX k f fd ps S) (hg : X.A.guards = some []) (hr : Room k X.A) (hc : Cls X.K (T.cl c)) (hm : Meth X.K (T.cl c) m f) (hnf : m ∉ T.fl c) (hb : KB X.K fd ps ks 1 n pm) (hx : Passes CX X E)
    (ho : DE X T E o mo) (ha : DQ X T E es mr) (hkw : DK X T E kws mk) (hall : (backToKw pos (keywordEach kws X.env)).all (·.1.isSome) = true := by rfl) (hks : (backToKw pos (keywordEach kws X.env)).filterMap (·.1) = ks := by rfl)
    (hpl : ((backTo pos (starEach es X.env)).any (·.1) || (backToKw pos (keywordEach kws X.env)).any (·.1.isNone)) = false := by rfl)
    (ht : eval (.Call (.Attribute o m apos) es kws pos) X.env = (do
      let ov ← eval o X.env
      standAt apos.atName
      let (f, first) ← holding [ov] (getMethod ov m pl)
      callWith pos f first (backTo pos (starEach es X.env)) (backToKw pos (keywordEach kws X.env))) := by rfl) {kn : Nat} (hkn : ks.length = kn := by rfl) :
    DE X T E (.Call (.Attribute o m apos) es kws pos) (wMethK c S pm n kn mo mr mk) := by
  subst hkn
  obtain ⟨to, po, so⟩ := ho.ex
  obtain ⟨t, pa, sa⟩ := ha.ex
  obtain ⟨tk, pk, sk⟩ := hkw.ex
  refine ⟨fun σ H Q => to σ H fun v H1 => ∃ a dx fs, v = .ref a ∧ H1 a = some (.ins (T.cl c) dx fs) ∧ fs.lookup m = none ∧ t σ H1 fun vs H2 => tk σ H2 fun zs H3 => vs.length = n ∧ zs.length = ks.length ∧ spD X.K T S (.ref a :: pick pm (vs ++ zs)) H3 Q E, ⟨fun pins s σ H Q I h => ?_⟩, fun sl W σ H Q' X' Q hs rp h pe px => ?_⟩
  · refine PySem.W.methodCall_KW (pl := pl) (thn (po.run pins s σ H _ I h) fun u s1 z => ?_) ht
    obtain ⟨v, H1, J, rv, a, dx, fs, rfl, ea, l, q⟩ := z
    cases rv
    refine getmeth_ok J ea hc hm l ?_
    exact cw_K (first := [.ref a]) J hm.kp pa pk hall hks hpl q fun vs us zs ws H2 s2 I2 r rz ⟨l1, l2, q⟩ => run_gk (fi := [.ref a]) (fz := [.ref a]) F hg hr hb hx I2 (.cons (show L2.RelV (.ref a) (.ref a) from rfl) .nil) r rz rfl l1 l2 q
  · refine so sl W σ H _ X' _ hs rp h (fun d W1 v H1 q1 x1 r1 a1 => ?_) px
    cases a1 with
    | @ins a dx n' vs ds h1 l1 f1 t1 =>
      obtain ⟨e1, q1⟩ := q1
      subst e1
      refine ⟨a, dx, _, rfl, h1, lookup_zip_none hnf, ?_⟩
      refine sa sl W1 σ H1 _ X' _ (hs.ext x1) r1 q1 (fun es W2 us H2 q2 x2 r2 a2 => ?_) (px.st x1)
      refine sk sl W2 σ H2 _ X' _ ((hs.ext x1).ext x2) r2 q2 (fun fs W3 ws H3 q3 x3 r3 a3 => ?_) ((px.st x1).st x2)
      obtain ⟨l2, l3, q3⟩ := q3
      exact ⟨a2.length.symm.trans l2, a3.length.symm.trans l3, _, W3, Q', X', .cons (At.ext x3 (At.ext x2 (.ins h1 l1 f1 t1))) (pick_at pm (atl_app (a2.ext x3) a3)), r3, q3, ((pe.st x1).st x2).st x3, ((px.st x1).st x2).st x3⟩
    | _ => exact q1.elim
end
end DL
namespace DL
open PySem PySem.Spec PyProof.Rows L2
theorem DFn.no {P : Program} {w : World} {K : PySem.W.Frag} {mg : Str → Option Value} {base : Heap} {T : Tb} {CX : CXT} {k : Nat} {f : Addr} {fd : FuncData} {ps : List Str} {S : SD} (h : ∀ ds cs Q X', S ds cs Q X' → False) : DFn P w K mg base T CX k f fd ps S :=
  ⟨fun _ _ _ _ ⟨_, _, _, _, _, _, q, _⟩ => (h _ _ _ _ q).elim, fun _ _ _ _ _ _ _ _ _ _ _ _ _ _ ⟨_, _, _, _, _, _, q, _⟩ => (h _ _ _ _ q).elim⟩
end DL
namespace DL
open PySem PySem.Spec PyProof.Rows L2

/-! ### dicts with tuples as keys -/
def keyD : Key → D
  | .inl i => .int i
  | .inr x => .str x
def unkey : D → Option Key
  | .int i => some (.inl i)
  | .str x => some (.inr x)
  | _ => none
def unkeys : List D → Option (List Key)
  | [] => some []
  | d :: ds => match unkey d, unkeys ds with
    | some k, some ks => some (k :: ks)
    | _, _ => none
section
variable {K : PySem.W.Frag} {T : Tb} {W : Wd} {H : Hp}
theorem unkey_at {d : D} {v : V} {k : Key} (a : At K T W H d v) (h : unkey d = some k) : v = kV k := by
  cases a with
  | int i => cases h; rfl
  | str x => cases h; rfl
  | _ => cases h
theorem unkeys_at : ∀ {ds : List D} {vs : List V} {ks : List Key}, AtL K T W H ds vs → unkeys ds = some ks → vs = ks.map kV
  | _, _, _, .nil, h => by cases h; rfl
  | _, _, _, .cons (d := d) (ds := ds) a t, h => by
    unfold unkeys at h
    cases e1 : unkey d with
    | none => rw [e1] at h; cases h
    | some k =>
      cases e2 : unkeys ds with
      | none => rw [e1, e2] at h; cases h
      | some ks =>
        rw [e1, e2] at h
        cases h
        rw [unkey_at a e1, unkeys_at t e2]
        rfl
theorem keyD_at : ∀ k : Key, At K T W H (keyD k) (kV k)
  | .inl i => .int i
  | .inr x => .str x
theorem keysD_at : ∀ ks : List Key, AtL K T W H (ks.map keyD) (ks.map kV)
  | [] => .nil
  | k :: ks => .cons (keyD_at k) (keysD_at ks)
/-- the key behind a datum -/
def tkey : D → Option (List Key)
  | .tup ds => unkeys ds
  | _ => none
theorem tkey_at {d : D} {v : V} {k : List Key} (a : At K T W H d v) (h : tkey d = some k) : ∃ b, v = .ref b ∧ H b = some (.tup (k.map kV)) := by
  cases a with
  | @tup b vs ds h1 f1 t1 =>
    have := unkeys_at t1 h
    exact ⟨b, rfl, by rw [h1, this]⟩
  | _ => cases h
abbrev KD := List (List Key × D)
def valD (kvs : KD) (k : List Key) : Option D := (kvs.find? fun kv => decide (kv.1 = k)).map (·.2)
def putD (kvs : KD) (k : List Key) (d : D) : KD := if (kvs.any fun kv => decide (kv.1 = k)) = true then kvs.map (fun kv => if kv.1 = k then (kv.1, d) else kv) else kvs ++ [(k, d)]
theorem valD_zip (k : List Key) : ∀ (kvs : KD) (vs : List V), AtL K T W H (kvs.map (·.2)) vs → match valD kvs k with
    | some d => ∃ v, valV ((kvs.map (·.1)).zip vs) k = some v ∧ At K T W H d v
    | none => valV ((kvs.map (·.1)).zip vs) k = none
  | [], _, .nil => rfl
  | (j, e) :: r, _, .cons (v := u) (vs := vs) a t => by
    by_cases q : j = k
    · subst q
      simp only [valD, List.find?_cons, decide_true, Option.map_some]
      exact ⟨u, by simp [valV, List.find?_cons], a⟩
    · have ih := valD_zip k r vs t
      simp only [valD, List.map_cons, List.zip_cons_cons, valV, List.find?_cons, decide_eq_false q] at ih ⊢
      exact ih
theorem any_zip (k : List Key) : ∀ (kvs : KD) (vs : List V), AtL K T W H (kvs.map (·.2)) vs → ((kvs.map (·.1)).zip vs).any (fun kv => decide (kv.1 = k)) = kvs.any fun kv => decide (kv.1 = k)
  | [], _, .nil => rfl
  | (j, e) :: r, _, .cons (v := u) (vs := vs) a t => by
    simp only [List.map_cons, List.zip_cons_cons, List.any_cons, any_zip k r vs t]
theorem map_zip {d : D} {v : V} (k : List Key) (b : At K T W H d v) : ∀ (kvs : KD) (vs : List V), AtL K T W H (kvs.map (·.2)) vs → ∃ us,
    ((kvs.map (·.1)).zip vs).map (fun kv => if kv.1 = k then (kv.1, v) else kv) = ((kvs.map fun kv => if kv.1 = k then (kv.1, d) else kv).map (·.1)).zip us ∧
      AtL K T W H ((kvs.map fun kv => if kv.1 = k then (kv.1, d) else kv).map (·.2)) us
  | [], _, .nil => ⟨[], rfl, .nil⟩
  | (j, e) :: r, _, .cons (v := u) (vs := vs) a t => by
    obtain ⟨us, h1, h2⟩ := map_zip k b r vs t
    by_cases q : j = k
    · refine ⟨v :: us, ?_, ?_⟩
      · simp only [List.map_cons, List.zip_cons_cons, if_pos q, h1]
      · simp only [List.map_cons, if_pos q]
        exact .cons b h2
    · refine ⟨u :: us, ?_, ?_⟩
      · simp only [List.map_cons, List.zip_cons_cons, if_neg q, h1]
      · simp only [List.map_cons, if_neg q]
        exact .cons a h2
theorem zip_snoc {k : List Key} {v : V} : ∀ (kvs : KD) (vs : List V), AtL K T W H (kvs.map (·.2)) vs → (kvs.map (·.1)).zip vs ++ [(k, v)] = ((kvs.map (·.1)) ++ [k]).zip (vs ++ [v])
  | [], _, .nil => rfl
  | (j, e) :: r, _, .cons a t => by
    simp only [List.map_cons, List.zip_cons_cons, List.cons_append, zip_snoc r _ t]
theorem putD_zip {d : D} {v : V} (k : List Key) (b : At K T W H d v) (kvs : KD) (vs : List V) (t : AtL K T W H (kvs.map (·.2)) vs) : ∃ us,
    putK ((kvs.map (·.1)).zip vs) k v = ((putD kvs k d).map (·.1)).zip us ∧ AtL K T W H ((putD kvs k d).map (·.2)) us := by
  unfold putK putD
  rw [any_zip k kvs vs t]
  by_cases q : (kvs.any fun kv => decide (kv.1 = k)) = true
  · rw [if_pos q, if_pos q]
    exact map_zip k b kvs vs t
  · rw [if_neg q, if_neg q]
    refine ⟨vs ++ [v], ?_, ?_⟩
    · rw [zip_snoc kvs vs t, List.map_append, List.map_singleton]
    · rw [List.map_append, List.map_singleton]
      exact t.append (.cons b .nil)
/-- the dict behind a datum, locked or not -/
def dictT (cs : Cells) : D → Option KD
  | .root j => match cs[j]? with
    | some (.dT kvs) => some kvs
    | some (.zT kvs) => some kvs
    | _ => none
  | _ => none
def dictLive (cs : Cells) : D → Option (Nat × KD)
  | .root j => match cs[j]? with
    | some (.dT kvs) => some (j, kvs)
    | _ => none
  | _ => none
theorem dictT_at {d : D} {v : V} {kvs : KD} (r : Rep K T W H) (a : At K T W H d v) (h : dictT W.cs d = some kvs) : ∃ l vs, v = .ref l ∧ Rd H l (.dT ((kvs.map (·.1)).zip vs)) ∧ AtL K T W H (kvs.map (·.2)) vs := by
  cases a with
  | @root j l h1 =>
    have h : (match W.cs[j]? with
      | some (.dT kvs) => some kvs
      | some (.zT kvs) => some kvs
      | _ => none) = some kvs := h
    split at h
    · rename_i ec
      cases h
      obtain ⟨vs, e1, e2⟩ := r.cell _ _ _ h1 ec
      exact ⟨l, vs, rfl, .inl e1, e2⟩
    · rename_i ec
      cases h
      obtain ⟨o, vs, e1, _, e2⟩ := r.cell _ _ _ h1 ec
      exact ⟨l, vs, rfl, .inr ⟨o, e1⟩, e2⟩
    · cases h
  | _ => cases h
theorem dictLive_at {d : D} {v : V} {j : Nat} {kvs : KD} (r : Rep K T W H) (a : At K T W H d v) (h : dictLive W.cs d = some (j, kvs)) :
    ∃ l vs, v = .ref l ∧ W.A[j]? = some l ∧ W.cs[j]? = some (.dT kvs) ∧ H l = some (.dT ((kvs.map (·.1)).zip vs)) ∧ AtL K T W H (kvs.map (·.2)) vs := by
  cases a with
  | @root i l h1 =>
    have h : (match W.cs[i]? with
      | some (.dT kvs) => some (i, kvs)
      | _ => none) = some (j, kvs) := h
    split at h
    · rename_i ec
      cases h
      obtain ⟨vs, e1, e2⟩ := r.cell _ _ _ h1 ec
      exact ⟨l, vs, rfl, h1, ec, e1, e2⟩
    · cases h
  | _ => cases h
end
section
variable {X : Cx} {T : Tb} {E : XK} {o i e f : Expr} {mo mi me mf : WE} {pos apos cpos : Pos}
def wDNew : WE := fun _ cs Q _ => Q (.root cs.length) (cs ++ [.dT []])
theorem de_dnew : DE X T E (.Dict [] [] pos) wDNew := by
  refine ⟨_, pe_dnewT, fun sl W σ H Q' X' Q hs rp h p px q hq => ?_⟩
  refine p _ (W.push q (.dT [])) _ _ h (.pushed rp hq) (rp.pushed hq ⟨[], upd_same, .nil⟩) (.root ?_)
  show (W.A ++ [q])[W.cs.length]? = some q
  rw [← rp.len, List.getElem?_append_right (Nat.le_refl _), Nat.sub_self]
  rfl
/-- d[k] -/
def wDIx (mo mi : WE) : WE := fun sl cs Q X => mo sl cs (fun d cs1 => mi sl cs1 (fun y cs2 => match dictT cs2 d, tkey y with
  | some kvs, some k => match valD kvs k with
    | some e => Q e cs2
    | none => False
  | _, _ => False) X) X
theorem de_dix (hu : X.A.units + 1 < cLine) (ho : DE X T E o mo) (hi : DE X T E i mi) (hs : NoSl i := by intro _ _; rfl) : DE X T E (.Subscript o i pos) (wDIx mo mi) := by
  obtain ⟨to, po, so⟩ := ho.ex
  obtain ⟨ti, pi, si⟩ := hi.ex
  refine ⟨_, pe_dget hu po pi hs, fun sl W σ H Q' X' Q hs rp h p px => ?_⟩
  refine so sl W σ H _ X' _ hs rp h (fun d W1 v H1 q1 x1 r1 a1 => ?_) px
  refine si sl W1 σ H1 _ X' _ (hs.ext x1) r1 q1 (fun y W2 u H2 q2 x2 r2 a2 => ?_) (px.st x1)
  split at q2
  · rename_i kvs k e1 e2
    obtain ⟨l, vs, rfl, rd, t⟩ := dictT_at r2 (a1.ext x2) e1
    obtain ⟨b, rfl, hb⟩ := tkey_at a2 e2
    have z := valD_zip k kvs vs t
    split at q2
    · rename_i e ev
      rw [ev] at z
      obtain ⟨w, z1, z2⟩ := z
      exact ⟨l, w, rfl, .inr ⟨_, k, b, rd, rfl, hb, z1.symm⟩, p _ W2 _ H2 q2 (x1.trans x2) r2 z2⟩
    · exact q2.elim
  · exact q2.elim
/-- d.get(k, x) -/
def wDGet (mo mi mf : WE) : WE := fun sl cs Q X => mo sl cs (fun d cs1 => (dictT cs1 d).isSome = true ∧ mi sl cs1 (fun y cs2 => mf sl cs2 (fun z cs3 => match dictT cs3 d, tkey y with
  | some kvs, some k => Q ((valD kvs k).getD z) cs3
  | _, _ => False) X) X) X
theorem de_dget2 (hu : X.A.units + 1 < cLine) (ho : DE X T E o mo) (hi : DE X T E e mi) (hf : DE X T E f mf) (m : M2 X o "get" apos e f cpos := by exact ⟨rfl, rfl, rfl, rfl⟩) : DE X T E (.Call (.Attribute o "get" apos) [e, f] [] cpos) (wDGet mo mi mf) := by
  obtain ⟨to, po, so⟩ := ho.ex
  obtain ⟨ti, pi, si⟩ := hi.ex
  obtain ⟨tf, pf, sf⟩ := hf.ex
  refine ⟨_, pe_dget2 hu po pi pf m, fun sl W σ H Q' X' Q hs rp h p px => ?_⟩
  refine so sl W σ H _ X' _ hs rp h (fun d W1 v H1 q1 x1 r1 a1 => ?_) px
  obtain ⟨q0, q1⟩ := q1
  obtain ⟨kvs0, e0⟩ := Option.isSome_iff_exists.mp q0
  obtain ⟨l, vs0, rfl, rd0, t0⟩ := dictT_at r1 a1 e0
  refine ⟨l, rfl, .inr ⟨_, rd0⟩, ?_⟩
  refine si sl W1 σ H1 _ X' _ (hs.ext x1) r1 q1 (fun y W2 u H2 q2 x2 r2 a2 => ?_) (px.st x1)
  refine sf sl W2 σ H2 _ X' _ ((hs.ext x1).ext x2) r2 q2 (fun z W3 w H3 q3 x3 r3 a3 => ?_) ((px.st x1).st x2)
  split at q3
  · rename_i kvs k e1 e2
    obtain ⟨l', vs, el, rd, t⟩ := dictT_at r3 ((a1.ext x2).ext x3) e1
    cases el
    obtain ⟨b, rfl, hb⟩ := tkey_at (a2.ext x3) e2
    have zz := valD_zip k kvs vs t
    cases ev : valD kvs k with
    | some e =>
      rw [ev] at zz q3
      obtain ⟨w', z1, z2⟩ := zz
      exact ⟨some w', .inr ⟨_, k, b, rd, rfl, hb, z1.symm⟩, p _ W3 _ H3 q3 ((x1.trans x2).trans x3) r3 z2⟩
    | none =>
      rw [ev] at zz q3
      exact ⟨none, .inr ⟨_, k, b, rd, rfl, hb, zz.symm⟩, p _ W3 _ H3 q3 ((x1.trans x2).trans x3) r3 a3⟩
  · exact q3.elim
/-- d[k] = e -/
def wDPut (mo mi me : WE) : WS := fun D0 sl cs => me sl cs (fun d cs1 => mo sl cs1 (fun o cs2 => mi sl cs2 (fun y cs3 => match dictLive cs3 o, tkey y with
  | some (j, kvs), some k => kvs.length < sizeLine ∧ D0.nx sl (cs3.set j (.dT (putD kvs k d)))
  | _, _ => False) D0.xq) D0.xq) D0.xq
theorem ds_dput {pos' : Pos} (hu : X.A.units + 1 < cLine) (ho : DE X T E o mo) (hi : DE X T E i mi) (he : DE X T E e me) (hs : swapsWith e (some (.Subscript o i pos')) pos.line X.env = pure false := by rfl) :
    DS X T E (.Assign [.Subscript o i pos'] e pos) (wDPut mo mi me) := by
  obtain ⟨to, po, so⟩ := ho.ex
  obtain ⟨ti, pi, si⟩ := hi.ex
  obtain ⟨te, pe, se⟩ := he.ex
  refine ⟨_, ps_dput hu po pi pe hs, fun sl W σ H D' Dn hs rp h p => ?_⟩
  refine se sl W σ H _ _ _ hs rp h (fun d W1 v H1 q1 x1 r1 a1 => ?_) p.xq
  refine so sl W1 σ H1 _ _ _ (hs.ext x1) r1 q1 (fun o W2 u H2 q2 x2 r2 a2 => ?_) (p.xq.st x1)
  refine si sl W2 σ H2 _ _ _ ((hs.ext x1).ext x2) r2 q2 (fun y W3 w H3 q3 x3 r3 a3 => ?_) ((p.xq.st x1).st x2)
  split at q3
  · rename_i j kvs k e1 e2
    obtain ⟨hz, q3⟩ := q3
    obtain ⟨l, vs, rfl, h1, h2, h3, t⟩ := dictLive_at r3 (a2.ext x3) e1
    obtain ⟨b, rfl, hb⟩ := tkey_at a3 e2
    have hl : ((kvs.map (·.1)).zip vs).length < sizeLine := by
      rw [List.length_zip, List.length_map]
      omega
    refine ⟨l, _, rfl, DPut.t h3 hb hl, ?_⟩
    obtain ⟨us, z1, z2⟩ := putD_zip k ((a1.ext x2).ext x3) kvs vs t
    have ex : Ext W3 H3 (W3.put j (.dT (putD kvs k d))) (upd H3 l (.dT (putK ((kvs.map (·.1)).zip vs) k v))) := .put h1 h2 trivial
    refine p.nx sl (W3.put j (.dT (putD kvs k d))) σ _ q3 (((x1.trans x2).trans x3).trans ex) (r3.put h1 h2 trivial ⟨us, by rw [upd_same, z1], z2.ext ex⟩) ((hs.ext x1).ext (x2.trans (x3.trans ex)))
  · exact q3.elim
end
end DL
namespace DL
open PySem PySem.Spec PyProof.Rows L2

section
variable {K : PySem.W.Frag} {T : Tb} {W : Wd} {H : Hp}
/-- tuples are neither live nor set aside -/
theorem Rep.tup_fz (r : Rep K T W H) {q : Addr} {xs : List V} (h : H q = some (.tup xs)) : W.Fz q := by
  refine ⟨fun ⟨j, c, h1, h2, h3⟩ => ?_, fun g => ?_⟩
  · have z := r.cell j q c h1 h2
    cases c with
    | lst ds => obtain ⟨vs, e, _⟩ := z; rw [h] at e; cases e
    | dK kvs => obtain ⟨vs, e, _⟩ := z; rw [h] at e; cases e
    | dT kvs => obtain ⟨vs, e, _⟩ := z; rw [h] at e; cases e
    | ins n fs => obtain ⟨dx, vs, e, _⟩ := z; rw [h] at e; cases e
    | fz d => exact h3.elim
    | zT kvs => exact h3.elim
    | dN kvs => obtain ⟨ws, e, _⟩ := z; rw [h] at e; cases e
    | zN kvs => exact h3.elim
  · obtain ⟨u, e, n⟩ := r.gth q g
    rw [h] at e
    cases e
    exact n xs rfl
end
section
variable {X : Cx} {T : Tb} {E : XK} {tg e : Expr} {m : WE} {td : TE}
/-- a dict with tuples as keys is walked: it is locked -/
def iKeysT (td : TE) : TI := fun σ H R => td σ H fun x H1 => ∃ d, x = .ref d ∧ ((∃ kvs, H1 d = some (.dT kvs) ∧ ∀ o, R (Itkt d o kvs) (upd H1 d (.frz o (.dT kvs)))) ∨ ∃ o kvs, H1 d = some (.frz o (.dT kvs)) ∧ R (Itkt d o kvs) H1)
theorem pi_keysT (he : PE X e td) : PI X tg e (iKeysT td) := by
  refine ⟨fun pins s σ H R I h => ?_⟩
  refine thn (he.run pins s σ H _ I h) fun u s1 ⟨x, H1, I1, rx, d, ex, q⟩ => ?_
  subst ex
  obtain rfl : u = Value.ref d := rx
  rcases q with ⟨kvs, hd, q⟩ | ⟨o, kvs, hd, q⟩
  · obtain ⟨o, I2⟩ := I1.lock hd (by first | trivial | decide | exact .dT _ | constructor)
    obtain ⟨hs, hgd, hx, es, ep, hdt, hsz, ent⟩ := I2.frzT upd_same
    refine iter_keys hs hgd hx hdt (pi_one (tk := s1.toks) I2 _ (turn_keysT _ hdt) ⟨_, Heap.get?_push_size _ rfl, rfl, ?_⟩ (q o))
    rw [hsz] <;> rfl
  · obtain ⟨hs, hgd, hx, es, ep, hdt, hsz, ent⟩ := I1.frzT hd
    refine iter_keys hs hgd hx hdt (pi_one (tk := s1.toks) I1 _ (turn_keysT _ hdt) ⟨_, Heap.get?_push_size _ rfl, rfl, ?_⟩ q)
    rw [hsz] <;> rfl
def keyT (kvs : KD) : List D := kvs.map fun kv => .tup (kv.1.map keyD)
def wKeys (m : WE) : WA := fun sl cs Q X => m sl cs (fun d cs1 => match d with
  | .root j => match cs1[j]? with
    | some (.dT kvs) => Q (keyT kvs) (cs1.set j (.zT kvs))
    | some (.zT kvs) => Q (keyT kvs) cs1
    | _ => False
  | _ => False) X
theorem it_keysT {K : PySem.W.Frag} {W0 : Wd} {H0 : Hp} {d : Addr} {o : Obj} {kvs : KD} {vs : List V} (h : H0 d = some (.frz o (.dT ((kvs.map (·.1)).zip vs)))) (f : W0.Fz d) (hl : vs.length = kvs.length) : ItOK K T (Itkt d o ((kvs.map (·.1)).zip vs)) (keyT kvs) W0 H0 := by
  have hz : ((kvs.map (·.1)).zip vs).length = (keyT kvs).length := by
    unfold keyT
    rw [List.length_zip, List.length_map, List.length_map]; omega
  refine ⟨fun i W H x r hi => ⟨(x.fz _ _ h f).1, by rw [hz]; exact hi⟩, fun i W H y H' x r hi hy => ?_, fun i W H x r hi => ⟨(x.fz _ _ h f).1, by rw [hz]; exact hi⟩⟩
  obtain ⟨e, k, v, q, h1, h2, h3⟩ := hy
  subst e h2
  refine ⟨.tup (k.map keyD), ?_, .refl, r, .tup h3 (r.tup_fz h3) (keysD_at k)⟩
  have h4 : (((kvs.map (·.1)).zip vs).map (·.1))[i]? = some k := by rw [List.getElem?_map, h1]; rfl
  rw [List.map_fst_zip (by rw [List.length_map]; omega), List.getElem?_map] at h4
  unfold keyT
  rw [List.getElem?_map]
  cases q : kvs[i]? with
  | none => rw [q] at h4; cases h4
  | some p => rw [q] at h4; cases h4; rfl
theorem di_keys (he : DE X T E e m) : DI X T E tg e (wKeys m) := by
  obtain ⟨t, p, s⟩ := he.ex
  refine ⟨_, pi_keysT p, fun sl W σ H Q' X' R hs rp h k px => ?_⟩
  refine s sl W σ H _ X' _ hs rp h (fun d W1 v H1 q1 x1 r1 a1 => ?_) px
  cases a1 with
  | @root j l h1 =>
    have q1 : (match W1.cs[j]? with
      | some (.dT kvs) => Q' (keyT kvs) (W1.cs.set j (.zT kvs))
      | some (.zT kvs) => Q' (keyT kvs) W1.cs
      | _ => False) := q1
    refine ⟨l, rfl, ?_⟩
    split at q1
    · rename_i kvs ec
      obtain ⟨vs, e1, e2⟩ := r1.cell _ _ _ h1 ec
      refine .inl ⟨_, e1, fun o => ?_⟩
      obtain ⟨r2, x2⟩ := r1.lockT (o := o) h1 ec e2
      have h1' : (W1.put j (.zT kvs)).A[j]? = some l := h1
      have ec' : (W1.put j (.zT kvs)).cs[j]? = some (.zT kvs) := List.getElem?_set_self (List.getElem?_eq_some_iff.mp ec).1
      obtain ⟨o', vs', g1, g2, g3⟩ := r2.cell j l _ h1' ec'
      refine k _ (W1.put j (.zT kvs)) _ _ q1 (x1.trans x2) r2 (it_keysT upd_same g2 (by rw [← e2.length, List.length_map]))
    · rename_i kvs ec
      obtain ⟨o, vs, e1, g2, e2⟩ := r1.cell _ _ _ h1 ec
      exact .inr ⟨o, _, e1, k _ W1 _ H1 q1 x1 r1 (it_keysT e1 g2 (by rw [← e2.length, List.length_map]))⟩
    · exact q1.elim
  | _ => exact q1.elim
end
end DL
namespace DL
open PySem PySem.Spec PyProof.Rows L2

/-! ### sorted(xs), plain data -/
def rSortD (K : PySem.W.Frag) : List V → Hp → VK → Prop := fun vs H Q => ∃ (a : Addr) (bs : List (V × PyData)), vs = [V.ref a] ∧ SqL K H a (bs.map (·.1)) ∧ (∀ b ∈ bs, Dp K H b.1 b.2) ∧ PySem.W.AllAlike (bs.map (·.2)) ∧ PySem.W.Sortable (bs.map (·.2)) ∧ (∀ b ∈ bs, b.2.depth ≤ 60) ∧
  ∀ p, H p = none → Q (.ref p) (upd H p (.lst ((bs.mergeSort (PySem.W.dataLe false (·.2))).map (·.1))))
theorem each_of {R : Value → V × PyData → Prop} : ∀ {bs : List (V × PyData)} {its : List Value}, Vals (bs.map (·.1)) its → (∀ b ∈ bs, ∀ u, RelV b.1 u → R u b) → PySem.W.EachIs R its bs
  | [], _, .nil, _ => .nil
  | b :: bs, _, .cons r t, h => .cons (h b List.mem_cons_self _ r) (each_of t fun c hc => h c (List.mem_cons_of_mem _ hc))
theorem each_vals : ∀ {bs : List (V × PyData)} {out : List Value}, PySem.W.EachIs (fun v b => RelV b.1 v) out bs → Vals (bs.map (·.1)) out
  | [], _, .nil => .nil
  | b :: bs, _, .cons r t => .cons r (each_vals t)
section
variable {X : Cx}
theorem cr_sortedD (hu : X.A.units + 64 < cLine) : CallR X (.builtin "sorted") (rSortD X.K) := by
  intro pins s σ H vs us Q I r h
  obtain ⟨a, bs, rfl, hs, hp, hal, hk, hd, q⟩ := h
  obtain ⟨its, rv, hl, hz⟩ := I.list hs
  obtain ⟨u, rfl, ru⟩ := vals1 r
  obtain rfl : u = Value.ref a := ru
  have hz2 : bs.length ≤ sizeLine := by rw [List.length_map] at hz; exact hz
  refine PySem.W.sorted_data (β := V × PyData) (enc := (·.2)) (R := fun v b => RelV b.1 v) (bs := bs) (vs := its) hl.isList (each_of rv fun b _ u r => r) (each_of rv fun b hb u r => Dp.reads I _ _ _ (hp b hb) r) hal hk hz2 (fun b hb => ?_) fun out ho he => ?_
  · have := hd b hb
    omega
  · obtain ⟨c, hc⟩ := sortedAll_at s.heap its out.toArray
    have hn : H (s.heap.objs.size + 1) = none := I.hok.fresh (Nat.le_succ _)
    refine ⟨.ref (s.heap.objs.size + 1), upd H (s.heap.objs.size + 1) (.lst ((bs.mergeSort (PySem.W.dataLe false (·.2))).map (·.1))), I.laid (a := s.heap.objs.size + 1) (t' := s.toks) (fun _ _ => sortedAll_old) (Nat.le_succ _) ⟨?_, out, c, each_vals he, hc⟩, rfl, q _ hn⟩
    rw [List.length_map, List.length_mergeSort]
    exact hz2
end
/-- all items as plain data -/
def pyAll (cs : Cells) (ds : List D) : Option (List PyData) := pyWL (cellPy cs (cellPy cs (cellPy cs fun _ => none))) ds
def gSorted : GL := g1 fun d cs Q => match lisD cs d with
  | some ds => match pyAll cs ds with
    | some ps => PySem.W.AllAlike ps ∧ PySem.W.Sortable ps ∧ (∀ p ∈ ps, p.depth ≤ 60) ∧ Q (.lst (((ds.zip ps).mergeSort (PySem.W.dataLe false (·.2))).map (·.1))) cs
    | none => False
  | none => False
theorem pyWL_len {f : Nat → Option PyData} : ∀ {ds : List D} {ps : List PyData}, pyWL f ds = some ps → ps.length = ds.length
  | [], _, h => by simp only [pyWL] at h; cases h; rfl
  | d :: ds, _, h => by
    simp only [pyWL] at h
    split at h
    · rename_i p qs e1 e2
      cases h
      rw [List.length_cons, List.length_cons, pyWL_len e2]
    · cases h
section
variable {K : PySem.W.Frag} {T : Tb} {W : Wd} {H : Hp}
theorem triples : ∀ {ds : List D} {vs : List V} {ps : List PyData}, AtL K T W H ds vs → DpAll K H vs ps →
    ∃ L : List (D × V × PyData), ds = L.map (·.1) ∧ vs = L.map (·.2.1) ∧ ps = L.map (·.2.2) ∧ ∀ t ∈ L, At K T W H t.1 t.2.1 ∧ Dp K H t.2.1 t.2.2
  | [], _, _, .nil, .nil => ⟨[], rfl, rfl, rfl, fun _ h => nomatch h⟩
  | d :: ds, _, _, .cons (v := v) a t, .cons (d := p) b u => by
    obtain ⟨L, h1, h2, h3, h4⟩ := triples t u
    refine ⟨(d, v, p) :: L, by rw [h1]; rfl, by rw [h2]; rfl, by rw [h3]; rfl, fun x hx => ?_⟩
    rcases List.mem_cons.mp hx with e | hx
    · rw [e]; exact ⟨a, b⟩
    · exact h4 x hx
theorem atL_map : ∀ {L : List (D × V × PyData)}, (∀ t ∈ L, At K T W H t.1 t.2.1) → AtL K T W H (L.map (·.1)) (L.map (·.2.1))
  | [], _ => .nil
  | t :: L, h => .cons (h t List.mem_cons_self) (atL_map fun x hx => h x (List.mem_cons_of_mem _ hx))
theorem ok_sortedD : OkL K T (rSortD K) gSorted := ok_1 fun W H d v Q' Q r a q p => by
  split at q
  · rename_i ds e
    split at q
    · rename_i ps ep
      obtain ⟨hal, hk, hd, q⟩ := q
      obtain ⟨l, vs, rfl, h, t⟩ := lisD_at r a e
      obtain ⟨L, h1, h2, h3, h4⟩ := triples t (pyWL_at (cellPy_at r (cellPy_at r (cellPy_at r fun _ _ _ z => by cases z))) ds vs ps ep t)
      have e1 : (L.map fun t => ((t.2.1, t.2.2) : V × PyData)).map (·.1) = vs := by rw [List.map_map, h2]; rfl
      have e2 : (L.map fun t => ((t.2.1, t.2.2) : V × PyData)).map (·.2) = ps := by rw [List.map_map, h3]; rfl
      have m1 : (L.map fun t => ((t.2.1, t.2.2) : V × PyData)).mergeSort (PySem.W.dataLe false (·.2)) = (L.mergeSort (PySem.W.dataLe false (·.2.2))).map fun t => (t.2.1, t.2.2) :=
        (PySem.W.sort_maps (r := PySem.W.dataLe false fun t : D × V × PyData => t.2.2) (s := PySem.W.dataLe false fun b : V × PyData => b.2) (fun t => (t.2.1, t.2.2)) (l := L) fun _ _ _ _ => rfl).symm
      have m2 : ds.zip ps = L.map fun t => ((t.1, t.2.2) : D × PyData) := by
        rw [h1, h3]
        clear h1 h2 h3 h4 e1 e2 m1
        induction L with
        | nil => rfl
        | cons x L ih => simp only [List.map_cons, List.zip_cons_cons, ih]
      have m3 : (L.map fun t => ((t.1, t.2.2) : D × PyData)).mergeSort (PySem.W.dataLe false (·.2)) = (L.mergeSort (PySem.W.dataLe false (·.2.2))).map fun t => (t.1, t.2.2) :=
        (PySem.W.sort_maps (r := PySem.W.dataLe false fun t : D × V × PyData => t.2.2) (s := PySem.W.dataLe false fun b : D × PyData => b.2) (fun t => (t.1, t.2.2)) (l := L) fun _ _ _ _ => rfl).symm
      refine ⟨l, L.map fun t => (t.2.1, t.2.2), rfl, by rw [e1]; exact h, fun b hb => ?_, by rw [e2]; exact hal, by rw [e2]; exact hk, fun b hb => ?_, fun pp hp => ?_⟩
      · obtain ⟨t, ht, rfl⟩ := List.mem_map.mp hb
        exact (h4 t ht).2
      · exact hd b.2 (by rw [← e2]; exact List.mem_map.mpr ⟨b, hb, rfl⟩)
      · rw [m2, m3, List.map_map] at q
        have am : ∀ t ∈ L.mergeSort (PySem.W.dataLe false (·.2.2)), At K T W H t.1 t.2.1 := fun t ht => (h4 t ((List.mergeSort_perm L _).mem_iff.mp ht)).1
        refine p _ W _ _ q (.laid hp) (r.laid hp) (.lst (vs := (L.mergeSort (PySem.W.dataLe false (·.2.2))).map (·.2.1)) ?_ (r.fresh hp) ((atL_map am).ext (.laid hp)))
        rw [upd_same, m1, List.map_map]
        rfl
    · exact q.elim
  · exact q.elim
end
end DL
namespace DL
open PySem PySem.Spec PyProof.Rows L2

/-! ### dict(xs) of a list of pairs, keys tuples, each once -/
abbrev PrQ := Addr × Addr × List Key × V
def rDictT (K : PySem.W.Frag) : List V → Hp → VK → Prop := fun xs H Q => ∃ (a : Addr) (qs : List PrQ), xs = [.ref a] ∧ SqL K H a (qs.map fun q => V.ref q.1) ∧
  (∀ q ∈ qs, SqT K H q.1 [.ref q.2.1, q.2.2.2] ∧ H q.2.1 = some (.tup (q.2.2.1.map kV))) ∧ (qs.map fun q => q.2.2.1).Nodup ∧ ∀ p, H p = none → Q (.ref p) (upd H p (.dT (qs.map fun q => (q.2.2.1, q.2.2.2))))
theorem pq_of {X : Cx} {pins : List (Addr × Obj)} {σ : L2.St} {H : Hp} {s : Shared} (I : Inv X pins σ H s) : ∀ {qs : List PrQ}, (∀ q ∈ qs, SqT X.K H q.1 [.ref q.2.1, q.2.2.2] ∧ H q.2.1 = some (.tup (q.2.2.1.map kV))) →
    ∃ us : List Value, us.length = qs.length ∧ ∀ (j : Nat) (q : PrQ), qs[j]? = some q → ∃ u, us[j]? = some u ∧ L2.RelV q.2.2.2 u ∧ IsTup s.heap q.1 #[.ref q.2.1, u]
  | [], _ => ⟨[], rfl, fun j q e => by simp at e⟩
  | q :: qs, h => by
    obtain ⟨us, hl, hp⟩ := pq_of I fun z hz => h z (List.mem_cons_of_mem _ hz)
    obtain ⟨h1, h2⟩ := h q List.mem_cons_self
    obtain ⟨its, rv, ht, _⟩ := I.tuple h1
    obtain ⟨x, y, ei, ru, ry⟩ := vals2 rv
    subst ei
    cases ru
    refine ⟨y :: us, by rw [List.length_cons, List.length_cons, hl], fun j z e => ?_⟩
    cases j with
    | zero =>
      have e : q = z := Option.some.inj e
      subst e
      exact ⟨y, rfl, ry, ht⟩
    | succ j =>
      obtain ⟨u, e1, e2⟩ := hp j z (by simpa using e)
      exact ⟨u, by simpa using e1, e2⟩
theorem paired_map {α β γ : Type} {R : α → β → Prop} (f : γ → α) (g : γ → β) : ∀ {l : List γ}, (∀ x ∈ l, R (f x) (g x)) → Paired R (l.map f) (l.map g)
  | [], _ => .nil
  | x :: l, h => .cons (h x List.mem_cons_self) (paired_map f g fun y hy => h y (List.mem_cons_of_mem _ hy))
theorem call_dictT {X : Cx} (hcalm : X.calm = true) (hu : X.A.units + 64 < cLine) : CallR X (.type "dict") (rDictT X.K) := by
  intro pins s σ H xs us Q I r q
  obtain ⟨a, qs, ex, hq, hp, nd, q⟩ := q
  subst ex
  obtain ⟨u, eu, rx⟩ := vals1 r
  subst eu
  cases rx
  obtain ⟨its, rv, pl, hz⟩ := I.list hq
  have ei : its = (qs.map fun q => q.1).map Value.ref := refs_at (by rw [List.map_map]; exact rv)
  subst ei
  rw [List.length_map] at hz
  obtain ⟨us, hl, hus⟩ := pq_of I hp
  obtain ⟨o, n, ho, hc, hd, hdat⟩ := pl
  -- the triples (key, where it stands, value)
  have hz2 : ∀ q ∈ qs.zip us, q.1 ∈ qs := fun q h => (List.of_mem_zip h).1
  have getz : ∀ (j : Nat) (q : PrQ), qs[j]? = some q → ∃ u, us[j]? = some u ∧ (qs.zip us)[j]? = some (q, u) ∧ L2.RelV q.2.2.2 u ∧ IsTup s.heap q.1 #[.ref q.2.1, u] := fun j q e => by
    obtain ⟨u, e1, e2, e3⟩ := hus j q e
    exact ⟨u, e1, List.getElem?_zip_eq_some.mpr ⟨e, e1⟩, e2, e3⟩
  have lz : (qs.zip us).length = qs.length := by rw [List.length_zip, hl]; omega
  have mz : ∀ x ∈ qs.zip us, L2.RelV x.1.2.2.2 x.2 ∧ H x.1.2.1 = some (.tup (x.1.2.2.1.map kV)) := fun x hx => by
    obtain ⟨j, hj⟩ := List.mem_iff_getElem?.mp hx
    obtain ⟨e1, e2⟩ := List.getElem?_zip_eq_some.mp hj
    obtain ⟨u, e3, _, e4, _⟩ := getz j x.1 e1
    rw [e2] at e3
    cases e3
    exact ⟨e4, (hp _ (List.mem_of_getElem? e1)).2⟩
  have hnd : (((qs.zip us).map fun x => (x.1.2.2.1, x.1.2.1, x.2)).map (·.1)).Nodup := by
    rw [List.map_map]
    have e : (qs.zip us).map ((fun x : List Key × Addr × Value => x.1) ∘ fun x => (x.1.2.2.1, x.1.2.1, x.2)) = qs.map fun q => q.2.2.1 := by
      have : (fun q : PrQ => q.2.2.1) ∘ Prod.fst = ((fun x : List Key × Addr × Value => x.1) ∘ fun x : PrQ × Value => (x.1.2.2.1, x.1.2.1, x.2)) := rfl
      rw [← this, ← List.map_map, List.map_fst_zip (by omega)]
    rw [e]; exact nd
  refine call_dict_pairsH (knd := tupleKind (mixKind X.prog X.w)) (ps := (qs.zip us).map fun x => (x.1.2.2.1, x.1.2.1, x.2))
    (PairArg.list a ((qs.map fun q => q.1).map Value.ref).toArray (fun j => ((qs.map fun q => q.1)[j]?).getD 0) ((qs.zip us).map fun x => (Value.ref x.1.2.1, x.2))) (I.ok.hd hcalm)
    (show X.A.units + 1 + 1 < cLine by omega) ⟨⟨o, n, ho, hc, hd, hdat⟩, by simp [lz], fun j k v e => ?_⟩ ⟨by simp, fun i key v e => ?_⟩ (fun h' hk x hx => ?_) (by rw [List.length_map, lz]; exact hz) fun h' tk hd' k => ?_
  · rw [List.getElem?_map] at e
    cases e2 : (qs.zip us)[j]? with
    | none => rw [e2] at e; cases e
    | some x =>
      rw [e2] at e
      cases e
      obtain ⟨e3, e4⟩ := List.getElem?_zip_eq_some.mp e2
      obtain ⟨u, e5, _, _, e6⟩ := getz j x.1 e3
      rw [e4] at e5
      cases e5
      refine ⟨by simp [e3], ?_⟩
      have : ((qs.map fun q => q.1)[j]?).getD 0 = x.1.1 := by simp [e3]
      show PairAt s.heap (((qs.map fun q => q.1)[j]?).getD 0) _ _
      rw [this]
      exact .inl (by
        obtain ⟨o', h1, h2, n', h3⟩ := e6
        exact ⟨o', h1, h2, n', h3⟩)
  · have e : ((qs.zip us).map fun x => (Value.ref x.1.2.1, x.2))[i]? = some (key, v) := e
    rw [List.getElem?_map] at e
    cases e2 : (qs.zip us)[i]? with
    | none => rw [e2] at e; cases e
    | some x =>
      rw [e2] at e
      cases e
      exact ⟨x.1.2.2.1, x.1.2.1, by simp [e2], rfl⟩
  · obtain ⟨y, hy, rfl⟩ := List.mem_map.mp hx
    have kx := key_of I.hok (mz y hy).2
    obtain ⟨oo, its', n', h1, h2, h3, h4⟩ := kx
    exact ⟨oo, its', n', hk _ _ (Nat.ne_of_lt (Heap.lt_size h1)) (fun z => nomatch z) h1, h2, h3, h4⟩
  · rw [storedAllH_nil_of_nodup _ hnd] at hd'
    have hm : (s.heap.objs.size == sysModules) = false := beq_eq_false_iff_ne.mpr (Nat.ne_of_gt I.big)
    have new : ∀ {b : Addr} {o : HO}, H b = some o → b ≠ s.heap.objs.size := fun e => ne_of_none e (I.hok.fresh (Nat.le_refl _))
    obtain ⟨o2, es, ep, g1, g2, g3, g4, g5, g6⟩ := hd'
    refine ⟨.ref s.heap.objs.size, upd H s.heap.objs.size (.dT (qs.map fun q => (q.2.2.1, q.2.2.2))), I.laid (t' := tk) (fun b o e => k b o (fun z => nomatch z) e) (Nat.le_refl _) ?_, rfl, q _ (I.hok.fresh (Nat.le_refl _))⟩
    refine (show ObjOk X.prog X.w _ _ _ (.dT (qs.map fun q => (q.2.2.1, q.2.2.2))) from ⟨by rw [List.length_map]; exact hz, hm, (qs.zip us).map fun x => (x.1.2.2.1, x.1.2.1, x.2), ?_, o2, es, ep, g1, g2, g3, g4, hnd⟩)
    have e : qs.map (fun q => (q.2.2.1, q.2.2.2)) = (qs.zip us).map fun x => (x.1.2.2.1, x.1.2.2.2) := by
      have : (fun x : PrQ × Value => (x.1.2.2.1, x.1.2.2.2)) = (fun q : PrQ => (q.2.2.1, q.2.2.2)) ∘ Prod.fst := rfl
      rw [this, ← List.map_map, List.map_fst_zip (by omega)]
    rw [e]
    refine paired_map _ _ fun x hx => ⟨rfl, ?_, (mz x hx).1⟩
    rw [upd_ne (new (mz x hx).2)]
    exact (mz x hx).2
/-- .. on data -/
def pairK : D → Option (List Key × D)
  | .tup [k, d] => (tkey k).map fun ks => (ks, d)
  | _ => none
def pairsK : List D → Option KD
  | [] => some []
  | d :: ds => match pairK d, pairsK ds with
    | some p, some ps => some (p :: ps)
    | _, _ => none
def gDict : GL := fun ds cs Q => match ds with
  | [d] => match lisD cs d with
    | some es => match pairsK es with
      | some kvs => (kvs.map (·.1)).Nodup ∧ Q (.root cs.length) (cs ++ [.dT kvs])
      | none => False
    | none => False
  | _ => False
section
variable {K : PySem.W.Frag} {T : Tb} {W : Wd} {H : Hp}
theorem pairsK_at : ∀ {ds : List D} {vs : List V} {kvs : KD}, AtL K T W H ds vs → pairsK ds = some kvs →
    ∃ qs : List PrQ, vs = qs.map (fun q => V.ref q.1) ∧ (∀ q ∈ qs, SqT K H q.1 [.ref q.2.1, q.2.2.2] ∧ H q.2.1 = some (.tup (q.2.2.1.map kV))) ∧ qs.map (fun q => q.2.2.1) = kvs.map (·.1) ∧ AtL K T W H (kvs.map (·.2)) (qs.map fun q => q.2.2.2)
  | _, _, _, .nil, h => by cases h; exact ⟨[], rfl, fun _ z => (nomatch z), rfl, .nil⟩
  | _, _, _, .cons (d := d) (ds := ds) a t, h => by
    unfold pairsK at h
    split at h
    · rename_i p ps e1 e2
      cases h
      obtain ⟨qs, h1, h2, h3, h4⟩ := pairsK_at t e2
      unfold pairK at e1
      split at e1
      · rename_i kd d'
        cases e3 : tkey kd with
        | none => rw [e3] at e1; cases e1
        | some ks =>
          rw [e3] at e1
          cases e1
          cases a with
          | @tup b vs ds g1 f1 t1 =>
            cases t1 with
            | cons a1 t2 =>
              cases t2 with
              | @cons _ v2 _ _ a2 t3 =>
                cases t3 with
                | nil =>
                  obtain ⟨b2, rfl, hb⟩ := tkey_at a1 e3
                  refine ⟨(b, b2, ks, v2) :: qs, by rw [h1]; rfl, fun q hq => ?_, by simp [h3], ?_⟩
                  · rcases List.mem_cons.mp hq with e | hq
                    · rw [e]; exact ⟨.of g1, hb⟩
                    · exact h2 q hq
                  · exact .cons a2 h4
      · cases e1
    · cases h
theorem ok_dict : OkL K T (rDictT K) gDict := by
  intro W H ds vs Q' Q r a h p
  unfold gDict at h
  split at h
  · rename_i d
    split at h
    · rename_i es e1
      split at h
      · rename_i kvs e2
        obtain ⟨nd, q⟩ := h
        cases a with
        | cons a1 t1 =>
          cases t1 with
          | nil =>
            obtain ⟨l, us, rfl, hs, t⟩ := lisD_at r a1 e1
            obtain ⟨qs, h1, h2, h3, h4⟩ := pairsK_at t e2
            subst h1
            refine ⟨l, qs, rfl, hs, h2, by rw [h3]; exact nd, fun b hb => ?_⟩
            have ez : (qs.map fun q => (q.2.2.1, q.2.2.2)) = (kvs.map (·.1)).zip (qs.map fun q => q.2.2.2) := by
              rw [← h3]
              clear h2 h3 h4 hs t
              induction qs with
              | nil => rfl
              | cons x l ih => simp only [List.map_cons, List.zip_cons_cons, ih]
            refine p _ (W.push b (.dT kvs)) _ _ q (.pushed r hb) (r.pushed hb ⟨_, by rw [upd_same, ez], h4.ext (.pushed r hb)⟩) (.root ?_)
            show (W.A ++ [b])[W.cs.length]? = some b
            rw [← r.len, List.getElem?_append_right (Nat.le_refl _), Nat.sub_self]
            rfl
      · exact h.elim
    · exact h.elim
  · exact h.elim
end
end DL
namespace DL
open PySem PySem.Spec PyProof.Rows L2
section
variable {X : Cx} {T : Tb} {E : XK} {pos : Pos}
/-- a, b, c = x, y, z -/
def wPar3 (i j l : Nat) (ma : WA) : WS := fun D sl cs => ma sl cs (fun ds cs1 => match ds with
  | [d, e, f] => D.nx (((sl.set i (some d)).set j (some e)).set l (some f)) cs1
  | _ => False) D.xq
theorem ds_par3 {i j l : Nat} {x y z : Str} {a b c : Expr} {ma : WA} {px py pz pt : Pos} {kt k2 pt2} (hN : X.N.Nodup) (hc : X.calm = true) (hx : X.env.scope.names.lookup x = some .local) (hy : X.env.scope.names.lookup y = some .local) (hz : X.env.scope.names.lookup z = some .local)
    (hi : X.N[i]? = some x := by rfl) (hj : X.N[j]? = some y := by rfl) (hl : X.N[l]? = some z := by rfl) (hij : i ≠ j := by decide) (hil : i ≠ l := by decide) (hjl : j ≠ l := by decide)
    (ha : DA X T E [a, b, c] ma)
    (hw : swappedStores [.Tuple [.Name x px, .Name y py, .Name z pz] kt pt] (.Tuple [a, b, c] k2 pt2) X.env = pure (some [x, y, z]) := by rfl)
    (hs : swapsWithSole [.Tuple [.Name x px, .Name y py, .Name z pz] kt pt] (.Tuple [a, b, c] k2 pt2) pos.line X.env = pure false := by rfl) :
    DS X T E (.Assign [.Tuple [.Name x px, .Name y py, .Name z pz] kt pt] (.Tuple [a, b, c] k2 pt2) pos) (wPar3 i j l ma) := by
  obtain ⟨t1, p1, s1⟩ := ha.ex
  refine ⟨_, ps_par3 hc hN hi hj hl hij hil hjl hx hy hz p1 hw hs, fun sl W σ H D' D hs rp h p => ?_⟩
  refine s1 sl W σ H _ _ _ hs rp h (fun ds W1 vs H1 q1 x1 r1 a1 => ?_) p.xq
  cases a1 with
  | nil => exact q1.elim
  | cons a1 a2 =>
    cases a2 with
    | nil => exact q1.elim
    | cons a2 a3 =>
      cases a3 with
      | nil => exact q1.elim
      | cons a3 a4 =>
        cases a4 with
        | nil => exact ⟨_, _, _, rfl, p.nx _ W1 _ H1 q1 x1 r1 ((((hs.ext x1).set i a1).set j a2).set l a3)⟩
        | cons _ _ => exact q1.elim
end
/-! ### a module's constants -/
section
variable {X : Cx} {T : Tb} {E : XK} {pos : Pos} {x : Str}
theorem de_globI {i : Int} {t : Nat} (hm : X.mg x = some (.int i t)) (hg : Gl X x := by rfl) (hd : (x == ("__debug__" : Str)) = false := by decide) : DE X T E (.Name x pos) (wC (.int i)) :=
  ⟨_, pe_glob hg hm (v := .int i) ⟨t, rfl⟩ hd, fun _ W _ H _ _ _ _ r h p _ => p _ W _ H h .refl r (.int i)⟩
theorem de_globS {i : Str} {t : Nat} (hm : X.mg x = some (.str i t)) (hg : Gl X x := by rfl) (hd : (x == ("__debug__" : Str)) = false := by decide) : DE X T E (.Name x pos) (wC (.str i)) :=
  ⟨_, pe_glob hg hm (v := .str i) ⟨t, rfl⟩ hd, fun _ W _ H _ _ _ _ r h p _ => p _ W _ H h .refl r (.str i)⟩
end
/-! ### x in a list or tuple of flat items -/
def flatD : D → Option V
  | .non => some .non
  | .bl b => some (.bl b)
  | .int i => some (.int i)
  | .str x => some (.str x)
  | _ => none
def flatL : List D → Option (List V)
  | [] => some []
  | d :: ds => match flatD d, flatL ds with
    | some v, some vs => some (v :: vs)
    | _, _ => none
def gIn (neg : Bool) : G2 := fun d e cs Q => match flatD d, seqD cs e with
  | some x, some es => match flatL es with
    | some xs => Q (.bl (if neg then !inV x xs else inV x xs)) cs
    | none => False
  | _, _ => False
section
variable {K : PySem.W.Frag} {T : Tb} {W : Wd} {H : Hp}
theorem flatD_at {d : D} {v u : V} (a : At K T W H d v) (h : flatD d = some u) : v = u ∧ flatV u = true := by
  cases a with
  | non => cases h; exact ⟨rfl, rfl⟩
  | bl b => cases h; exact ⟨rfl, rfl⟩
  | int b => cases h; exact ⟨rfl, rfl⟩
  | str b => cases h; exact ⟨rfl, rfl⟩
  | _ => cases h
theorem flatL_at : ∀ {ds : List D} {vs us : List V}, AtL K T W H ds vs → flatL ds = some us → vs = us ∧ us.all flatV = true
  | _, _, _, .nil, h => by cases h; exact ⟨rfl, rfl⟩
  | _, _, _, .cons a t, h => by
    unfold flatL at h
    split at h
    · rename_i v vs e1 e2
      cases h
      obtain ⟨h1, h2⟩ := flatD_at a e1
      obtain ⟨h3, h4⟩ := flatL_at t e2
      subst h1 h3
      exact ⟨rfl, by rw [List.all_cons, h2, h4]; rfl⟩
    · cases h
theorem ok_in {neg : Bool} : OkR K T (rIn K neg) (gIn neg) := by
  intro W H d e v u Q' Q r a b h p
  unfold gIn at h
  split at h
  · rename_i x es e1 e2
    split at h
    · rename_i xs e3
      obtain ⟨l, vs, rfl, hs, t⟩ := seqD_at r b e2
      obtain ⟨h1, h2⟩ := flatD_at a e1
      obtain ⟨h3, h4⟩ := flatL_at t e3
      subst h1 h3
      exact ⟨l, _, rfl, hs, h2, h4, p _ W _ H h .refl r (.bl _)⟩
    · exact h.elim
  · exact h.elim
end
end DL
namespace DL
open PySem PySem.Spec PyProof.Rows L2

/-! ### truth -/
def truD (cs : Cells) : D → Option Bool
  | .non => some false
  | .bl b => some b
  | .int i => some (i != 0)
  | .lst ds => some (!ds.isEmpty)
  | .tup ds => some (!ds.isEmpty)
  | .root j => match cellL cs[j]? with
    | some ds => some (!ds.isEmpty)
    | none => none
  | _ => none
def wTru (m : WE) : WT := fun sl cs Q X => m sl cs (fun d cs1 => match truD cs1 d with
  | some b => Q b cs1
  | none => False) X
section
variable {K : PySem.W.Frag} {T : Tb} {W : Wd} {H : Hp}
theorem isEmpty_at {ds : List D} {vs : List V} (t : AtL K T W H ds vs) : (!vs.isEmpty) = !ds.isEmpty := by cases t <;> rfl
theorem tru_at {d : D} {v : V} {b : Bool} (r : Rep K T W H) (a : At K T W H d v) (h : truD W.cs d = some b) : TruV K v H b := by
  cases a with
  | non => cases h; rfl
  | bl k => cases h; rfl
  | int i => cases h; rfl
  | str x => cases h
  | lst h1 f1 t1 => cases h; exact .inl ⟨_, .of h1, (isEmpty_at t1).symm⟩
  | tup h1 f1 t1 => cases h; exact .inr (.inl ⟨_, .of h1, (isEmpty_at t1).symm⟩)
  | ins h1 l1 f1 t1 => cases h
  | scr h1 t1 => cases h
  | exc h1 h2 f1 t1 => cases h
  | @root j l h1 =>
    have h : (match cellL W.cs[j]? with
      | some ds => some (!ds.isEmpty)
      | none => none) = some b := h
    split at h
    · rename_i ds e
      cases h
      obtain ⟨l', vs, e1, h2, t1⟩ := derefL_at (d := .root j) r (.root h1) e
      cases e1
      exact .inl ⟨_, .of h2, (isEmpty_at t1).symm⟩
    · cases h
end
section
variable {X : Cx} {T : Tb} {E : XK} {a : Expr} {m : WE}
theorem dt_tru (ha : DE X T E a m) (he : ∀ whole, isTrue a X.env whole = (do let v ← whole; standAt a.pos; holding [v] (truthy v)) := by intro _; rfl) : DT X T E a (wTru m) := by
  obtain ⟨t, p, s⟩ := ha.ex
  refine ⟨_, pt_truth p he, fun sl W σ H Q' X' Q hs rp h po px => ?_⟩
  refine s sl W σ H _ X' _ hs rp h (fun d W1 v H1 q1 x1 r1 a1 => ?_) px
  split at q1
  · rename_i b e
    exact ⟨b, tru_at r1 a1 e, po b W1 H1 q1 x1 r1⟩
  · exact q1.elim
end

/-! ### comprehensions with two clauses -/
def canI (K : PySem.W.Frag) (T : Tb) (E : XK) (m : WA) : TI := fun σ H R => ∃ sl W Q' X', SlAt K T W H sl σ ∧ Rep K T W H ∧ m sl W.cs Q' X' ∧ (∀ ds W1 J H1, Q' ds W1.cs → Ext W H W1 H1 → Rep K T W1 H1 → ItOK K T J ds W1 H1 → R J H1) ∧ PostX K T W H X' E
theorem DI.can {X : Cx} {T : Tb} {E : XK} {tg iter : Expr} {m : WA} (h : DI X T E tg iter m) : PI X tg iter (canI X.K T E m) :=
  let ⟨t, p, s⟩ := h.ex; ⟨fun pins s0 σ H R I ⟨sl, W, Q', X', a, b, c, d, f⟩ => p.run pins s0 σ H R I (s sl W σ H Q' X' R a b c d f)⟩
def lcJ (g : WG) (mt : WT) (me : WE) (sl : Sl) (nx : List D → Cells → Prop) : List D → List D → Cells → Prop
  | [], acc, cs => nx acc cs
  | d :: ds, acc, cs => g d sl cs fun sl2 cs2 => mt sl2 cs2 (fun b cs3 => if b = true then me sl2 cs3 (fun y cs4 => acc.length < sizeLine ∧ lcJ g mt me sl nx ds (acc ++ [y]) cs4) (fun _ _ _ => False) else lcJ g mt me sl nx ds acc cs3) (fun _ _ _ => False)
def lcW2 (g : WG) (mt : WT) (mi1 : WA) (g1 : WG) (mt1 : WT) (me : WE) (vs1 : List Nat) (sl : Sl) (Q : List D → Cells → Prop) : List D → List D → Cells → Prop
  | [], acc, cs => Q acc cs
  | d :: ds, acc, cs => g d sl cs fun sl2 cs2 => mt sl2 cs2 (fun b cs3 => if b = true then mi1 sl2 cs3 (fun ds1 cs4 => lcJ g1 mt1 me (wipeD sl2 vs1) (fun acc cs5 => lcW2 g mt mi1 g1 mt1 me vs1 sl Q ds acc cs5) ds1 acc cs4) (fun _ _ _ => False) else lcW2 g mt mi1 g1 mt1 me vs1 sl Q ds acc cs3) (fun _ _ _ => False)
def wLc2 (mi : WA) (g : WG) (mt : WT) (mi1 : WA) (g1 : WG) (mt1 : WT) (me : WE) (vs vs1 : List Nat) : WE := fun sl cs Q X => mi sl cs (fun ds cs1 => lcW2 g mt mi1 g1 mt1 me vs1 (wipeD sl vs) (fun acc cs2 => Q (.lst acc) cs2) ds [] cs1) X
section
variable {X : Cx} {T : Tb} {E : XK}
theorem lc2_ok {mi mi1 : WA} {g g1 : WG} {gs gs1 : List Nat} {mt mt1 : WT} {me : WE} {vs vs1 : List Nat} {wi : TI} (hgs : ∀ i ∈ gs, i ∈ vs) (hgs1 : ∀ i ∈ gs1, i ∈ vs1)
    (s1 : ∀ sl W σ H Q' X' R, SlAt X.K T W H sl σ → Rep X.K T W H → mi sl W.cs Q' X' → (∀ ds W1 J H1, Q' ds W1.cs → Ext W H W1 H1 → Rep X.K T W1 H1 → ItOK X.K T J ds W1 H1 → R J H1) → PostX X.K T W H X' E → wi σ H R)
    {sl : Sl} {W : Wd} {σ : L2.St} {H : Hp} {Q' : WQ} {X' : XQ} {Q : VK} (hs : SlAt X.K T W H sl σ) (rp : Rep X.K T W H) (h : wLc2 mi g mt mi1 g1 mt1 me vs vs1 sl W.cs Q' X')
    (po : ∀ ds W' l H', Q' (.lst ds) W'.cs → Ext W H W' H' → Rep X.K T W' H' → At X.K T W' H' (.lst ds) (.ref l) → Q (.ref l) H') (px : PostX X.K T W H X' E) :
    tLc2 wi (canG X.K T g gs) (canT X.K T E0 mt) (canI X.K T E0 mi1) (canG X.K T g1 gs1) (canT X.K T E0 mt1) (canE X.K T E0 me) vs vs1 σ H Q := by
  refine s1 sl W σ H _ X' _ hs rp h (fun ds W1 J H1 q1 x1 r1 ok => ?_) px
  intro L hL
  -- what the list L holds, in a world that goes on from W1
  refine ⟨fun i m H' => ∃ Wi acc us, H' L = some (.lst us) ∧ AtL X.K T Wi H' acc us ∧ (∀ a, W1.G a → Wi.G a) ∧ Wi.G L ∧ Rep X.K T Wi H' ∧ Ex0 W1 H1 Wi H' ∧ m = ds.length - i ∧ i ≤ ds.length ∧
      lcW2 g mt mi1 g1 mt1 me vs1 (wipeD sl vs) (fun acc cs2 => Q' (.lst acc) cs2) (ds.drop i) acc Wi.cs,
    ⟨_, W1.wG fun a => W1.G a ∨ a = L, [], [], upd_same, .nil, fun a z => .inl z, .inr rfl, r1.lay hL, .lay hL, rfl, Nat.zero_le _, by rw [List.drop_zero]; exact q1⟩, ?_⟩
  rintro i m H2 ⟨Wi, acc, us, hu, au, gg, gL, r2, x2, rfl, hi, q2⟩
  have comp : ∀ {W2 W3 : Wd} {H2 H3 : Hp}, Ex0 W1 H1 W2 H2 → Ext W2 H2 W3 H3 → Ex0 W1 H1 W3 H3 := fun {W2 W3 H2 H3} x2 x3 =>
    ⟨fun b o e l => let ⟨e1, l1⟩ := x2.keep b o e l; x3.keep b o e1 l1, fun j a e => x3.pre j a (x2.pre j a e), fun b hb z => by rw [x3.g] at z; exact x2.gk b hb z⟩
  by_cases hlt : i < ds.length
  · refine .inr ⟨ok.go i Wi H2 x2.z r2 hlt, fun H' => ∃ Wi acc us, H' L = some (.lst us) ∧ AtL X.K T Wi H' acc us ∧ (∀ a, W1.G a → Wi.G a) ∧ Wi.G L ∧ Rep X.K T Wi H' ∧ Ex0 W1 H1 Wi H' ∧
      lcW2 g mt mi1 g1 mt1 me vs1 (wipeD sl vs) (fun acc cs2 => Q' (.lst acc) cs2) (ds.drop (i + 1)) acc Wi.cs,
      fun H' ⟨Wj, acc, us, z1, z2, z4, z5, z6, z7, z8⟩ => ⟨ds.length - (i + 1), by omega, Wj, acc, us, z1, z2, z4, z5, z6, z7, rfl, hlt, z8⟩, fun y H3 hy => ?_⟩
    obtain ⟨d, ed, x3, r3, a3⟩ := ok.yld i Wi H2 y H3 x2.z r2 hlt hy
    have hd : ds.drop i = d :: ds.drop (i + 1) := by
      rw [List.drop_eq_getElem_cons hlt]
      congr 1
      exact Option.some.inj ((List.getElem?_eq_getElem hlt).symm.trans ed)
    rw [hd] at q2
    have hs3 : SlAt X.K T Wi H3 (wipeD sl vs) (wipe σ vs) := ((hs.ext x1).ex0 (comp x2 x3)).wipe vs
    have nl : ¬ Wi.Live L := r2.aside_not gL
    have hu3 := (x3.keep L _ hu nl).1
    refine ⟨_, Wi, d, _, hs3, r3, a3, q2, fun sl4 σ4 q4 hs4 l4 f4 => ⟨wipe_eq hgs l4 f4, ?_⟩⟩
    refine ⟨sl4, Wi, _, _, hs4, r3, q4, fun b W5 H5 q5 x5 r5 => ?_, post_no⟩
    have hu5 := x5.keep L _ hu3 nl
    have au5 := (au.ext x3).ext x5
    have x05 := comp x2 (x3.trans x5)
    cases b with
    | false =>
      have q5 : lcW2 g mt mi1 g1 mt1 me vs1 (wipeD sl vs) (fun acc cs2 => Q' (.lst acc) cs2) (ds.drop (i + 1)) acc W5.cs := q5
      exact iteF ⟨W5, acc, us, hu5.1, au5, fun a z => by rw [x5.g]; exact gg a z, by rw [x5.g]; exact gL, r5, x05, q5⟩
    | true =>
      have q5 : mi1 sl4 W5.cs (fun ds1 cs4 => lcJ g1 mt1 me (wipeD sl4 vs1) (fun acc cs5 => lcW2 g mt mi1 g1 mt1 me vs1 (wipeD sl vs) (fun acc cs2 => Q' (.lst acc) cs2) (ds.drop (i + 1)) acc cs5) ds1 acc cs4) (fun _ _ _ => False) := q5
      refine iteT ⟨sl4, W5, _, _, hs4.ext x5, r5, q5, fun ds1 W6 J1 H6 q6 x6 r6 ok1 => ?_, post_no⟩
      have hu6 := x6.keep L _ hu5.1 hu5.2
      have au6 := au5.ext x6
      have x06 := comp x2 ((x3.trans x5).trans x6)
      have gL6 : W6.G L := by rw [x6.g, x5.g]; exact gL
      have hs6 : SlAt X.K T W6 H6 sl4 σ4 := (hs4.ext x5).ext x6
      refine ⟨fun j k H' => ∃ Wj acc us, H' L = some (.lst us) ∧ AtL X.K T Wj H' acc us ∧ (∀ a, W6.G a ↔ Wj.G a) ∧ Rep X.K T Wj H' ∧ Ex0 W1 H1 Wj H' ∧ Exz W6 H6 Wj H' ∧ k = ds1.length - j ∧ j ≤ ds1.length ∧
          lcJ g1 mt1 me (wipeD sl4 vs1) (fun acc cs5 => lcW2 g mt mi1 g1 mt1 me vs1 (wipeD sl vs) (fun acc cs2 => Q' (.lst acc) cs2) (ds.drop (i + 1)) acc cs5) (ds1.drop j) acc Wj.cs,
        ⟨_, W6, acc, us, hu6.1, au6, fun a => .rfl, r6, x06, .refl, rfl, Nat.zero_le _, by rw [List.drop_zero]; exact q6⟩, ?_⟩
      rintro j k H7 ⟨Wj, acc7, us7, hu7, au7, g7, r7, x07, xz7, rfl, hj, q7⟩
      have gL7 : Wj.G L := (g7 L).mp gL6
      have nl7 : ¬ Wj.Live L := r7.aside_not gL7
      by_cases hlt1 : j < ds1.length
      · refine .inr ⟨ok1.go j Wj H7 xz7 r7 hlt1, fun H' => ∃ Wk acc us, H' L = some (.lst us) ∧ AtL X.K T Wk H' acc us ∧ (∀ a, W6.G a ↔ Wk.G a) ∧ Rep X.K T Wk H' ∧ Ex0 W1 H1 Wk H' ∧ Exz W6 H6 Wk H' ∧
          lcJ g1 mt1 me (wipeD sl4 vs1) (fun acc cs5 => lcW2 g mt mi1 g1 mt1 me vs1 (wipeD sl vs) (fun acc cs2 => Q' (.lst acc) cs2) (ds.drop (i + 1)) acc cs5) (ds1.drop (j + 1)) acc Wk.cs,
          fun H' ⟨Wk, acc, us, z1, z2, z3, z4, z5, z6, z7⟩ => ⟨ds1.length - (j + 1), by omega, Wk, acc, us, z1, z2, z3, z4, z5, z6, rfl, hlt1, z7⟩, fun y1 H8 hy1 => ?_⟩
        obtain ⟨d1, ed1, x8, r8, a8⟩ := ok1.yld j Wj H7 y1 H8 xz7 r7 hlt1 hy1
        have hd1 : ds1.drop j = d1 :: ds1.drop (j + 1) := by
          rw [List.drop_eq_getElem_cons hlt1]
          congr 1
          exact Option.some.inj ((List.getElem?_eq_getElem hlt1).symm.trans ed1)
        rw [hd1] at q7
        have exzOf : ∀ {W8 : Wd} {H8 : Hp}, Ext Wj H7 W8 H8 → Exz W6 H6 W8 H8 := fun {W8 H8} x8 => ⟨fun b o e f => let ⟨e1, f1⟩ := xz7.fz b o e f; x8.fz e1 f1, fun j a e => x8.pre j a (xz7.pre j a e)⟩
        have slz : ∀ {W8 : Wd} {H8 : Hp}, Exz W6 H6 W8 H8 → SlAt X.K T W8 H8 sl4 σ4 := fun {W8 H8} x => ⟨hs6.1, fun i d e => let ⟨v, e1, e2⟩ := hs6.2 i d e; ⟨v, e1, e2.exz x⟩⟩
        have hs8 : SlAt X.K T Wj H8 (wipeD sl4 vs1) (wipe σ4 vs1) := (slz (exzOf x8)).wipe vs1
        have hu8 := (x8.keep L _ hu7 nl7).1
        refine ⟨_, Wj, d1, _, hs8, r8, a8, q7, fun sl9 σ9 q9 hs9 l9 f9 => ⟨wipe_eq hgs1 l9 f9, ?_⟩⟩
        refine ⟨sl9, Wj, _, _, hs9, r8, q9, fun b1 W10 H10 q10 x10 r10 => ?_, post_no⟩
        have hu10 := x10.keep L _ hu8 nl7
        have au10 := (au7.ext x8).ext x10
        cases b1 with
        | false =>
          have q10 : lcJ g1 mt1 me (wipeD sl4 vs1) _ (ds1.drop (j + 1)) acc7 W10.cs := q10
          exact iteF ⟨W10, acc7, us7, hu10.1, au10, fun a => by rw [x10.g]; exact g7 a, r10, comp x07 (x8.trans x10), exzOf (x8.trans x10), q10⟩
        | true =>
          have q10 : me sl9 W10.cs (fun y cs4 => acc7.length < sizeLine ∧ lcJ g1 mt1 me (wipeD sl4 vs1) _ (ds1.drop (j + 1)) (acc7 ++ [y]) cs4) (fun _ _ _ => False) := q10
          refine iteT ⟨sl9, W10, _, _, hs9.ext x10, r10, q10, fun dy W11 y11 H11 q11 x11 r11 a11 => ?_, post_no⟩
          obtain ⟨hz, q11⟩ := q11
          have hu11 := x11.keep L _ hu10.1 hu10.2
          have gL11 : W11.G L := by rw [x11.g, x10.g]; exact gL7
          have au11 := au10.ext x11
          refine ⟨us7, hu11.1, by rw [← au11.length]; exact hz, W11, acc7 ++ [dy], us7 ++ [y11], upd_same, (au11.append (.cons a11 .nil)).exz (.aside gL11), fun a => by rw [x11.g, x10.g]; exact g7 a, r11.aside gL11, ?_, ?_, q11⟩
          · have x0 := comp x07 ((x8.trans x10).trans x11)
            exact ⟨fun b o e l => let ⟨e1, l1⟩ := x0.keep b o e l; ⟨by rw [upd_ne (ne_of_none e hL)]; exact e1, l1⟩, x0.pre, x0.gk⟩
          · have xz := exzOf ((x8.trans x10).trans x11)
            exact ⟨fun b o e f => let ⟨e1, f1⟩ := xz.fz b o e f; ⟨by rw [upd_ne (fun z => f1.2 (by rw [z]; exact gL11))]; exact e1, f1⟩, xz.pre⟩
      · have e : j = ds1.length := by omega
        subst e
        rw [List.drop_length] at q7
        exact .inl ⟨ok1.stop _ Wj H7 xz7 r7 (Nat.le_refl _), Wj, acc7, us7, hu7, au7, fun a z => (g7 a).mp (by rw [x6.g, x5.g]; exact gg a z), gL7, r7, x07, q7⟩
  · have e : i = ds.length := by omega
    subst e
    rw [List.drop_length] at q2
    refine .inl ⟨ok.stop _ Wi H2 x2.z r2 (Nat.le_refl _), ?_⟩
    have xf : Ext W1 H1 (Wi.wG W1.G) H2 := ⟨x2.keep, x2.pre, rfl⟩
    exact po acc (Wi.wG W1.G) L H2 q2 (x1.trans xf) (r2.less gg) (.lst hu ⟨r2.aside_not gL, fun z => (by obtain ⟨u, e, _⟩ := r1.gth L z; rw [hL] at e; cases e)⟩ (au.exz (.less gg)))
theorem de_lc2 {elt tg iter tg1 iter1 : Expr} {ifs ifs1 : List Expr} {scope : Scope} {own : List (Str × Nat)} {vs1 : List Nat} {pos : Pos} {mi mi1 : WA} {g g1 : WG} {gs gs1 : List Nat} {mt mt1 : WT} {me : WE} (hc : X.calm = true) (hN : X.N.Nodup) (hi : DI X T E tg iter mi) (ok : BlkOk X.N X.env.scope scope own) (hgs : ∀ i ∈ gs, i ∈ own.map (·.2)) (hv : ∀ i ∈ vs1, i ∈ own.map (·.2)) (hgs1 : ∀ i ∈ gs1, i ∈ vs1)
    (hg : ∀ (s : Shared) (H : Hp) (C : Addr) (cl : List (Str × Addr)) (fp : List Addr), DG (X.blk s H scope (compEnvC scope cl C X.env) fp) T tg g gs) (ht : ∀ (s : Shared) (H : Hp) (C : Addr) (cl : List (Str × Addr)) (fp : List Addr), DTs (X.blk s H scope (compEnvC scope cl C X.env) fp) T E0 ifs mt)
    (hi1 : ∀ (s : Shared) (H : Hp) (C : Addr) (cl : List (Str × Addr)) (fp : List Addr), DI (X.blk s H scope (compEnvC scope cl C X.env) fp) T E0 tg1 iter1 mi1)
    (hg1 : ∀ (s : Shared) (H : Hp) (C : Addr) (cl : List (Str × Addr)) (fp : List Addr), DG (X.blk s H scope (compEnvC scope cl C X.env) fp) T tg1 g1 gs1) (ht1 : ∀ (s : Shared) (H : Hp) (C : Addr) (cl : List (Str × Addr)) (fp : List Addr), DTs (X.blk s H scope (compEnvC scope cl C X.env) fp) T E0 ifs1 mt1)
    (he : ∀ (s : Shared) (H : Hp) (C : Addr) (cl : List (Str × Addr)) (fp : List Addr), DE (X.blk s H scope (compEnvC scope cl C X.env) fp) T E0 elt me) (hs : ∀ x, foldedSetIterable iter X.env x = pure x := by intro _; rfl) (hs1 : ∀ env x, foldedSetIterable iter1 env x = pure x := by intro _ _; rfl) :
    DE X T E (.ListComp elt [⟨tg, iter, ifs, 0⟩, ⟨tg1, iter1, ifs1, 0⟩] scope pos) (wLc2 mi g mt mi1 g1 mt1 me (own.map (·.2)) vs1) := by
  obtain ⟨wi, p1, s1⟩ := hi.ex
  refine ⟨_, pe_lc2 (g := canG X.K T g gs) (tt := canT X.K T E0 mt) (wi1 := canI X.K T E0 mi1) (g1 := canG X.K T g1 gs1) (tt1 := canT X.K T E0 mt1) (te := canE X.K T E0 me) hc hN p1 ok hv (fun s H C cl fp => (hg s H C cl fp).can) (fun s H C cl fp => (ht s H C cl fp).can) (fun s H C cl fp => (hi1 s H C cl fp).can) (fun s H C cl fp => (hg1 s H C cl fp).can) (fun s H C cl fp => (ht1 s H C cl fp).can) (fun s H C cl fp => (he s H C cl fp).can) hs hs1, ?_⟩
  exact fun sl W σ H Q' X' Q hs rp h po px => lc2_ok hgs hgs1 s1 hs rp h (fun ds W' l H' q x r a => po _ W' _ H' q x r a) px
end
/-! ### max(xs, default=k) of ints -/
def maxI (k : Int) : List Int → Int
  | [] => k
  | n :: ns => ns.foldl max n
def rMaxDef (K : PySem.W.Frag) : List V → List V → Hp → VK → Prop := fun xs zs H Q => ∃ (a : Addr) (ns : List Int) (k : Int), xs = [.ref a] ∧ zs = [.int k] ∧ SqL K H a (ns.map V.int) ∧ Q (.int (maxI k ns)) H
theorem reads_ints {h : Heap} : ∀ {ns : List Int} {us : List Value}, Vals (ns.map V.int) us → ReadsAll h us (ns.map PyData.int) []
  | [], _, .nil => .nil
  | n :: ns, _, .cons r t => by
    obtain ⟨k, rfl⟩ := r
    exact .cons (as := []) (bs := []) (.int n k) (reads_ints t)
theorem depth_ints : ∀ ns : List Int, PyData.depthAll (ns.map PyData.int) = 0
  | [] => by simp only [List.map_nil, PyData.depthAll]
  | n :: ns => by simp only [List.map_cons, PyData.depthAll, PyData.depth, depth_ints ns]; rfl
theorem cr_maxDef {X : Cx} (hc : X.calm = true) (hu : X.A.units + 64 < cLine) : CallRK X (.builtin "max") [Str.ofString "default"] (rMaxDef X.K) := by
  intro pins s σ H xs zs us ws Q I r1 r2 h
  obtain ⟨a, ns, k, rfl, rfl, hs, q⟩ := h
  obtain ⟨its, rv, hl, _⟩ := I.list hs
  rw [Vals.ref1 r1]
  obtain ⟨u, rfl, ru⟩ := vals1 r2
  obtain ⟨t, rfl⟩ := ru
  refine PySem.W.max_list_default (d := .int k t) (I.ok.hd hc) hl.isList (xs := ns.map PyData.int) (as := []) (by simpa using reads_ints rv) ⟨fun x hx y hy => ?_, fun x hx => ?_⟩ (by rw [depth_ints]; omega) (fun e h' tk hk => ?_) fun y ys i v h' tk bs e hv hr hk => ?_
  · obtain ⟨i, _, rfl⟩ := List.mem_map.mp hx
    obtain ⟨j, _, rfl⟩ := List.mem_map.mp hy
    rfl
  · obtain ⟨i, _, rfl⟩ := List.mem_map.mp hx
    intro z; cases z
  · cases ns with
    | cons n ns => cases e
    | nil => exact ⟨.int k, H, I.kept hk, ⟨t, rfl⟩, q⟩
  · cases ns with
    | nil => cases e
    | cons n ns =>
      rw [List.map_cons] at e
      injection e with e1 e2
      subst e1 e2
      rw [PySem.W.maxD_ints] at hr
      cases hr with
      | int i t => exact ⟨.int _, H, I.kept hk, ⟨t, rfl⟩, q⟩
def wMaxDef (mr mk : WA) : WE := fun sl cs Q X => mr sl cs (fun ds cs1 => mk sl cs1 (fun es cs2 => match ds, es with
  | [d], [.int k] => match lisD cs2 d with
    | some xs => match asInts xs with
      | some ns => Q (.int (maxI k ns)) cs2
      | none => False
    | none => False
  | _, _ => False) X) X
section
variable {X : Cx} {T : Tb} {E : XK} {p pos : Pos} {e : Expr} {es : List Expr} {kws : List Keyword} {mr mk : WA}
theorem de_maxDef (hc : X.calm = true) (hu : X.A.units + 64 < cLine) (hm : X.mg "max" = none) (ha : DA X T E [e] mr) (hkw : DK X T E kws mk) (hg : Gl X "max" := by rfl)
    (he : backTo pos (starEach [e] X.env) = (false, eval e X.env) :: backTo pos (starEach [] X.env) := by rfl) (hpl : (backTo pos (starEach [e] X.env)).any (·.1) = false := by rfl)
    (hall : (backToKw pos (keywordEach kws X.env)).all (·.1.isSome) = true := by rfl) (hnone : (backToKw pos (keywordEach kws X.env)).any (·.1.isNone) = false := by rfl) (hks : (backToKw pos (keywordEach kws X.env)).filterMap (·.1) = [Str.ofString "default"] := by rfl) :
    DE X T E (.Call (.Name "max" p) [e] kws pos) (wMaxDef mr mk) := by
  obtain ⟨t, pa, sa⟩ := ha.ex
  obtain ⟨tk, pk, sk⟩ := hkw.ex
  refine ⟨_, pe_callBK (cr_maxDef hc hu) hg hm (by decide +kernel) pa pk (by decide) (by decide) he hpl hall hnone hks, fun sl W σ H Q' X' Q hs rp h p px => ?_⟩
  refine sa sl W σ H _ X' _ hs rp h (fun ds W1 vs H1 q1 x1 r1 a1 => ?_) px
  refine sk sl W1 σ H1 _ X' _ (hs.ext x1) r1 q1 (fun es W2 zs H2 q2 x2 r2 a2 => ?_) (px.st x1)
  have a1' := a1.ext x2
  split at q2
  · rename_i d k
    split at q2
    · rename_i xs e1
      split at q2
      · rename_i ns e2
        cases a1' with
        | cons b1 c1 =>
          cases c1
          cases a2 with
          | cons b2 c2 =>
            cases c2
            cases b2
            obtain ⟨l, us, rfl, h, t⟩ := lisD_at r2 b1 e1
            rw [asInts_some e2] at t
            rw [t.ints] at h
            exact ⟨l, ns, k, rfl, rfl, h, p _ W2 _ H2 q2 (x1.trans x2) r2 (.int _)⟩
      · exact q2.elim
    · exact q2.elim
  · exact q2.elim
/-- list(range(n)) -/
def wListRg (m : WE) : WE := fun sl cs Q X => m sl cs (fun d cs1 => match d with
  | .int n => (-(2 ^ 62) ≤ n ∧ n < 2 ^ 62 ∧ n.toNat ≤ 2 ^ 24) ∧ Q (.lst (intsD 0 n.toNat)) cs1
  | _ => False) X
theorem rgV_at {K : PySem.W.Frag} {T : Tb} {W : Wd} {H : Hp} (n : Int) : AtL K T W H (intsD 0 n.toNat) (rgV 0 n) := by
  unfold intsD rgV
  rw [Int.sub_zero]
  generalize List.range n.toNat = l
  induction l with
  | nil => exact .nil
  | cons i l ih => exact .cons (.int _) ih
theorem de_listRg1 {a : Expr} {m : WE} {p2 pos2 : Pos} (hc : X.calm = true) (hl : X.mg "list" = none) (hm : X.mg "range" = none) (ha : DE X T E a m) (hg : Gl X "list" := by rfl) (hg2 : Gl X "range" := by rfl)
    (na : starEach [a] X.env = (false, eval a X.env) :: starEach [] X.env := by rfl) (na2 : starEach [(.Call (.Name "range" p2) [a] [] pos2)] X.env = (false, eval (.Call (.Name "range" p2) [a] [] pos2) X.env) :: starEach [] X.env := by rfl) :
    DE X T E (.Call (.Name "list" p) [.Call (.Name "range" p2) [a] [] pos2] [] pos) (wListRg m) := by
  obtain ⟨t, pa, sa⟩ := ha.ex
  refine ⟨_, pe_listRg hc hg hl (prg_1 hg2 hm pa na) na2, fun sl W σ H Q' X' Q hs rp h p px => ?_⟩
  refine sa sl W σ H _ X' _ hs rp h (fun d W1 v H1 q1 x1 r1 a1 => ?_) px
  cases a1 with
  | int n =>
    obtain ⟨⟨b1, b2, b3⟩, q1⟩ := q1
    refine ⟨n, rfl, ⟨by omega, by omega, b1, b2, by simpa using b3⟩, fun q hq => ?_⟩
    exact p _ W1 _ _ q1 (x1.trans (.laid hq)) (r1.laid hq) (.lst upd_same (r1.fresh hq) (rgV_at n))
  | _ => exact q1.elim
end
end DL
namespace DL
open PySem PySem.Spec PyProof.Rows L2

/-! ### a list that was set aside becomes a live cell -/
section
variable {K : PySem.W.Frag} {T : Tb} {W : Wd} {H : Hp}
theorem Rep.raise (r : Rep K T W H) {L : Addr} {g : Addr → Prop} {ds : List D} {us : List V} (hg : ∀ a, g a → W.G a) (gL : W.G L) (nL : ¬ g L) (hu : H L = some (.lst us)) (au : AtL K T W H ds us) :
    Rep K T ((W.wG g).push L (.lst ds)) H ∧ Exz W H ((W.wG g).push L (.lst ds)) H := by
  have xz : Exz W H ((W.wG g).push L (.lst ds)) H := ⟨fun b o e f => ⟨e, fun z => by
      rcases push_live (W := W.wG g) r.len z with z | z
      · exact f.1 z
      · exact f.2 (by rw [z]; exact gL), fun z => f.2 (hg b z)⟩, fun j a h => by
      show (W.A ++ [L])[j]? = some a
      rw [List.getElem?_append_left (List.getElem?_eq_some_iff.mp h).1]; exact h⟩
  have nl : ¬ W.Live L := r.aside_not gL
  refine ⟨⟨?_, fun i j a ci cj h1 h2 h3 h4 l1 l2 => ?_, fun j a d h1 h2 => ?_, fun a l z => ?_, fun a z => r.gth a (hg a z)⟩, xz⟩
  · show (W.A ++ [L]).length = (W.cs ++ [C.lst ds]).length
    simp [r.len]
  · rcases push_at (W := W.wG g) r.len h1 h3 with ⟨x1, x2⟩ | ⟨x1, x2, _⟩
    · rcases push_at (W := W.wG g) r.len h2 h4 with ⟨y1, y2⟩ | ⟨y1, y2, _⟩
      · exact r.inj i j a ci cj x1 y1 x2 y2 l1 l2
      · exact absurd ⟨i, ci, by rw [← y2]; exact x1, x2, l1⟩ nl
    · rcases push_at (W := W.wG g) r.len h2 h4 with ⟨y1, y2⟩ | ⟨y1, y2, _⟩
      · exact absurd ⟨j, cj, by rw [← x2]; exact y1, y2, l2⟩ nl
      · rw [x1, y1]
  · rcases push_at (W := W.wG g) r.len h1 h2 with ⟨x1, x2⟩ | ⟨x1, x2, x3⟩
    · exact (r.cell j a d x1 x2).exz xz fun _ _ e => e
    · subst x2 x3
      exact ⟨us, hu, au.exz xz⟩
  · rcases push_live (W := W.wG g) r.len l with l | l
    · exact r.apart a l (hg a z)
    · exact nL (by rw [← l]; exact z)
end
def wLcR (mi : WA) (g : WG) (mt : WT) (me : WE) (vs : List Nat) : WE := fun sl cs Q X => mi sl cs (fun ds cs1 => ds.length ≤ sizeLine ∧ lcW g mt me (wipeD sl vs) (fun acc cs2 => Q (.root cs2.length) (cs2 ++ [.lst acc])) ds [] cs1) X
section
variable {X : Cx} {T : Tb} {E : XK}
theorem lcR_ok {mi : WA} {g : WG} {gs : List Nat} {mt : WT} {me : WE} {vs : List Nat} {wi : TI} (hgs : ∀ i ∈ gs, i ∈ vs)
    (s1 : ∀ sl W σ H Q' X' R, SlAt X.K T W H sl σ → Rep X.K T W H → mi sl W.cs Q' X' → (∀ ds W1 J H1, Q' ds W1.cs → Ext W H W1 H1 → Rep X.K T W1 H1 → ItOK X.K T J ds W1 H1 → R J H1) → PostX X.K T W H X' E → wi σ H R)
    {sl : Sl} {W : Wd} {σ : L2.St} {H : Hp} {Q' : WQ} {X' : XQ} {Q : VK} (hs : SlAt X.K T W H sl σ) (rp : Rep X.K T W H) (h : wLcR mi g mt me vs sl W.cs Q' X')
    (po : ∀ W' l H', Q' (.root (W'.cs.length - 1)) W'.cs → Ext W H W' H' → Rep X.K T W' H' → At X.K T W' H' (.root (W'.cs.length - 1)) (.ref l) → Q (.ref l) H') (px : PostX X.K T W H X' E) :
    tLc wi (canG X.K T g gs) (canT X.K T E0 mt) (canE X.K T E0 me) vs σ H Q := by
  refine s1 sl W σ H _ X' _ hs rp h (fun ds W1 J H1 ⟨hz, q1⟩ x1 r1 ok => ?_) px
  intro L hL
  refine ⟨fun i m H' => ∃ Wi acc us, H' L = some (.lst us) ∧ AtL X.K T Wi H' acc us ∧ us.length ≤ i ∧ (∀ a, W1.G a → Wi.G a) ∧ Wi.G L ∧ Rep X.K T Wi H' ∧ Ex0 W1 H1 Wi H' ∧ m = ds.length - i ∧ i ≤ ds.length ∧
      lcW g mt me (wipeD sl vs) (fun acc cs2 => Q' (.root cs2.length) (cs2 ++ [.lst acc])) (ds.drop i) acc Wi.cs,
    ⟨_, W1.wG fun a => W1.G a ∨ a = L, [], [], upd_same, .nil, Nat.le_refl _, fun a z => .inl z, .inr rfl, r1.lay hL, .lay hL, rfl, Nat.zero_le _, by rw [List.drop_zero]; exact q1⟩, ?_⟩
  rintro i m H2 ⟨Wi, acc, us, hu, au, lu, g1, gL, r2, x2, rfl, hi, q2⟩
  have trk : ∀ b, H1 b ≠ none → H2 b ≠ none ∨ W1.Live b := fun b hb => by
    by_cases l : W1.Live b
    · exact .inr l
    · cases e : H1 b with
      | none => exact absurd e hb
      | some o => left; rw [(x2.keep b o e l).1]; exact Option.some_ne_none _
  -- composing: what stood at the start stays
  have comp : ∀ {W3 : Wd} {H3 : Hp}, Ext Wi H2 W3 H3 → Ex0 W1 H1 W3 H3 := fun {W3 H3} x3 =>
    ⟨fun b o e l => let ⟨e1, l1⟩ := x2.keep b o e l; x3.keep b o e1 l1, fun j a e => x3.pre j a (x2.pre j a e), fun b hb z => by rw [x3.g] at z; exact x2.gk b hb z⟩
  by_cases hlt : i < ds.length
  · refine .inr ⟨ok.go i Wi H2 x2.z r2 hlt, fun H' => ∃ Wi acc us, H' L = some (.lst us) ∧ AtL X.K T Wi H' acc us ∧ us.length ≤ i + 1 ∧ (∀ a, W1.G a → Wi.G a) ∧ Wi.G L ∧ Rep X.K T Wi H' ∧ Ex0 W1 H1 Wi H' ∧
      lcW g mt me (wipeD sl vs) (fun acc cs2 => Q' (.root cs2.length) (cs2 ++ [.lst acc])) (ds.drop (i + 1)) acc Wi.cs,
      fun H' ⟨Wj, acc, us, z1, z2, z3, z4, z5, z6, z7, z8⟩ => ⟨ds.length - (i + 1), by omega, Wj, acc, us, z1, z2, z3, z4, z5, z6, z7, rfl, hlt, z8⟩, fun y H3 hy => ?_⟩
    obtain ⟨d, ed, x3, r3, a3⟩ := ok.yld i Wi H2 y H3 x2.z r2 hlt hy
    have hd : ds.drop i = d :: ds.drop (i + 1) := by
      rw [List.drop_eq_getElem_cons hlt]
      congr 1
      exact Option.some.inj ((List.getElem?_eq_getElem hlt).symm.trans ed)
    rw [hd] at q2
    have hs3 : SlAt X.K T Wi H3 (wipeD sl vs) (wipe σ vs) := ((hs.ext x1).ex0 (comp x3)).wipe vs
    have nl : ¬ Wi.Live L := r2.aside_not gL
    have hu3 := (x3.keep L _ hu nl).1
    refine ⟨_, Wi, d, _, hs3, r3, a3, q2, fun sl4 σ4 q4 hs4 l4 f4 => ⟨wipe_eq hgs l4 f4, ?_⟩⟩
    refine ⟨sl4, Wi, _, _, hs4, r3, q4, fun b W5 H5 q5 x5 r5 => ?_, post_no⟩
    have hu5 := x5.keep L _ hu3 nl
    have au5 := (au.ext x3).ext x5
    cases b with
    | true =>
      have q5 : me sl4 W5.cs (fun y cs4 => lcW g mt me (wipeD sl vs) (fun acc cs2 => Q' (.root cs2.length) (cs2 ++ [.lst acc])) (ds.drop (i + 1)) (acc ++ [y]) cs4) (fun _ _ _ => False) := q5
      refine iteT ⟨sl4, W5, _, _, hs4.ext x5, r5, q5, fun dy W6 y6 H6 q6 x6 r6 a6 => ?_, post_no⟩
      have hu6 := x6.keep L _ hu5.1 hu5.2
      have gL6 : W6.G L := by rw [x6.g, x5.g]; exact gL
      refine ⟨us, hu6.1, Nat.lt_of_le_of_lt lu (by omega), W6, acc ++ [dy], us ++ [y6], upd_same, ((au5.ext x6).append (.cons a6 .nil)).exz (.aside gL6), by rw [List.length_append, List.length_singleton]; omega, fun a z => by rw [x6.g, x5.g]; exact g1 a z, gL6, r6.aside gL6, ?_, q6⟩
      have x0 := comp ((x3.trans x5).trans x6)
      exact ⟨fun b o e l => let ⟨e1, l1⟩ := x0.keep b o e l; ⟨by rw [upd_ne (ne_of_none e hL)]; exact e1, l1⟩, x0.pre, x0.gk⟩
    | false =>
      have q5 : lcW g mt me (wipeD sl vs) (fun acc cs2 => Q' (.root cs2.length) (cs2 ++ [.lst acc])) (ds.drop (i + 1)) acc W5.cs := q5
      exact iteF ⟨W5, acc, us, hu5.1, au5, by omega, fun a z => by rw [x5.g]; exact g1 a z, by rw [x5.g]; exact gL, r5, comp (x3.trans x5), q5⟩
  · have e : i = ds.length := by omega
    subst e
    rw [List.drop_length] at q2
    refine .inl ⟨ok.stop _ Wi H2 x2.z r2 (Nat.le_refl _), ?_⟩
    have nL : ¬ W1.G L := fun z => (by obtain ⟨u, e, _⟩ := r1.gth L z; rw [hL] at e; cases e)
    obtain ⟨r3, xz⟩ := r2.raise g1 gL nL hu au
    have el : ((Wi.wG W1.G).push L (.lst acc)).cs.length - 1 = Wi.cs.length := by
      show (Wi.cs ++ [C.lst acc]).length - 1 = _
      simp
    have xf : Ext W1 H1 ((Wi.wG W1.G).push L (.lst acc)) H2 := ⟨fun b o e l => let ⟨e1, l1⟩ := x2.keep b o e l; ⟨e1, fun z => by
        rcases push_live r2.len z with z | z
        · exact l1 z
        · rw [z, hL] at e; cases e⟩, fun j a e => xz.pre j a (x2.pre j a e), rfl⟩
    refine po ((Wi.wG W1.G).push L (.lst acc)) L H2 (by rw [el]; exact q2) (x1.trans xf) r3 (.root ?_)
    rw [el]
    show (Wi.A ++ [L])[Wi.cs.length]? = some L
    rw [← r2.len, List.getElem?_append_right (Nat.le_refl _), Nat.sub_self]
    rfl
theorem de_lcR {elt tg iter : Expr} {ifs : List Expr} {scope : Scope} {own : List (Str × Nat)} {pos : Pos} {mi : WA} {g : WG} {gs : List Nat} {mt : WT} {me : WE} (hc : X.calm = true) (hN : X.N.Nodup) (hi : DI X T E tg iter mi) (ok : BlkOk X.N X.env.scope scope own) (hgs : ∀ i ∈ gs, i ∈ own.map (·.2))
    (hg : ∀ (s : Shared) (H : Hp) (C : Addr) (cl : List (Str × Addr)) (fp : List Addr), DG (X.blk s H scope (compEnvC scope cl C X.env) fp) T tg g gs) (ht : ∀ (s : Shared) (H : Hp) (C : Addr) (cl : List (Str × Addr)) (fp : List Addr), DTs (X.blk s H scope (compEnvC scope cl C X.env) fp) T E0 ifs mt)
    (he : ∀ (s : Shared) (H : Hp) (C : Addr) (cl : List (Str × Addr)) (fp : List Addr), DE (X.blk s H scope (compEnvC scope cl C X.env) fp) T E0 elt me) (hs : ∀ x, foldedSetIterable iter X.env x = pure x := by intro _; rfl) :
    DE X T E (.ListComp elt [⟨tg, iter, ifs, 0⟩] scope pos) (wLcR mi g mt me (own.map (·.2))) := by
  obtain ⟨wi, p1, s1⟩ := hi.ex
  refine ⟨_, pe_lc (g := canG X.K T g gs) (tt := canT X.K T E0 mt) (te := canE X.K T E0 me) hc hN p1 ok (fun s H C cl fp => (hg s H C cl fp).can) (fun s H C cl fp => (ht s H C cl fp).can) (fun s H C cl fp => (he s H C cl fp).can) hs, ?_⟩
  exact fun sl W σ H Q' X' Q hs rp h po px => lcR_ok hgs s1 hs rp h (fun W' l H' q x r a => po _ W' _ H' q x r a) px
/-- name = [..] on one line, the name a local -/
theorem ds_lcR {i : Nat} {y : Str} {py : Pos} {elt tg iter : Expr} {ifs : List Expr} {scope : Scope} {own : List (Str × Nat)} {pos spos : Pos} {mi : WA} {g : WG} {gs : List Nat} {mt : WT} {me : WE} (hc : X.calm = true) (hN : X.N.Nodup) (hyl : X.env.scope.names.lookup y = some .local)
    (hsw : swapsWith (.ListComp elt [⟨tg, iter, ifs, 0⟩] scope pos) (some (.Name y py)) spos.line X.env = pure true) (hi : DI X T E tg iter mi) (ok : BlkOk X.N X.env.scope scope own) (hgs : ∀ i ∈ gs, i ∈ own.map (·.2))
    (hg : ∀ (s : Shared) (H : Hp) (C : Addr) (cl : List (Str × Addr)) (fp : List Addr), DG (X.blk s H scope (compEnvC scope cl C X.env) fp) T tg g gs) (ht : ∀ (s : Shared) (H : Hp) (C : Addr) (cl : List (Str × Addr)) (fp : List Addr), DTs (X.blk s H scope (compEnvC scope cl C X.env) fp) T E0 ifs mt)
    (he : ∀ (s : Shared) (H : Hp) (C : Addr) (cl : List (Str × Addr)) (fp : List Addr), DE (X.blk s H scope (compEnvC scope cl C X.env) fp) T E0 elt me) (hy : X.N[i]? = some y := by rfl) (hs : ∀ x, foldedSetIterable iter X.env x = pure x := by intro _; rfl) :
    DS X T E (.Assign [.Name y py] (.ListComp elt [⟨tg, iter, ifs, 0⟩] scope pos) spos) (wAsg (wLcR mi g mt me (own.map (·.2))) (wgName i)) := by
  obtain ⟨wi, p1, s1⟩ := hi.ex
  refine ⟨_, ps_setLc (i := i) (g := canG X.K T g gs) (tt := canT X.K T E0 mt) (te := canE X.K T E0 me) hc hN hy hyl hsw p1 ok (fun s H C cl fp => (hg s H C cl fp).can) (fun s H C cl fp => (ht s H C cl fp).can) (fun s H C cl fp => (he s H C cl fp).can) hs, ?_⟩
  exact fun sl W σ H D' Dn hs rp h p => lcR_ok hgs s1 hs rp h (fun W' l H' q x r a => p.nx _ W' _ H' q x r ((hs.ext x).set i a)) p.xq
end
end DL
namespace DL
open PySem PySem.Spec PyProof.Rows L2

/-! ### k in d, k not in d: a dict with tuples as keys -/
def wDIn (neg : Bool) (mi mo : WE) : WT := fun sl cs Q X => mi sl cs (fun y cs1 => mo sl cs1 (fun d cs2 => match dictT cs2 d, tkey y with
  | some kvs, some k => Q (if neg then !(valD kvs k).isSome else (valD kvs k).isSome) cs2
  | _, _ => False) X) X
section
variable {X : Cx} {T : Tb} {E : XK} {i o : Expr} {mi mo : WE} {pos : Pos}
theorem dt_din (hu : X.A.units + 1 < cLine) (hm : behindInMarks .In o = false) (hi : DE X T E i mi) (ho : DE X T E o mo) : DT X T E (.Compare i [.In] [o] pos) (wDIn false mi mo) := by
  obtain ⟨ti, pi, si⟩ := hi.ex
  obtain ⟨to, po, so⟩ := ho.ex
  refine ⟨_, pt_cmp (pc_din hu pi po) hm, fun sl W σ H Q' X' Q hs rp h p px => ?_⟩
  refine si sl W σ H _ X' _ hs rp h (fun y W1 v H1 q1 x1 r1 a1 => ?_) px
  refine so sl W1 σ H1 _ X' _ (hs.ext x1) r1 q1 (fun d W2 u H2 q2 x2 r2 a2 => ?_) (px.st x1)
  split at q2
  · rename_i kvs k e1 e2
    obtain ⟨l, vs, rfl, rd, t⟩ := dictT_at r2 a2 e1
    obtain ⟨b, rfl, hb⟩ := tkey_at (a1.ext x2) e2
    have z := valD_zip k kvs vs t
    cases ev : valD kvs k with
    | some e =>
      rw [ev] at z q2
      obtain ⟨w', z1, z2⟩ := z
      exact ⟨l, some w', rfl, .inr ⟨_, k, b, rd, rfl, hb, z1.symm⟩, true, rfl, p true W2 H2 q2 (x1.trans x2) r2⟩
    | none =>
      rw [ev] at z q2
      exact ⟨l, none, rfl, .inr ⟨_, k, b, rd, rfl, hb, z.symm⟩, false, rfl, p false W2 H2 q2 (x1.trans x2) r2⟩
  · exact q2.elim
theorem dt_dnotin (hu : X.A.units + 1 < cLine) (hm : behindInMarks .NotIn o = false) (hi : DE X T E i mi) (ho : DE X T E o mo) : DT X T E (.Compare i [.NotIn] [o] pos) (wDIn true mi mo) := by
  obtain ⟨ti, pi, si⟩ := hi.ex
  obtain ⟨to, po, so⟩ := ho.ex
  refine ⟨_, pt_cmp (pc_dnotin hu pi po) hm, fun sl W σ H Q' X' Q hs rp h p px => ?_⟩
  refine si sl W σ H _ X' _ hs rp h (fun y W1 v H1 q1 x1 r1 a1 => ?_) px
  refine so sl W1 σ H1 _ X' _ (hs.ext x1) r1 q1 (fun d W2 u H2 q2 x2 r2 a2 => ?_) (px.st x1)
  split at q2
  · rename_i kvs k e1 e2
    obtain ⟨l, vs, rfl, rd, t⟩ := dictT_at r2 a2 e1
    obtain ⟨b, rfl, hb⟩ := tkey_at (a1.ext x2) e2
    have z := valD_zip k kvs vs t
    cases ev : valD kvs k with
    | some e =>
      rw [ev] at z q2
      obtain ⟨w', z1, z2⟩ := z
      exact ⟨l, some w', rfl, .inr ⟨_, k, b, rd, rfl, hb, z1.symm⟩, false, rfl, p false W2 H2 q2 (x1.trans x2) r2⟩
    | none =>
      rw [ev] at z q2
      exact ⟨l, none, rfl, .inr ⟨_, k, b, rd, rfl, hb, z.symm⟩, true, rfl, p true W2 H2 q2 (x1.trans x2) r2⟩
  · exact q2.elim
end
end DL
namespace PySem.W
open PySem PySem.Calls PyProof.Rows
section
variable {prog : Program} {w : World} {A A₀ : Around} {E : Value → Shared → Prop} {s : Shared} {K : Frag} {x C L f : Addr} {h₀ : Heap} {m : Str → Option Value} {ox : Obj} {od : Option Obj} {name : Str} {b tb : Value}
theorem bound_builtin {M : Model} {id : String} {args : List Value} {Q : Option Value → Shared → Prop} (X : K.In s.heap) (I : InstAt s.heap x ox C od) (hs : findIn K (.ref C) name = some (some (.builtin id))) (hbd : ∀ self, bindSpecial (.builtin id) self = pure (.builtin id, [self]))
    (h : wpAny M A (call (.builtin id) (.ref x :: args)) (fun v => Q (some v)) E s) : wpAny M A (callSpecialIfBound? (.ref x) name args) Q E s := by
  simp only [callSpecialIfBound?, bindSpecialIfBound?]
  refine wpAny_holding (wpAny_bind (wpAny_bind (wpAny_bind (I.type.here ((looks_findIn X hs).here ?_)))))
  simp only [hbd]
  refine wpAny_bind (wpAny_askSetting (wpAny_ite ?_))
  have fin : wpAny M A (call (.builtin id) ([.ref x] ++ args) >>= fun v => pure (some v)) Q E s := wpAny_bind (wpAny_mono h (fun v s' h' => wpAny_pure h') fun _ _ h' => h')
  split
  · exact wpAny_bind (wpAny_pure (wpAny_pure fin))
  · exact wpAny_tryCatch (wpAny_bind (wpAny_pure (wpAny_pure fin)))
theorem check_obj {M : Model} {id n : String} {rest : List Value} {Q : Unit → Shared → Prop} (X : K.In s.heap) (I : InstAt s.heap x ox C od) (hm : mroIn K C (.type "object") = some true) (hk : builtinKind id = some .slot) (hs : splitId id = some ("object", n))
    (ha : argsOk id ⟨.ref x :: rest, []⟩) (hq : Q () s) : wpAny M A (checkBuiltinCall id ⟨.ref x :: rest, []⟩) Q E s := by
  simp only [checkBuiltinCall, hk, hs]
  refine wpAny_bind ?_
  unfold isInstance
  have L1 := looks_mroIn (M := M) X hm
  refine wpAny_bind (I.type.here (L1.here ?_))
  simp only [Bool.not_true, Bool.false_eq_true, if_false]
  try refine wpAny_bind (wpAny_pure ?_)
  cases hsig : Manifest.signature? id with
  | none => exact wpAny_pure hq
  | some sig =>
    simp only [argsOk, hsig] at ha
    have h2 : Bind.checkArgs id sig ⟨.ref x :: rest, []⟩ = pure () := ha
    show wpAny M A (Bind.checkArgs id sig ⟨.ref x :: rest, []⟩) Q E _
    rw [h2]; exact wpAny_pure hq
theorem ne_K {Q : Value → Shared → Prop} (hu : A.units + 1 < cLine) (Fr0 : PyProof.Rows.Fr h₀ L s.heap m) (X₀ : K.In h₀) (I : InstAt s.heap x ox C od) (hb : Looks (model prog w) s.heap (typeOf b) tb) (hn : notFirst K C tb = true)
    (hne : findIn K (.ref C) "__ne__" = some (some (.builtin "object.__ne__"))) (hm : mroIn K C (.type "object") = some true)
    (hs : findIn K (.ref C) "__eq__" = some (some (.ref f))) (hf : isFn K (.ref f) = true)
    (h : wpAny (model prog w) A.in1 (call (.ref f) [.ref x, b]) (fun v s' => ∃ k, v = .bool k ∧ Q (.bool (!k)) s') E s) : wpAny (model prog w) A (richCompare .NotEq (.ref x) b) Q E s := by
  have X := X₀.keeps Fr0.keep
  have hu0 : A.units < cLine := Nat.lt_of_succ_lt hu
  have one : wpAny (model prog w) A (tryCompare (.ref x) "__ne__" b) (fun r s' => ∃ v, r = some v ∧ Q v s') E s := by
    unfold tryCompare
    refine wpAny_bind (bound_builtin X I hne F.cmp_object.ne.bind ?_)
    refine wpAny_call (codeAny_call_builtin F.cmp_object.ne.plain F.cmpEntry_ne (check_obj X I hm F.cmpKind_ne F.cmpSplit_ne (F.cmpArgs_ne _ _) ?_))
    unfold Builtin.«object.__ne__» slotArgs
    have hcr : A.in1.units < cLine := by first | exact hu | (simp only [Around.in1]; exact hu)
    repeat (first | with_reducible refine wpAny_cRoomFor hcr ?_ | with_reducible refine ifBound_K X I hs hf (wpAny_mono h ?_ fun _ _ e => e) | wp_step)
    rintro v s' ⟨k, rfl, hq⟩
    repeat wp_step
    exact ⟨_, rfl, hq⟩
  unfold richCompare
  simp only [oneThing_ref, cmpInfo_NotEq]
  refine wpAny_holding (wpAny_bind (wpAny_cRoomFor hu0 ?_))
  refine wpAny_bind (I.type.here (wpAny_bind (hb.here ?_)))
  split
  · rename_i q
    have e : subIn K tb (.ref C) = some false := by
      rcases Bool.or_eq_true_iff.mp hn with e | e
      · rw [beq_iff_eq.mp e] at q; simp at q
      · exact beq_iff_eq.mp e
    refine wpAny_bind ((looks_subIn X e).here ?_)
    simp only [Bool.false_eq_true, if_false]
    refine wpAny_bind (wpAny_mono one (fun r s' z => ?_) fun _ _ e => e)
    obtain ⟨v, rfl, hq⟩ := z
    exact wpAny_pure hq
  · refine wpAny_bind (wpAny_pure ?_)
    simp only [Bool.false_eq_true, if_false]
    refine wpAny_bind (wpAny_mono one (fun r s' z => ?_) fun _ _ e => e)
    obtain ⟨v, rfl, hq⟩ := z
    exact wpAny_pure hq
end
end PySem.W
namespace DL
open PySem PySem.Spec PyProof.Rows L2
/-- the class has the != of every object -/
structure NeOf (K : PySem.W.Frag) (C : Addr) : Prop where
  ne : PySem.W.findIn K (.ref C) "__ne__" = some (some (.builtin "object.__ne__"))
  mro : PySem.W.mroIn K C (.type "object") = some true
section
variable {X : Cx} {T : Tb} {E : XK} {CX : CXT} {k n : Nat} {f C : Addr} {fd : FuncData} {ps : List Str} {S : SD}
theorem op_neO (hg : X.A.guards = some []) (hr : Room (k + 1) X.A) (F : DFn X.prog X.w X.K X.mg X.base T CX0 k f fd ps S) (B : FnB X.K f fd ps) (m : Meth X.K C "__eq__" f) (ne : NeOf X.K C) : OpR X (compareOp .NotEq) (rEqO X.K T S C true) := by
  intro pins s σ H x y v u Q I rx ry hq
  obtain ⟨a, b, dx, dy, fs, gs, rfl, rfl, ha, hb', hs⟩ := hq
  cases rx
  cases ry
  obtain ⟨mA, J, _⟩ := ins_get I.hok ha
  obtain ⟨mB, J', _⟩ := ins_get I.hok hb'
  obtain ⟨od, J, _⟩ := J.look
  obtain ⟨od', J', _⟩ := J'.look
  obtain ⟨m', hF⟩ := I.fr
  show wpAny (model X.prog X.w) X.A (richCompare .NotEq (.ref a) (.ref b)) (EP X pins σ Q) X.xe s
  refine PySem.W.ne_K (tb := .ref C) (by have := hr.in1.units0; exact this) hF I.ok.mod.kin J J'.type (by simp [PySem.W.notFirst]) ne.ne ne.mro m.at_ m.fn ?_
  have r2 : Vals [V.ref a, V.ref b] [Value.ref a, Value.ref b] := .cons (show L2.RelV (.ref a) (.ref a) from rfl) (.cons (show L2.RelV (.ref b) (.ref b) from rfl) .nil)
  have hl : ([Value.ref a, Value.ref b] ++ []).length = ps.length := by rw [List.append_nil, ← r2.length]; exact F.len _ _ _ _ hs
  have bd := B.b s [Value.ref a, Value.ref b] I.kIn hl
  rw [List.append_nil] at bd
  have e0 : Env0 X.prog X.w X.K X.mg X.base X.A.in1 X.stack s H := by
    have e := I.env0
    exact ⟨e.frames, e.mod, e.bs, e.bsz, e.funs, e.frf, e.hok, e.bare⟩
  refine wpAny_call (codeAny_mono (F.run X.A.in1 X.stack s H ⟨[.ref a, .ref b], []⟩ _ _ _ E0 hg hr.in1 e0 bd r2 hs) fun q s' hq' => ?_)
  rcases ends_of I pass0 hq' with ⟨r, e, z⟩ | ⟨e, e1, z⟩
  · subst e
    obtain ⟨v, H', I', rv, b, rfl, q⟩ := z
    have rv : r = .bool b := rv
    subst rv
    exact ⟨b, rfl, .bl _, H', I', rfl, by cases b <;> exact q⟩
  · subst e1; exact z
theorem ok_neO {K : PySem.W.Frag} : OkR K T (rEqO K T S (T.cl n) true) (gEqO not n S) := fun W H d e v u Q' Q r a b h p => by
  cases a with
  | @ins a dx n1 vs ds h1 l1 f1 t1 =>
    cases b with
    | @ins b dy n2 us es h2 l2 f2 t2 =>
      obtain ⟨e1, e2, h⟩ := h
      subst e1 e2
      refine ⟨a, b, dx, dy, _, _, rfl, rfl, h1, h2, _, W, _, _, .cons (.ins h1 l1 f1 t1) (.cons (.ins h2 l2 f2 t2) .nil), r, h, fun d W' v H' q x r' at' => ?_, fun _ _ _ _ _ _ z => z.elim⟩
      cases d with
      | bl b => cases at'; exact ⟨b, rfl, by cases b <;> exact p _ W' _ H' q x r' (.bl _)⟩
      | _ => exact q.elim
    | _ => exact h.elim
  | _ => exact h.elim
end
end DL
namespace DL
open PySem PySem.Spec PyProof.Rows L2

/-! ### < of plain data -/
def rLtD (K : PySem.W.Frag) : R2 := fun x y H Q => ∃ d e, Dp K H x d ∧ Dp K H y e ∧ PySem.W.alike d e = true ∧ d ≠ .none ∧ d.depth ≤ 60 ∧ Q (.bl (PySem.W.dataLt d e)) H
theorem op_ltD {X : Cx} (hu : X.A.units + 64 < cLine) : OpR X (compareOp .Lt) (rLtD X.K) := by
  intro pins s σ H x y v u Q I rx ry h
  obtain ⟨d, e, hd, he, sd, se, dp, q⟩ := h
  obtain ⟨as, r1⟩ := Dp.reads I d x v hd rx
  obtain ⟨bs, r2⟩ := Dp.reads I e y u he ry
  exact PySem.W.lt_data r1 r2 sd se (by omega) ⟨.bl _, H, I, rfl, q⟩
def gLtD : G2 := fun d e cs Q => match py cs d, py cs e with
  | some p, some q => PySem.W.alike p q = true ∧ p ≠ .none ∧ p.depth ≤ 60 ∧ Q (.bl (PySem.W.dataLt p q)) cs
  | _, _ => False
theorem ok_ltD {T : Tb} {K : PySem.W.Frag} : OkR K T (rLtD K) gLtD := by
  intro W H d e v u Q' Q r a b h p
  unfold gLtD at h
  split at h
  · rename_i q1 q2 e1 e2
    exact ⟨q1, q2, py_at r e1 a, py_at r e2 b, h.1, h.2.1, h.2.2.1, p _ W _ H h.2.2.2 .refl r (.bl _)⟩
  · exact h.elim
/-! ### xs[k::-1] -/
theorem bounds_from (k n : Nat) : sliceBounds (some (k : Int)) none (some (-1)) n = (((min (k + 1) n : Nat) : Int) - 1, -1, -1) := by
  unfold sliceBounds
  simp
  omega
theorem pick_from (items : Array Value) (k : Nat) : slicePick items (some (k : Int)) none (some (-1)) = (items.toList.take (k + 1)).reverse.toArray := by
  unfold slicePick
  rw [bounds_from]
  show ((sliceRange (((min (k + 1) items.size : Nat) : Int) - 1) (-1) (-1)).filterMap (items[·]?)).toArray = _
  rw [PySem.W.krv_sliceRange, PySem.W.krv_range, List.filterMap_reverse]
  have h := PySem.pick_run items 0 (min (k + 1) items.size)
  have e : (List.range (min (k + 1) items.size)).map (0 + ·) = List.range (min (k + 1) items.size) := by
    rw [show ((0 + ·) : Nat → Nat) = id from funext fun k => Nat.zero_add k, List.map_id]
  rw [e, List.drop_zero] at h
  rw [h]
  congr 2
  rw [← Array.length_toList, ← List.take_eq_take_min]
def tRevF (K : PySem.W.Frag) (te : TE) (k : Nat) : TE := fun σ H Q => te σ H fun x H1 => ∃ a xs, x = .ref a ∧ SqL K H1 a xs ∧ ∀ p, H1 p = none → Q (.ref p) (upd H1 p (.lst (xs.take (k + 1)).reverse))
theorem pe_revF {X : Cx} {n : Nat} {e : Expr} {te : TE} {k k' : Nat} {p0 p1 p2 p3 pos : Pos} (he : PE X e te) : PE X (.Subscript e (.Slice (some (.Constant (.int (n : Int)) k' p0)) none (some (.UnaryOp .USub (.Constant (.int 1) k p1) p2)) p3) pos) (tRevF X.K te n) := by
  refine ⟨fun pins s σ H Q I h => ?_⟩
  refine Subscript_ (thn (he.run pins s σ H _ I h) fun v s1 ⟨x, H1, I1, r1, q1⟩ => ?_)
  obtain ⟨a, xs, ex, hx, q⟩ := q1
  subst ex
  cases r1
  have hst : PO X (some (.UnaryOp .USub (.Constant (.int 1) k p1) p2)) (tPart (tUn (rU fun i => .int (-i)) (tC (.int 1)))) := po_some (pe_un un_neg pe_int)
  have hlo : PO X (some (.Constant (.int (n : Int)) k' p0)) (tPart (tC (.int (n : Int)))) := po_some pe_int
  refine wpAny_Slice (thn (hlo.run pins s1 σ H1 (fun o H2 => o = some (n : Int) ∧ H2 = H1) I1 ⟨(n : Int), rfl, rfl, rfl⟩) fun vl s2 ⟨l, H2, I2, pl, el, e2⟩ => ?_)
  subst el e2
  refine thn (po_none.run pins s2 σ H2 (fun o H3 => o = none ∧ H3 = H2) I2 ⟨rfl, rfl⟩) fun vu s3 ⟨u, H3, I3, pu, eu, e3⟩ => ?_
  subst eu e3
  refine thn (hst.run pins s3 σ H3 (fun o H4 => o = some (-1) ∧ H4 = H3) I3 ⟨1, rfl, -1, rfl, rfl, rfl⟩) fun vs s4 ⟨o, H4, I4, ps, eo, e4⟩ => ?_
  subst eo e4
  have I5 : Inv X pins σ H4 { s4 with heap := s4.heap.push { cls := .type "slice", data := .fields #[vl, vu, vs] } } := I4.kept (t' := s4.toks) fun b ob q => Heap.get?_push_of_some _ q
  obtain ⟨its, r, ht, hz⟩ := I5.list hx
  have hlen := r.length
  show wpAny (model X.prog X.w) X.A (subscriptTail e (.Slice (some (.Constant (.int (n : Int)) k' p0)) none (some (.UnaryOp .USub (.Constant (.int 1) k p1) p2)) p3) (.ref a) (.ref s4.heap.objs.size)) (EP X pins σ Q) X.xe { s4 with heap := s4.heap.push { cls := .type "slice", data := .fields #[vl, vu, vs] } }
  refine tail_any (ops := [.ref a, .ref s4.heap.objs.size]) ht.isList.typeIs (PySem.slot_list_getitem.lookup) ?_ (by with_unfolding_all rfl)
  refine wpAny_getItem_list_slice ht.isList (Heap.IsSliceOf.new _ vl vu vs) pl pu ps (by decide) ?_ (by rw [List.size_toArray]; omega)
  rw [pick_from]
  refine ⟨.ref _, _, I5.laid (t' := s4.toks) (o := .lst (xs.take (n + 1)).reverse) (fun b ob q => Heap.get?_push_of_some _ q) (Nat.le_refl _) ?_, rfl, q _ (I5.hok.fresh (Nat.le_refl _))⟩
  exact ⟨by rw [List.length_reverse, List.length_take]; omega, _, 0, (r.take (n + 1)).reverse, Heap.get?_push_size _ rfl⟩
def wRevF (n : Nat) (me : WE) : WE := fun sl cs Q X => me sl cs (fun d cs1 => match lisD cs1 d with
  | some ds => Q (.lst (ds.take (n + 1)).reverse) cs1
  | none => False) X
theorem de_revF {X : Cx} {T : Tb} {E : XK} (n : Nat) {e : Expr} {me : WE} {k k' : Nat} {p0 p1 p2 p3 pos : Pos} (he : DE X T E e me) : DE X T E (.Subscript e (.Slice (some (.Constant (.int (n : Int)) k' p0)) none (some (.UnaryOp .USub (.Constant (.int 1) k p1) p2)) p3) pos) (wRevF n me) := by
  obtain ⟨t, p, s⟩ := he.ex
  refine ⟨_, pe_revF p, fun sl W σ H Q' X' Q hs rp h po px => ?_⟩
  refine s sl W σ H _ X' _ hs rp h (fun d W1 v H1 q1 x1 r1 a1 => ?_) px
  split at q1
  · rename_i ds e
    obtain ⟨l, vs, rfl, h1, t⟩ := lisD_at r1 a1 e
    refine ⟨l, vs, rfl, h1, fun q hq => ?_⟩
    exact po _ W1 _ _ q1 (x1.trans (.laid hq)) (r1.laid hq) (.lst upd_same (r1.fresh hq) ((t.take (n + 1)).reverse.ext (.laid hq)))
  · exact q1.elim
end DL
namespace DL
open PySem PySem.Spec PyProof.Rows L2

/-! ### {k: v}, k a tuple -/
def tDispT (tk tv : TE) : TE := fun σ H Q => ∀ p, H p = none → tk σ (upd H p (.dT [])) fun x H1 => tv σ H1 fun y H2 => ∃ (b : Addr) (k : List Key) (y' : V), [(x, y)] = [(V.ref b, y')] ∧ H2 b = some (.tup (k.map kV)) ∧ H2 p = some (.dT []) ∧ Q (.ref p) (upd H2 p (.dT [(k, y')]))
theorem pe_dispT {X : Cx} {pos : Pos} {k v : Expr} {tk tv : TE} (hu : X.A.units + 1 < cLine) (hk : PE X k tk) (hv : PE X v tv) : PE X (.Dict [some k] [v] pos) (tDispT tk tv) := by
  refine ⟨fun pins s σ H Q I q => ?_⟩
  have hn := I.hok.fresh (Nat.le_refl s.heap.objs.size)
  have I1 := I.laid (a := s.heap.objs.size) (o := .dT []) (h' := s.heap.push { cls := .type "dict", data := .dict #[] }) (t' := s.toks) (fun _ _ q => Heap.get?_push_of_some _ q) (Nat.le_refl _) (dt_empty s.heap I.big)
  have hp : PPs X pos [some k] [v] [(tk, tv)] := pps_cons hk hv pps_nil
  rw [arm_eval_Dict, zip_pairTrees [some k] [v] X.env pos rfl rfl, dictDisplay_pairs (pairTrees [some k] [v] X.env pos) (by intro z; cases z) (show (1 : Nat) < 17 from by decide)]
  refine wpAny_bind (wpAny_standAt (wpAny_bind (wpAny_subDictH (knd := tupleKind (mixKind X.prog X.w)) (Q := fun d s' => wpAny (model X.prog X.w) X.A (pure (Value.ref d)) _ X.xe s') (show X.A.units < cLine from Nat.lt_of_succ_lt hu) (show (1 : Nat) ≤ 15 from by decide)
    (thn (hp.run pins _ σ _ (fun ps H2 => ∃ (b : Addr) (kk : List Key) (y : V), ps = [(.ref b, y)] ∧ H2 b = some (.tup (kk.map kV)) ∧ H2 s.heap.objs.size = some (.dT []) ∧ Q (.ref s.heap.objs.size) (upd H2 s.heap.objs.size (.dT [(kk, y)]))) I1 ?_) fun ws s2 z => ?_))))
  · exact q _ hn
  · obtain ⟨ps, H2, I2, rel, b, kk, y, rfl, hb, e, q2⟩ := z
    cases rel with
    | @cons p w _ ws r1 t1 =>
      cases t1
      obtain ⟨u, r⟩ := w
      obtain ⟨ru, ry⟩ := r1
      cases (show u = Value.ref b from ru)
      obtain ⟨z, hd, xs, rk, dd⟩ := dt_of I2.hok e
      cases rk
      refine ⟨[(kk, b, r)], ⟨rfl, rfl, key_of I2.hok hb, True.intro⟩, dd, fun h' tk dd' hs => wpAny_pure ⟨.ref s.heap.objs.size, _, ?_, rfl, q2⟩⟩
      obtain ⟨q, es, ep, hq, h2, h3, h4, _, h5⟩ := dd'
      refine d_write I2 (by rw [e]; exact True.intro) hs ⟨q, hq⟩ ⟨(show (1 : Nat) ≤ sizeLine by rw [sizeLine_eq]; decide), hd, _, .cons ⟨rfl, ?_, ry⟩ .nil, q, es, ep, hq, h2, h3, h4, h5⟩
      rw [upd_ne (ne_of hb e (fun z => nomatch z))]
      exact hb
section
variable {X : Cx} {T : Tb} {E : XK} {k v : Expr} {mk mv : WE} {pos : Pos}
/-- {k: v} -/
def wDisp1 (mk mv : WE) : WE := fun sl cs Q X => mk sl (cs ++ [.dT []]) (fun y cs1 => mv sl cs1 (fun d cs2 => match tkey y, cs2[cs.length]? with
  | some k, some (.dT []) => Q (.root cs.length) (cs2.set cs.length (.dT [(k, d)]))
  | _, _ => False) X) X
theorem de_disp1 (hu : X.A.units + 1 < cLine) (hk : DE X T E k mk) (hv : DE X T E v mv) : DE X T E (.Dict [some k] [v] pos) (wDisp1 mk mv) := by
  obtain ⟨tk, pk, sk⟩ := hk.ex
  obtain ⟨tv, pv, sv⟩ := hv.ex
  refine ⟨_, pe_dispT hu pk pv, fun sl W σ H Q' X' Q hs rp h p px a ha => ?_⟩
  have ex : Ext W H (W.push a (.dT [])) (upd H a (.dT [])) := .pushed rp ha
  have rp2 := rp.pushed ha (o := .dT []) (c := .dT []) ⟨[], upd_same, .nil⟩
  refine sk sl (W.push a (.dT [])) σ _ _ X' _ (hs.ext ex) rp2 h (fun y W1 u H1 q1 x1 r1 a1 => ?_) (px.st ex)
  refine sv sl W1 σ H1 _ X' _ ((hs.ext ex).ext x1) r1 q1 (fun d W2 w H2 q2 x2 r2 a2 => ?_) ((px.st ex).st x1)
  split at q2
  · rename_i k e1 e2
    obtain ⟨b, rfl, hb⟩ := tkey_at (a1.ext x2) e1
    have h1 : W2.A[W.cs.length]? = some a := by
      refine x2.pre _ _ (x1.pre _ _ ?_)
      show (W.A ++ [a])[W.cs.length]? = some a
      rw [← rp.len, List.getElem?_append_right (Nat.le_refl _), Nat.sub_self]
      rfl
    obtain ⟨vs, g1, g2⟩ := r2.cell _ _ _ h1 e2
    cases g2
    refine ⟨b, k, w, rfl, hb, g1, ?_⟩
    have ex3 : Ext W2 H2 (W2.put W.cs.length (.dT [(k, d)])) (upd H2 a (.dT [(k, w)])) := .put h1 e2 trivial
    exact p _ _ _ _ q2 (((ex.trans x1).trans x2).trans ex3) (r2.put h1 e2 trivial ⟨[w], by rw [upd_same]; rfl, (AtL.cons a2 .nil).ext ex3⟩) (.root h1)
  · exact q2.elim
end
end DL
namespace DL
open PySem PySem.Spec PyProof.Rows L2

/-! ### tuples together -/
def gCatT : G2 := fun d e cs Q => match d, e with
  | .tup ds, .tup es => ds.length + es.length ≤ sizeLine ∧ Q (.tup (ds ++ es)) cs
  | _, _ => False
theorem ok_catT {K : PySem.W.Frag} {T : Tb} : OkR K T (rCatA K) gCatT := by
  intro W H d e v u Q' Q r a b h p
  unfold gCatT at h
  split at h
  · rename_i ds es
    cases a with
    | @tup l vs _ h1 f1 t1 =>
      cases b with
      | @tup m us _ h2 f2 t2 =>
        obtain ⟨hz, q⟩ := h
        refine ⟨l, m, vs, us, rfl, rfl, .of h1, .of h2, by rw [← t1.length, ← t2.length]; exact hz, fun e => ?_, fun _ e => ?_, fun _ _ x hx => ?_⟩
        · subst e
          cases t1
          exact p _ W _ H q .refl r (.tup h2 f2 t2)
        · subst e
          cases t2
          refine p _ W _ H q .refl r ?_
          rw [List.append_nil]
          exact .tup h1 f1 t1
        · exact p _ W _ _ q (.laid hx) (r.laid hx) (.tup upd_same (r.fresh hx) ((t1.append t2).ext (.laid hx)))
  · exact h.elim
end DL
namespace DL
open PySem PySem.Spec PyProof.Rows L2

/-! ### d == {}, d != {}, whatever d's keys -/
theorem samePairs_empty {prog : Program} {w : World} {A : Around} {E : Value → Shared → Prop} {s : Shared} {Q : Bool → Shared → Prop} {id : String} {a b : Addr} {o o' : Obj} {es es' : Array DictEntry} {ep ep' : Nat} (ha : (a == sysModules) = false) (hb : (b == sysModules) = false)
    (hoa : s.heap.get? a = some o) (hda : o.data = .dict es ep) (hob : s.heap.get? b = some o') (hdb : o'.data = .dict es' ep') (hz : es'.size = 0) (h : Q (decide (es.size = 0)) s) : wpAny (model prog w) A (Builtin.Dict.samePairs id a b) Q E s := by
  unfold Builtin.Dict.samePairs Builtin.Dict.showsAll
  rw [if_neg (show ¬ (a == sysModules) = true by rw [ha]; exact Bool.false_ne_true), if_neg (show ¬ (b == sysModules) = true by rw [hb]; exact Bool.false_ne_true)]
  refine wpAny_bind (wpAny_pure (wpAny_bind (wpAny_pure ?_)))
  refine wpAny_bind (wpAny_dictEntries hoa hda ?_)
  dsimp only
  refine wpAny_bind (wpAny_dictEntries hob hdb ?_)
  by_cases hsz : es.size = 0
  · rw [decide_eq_true hsz] at h
    rw [if_neg (by rw [hsz, hz]; simp)]
    refine wpAny_bind (wpAny_dictEpoch hoa hda ?_)
    refine wpAny_bind ?_
    rw [Std.Legacy.Range.forIn_eq_forIn_range']
    simp only [Std.Legacy.Range.size, Nat.sub_zero, Nat.add_sub_cancel, Nat.div_one, hsz]
    exact wpAny_pure (wpAny_pure h)
  · rw [decide_eq_false hsz] at h
    rw [if_pos (by rw [hz]; simpa using hsz)]
    exact wpAny_bind (wpAny_rule (wpAny_pure h))
section
variable {X : Cx}
def rDEm (k : Bool → Bool) : R2 := fun x y H Q => ∃ (a b : Addr) (ks : List (List Key × V)), x = .ref a ∧ y = .ref b ∧ Rd H a (.dT ks) ∧ Rd H b (.dT []) ∧ Q (.bl (k (decide (ks.length = 0)))) H
theorem dT_ents {H : Hp} {s : Shared} {a : Addr} {ks : List (List Key × V)} {P : Program} {w : World} (ok : HOk P w H s.heap) (h : Rd H a (.dT ks)) : (a == sysModules) = false ∧ s.TypeIs (.ref a) "dict" ∧ ∃ o es ep, s.heap.get? a = some o ∧ o.data = .dict es ep ∧ es.size = ks.length := by
  obtain ⟨z, y, xs, rel, o, es, ep, h1, h2, h3, h4, h5, h6⟩ := dt_rd ok h
  refine ⟨y, ⟨o, h1, h2.1⟩, o, es, ep, h1, h3, ?_⟩
  have e := congrArg List.length h4
  rw [List.length_map, ← Paired.length rel] at e
  simpa using e
theorem op_eqEm (hu : X.A.units < cLine) : OpR X (compareOp .Eq) (rDEm id) := by
  intro pins s σ H x y v u Q I rx ry h
  obtain ⟨a, b, ks, rfl, rfl, ea, eb, q⟩ := h
  obtain rfl : v = Value.ref a := rx
  obtain rfl : u = Value.ref b := ry
  obtain ⟨ya, ta, o, es, ep, h1, h2, h3⟩ := dT_ents I.hok ea
  obtain ⟨yb, tb, o', es', ep', g1, g2, g3⟩ := dT_ents I.hok eb
  refine wpAny_richCompare_same_room (op := .Eq) ta tb PySem.F.slot_dict_eq (wpAny_call_entry PySem.F.slot_dict_eq ta PySem.F.entry_dict_eq ?_ (PySem.F.args_dict_eq_2 _ _)) hu
  show wpAny _ _ (Builtin.Dict.dictSlotArgs "__eq__" ⟨[.ref a, .ref b], []⟩ >>= _) _ _ s
  refine wpAny_bind ?_
  unfold Builtin.Dict.dictSlotArgs
  refine wpAny_bind (wpAny_notOrdered_dict ta ?_)
  show wpAny _ _ (pure (Value.ref a, Value.ref b)) _ _ s
  refine wpAny_pure ?_
  refine wpAny_bind (wpAny_isInstance (T := "dict") tb PySem.F.sub_dict_dict ?_)
  simp only [Bool.not_true, Bool.false_eq_true, if_false]
  refine wpAny_bind (wpAny_pure (wpAny_bind (wpAny_pure ?_)))
  refine wpAny_bind (samePairs_empty ya yb h1 h2 g1 g2 g3 ?_)
  refine wpAny_pure ⟨_, rfl, ?_, ?_⟩
  · exact fun x => nomatch x
  · rw [h3]
    refine ⟨.bl (decide (ks.length = 0)), H, I, ?_, q⟩
    show Value.bool _ = Value.bool _
    simp
theorem op_neEm (hu : X.A.units < cLine) : OpR X (compareOp .NotEq) (rDEm not) := by
  intro pins s σ H x y v u Q I rx ry h
  obtain ⟨a, b, ks, rfl, rfl, ea, eb, q⟩ := h
  obtain rfl : v = Value.ref a := rx
  obtain rfl : u = Value.ref b := ry
  obtain ⟨ya, ta, o, es, ep, h1, h2, h3⟩ := dT_ents I.hok ea
  obtain ⟨yb, tb, o', es', ep', g1, g2, g3⟩ := dT_ents I.hok eb
  refine wpAny_richCompare_same_room (op := .NotEq) ta tb PySem.F.slot_dict_ne (wpAny_call_entry PySem.F.slot_dict_ne ta PySem.F.entry_dict_ne ?_ (PySem.F.args_dict_ne_2 _ _)) hu
  show wpAny _ _ (Builtin.Dict.dictSlotArgs "__ne__" ⟨[.ref a, .ref b], []⟩ >>= _) _ _ s
  refine wpAny_bind ?_
  unfold Builtin.Dict.dictSlotArgs
  refine wpAny_bind (wpAny_notOrdered_dict ta ?_)
  show wpAny _ _ (pure (Value.ref a, Value.ref b)) _ _ s
  refine wpAny_pure ?_
  refine wpAny_bind (wpAny_isInstance (T := "dict") tb PySem.F.sub_dict_dict ?_)
  simp only [Bool.not_true, Bool.false_eq_true, if_false]
  refine wpAny_bind (wpAny_pure (wpAny_bind (wpAny_pure ?_)))
  refine wpAny_bind (samePairs_empty ya yb h1 h2 g1 g2 g3 ?_)
  refine wpAny_pure ⟨_, rfl, ?_, ?_⟩
  · exact fun x => nomatch x
  · rw [h3]
    refine ⟨.bl (!decide (ks.length = 0)), H, I, ?_, q⟩
    show Value.bool _ = Value.bool _
    simp
end
def gDEm (k : Bool → Bool) : G2 := fun d e cs Q => match dictT cs d, dictT cs e with
  | some kvs, some [] => Q (.bl (k (decide (kvs.length = 0)))) cs
  | _, _ => False
theorem ok_dem {K : PySem.W.Frag} {T : Tb} {k : Bool → Bool} : OkR K T (rDEm k) (gDEm k) := by
  intro W H d e v u Q' Q r a b h p
  unfold gDEm at h
  split at h
  · rename_i kvs e1 e2
    obtain ⟨l, vs, rfl, rd, t⟩ := dictT_at r a e1
    obtain ⟨m, us, rfl, rd2, t2⟩ := dictT_at r b e2
    cases t2
    refine ⟨l, m, _, rfl, rfl, rd, rd2, ?_⟩
    have el : ((kvs.map (·.1)).zip vs).length = kvs.length := by
      have := t.length
      rw [List.length_map] at this
      rw [List.length_zip, List.length_map]; omega
    rw [el]
    exact p _ W _ H h .refl r (.bl _)
  · exact h.elim
end DL
namespace DL
open PySem PySem.Spec PyProof.Rows L2

/-! ### for k, v in d.items(), d's keys tuples -/
theorem frzV {X : Cx} {pins : List (Addr × Obj)} {σ : L2.St} {H : Hp} {s : Shared} {d : Addr} {o : Obj} {kvs : List (List Key × V)} (I : Inv X pins σ H s) (h : H d = some (.frz o (.dT kvs))) :
    (d == sysModules) = false ∧ ∃ (es : Array DictEntry) (ep : Nat), o.data = .dict es ep ∧ es.size = kvs.length ∧ DT.Raw s.heap d es ep ∧
      ∀ (i : Nat) (k : List Key) (v : V), kvs[i]? = some (k, v) → ∃ (hi : i < es.size) (q : Addr), es[i].key = .ref q ∧ H q = some (.tup (k.map kV)) ∧ L2.RelV v es[i].val := by
  obtain ⟨hd, z, hs, xs, pr, o', es, ep, ho, hx, hdt, he, _⟩ := I.hok d _ h
  have hd' := hd
  rw [hd] at ho
  cases ho
  have l1 : es.size = xs.length := size_of_entries he
  have l2 : kvs.length = xs.length := Paired.length pr
  refine ⟨hs, es, ep, hdt, by omega, ⟨o, hd', hx, hdt⟩, fun i k v e => ?_⟩
  obtain ⟨b, hb, e1, e2, e3⟩ := paired_get pr e
  have q := entry_at he i
  rw [hb] at q
  have hi : i < es.size := by
    have := (List.getElem?_eq_some_iff.mp hb).1
    omega
  have q2 : es[i] = entryOfKey (tupleKind (mixKind X.prog X.w)) b := by
    have := Array.getElem?_eq_getElem hi
    rw [this] at q
    exact Option.some.inj q
  refine ⟨hi, b.2.1, by rw [q2]; rfl, e2, by rw [q2]; exact e3⟩
def Itit (d : Addr) (o : Obj) (kvs : List (List Key × V)) : It :=
  ⟨fun i H => H d = some (.frz o (.dT kvs)) ∧ i < kvs.length, fun i H x H' => ∃ (T : Addr) (k : List Key) (q : Addr) (v : V), kvs[i]? = some (k, v) ∧ H q = some (.tup (k.map kV)) ∧ x = .ref T ∧ H T = none ∧ H' = upd H T (.tup [.ref q, v]), fun i H => H d = some (.frz o (.dT kvs)) ∧ kvs.length ≤ i⟩
theorem turn_itemsT {P : Program} {w : World} {K : PySem.W.Frag} {d : Addr} {o : Obj} {es : Array DictEntry} {ep : Nat} {kvs : List (List Key × V)} {elts : List Expr} {kk : Nat} {tpos : Pos} (it : Addr) (hod : o.data = .dict es ep) :
    Turn P w K (.Tuple elts kk tpos) (Itit d o kvs) [it] it (fun i h => ∃ ok ov, IsItemIter h it d i kvs.length ep ok ov) where
  mem := by simp
  obj := fun i h st b hb => by
    have e : b = it := by simpa using hb
    subst e
    obtain ⟨ok, ov, e⟩ := st
    exact ⟨_, e, fun v z => nomatch z⟩
  keep := fun i h h' st k => let ⟨ok, ov, e⟩ := st; ⟨ok, ov, k it (by simp) _ e⟩
  item := by
    intro X hP hw hK hc i pins s σ H E I hf st hg
    subst hP hw hK
    obtain ⟨hd, hi⟩ := hg
    obtain ⟨hs, es', ep', hdt, hsz, hm, ent⟩ := frzV I hd
    obtain ⟨rfl, rfl⟩ := dict_ep hod hdt
    obtain ⟨⟨k, v⟩, hkv⟩ : ∃ p, kvs[i]? = some p := ⟨kvs[i], List.getElem?_eq_getElem hi⟩
    obtain ⟨hi2, q, hkey, hq, hv⟩ := ent i k v hkv
    obtain ⟨ok, ov, he⟩ := st
    rw [← hsz] at he
    have hlt : it < s.heap.objs.size := Heap.lt_size he
    refine DT.nextI he hm hi2 fun h' ho hT hz hk => ?_
    refine ⟨_, rfl, wpAny_letOwnedTupleGo_items (s := { s with heap := h' }) ho fun h'' he' sb => ?_⟩
    have hT2 : h''.get? s.heap.objs.size = some { cls := .type "tuple", data := .seq #[es'[i].key, es'[i].val] } := (sb.2 _ (Nat.ne_of_gt hlt)).trans hT
    have new : ObjOk X.prog X.w (upd H s.heap.objs.size (.tup [.ref q, v])) h'' s.heap.objs.size (.tup [.ref q, v]) :=
      ⟨by show 2 ≤ sizeLine; decide, [es'[i].key, es'[i].val], .cons (by rw [hkey]; rfl) (.cons hv .nil), ⟨_, hT2, rfl, _, rfl⟩⟩
    have I1 : Inv X pins σ (upd H s.heap.objs.size (.tup [.ref q, v])) { s with heap := h'' } :=
      I.turnedNew (t' := s.toks) (ch := [it]) (fun b ob hb e => (sb.2 b (by simpa using hb)).trans (hk b ob (by simpa using hb) e)) hf (Nat.le_refl _) new
    refine ⟨.ref s.heap.objs.size, _, I1, rfl, ⟨_, k, q, v, hkv, hq, rfl, I.hok.fresh (Nat.le_refl _), rfl⟩, ⟨es'[i].key, es'[i].val, ?_⟩, fun b hb => ?_⟩
    · rw [← hsz]; exact he'
    · have e : b = it := by simpa using hb
      rw [e, upd_ne (Nat.ne_of_lt hlt)]
      exact (hf it (by simp)).1
  done := by
    intro X hP hw hK hc i pins s σ H E I hf st hg
    subst hP hw hK
    obtain ⟨hd, hi⟩ := hg
    obtain ⟨f0, f1, f2, f3, f4, f5⟩ := hf it (by simp)
    obtain ⟨hs, es', ep', hdt, hsz, hm, ent⟩ := frzV I hd
    obtain ⟨rfl, rfl⟩ := dict_ep hod hdt
    obtain ⟨ok, ov, he⟩ := st
    rw [← hsz] at he
    exact DT.endI (I.ok.hd hc) he hm (by omega) fun h' eb => ⟨rfl, I.turned (t' := s.toks) (fun b ob hb e => eb b ob hb e) f0 f1 f3 f4 f5⟩
  self := fun A i s Q E st h => let ⟨_, _, e⟩ := st; PySem.W.kcp_self e h
section
variable {X : Cx} {T : Tb} {E : XK} {e : Expr} {m : WE} {td : TE} {apos cpos : Pos}
def iItemsT (td : TE) : TI := fun σ H R => td σ H fun x H1 => ∃ d, x = .ref d ∧ ((∃ kvs, H1 d = some (.dT kvs) ∧ ∀ o, R (Itit d o kvs) (upd H1 d (.frz o (.dT kvs)))) ∨ ∃ o kvs, H1 d = some (.frz o (.dT kvs)) ∧ R (Itit d o kvs) H1)
theorem pi_itemsT {elts : List Expr} {kk : Nat} {tpos : Pos} (he : PE X e td) (hbase : attributeBase e "items" X.env (eval e X.env) = eval e X.env := by rfl) (hline : (apos.endLine == cpos.line) = true := by rfl) :
    PI X (.Tuple elts kk tpos) (.Call (.Attribute e "items" apos) [] [] cpos) (iItemsT td) := by
  refine ⟨fun pins s σ H R I h => ?_⟩
  refine wpAny_Call_method (T := "dict") (id := "dict.items") hbase rfl hline F.plainAttrs_dict F.slot_dict_items F.type_dict_items (thn (he.run pins s σ H _ I h) fun u s1 ⟨x, H1, I1, rx, d, ex, q⟩ => ?_)
  subst ex
  obtain rfl : u = Value.ref d := rx
  obtain ⟨H2, o, kvs, J1, hd, q⟩ : ∃ (H2 : Hp) (o : Obj) (kvs : List (List Key × V)), Inv X pins σ H2 s1 ∧ H2 d = some (.frz o (.dT kvs)) ∧ R (Itit d o kvs) H2 := by
    rcases q with ⟨kvs, hd, q⟩ | ⟨o, kvs, hd, q⟩
    · obtain ⟨o, I2⟩ := I1.lock hd (by first | trivial | decide | exact .dT _ | constructor)
      exact ⟨_, o, kvs, I2, upd_same, q o⟩
    · exact ⟨H1, o, kvs, I1, hd, q⟩
  obtain ⟨hs, es, ep, hdt, hsz, hm, ent⟩ := frzV J1 hd
  refine ⟨hm.typeIs, fun b eb => ?_, ?_⟩
  · cases eb
    obtain ⟨ob, h1, h2, _⟩ := hm
    exact ⟨ob, h1, h2.2.1⟩
  have I2 : Inv X pins σ H2 { s1 with heap := s1.heap.push { cls := .type "dict_items", data := .fields #[.ref d] } } := J1.kept (t' := s1.toks) fun b ob q => Heap.get?_push_of_some _ q
  have fin : wpAny (model X.prog X.w) X.A (pyIter (.ref s1.heap.objs.size)) (PIE X pins σ (.Tuple elts kk tpos) R) X.xe { s1 with heap := s1.heap.push { cls := .type "dict_items", data := .fields #[.ref d] } } := by
    refine DT.iterI (d := d) ⟨_, Heap.get?_push_size _ rfl, rfl, rfl⟩ (hm.push _) (pi_one (tk := s1.toks) I2 _ (turn_itemsT _ hdt) ⟨.none, .none, ?_⟩ q)
    rw [← hsz]
    exact Heap.get?_push_size _ rfl
  show wpAny _ _ (callWith cpos (.builtin "dict.items") [.ref d] [] []) _ X.xe s1
  exact method_meetsIn F.slot_dict_items F.entry_dict_items rfl (PySem.evalArgs_none ⟨rfl, hm.typeIs, F.args_dict_items_1 _, _, DT.meetsItems (es := es) (ep := ep) hs, hm, fin⟩)
def itemT (kvs : KD) : List D := kvs.map fun kv => .tup [.tup (kv.1.map keyD), kv.2]
def wItems (m : WE) : WA := fun sl cs Q X => m sl cs (fun d cs1 => match d with
  | .root j => match cs1[j]? with
    | some (.dT kvs) => Q (itemT kvs) (cs1.set j (.zT kvs))
    | some (.zT kvs) => Q (itemT kvs) cs1
    | _ => False
  | _ => False) X
theorem it_itemsT {K : PySem.W.Frag} {W0 : Wd} {H0 : Hp} {d : Addr} {o : Obj} {kvs : KD} {vs : List V} (h : H0 d = some (.frz o (.dT ((kvs.map (·.1)).zip vs)))) (f : W0.Fz d) (t : AtL K T W0 H0 (kvs.map (·.2)) vs) : ItOK K T (Itit d o ((kvs.map (·.1)).zip vs)) (itemT kvs) W0 H0 := by
  have hl : vs.length = kvs.length := by rw [← t.length, List.length_map]
  have hz : ((kvs.map (·.1)).zip vs).length = (itemT kvs).length := by
    unfold itemT
    rw [List.length_zip, List.length_map, List.length_map]; omega
  refine ⟨fun i W H x r hi => ⟨(x.fz _ _ h f).1, by rw [hz]; exact hi⟩, fun i W H y H' x r hi hy => ?_, fun i W H x r hi => ⟨(x.fz _ _ h f).1, by rw [hz]; exact hi⟩⟩
  obtain ⟨p, k, q, v, h1, h3, e, hp, eH⟩ := hy
  subst e eH
  obtain ⟨e1, e2⟩ := List.getElem?_zip_eq_some.mp h1
  rw [List.getElem?_map] at e1
  cases ek : kvs[i]? with
  | none => rw [ek] at e1; cases e1
  | some kv =>
    rw [ek] at e1
    have e1 : kv.1 = k := Option.some.inj e1
    subst e1
    obtain ⟨v', e3, a⟩ := t.get' (i := i) (d := kv.2) (by rw [List.getElem?_map, ek]; rfl)
    rw [e2] at e3
    cases e3
    refine ⟨.tup [.tup (kv.1.map keyD), kv.2], ?_, .laid hp, r.laid hp, .tup upd_same (r.fresh hp) (.cons ?_ (.cons ?_ .nil))⟩
    · unfold itemT
      rw [List.getElem?_map, ek]; rfl
    · exact At.ext (.laid hp) (.tup h3 (r.tup_fz h3) (keysD_at kv.1))
    · exact At.ext (.laid hp) (a.exz x)
theorem di_items {elts : List Expr} {kk : Nat} {tpos : Pos} (he : DE X T E e m) (hbase : attributeBase e "items" X.env (eval e X.env) = eval e X.env := by rfl) (hline : (apos.endLine == cpos.line) = true := by rfl) :
    DI X T E (.Tuple elts kk tpos) (.Call (.Attribute e "items" apos) [] [] cpos) (wItems m) := by
  obtain ⟨t, p, s⟩ := he.ex
  refine ⟨_, pi_itemsT p hbase hline, fun sl W σ H Q' X' R hs rp h k px => ?_⟩
  refine s sl W σ H _ X' _ hs rp h (fun d W1 v H1 q1 x1 r1 a1 => ?_) px
  cases a1 with
  | @root j l h1 =>
    have q1 : (match W1.cs[j]? with
      | some (.dT kvs) => Q' (itemT kvs) (W1.cs.set j (.zT kvs))
      | some (.zT kvs) => Q' (itemT kvs) W1.cs
      | _ => False) := q1
    refine ⟨l, rfl, ?_⟩
    split at q1
    · rename_i kvs ec
      obtain ⟨vs, e1, e2⟩ := r1.cell _ _ _ h1 ec
      refine .inl ⟨_, e1, fun o => ?_⟩
      obtain ⟨r2, x2⟩ := r1.lockT (o := o) h1 ec e2
      have h1' : (W1.put j (.zT kvs)).A[j]? = some l := h1
      have ec' : (W1.put j (.zT kvs)).cs[j]? = some (.zT kvs) := List.getElem?_set_self (List.getElem?_eq_some_iff.mp ec).1
      obtain ⟨o', vs', g1, g2, g3⟩ := r2.cell j l _ h1' ec'
      refine k _ (W1.put j (.zT kvs)) _ _ q1 (x1.trans x2) r2 (it_itemsT upd_same g2 (e2.ext x2))
    · rename_i kvs ec
      obtain ⟨o, vs, e1, g2, e2⟩ := r1.cell _ _ _ h1 ec
      exact .inr ⟨o, _, e1, k _ W1 _ H1 q1 x1 r1 (it_itemsT e1 g2 e2)⟩
    · exact q1.elim
  | _ => exact q1.elim
end
end DL
namespace DL
open PySem PySem.Spec PyProof.Rows L2

/-! ### len of a dict with tuples as keys -/
def gLenT : GL := g1 fun d cs Q => match dictLive cs d with
  | some (_, kvs) => Q (.int (kvs.length : Nat)) cs
  | none => False
theorem ok_lenT {K : PySem.W.Frag} {T : Tb} : OkL K T rLenT gLenT := ok_1 fun W H d v Q' Q r a q p => by
  split at q
  · rename_i j kvs e
    obtain ⟨l, vs, rfl, h1, h2, h3, t⟩ := dictLive_at r a e
    refine ⟨l, _, rfl, h3, ?_⟩
    have el : ((kvs.map (·.1)).zip vs).length = kvs.length := by
      have := t.length
      rw [List.length_map] at this
      rw [List.length_zip, List.length_map]; omega
    rw [el]
    exact p _ W _ H q .refl r (.int _)
  · exact q.elim
end DL
namespace DL
open PySem PySem.Spec PyProof.Rows L2

/-! ### a new object, its arguments passed by name -/
section
variable {X : Cx} {T : Tb} {E : XK} {CX : CXT} {k n : Nat} {f C p : Addr} {fd : FuncData} {ps ks : List Str} {S : SD} {x m : Str} {pos ppos apos : Pos} {e o : Expr} {es : List Expr} {kws : List Keyword} {mr mk : WA} {pm : List Nat}
theorem run_mkK {pins : List (Addr × Obj)} {σ : L2.St} {H : Hp} {s : Shared} {Q : VK} {us ws : List Value} {vs zs : List V} {sp : Sp} (M : Mk X.K C f) (F : FnG X.prog X.w X.K X.mg X.base CX k f fd ps sp) (hg : X.A.guards = some []) (hr : Room (k + 1) X.A) (hb : KB X.K fd ps ks 1 n pm) (hx : Passes CX X E)
    (I : Inv X pins σ H s) (r : Vals vs us) (rz : Vals zs ws) (l1 : vs.length = n) (l2 : zs.length = ks.length)
    (h : ∀ x dx, H x = none → H dx = none → dx ≠ x → sp (.ref x :: pick pm (vs ++ zs)) (upd (upd H dx (.own x)) x (.ins C dx [])) (fun v H2 => v = .non ∧ Q (.ref x) H2) E) :
    wpAny (model X.prog X.w) X.A (call (.ref C) us (ks.zip ws)) (EP X pins σ Q) X.xe s := by
  have hq := h (s.heap.objs.size + 1) s.heap.objs.size (I.hok.fresh (Nat.le_succ _)) (I.hok.fresh (Nat.le_refl _)) (Nat.ne_of_lt (Nat.lt_succ_self _))
  have J := Inv.made (C := C) I
  have r2 : Vals (V.ref (s.heap.objs.size + 1) :: pick pm (vs ++ zs)) (Value.ref (s.heap.objs.size + 1) :: pick pm (us ++ ws)) := .cons rfl (pick_vals pm (vals_app r rz))
  have b := hb.to _ [Value.ref (s.heap.objs.size + 1)] us ws J.kIn rfl (r.length.symm.trans l1) (rz.length.symm.trans l2)
  refine wpAny_call (make_map (f := f) I.kIn M.makes M.init (beq_iff_eq.mp M.fn) (codeAny_mono (F.run _ X.stack _ _ ⟨Value.ref (s.heap.objs.size + 1) :: us, ks.zip ws⟩ _ _ _ E (by simpa [Around.under, Code.guards, Code.isGuard, guardIds, pushGuards] using hg) (hr.make C us (ks.zip ws)) (J.env0.make C us (ks.zip ws)) b r2 hq) fun q s' hq' => ?_))
  rcases ends_of J hx hq' with ⟨u, e, z⟩ | ⟨e, e1, z⟩
  · subst e
    obtain ⟨v, H', I3, rv, ev, q3⟩ := z
    subst ev
    exact ⟨rv, ⟨V.ref (s.heap.objs.size + 1), H', I3, rfl, q3⟩⟩
  · subst e1; exact z
def wMakeK (fl : Nat → List Str) (c : Nat) (S : SD) (pm : List Nat) (n k : Nat) (mr mk : WA) : WE := wKw n k mr mk fun ds cs Q X => S (.root cs.length :: pick pm ds) (cs ++ [.ins c []]) (mkPost fl c cs.length Q) X
theorem de_makeK {c : Nat} (M : Mk X.K (T.cl c) f) (F : DFn X.prog X.w X.K X.mg X.base T CX k f fd ps S) (hg : X.A.guards = some []) (hr : Room (k + 1) X.A) (hm : X.mg x = some (.ref (T.cl c))) (hb : KB X.K fd ps ks 1 n pm) (hx : Passes CX X E)
    (ha : DQ X T E es mr) (hkw : DK X T E kws mk) (gl : Gl X x := by rfl) (hdb : (x == ("__debug__" : Str)) = false := by decide) (hall : (backToKw pos (keywordEach kws X.env)).all (·.1.isSome) = true := by rfl) (hks : (backToKw pos (keywordEach kws X.env)).filterMap (·.1) = ks := by rfl)
    (hpl : ((backTo pos (starEach es X.env)).any (·.1) || (backToKw pos (keywordEach kws X.env)).any (·.1.isNone)) = false := by rfl) {kn : Nat} (hkn : ks.length = kn := by rfl) :
    DE X T E (.Call (.Name x ppos) es kws pos) (wMakeK T.fl c S pm n kn mr mk) := by
  subst hkn
  obtain ⟨t, pa, sa⟩ := ha.ex
  obtain ⟨tk, pk, sk⟩ := hkw.ex
  refine ⟨fun σ H Q => t σ H fun vs H1 => tk σ H1 fun zs H2 => vs.length = n ∧ zs.length = ks.length ∧ ∀ y dx, H2 y = none → H2 dx = none → dx ≠ y → spD X.K T S (.ref y :: pick pm (vs ++ zs)) (upd (upd H2 dx (.own y)) y (.ins (T.cl c) dx [])) (fun v H3 => v = .non ∧ Q (.ref y) H3) E,
    ⟨fun pins s σ H Q I h => ?_⟩, fun sl W σ H Q' X' Q hs rp h po px => ?_⟩
  · refine wpAny_Call_Name_kw (ld_glob I gl hm ?_ hdb)
    exact cw_K (first := []) I M.kp pa pk hall hks hpl h fun vs us zs ws H2 s2 I2 r rz ⟨l1, l2, q⟩ => run_mkK M F hg hr hb hx I2 r rz l1 l2 q
  · refine sa sl W σ H _ X' _ hs rp h (fun ds W1 vs H1 q1 x1 r1 a1 => ?_) px
    refine sk sl W1 σ H1 _ X' _ (hs.ext x1) r1 q1 (fun es W2 us H2 q2 x2 r2 a2 => ?_) (px.st x1)
    obtain ⟨l1, l2, q2⟩ := q2
    exact ⟨a1.length.symm.trans l1, a2.length.symm.trans l2, fun y dx ny nd ne => make_post (x1.trans x2) r2 (pick_at pm (atl_app (a1.ext x2) a2)) po px q2 ny nd ne⟩
end
end DL
namespace DL
open PySem PySem.Spec PyProof.Rows L2

/-! ### the exception in hand: it comes with a suite and goes with it -/
mutual
def noX : D → Prop
  | .exc _ _ => False
  | .lst ds => noXL ds
  | .tup ds => noXL ds
  | .ins _ ds => noXL ds
  | .scr ds => noXL ds
  | .non => True
  | .bl _ => True
  | .int _ => True
  | .str _ => True
  | .root _ => True
def noXL : List D → Prop
  | [] => True
  | d :: ds => noX d ∧ noXL ds
end
def noXC : C → Prop
  | .lst ds => noXL ds
  | .dK kvs => noXL (kvs.map (·.2))
  | .dT kvs => noXL (kvs.map (·.2))
  | .ins _ fs => noXL (fs.map (·.2))
  | .fz d => noX d
  | .zT kvs => noXL (kvs.map (·.2))
  | .dN kvs => ∀ p ∈ kvs, noX (nkD p.1) ∧ noX p.2
  | .zN kvs => ∀ p ∈ kvs, noX (nkD p.1) ∧ noX p.2
def noXs (cs : Cells) : Prop := ∀ c ∈ cs, noXC c
def Tb.at (T : Tb) (e : Option (Addr × Nat × Addr)) : Tb := { T with ex := e }
section
variable {K : PySem.W.Frag} {T : Tb} {W : Wd} {H : Hp} {e : Option (Addr × Nat × Addr)}
mutual
theorem At.noX (hT : T.ex = none) : ∀ {d : D} {v : V}, At K T W H d v → DL.noX d
  | _, _, .non => trivial
  | _, _, .bl b => trivial
  | _, _, .int i => trivial
  | _, _, .str s => trivial
  | _, _, .root h => trivial
  | _, _, .lst h f t => AtL.noX hT t
  | _, _, .tup h f t => AtL.noX hT t
  | _, _, .ins h l f t => AtL.noX hT t
  | _, _, .scr h t => AtL.noX hT t
  | _, _, .exc e h f t => absurd (hT.symm.trans e) nofun
theorem AtL.noX (hT : T.ex = none) : ∀ {ds : List D} {vs : List V}, AtL K T W H ds vs → DL.noXL ds
  | _, _, .nil => trivial
  | _, _, .cons h t => ⟨At.noX hT h, AtL.noX hT t⟩
end
mutual
theorem At.chg : ∀ {d : D} {v : V} {T T1 : Tb}, T1.cl = T.cl → T1.fl = T.fl → DL.noX d → At K T W H d v → At K T1 W H d v
  | _, _, _, _, _, _, _, .non => .non
  | _, _, _, _, _, _, _, .bl b => .bl b
  | _, _, _, _, _, _, _, .int i => .int i
  | _, _, _, _, _, _, _, .str s => .str s
  | _, _, _, _, _, _, _, .root h => .root h
  | _, _, _, _, c, f, n, .lst h z t => .lst h z (AtL.chg c f n t)
  | _, _, _, _, c, f, n, .tup h z t => .tup h z (AtL.chg c f n t)
  | _, _, _, _, c, f, n, .ins h l z t => .ins (by rw [c, f]; exact h) (by rw [f]; exact l) z (AtL.chg c f n t)
  | _, _, _, _, c, f, n, .scr h t => .scr h (AtL.chg c f n t)
  | _, _, _, _, _, _, n, .exc _ _ _ _ => n.elim
theorem AtL.chg : ∀ {ds : List D} {vs : List V} {T T1 : Tb}, T1.cl = T.cl → T1.fl = T.fl → DL.noXL ds → AtL K T W H ds vs → AtL K T1 W H ds vs
  | _, _, _, _, _, _, _, .nil => .nil
  | _, _, _, _, c, f, n, .cons h t => .cons (At.chg c f n.1 h) (AtL.chg c f n.2 t)
end
theorem NAt.noX (hT : T.ex = none) {kvs : List (NestedKey × D)} {ws : NKV} (h : NAt K T W H kvs ws) : ∀ p ∈ kvs, DL.noX (nkD p.1) ∧ DL.noX p.2 := by
  unfold NAt at h
  induction h with
  | nil => exact fun _ h => nomatch h
  | cons z t ih =>
    intro p hp
    rcases List.mem_cons.mp hp with rfl | hp
    · exact ⟨z.2.1.noX hT, z.2.2.noX hT⟩
    · exact ih p hp
theorem NAt.chg {T1 : Tb} (c : T1.cl = T.cl) (f : T1.fl = T.fl) {kvs : List (NestedKey × D)} {ws : NKV} (h : NAt K T W H kvs ws) (n : ∀ p ∈ kvs, DL.noX (nkD p.1) ∧ DL.noX p.2) : NAt K T1 W H kvs ws := by
  unfold NAt at h ⊢
  induction h with
  | nil => exact .nil
  | cons z t ih => exact .cons ⟨z.1, z.2.1.chg c f (n _ List.mem_cons_self).1, z.2.2.chg c f (n _ List.mem_cons_self).2⟩ (ih fun p hp => n p (List.mem_cons_of_mem _ hp))
theorem CellAt.noX (hT : T.ex = none) {a : Addr} {c : C} (h : CellAt K T W H a c) : noXC c := by
  cases c with
  | lst ds => obtain ⟨vs, h1, h2⟩ := h; exact h2.noX hT
  | dK kvs => obtain ⟨vs, h1, h2⟩ := h; exact h2.noX hT
  | dT kvs => obtain ⟨vs, h1, h2⟩ := h; exact h2.noX hT
  | ins n fs => obtain ⟨dx, vs, h1, h2⟩ := h; exact h2.noX hT
  | fz d => exact At.noX hT h
  | zT kvs => obtain ⟨o, vs, h1, h2, h3⟩ := h; exact h3.noX hT
  | dN kvs => obtain ⟨ws, h1, h2⟩ := h; exact h2.noX hT
  | zN kvs => obtain ⟨o, ws, h1, h2, h3⟩ := h; exact h3.noX hT
theorem CellAt.chg {T1 : Tb} (c : T1.cl = T.cl) (f : T1.fl = T.fl) {a : Addr} {b : C} (n : noXC b) (h : CellAt K T W H a b) : CellAt K T1 W H a b := by
  cases b with
  | lst ds => obtain ⟨vs, h1, h2⟩ := h; exact ⟨vs, h1, h2.chg c f n⟩
  | dK kvs => obtain ⟨vs, h1, h2⟩ := h; exact ⟨vs, h1, h2.chg c f n⟩
  | dT kvs => obtain ⟨vs, h1, h2⟩ := h; exact ⟨vs, h1, h2.chg c f n⟩
  | ins k fs => obtain ⟨dx, vs, h1, h2⟩ := h; exact ⟨dx, vs, by rw [c]; exact h1, h2.chg c f n⟩
  | fz d => exact At.chg c f n h
  | zT kvs => obtain ⟨o, vs, h1, h2, h3⟩ := h; exact ⟨o, vs, h1, h2, h3.chg c f n⟩
  | dN kvs => obtain ⟨ws, h1, h2⟩ := h; exact ⟨ws, h1, h2.chg c f n⟩
  | zN kvs => obtain ⟨o, ws, h1, h2, h3⟩ := h; exact ⟨o, ws, h1, h2, h3.chg c f n⟩
theorem Rep.noX (hT : T.ex = none) (r : Rep K T W H) : noXs W.cs := fun c hc => by
  obtain ⟨j, hj, e⟩ := List.mem_iff_getElem.mp hc
  have hA : j < W.A.length := by rw [r.len]; exact hj
  exact (r.cell j W.A[j] c (List.getElem?_eq_getElem hA) (by rw [← e]; exact List.getElem?_eq_getElem hj)).noX hT
theorem Rep.chg {T1 : Tb} (c : T1.cl = T.cl) (f : T1.fl = T.fl) (n : noXs W.cs) (r : Rep K T W H) : Rep K T1 W H :=
  ⟨r.len, r.inj, fun j a b h1 h2 => (r.cell j a b h1 h2).chg c f (n b (List.mem_of_getElem? h2)), r.apart, r.gth⟩
end

/-! ### raise C(e), C an own class whose __init__ says self.value = value -/
def spI (C : Addr) : Sp := fun vs H Q _ => ∃ (a : Addr) (y : V), vs = [.ref a, y] ∧ H a = some (exo a C none) ∧ ∀ dx, H dx = none → dx ≠ a → Q .non (upd (upd H dx (exd dx [(("value" : Str), y)])) a (exo a C (some dx)))
def wRaise (n : Nat) (me : WA) : WS := fun D sl cs => me sl cs (fun ds cs1 => ∃ d, ds = [d] ∧ D.xq n d cs1) D.xq
section
variable {X : Cx} {T : Tb} {E : XK} {CX : CXT} {x : Str} {fI : Addr} {k n : Nat} {fd : FuncData} {ps : List Str} {e : Expr} {p pos pos' : Pos} {me : WA}
theorem ds_raise (O : OexC X.K (T.xc n)) (iC : PySem.W.findIn X.K (.ref (T.xc n)) "__init__" = some (some (.ref fI))) (tI : PySem.W.typeIn X.K (.ref fI) = some (.type "function"))
    (F1 : FnOk X.prog X.w X.K X.mg X.base CX k fI fd ps (spI (T.xc n))) (hr : Room (k + 1) X.A) (hb : Binds X.K fd ps []) (hx : Passes CX X (fun _ _ _ => False)) (hm : X.mg x = some (.ref (T.xc n))) (ha : DA X T E [e] me)
    (hc : X.calm = true) (tk : Takes X fun cls d _ H => E cls d H) (hg : Gl X x := by rfl)
    (hdb : (x == ("__debug__" : Str)) = false := by decide) (he : starEach [e] X.env = (false, eval e X.env) :: starEach [] X.env := by rfl) (hpl : (backTo pos (starEach [] X.env)).any (·.1) = false := by rfl) :
    DS X T E (.Raise (some (.Call (.Name x p) [e] [] pos)) none pos') (wRaise n me) := by
  obtain ⟨t, pa, sa⟩ := ha.ex
  refine ⟨_, ps_raise hc tk (pmk_oex (dvs := []) (ds := []) O iC tI F1 hr hb .nil hx hg hm pa hdb he hpl), fun sl W σ H D' D hs rp h p => ?_⟩
  refine sa sl W σ H _ D'.xq _ hs rp h (fun ds W1 vs H1 q1 x1 r1 a1 => ?_) p.xq
  obtain ⟨d, rfl, q1⟩ := q1
  cases a1 with
  | @cons _ y _ vs a2 a3 =>
    cases a3
    refine ⟨(show 1 ≤ 1000 by decide), fun a na => ⟨a, y, rfl, upd_same, fun dx nd ne => ⟨rfl, dx, [(("value" : Str), y)], upd_same, ?_, ?_, ?_⟩⟩⟩
    · rw [upd_ne ne, upd_same]
    · rw [upd_ne ne] at nd; exact nd
    · have nd1 : H1 dx = none := by rw [upd_ne ne] at nd; exact nd
      have eH : upd (L2.del (upd (upd (upd H1 a (exo a (T.xc n) none)) dx (exd dx [(("value" : Str), y)])) a (exo a (T.xc n) (some dx))) a) dx (.xd [(("value" : Str), y)]) = upd H1 dx (.xd [(("value" : Str), y)]) := by
        funext b
        by_cases h1 : b = dx
        · rw [h1, upd_same, upd_same]
        · rw [upd_ne h1, upd_ne h1]
          by_cases h2 : b = a
          · rw [h2, del_same, na]
          · rw [del_ne h2, upd_ne h2, upd_ne h1, upd_ne h2]
      rw [eH]
      have ex := Ext.laid (W := W1) (o := .xd [(("value" : Str), y)]) nd1
      exact p.xq n d W1 y _ dx q1 (x1.trans ex) (r1.laid nd1) (a2.ext ex) upd_same (r1.fresh nd1)
end

/-! ### try: .. except x as n: .., the suite ends by return -/
def tcan (K : PySem.W.Frag) (T : Tb) (E : XK) (m : WS) : TS := fun D σ H => ∃ sl W D', SlAt K T W H sl σ ∧ Rep K T W H ∧ m D' sl W.cs ∧ PostD K T W H D' D E
theorem DSs.can {X : Cx} {T : Tb} {E : XK} {st : List Stmt} {m : WS} (h : DSs X T E st m) : PSs X st (tcan X.K T E m) :=
  let ⟨_, p, s⟩ := h.ex; ⟨fun pins s0 σ H D I ⟨sl, W, D', a, b, c, d⟩ => p.run pins s0 σ H D I (s sl W σ H D' D a b c d)⟩
/-- what a try's body may wish of an exception, the slots aside -/
def EofW (N : Nat) (W : WX) : XK := fun cls d H => ∀ σ : L2.St, σ.length = N → W cls d σ H
def wTry (nN i : Nat) (ex : Nat → Option Bool) (mb mh : WS) : WS := fun D sl cs =>
  mb { D with xq := fun n d cs1 => ∃ b, ex n = some b ∧ (b = true → noX d → noXs cs1 → mh { nx := fun _ _ => False, rt := fun v cs2 => noX v ∧ noXs cs2 ∧ D.rt v cs2, xq := fun _ _ _ => False } ((List.replicate nN none).set i (some (.exc n d))) cs1) ∧ (b = false → D.xq n d cs1) } sl cs
section
variable {X : Cx} {T : Tb} {E : XK} {i : Nat} {n x : Str} {c : Value} {body suite : List Stmt} {b₀ : Stmt} {np pos pos' : Pos} {ex : Nat → Option Bool} {mb mh : WS}
theorem ds_try (hT : T.ex = none) (hs : X.stack = X.env :: X.outer) (hf : X.env.frame = some X.env.locals) (hN : X.N.Nodup) (hi : X.N[i]? = some n) (hln : X.env.kindOf n = some .local) (hc : Names X x c) (tk : Takes X fun cls d _ H => E cls d H)
    (hex : ∀ k b, ex k = some b → PySem.W.exmOne X.K (.ref (T.xc k)) c = some b)
    (hb : ∀ (E' : XK) (pn : List (Addr × Obj)) (xe : Value → Shared → Prop), Takes (X.tr pn xe) (fun cls d _ H => E' cls d H) → PassesOwn (model X.prog X.w) X.A X.env xe → DSs (X.tr pn xe) T E' body mb)
    (hsu : ∀ (a : Addr) (oe : Obj) (k : Nat) (dx : Addr) (pn : List (Addr × Obj)), ex k = some true → Zc (.ref (T.xc k)) (some dx) oe → (∃ vs, oe.data = .fields vs) → DSs (X.suite a ((a, oe) :: pn)) (T.at (some (a, k, dx))) (fun _ _ _ => False) (b₀ :: suite) mh)
    {nN : Nat} (hl : X.N.length = nN := by rfl) :
    DS X T E (.Try body [.ExceptHandler (some (.Name x np)) (some n) (b₀ :: suite) pos'] [] [] pos) (wTry nN i ex mb mh) := by
  subst hl
  have hPS := ps_try_as (X := X) (pos := pos) (pos' := pos') (np := np) (c := c) (x := x) (body := body) (suite := suite) (b₀ := b₀) (Wout := fun cls d _ H => E cls d H)
    (tb := fun W => tcan X.K T (EofW X.N.length W) mb)
    (ts := fun a cls d => fun D σ H => ∃ k dx, ex k = some true ∧ cls = .ref (T.xc k) ∧ d = some dx ∧ tcan X.K (T.at (some (a, k, dx))) (fun _ _ _ => False) mh D σ H) hs hf hN hi hln hc tk
    (fun W pn xe tkW pw => (hb (EofW X.N.length W) pn xe (fun u s' ⟨a, B, sI, pins, σ, H, cls, d, e, I, nb, up, sky, na, os, ag, w⟩ => tkW u s' ⟨a, B, sI, pins, σ, H, cls, d, e, I, nb, up, sky, na, os, ag, w σ I.len⟩) pw).can)
    (fun a oe cls d pn hz hd => ⟨fun pins s σ H D I ⟨k, dx, e0, e1, e2, q⟩ => by
      subst e1; subst e2
      exact (hsu a oe k dx pn e0 hz hd).can.run pins s σ H D I q⟩)
  refine ⟨_, hPS, fun sl W σ H D' D hs rp h p => ⟨sl, W, _, hs, rp, h, p.nx, p.rt, p.bk, p.ct, ?_⟩⟩
  intro k d W1 v H1 dx q1 x1 r1 a1 e1 f1 σ1 l1
  obtain ⟨b, hb1, hy, hn⟩ := q1
  refine ⟨b, hex k b hb1, fun hbt a na => ⟨k, dx, hbt ▸ hb1, rfl, rfl, _, W1, _, ?_, Rep.chg (T := T) (T1 := T.at (some (a, k, dx))) rfl rfl (r1.noX hT) r1, hy hbt (a1.noX hT) (r1.noX hT), ?_⟩, fun hbf => p.xq k d W1 v H1 dx (hn hbf) x1 r1 a1 e1 f1⟩
  · refine ⟨by simp [l1], fun j d' hj => ?_⟩
    by_cases hji : j = i
    · subst hji
      have hlt : j < X.N.length := (List.getElem?_eq_some_iff.mp hi).1
      rw [List.getElem?_set_self (by simpa using hlt)] at hj
      cases hj
      exact ⟨.ref a, List.getElem?_set_self (by rw [l1]; exact hlt), .exc rfl e1 f1 (At.chg (T := T) (T1 := T.at (some (a, k, dx))) rfl rfl (a1.noX hT) a1)⟩
    · rw [List.getElem?_set_ne (Ne.symm hji), List.getElem?_replicate] at hj
      split at hj <;> cases hj
  · refine ⟨fun _ _ _ _ z => z.elim, fun v2 W2 u2 H2 ⟨n1, n2, q2⟩ x2 r2 a2 => ?_, fun _ _ _ _ z => z.elim, fun _ _ _ _ z => z.elim, fun _ _ _ _ _ _ z => z.elim⟩
    exact p.rt v2 W2 u2 H2 q2 (x1.trans x2) (Rep.chg (T := T.at (some (a, k, dx))) (T1 := T) rfl rfl n2 r2) (At.chg (T := T.at (some (a, k, dx))) (T1 := T) rfl rfl n1 a2)
end
end DL
namespace DL
open PySem PySem.Spec PyProof.Rows L2

/-! ### in an except suite: the exception's value, isinstance of it -/
structure XKit (K : PySem.W.Frag) (C : Addr) : Prop where
  hcl : (PySem.W.clsIn K C).isSome = true
  ga : PySem.W.findIn K (.ref C) "__getattribute__" = some (some (.builtin "BaseException.__getattribute__"))
  gt : PySem.W.findIn K (.ref C) "__getattr__" = some none
  ex : PySem.W.subIn K (.ref C) (.type "BaseException") = some true
  ca : PySem.W.findIn K (.ref C) "__class__" = some (some (.builtin "object.__class__"))
  cn : PySem.W.specialIn K (.builtin "object.__class__") "__get__" = some (some (.builtin "getset_descriptor.__get__"))
  ct : PySem.W.takesIn K (.builtin "object.__class__") = some true
  mo : PySem.W.mroIn K C (.type "object") = some true
  hd : PySem.W.hasDictIn K C = true
  nv : PySem.W.findIn K (.ref C) "value" = some none
section
variable {X : Cx} {T : Tb} {E : XK} {a dx : Addr} {k : Nat} {oe : Obj} {pn : List (Addr × Obj)} {e : Expr} {me : WE} {p p2 pos : Pos} {x : Str} {c : V} {u : Value}
def wXval (me : WE) : WE := fun sl cs Q X => me sl cs (fun d cs1 => match d with
  | .exc _ v => Q v cs1
  | _ => False) X
theorem de_xval (Kx : XKit X.K (T.xc k)) (hz : Zc (.ref (T.xc k)) (some dx) oe) (hf : ∃ vs, oe.data = .fields vs) (he : DE (X.suite a ((a, oe) :: pn)) (T.at (some (a, k, dx))) E e me) (hb : attributeBase e "value" X.env (eval e X.env) = eval e X.env := by rfl) :
    DE (X.suite a ((a, oe) :: pn)) (T.at (some (a, k, dx))) E (.Attribute e "value" pos) (wXval me) := by
  obtain ⟨t, pe, se⟩ := he.ex
  refine ⟨_, pe_xf ⟨Kx.ga, Kx.gt, Kx.ex, Kx.hd⟩ Kx.nv hz hf pe hb, fun sl W σ H Q' X' Q hs rp h po px => ?_⟩
  refine se sl W σ H _ X' _ hs rp h (fun d W1 v H1 q1 x1 r1 a1 => ?_) px
  cases a1 with
  | @exc a' dx' n' v' d' e1 h1 f1 t1 =>
    cases (show some (a, k, dx) = some (a', n', dx') from e1)
    exact ⟨rfl, rfl, dx, _, v', rfl, h1, rfl, po _ W1 _ H1 q1 x1 r1 t1⟩
  | _ => exact q1.elim
/-- isinstance(e, ..) of the exception in hand -/
def rIsX (K : PySem.W.Frag) (a C dx : Addr) : List V → Hp → VK → Prop := fun xs H Q => ∃ (c : V) (u : Value) (b : Bool) (fs : List (Str × V)), xs = [.ref a, c] ∧ H dx = some (.xd fs) ∧ ClsV c u ∧ PySem.W.kitOne K (.ref C) u = some b ∧ Q (.bl b) H
def rIsXT (K : PySem.W.Frag) (a C dx : Addr) : List V → Hp → VK → Prop := fun xs H Q => ∃ (tp : Addr) (cs : List V) (us : List Value) (b : Bool) (fs : List (Str × V)), xs = [.ref a, .ref tp] ∧ H tp = some (.tup cs) ∧ H dx = some (.xd fs) ∧ Paired ClsV cs us ∧ PySem.W.kitAny K (.ref C) us = some b ∧ Q (.bl b) H
theorem exc_inst {C : Addr} {pins : List (Addr × Obj)} {s : Shared} {σ : L2.St} {H : Hp} {fs : List (Str × V)} (hz : Zc (.ref C) (some dx) oe) (hf : ∃ vs, oe.data = .fields vs) (I : Inv (X.suite a ((a, oe) :: pn)) pins σ H s) (hd : H dx = some (.xd fs)) :
    ∃ od, PySem.W.InstAt s.heap a oe C (some od) := by
  obtain ⟨ha, _⟩ := I.pin (a, oe) (List.mem_append_left _ List.mem_cons_self)
  obtain ⟨vs, hv⟩ := hf
  obtain ⟨mA, hns, hr⟩ := (show ObjOk X.prog X.w H s.heap dx (.xd fs) from I.hok dx _ hd)
  obtain ⟨od, ho, hl⟩ := lookIn_ns hns
  exact ⟨od, ha, hz.1, by unfold PySem.W.notCls; rw [hv] <;> rfl, by rw [hz.2]; exact ho⟩
theorem call_isX {C : Addr} (Kx : XKit X.K C) (hz : Zc (.ref C) (some dx) oe) (hf : ∃ vs, oe.data = .fields vs) : CallR (X.suite a ((a, oe) :: pn)) (.builtin "isinstance") (rIsX X.K a C dx) := by
  intro pins s σ H xs us Q I r h
  obtain ⟨c, u, b, fs, rfl, hd, kc, e, q⟩ := h
  obtain ⟨u1, u2, rfl, r1, r2⟩ := vals2 r
  have e2 := kc.eq r2
  subst e2
  cases (show u1 = Value.ref a from r1)
  obtain ⟨od, J⟩ := exc_inst hz hf I hd
  exact PySem.W.kia_one (PySem.W.kitx_exc Kx.hcl Kx.ga Kx.gt Kx.ex Kx.ca Kx.cn Kx.ct Kx.mo) I.kIn J e (fun z => nomatch z) fun tk => ⟨.bl b, H, I.tok tk, rfl, q⟩
theorem call_isXT {C : Addr} (Kx : XKit X.K C) (hz : Zc (.ref C) (some dx) oe) (hf : ∃ vs, oe.data = .fields vs) : CallR (X.suite a ((a, oe) :: pn)) (.builtin "isinstance") (rIsXT X.K a C dx) := by
  intro pins s σ H xs us Q I r h
  obtain ⟨tp, cs, ws, b, fs, rfl, hT, hd, kc, e, q⟩ := h
  obtain ⟨u1, u2, rfl, r1, r2⟩ := vals2 r
  cases (show u2 = Value.ref tp from r2)
  cases (show u1 = Value.ref a from r1)
  obtain ⟨od, J⟩ := exc_inst hz hf I hd
  obtain ⟨_, its, rv, o, h1, h2, n, h3⟩ := (show ObjOk X.prog X.w H s.heap tp (.tup cs) from I.hok tp _ hT)
  have e3 := ClsV.all kc rv
  subst e3
  obtain ⟨oc, od', dt, sl⟩ := o
  simp only at h2 h3
  subst h2 h3
  exact PySem.W.kia_tup (PySem.W.kitx_exc Kx.hcl Kx.ga Kx.gt Kx.ex Kx.ca Kx.cn Kx.ct Kx.mo) I.kIn J h1 e (fun z => nomatch z) fun tk => ⟨.bl b, H, I.tok tk, rfl, q⟩
def wIsX (tab : Nat → Option Bool) (me : WE) : WE := fun sl cs Q X => me sl cs (fun d cs1 => match d with
  | .exc n _ => ∃ b, tab n = some b ∧ Q (.bl b) cs1
  | _ => False) X
theorem de_isX {tab : Nat → Option Bool} (Kx : XKit X.K (T.xc k)) (hz : Zc (.ref (T.xc k)) (some dx) oe) (hf : ∃ vs, oe.data = .fields vs) (he : DE (X.suite a ((a, oe) :: pn)) (T.at (some (a, k, dx))) E e me)
    (hi : X.mg "isinstance" = none) (hc : PE (X.suite a ((a, oe) :: pn)) (.Name x p2) (tC c)) (kc : ClsV c u) (ht : ∀ b, tab k = some b → PySem.W.kitOne X.K (.ref (T.xc k)) u = some b) (gl : Gl X "isinstance" := by rfl)
    (hs : starEach [e, .Name x p2] X.env = (false, eval e X.env) :: starEach [.Name x p2] X.env := by rfl) (hs2 : starEach [.Name x p2] X.env = (false, eval (.Name x p2) X.env) :: starEach [] X.env := by rfl) (hb : bootBuiltins "isinstance" = some (.builtin "isinstance") := by first | rfl | decide +kernel) :
    DE (X.suite a ((a, oe) :: pn)) (T.at (some (a, k, dx))) E (.Call (.Name "isinstance" p) [e, .Name x p2] [] pos) (wIsX tab me) := by
  obtain ⟨t, pe, se⟩ := he.ex
  refine ⟨_, pe_callB (call_isX Kx hz hf) gl hi hb (pa_cons pe (pa_cons hc pa_nil hs2) hs) (by decide) (by decide) hs rfl, fun sl W σ H Q' X' Q hs rp h po px => ?_⟩
  refine se sl W σ H _ X' _ hs rp h (fun d W1 v H1 q1 x1 r1 a1 => ?_) px
  cases a1 with
  | @exc a' dx' n' v' d' e1 h1 f1 t1 =>
    cases (show some (a, k, dx) = some (a', n', dx') from e1)
    obtain ⟨b, e2, q1⟩ := q1
    exact ⟨c, u, b, _, rfl, h1, kc, ht b e2, po _ W1 _ H1 q1 x1 r1 (.bl b)⟩
  | _ => exact q1.elim
theorem de_isXT {tab : Nat → Option Bool} {es : List Expr} {cs : List V} {us : List Value} {p3 : Nat} (Kx : XKit X.K (T.xc k)) (hz : Zc (.ref (T.xc k)) (some dx) oe) (hf : ∃ vs, oe.data = .fields vs) (he : DE (X.suite a ((a, oe) :: pn)) (T.at (some (a, k, dx))) E e me)
    (hi : X.mg "isinstance" = none) (hc : PA (X.suite a ((a, oe) :: pn)) es (fun _ H Q => Q cs H)) (kc : Paired ClsV cs us) (hn : cs.length ≤ 100) (ht : ∀ b, tab k = some b → PySem.W.kitAny X.K (.ref (T.xc k)) us = some b) (gl : Gl X "isinstance" := by rfl)
    (hs : starEach [e, .Tuple es p3 p2] X.env = (false, eval e X.env) :: starEach [.Tuple es p3 p2] X.env := by rfl) (hs2 : starEach [.Tuple es p3 p2] X.env = (false, eval (.Tuple es p3 p2) X.env) :: starEach [] X.env := by rfl) (hb : bootBuiltins "isinstance" = some (.builtin "isinstance") := by first | rfl | decide +kernel) :
    DE (X.suite a ((a, oe) :: pn)) (T.at (some (a, k, dx))) E (.Call (.Name "isinstance" p) [e, .Tuple es p3 p2] [] pos) (wIsX tab me) := by
  obtain ⟨t, pe, se⟩ := he.ex
  refine ⟨_, pe_callB (call_isXT Kx hz hf) gl hi hb (pa_cons pe (pa_cons (pe_tup hc) pa_nil hs2) hs) (by decide) (by decide) hs rfl, fun sl W σ H Q' X' Q hs rp h po px => ?_⟩
  refine se sl W σ H _ X' _ hs rp h (fun d W1 v H1 q1 x1 r1 a1 => ?_) px
  cases a1 with
  | @exc a' dx' n' v' d' e1 h1 f1 t1 =>
    cases (show some (a, k, dx) = some (a', n', dx') from e1)
    obtain ⟨b, e2, q1⟩ := q1
    refine ⟨by rw [sizeLine_eq]; omega, fun q nq => ?_⟩
    have ex := Ext.laid (W := W1) (o := .tup cs) nq
    exact ⟨q, cs, us, b, _, rfl, upd_same, by rw [upd_ne (ne_of_none h1 nq)]; exact h1, kc, ht b e2, po _ W1 _ _ q1 (x1.trans ex) (r1.laid nq) (.bl b)⟩
  | _ => exact q1.elim
end
end DL
namespace DL
open PySem PySem.Spec PyProof.Rows L2

/-! ### an error's own __init__: self.value = value -/
theorem ok_init {P : Program} {w : World} {K : PySem.W.Frag} {mg : Str → Option Value} {base : Heap} {k : Nat} {f C : Addr} {fd : FuncData} {qual : Str} {st : Stmt} {p1 p2 p3 p4 : Pos} (F : Fun K "__init__" qual st f fd)
    (Sc : FnScope ["self", "value"] ["self", "value"] (defScope st)) (hb : defBody st = [.Assign [.Attribute (.Name "self" p1) "value" p2] (.Name "value" p3) p4]) (v1 : Vis (defScope st) "self") (v2 : Vis (defScope st) "value")
    (O : OexC K C) (nv : PySem.W.findIn K (.ref C) "value" = some none) : FnOk P w K mg base CX0 (k + 1) f fd ["self", "value"] (spI C) := by
  obtain ⟨oc, od, kV, doc, pm, an, cdv, ct, osl, rfl, lk, hcd⟩ := F.ex
  refine fn_of lk hcd Sc (fun vs H Q E ⟨a, y, e, _⟩ => by rw [e]; rfl) fun A outer s H vs Q E hr ⟨a, y, e, ha, q⟩ => ?_
  subst e
  rw [hb]
  refine ⟨_, pss_one (ps_ost (pe_var (i := 0) rfl v1) (pe_var (i := 1) rfl v2)), ?_⟩
  exact ⟨y, rfl, .ref a, rfl, a, C, rfl, O, nv, .inl ⟨ha, fun dx nd ne => q dx nd ne⟩⟩
theorem takes0 {X : Cx} : Takes X fun _ _ _ _ => False := fun u s' ⟨a, B, sI, pins, σ, H, cls, d, e, I, nb, up, sky, na, os, ag, w⟩ => w.elim
/-- what the text has of an own error class at C, by the name x -/
structure Err (P : Program) (w : World) (K : PySem.W.Frag) (mg : Str → Option Value) (base : Heap) (k : Nat) (x : Str) (C : Addr) : Prop where
  ex : ∃ (fI : Addr) (fd : FuncData), PySem.W.findIn K (.ref C) "__init__" = some (some (.ref fI)) ∧ PySem.W.typeIn K (.ref fI) = some (.type "function") ∧ FnOk P w K mg base CX0 k fI fd ["self", "value"] (spI C) ∧ Binds K fd ["self", "value"] []
  O : OexC K C
  m : mg x = some (.ref C)
section
variable {X : Cx} {T : Tb} {E : XK} {x : Str} {k n : Nat} {e : Expr} {p pos pos' : Pos} {me : WA}
theorem ds_raiseE (R : Err X.prog X.w X.K X.mg X.base k x (T.xc n)) (hr : Room (k + 1) X.A) (ha : DA X T E [e] me) (hc : X.calm = true) (tk : Takes X fun cls d _ H => E cls d H) (hg : Gl X x := by rfl)
    (hdb : (x == ("__debug__" : Str)) = false := by decide) (he : starEach [e] X.env = (false, eval e X.env) :: starEach [] X.env := by rfl) (hpl : (backTo pos (starEach [] X.env)).any (·.1) = false := by rfl) :
    DS X T E (.Raise (some (.Call (.Name x p) [e] [] pos)) none pos') (wRaise n me) := by
  obtain ⟨fI, fd, h1, h2, h3, h4⟩ := R.ex
  exact ds_raise R.O h1 h2 h3 hr h4 pass0 R.m ha hc tk hg hdb he hpl
theorem pe_VE (hm : X.mg "ValueError" = none) (hg : Gl X "ValueError" := by rfl) : PE X (.Name "ValueError" pos) (tC (.ty "ValueError")) :=
  ⟨fun pins s σ H Q I h => ld_blt I hg hm PyProof.Rows.Boot.«ValueError» ⟨.ty "ValueError", H, I, rfl, h⟩ (by decide) (by decide)⟩
end
end DL
namespace DL
open PySem PySem.Spec PyProof.Rows L2
theorem xkit_of {K : PySem.W.Frag} {C : Addr} (hd : PySem.W.hasDictIn K C = true) (ga : PySem.W.findIn K (.ref C) "__getattribute__" = some (some (.builtin "BaseException.__getattribute__"))) (gt : PySem.W.findIn K (.ref C) "__getattr__" = some none)
    (ex : PySem.W.subIn K (.ref C) (.type "BaseException") = some true) (ca : PySem.W.findIn K (.ref C) "__class__" = some (some (.builtin "object.__class__"))) (mo : PySem.W.mroIn K C (.type "object") = some true) (nv : PySem.W.findIn K (.ref C) "value" = some none)
    (cn : PySem.W.specialIn K (.builtin "object.__class__") "__get__" = some (some (.builtin "getset_descriptor.__get__"))) (ct : PySem.W.takesIn K (.builtin "object.__class__") = some true) : XKit K C :=
  ⟨by obtain ⟨cd, hc, _⟩ := PySem.W.any_some hd; rw [hc]; rfl, ga, gt, ex, ca, cn, ct, mo, hd, nv⟩
end DL
namespace DL
open PySem PySem.Spec PyProof.Rows L2

/-! ### a < b < c -/
section
variable {X : Cx} {T : Tb} {E : XK} {a b c : Expr} {ma mb mc : WE} {pos : Pos}
def wChain (g g' : G2) (a b c : WE) : WE := fun sl cs Q X => a sl cs (fun d cs1 => b sl cs1 (fun e cs2 => g d e cs2 fun z cs3 => match z with
  | .bl k => if k = true then c sl cs3 (fun f cs4 => g' e f cs4 Q) X else Q (.bl false) cs3
  | _ => False) X) X
theorem chain_ok {r r' : R2} {g g' : G2} {ta tb tc : TE} (hg : OkR X.K T r g) (hg' : OkR X.K T r' g')
    (ha : ∀ sl W σ H Q' X' Q, SlAt X.K T W H sl σ → Rep X.K T W H → ma sl W.cs Q' X' → PostE X.K T W H Q' Q → PostX X.K T W H X' E → ta σ H Q)
    (hb : ∀ sl W σ H Q' X' Q, SlAt X.K T W H sl σ → Rep X.K T W H → mb sl W.cs Q' X' → PostE X.K T W H Q' Q → PostX X.K T W H X' E → tb σ H Q)
    (hc : ∀ sl W σ H Q' X' Q, SlAt X.K T W H sl σ → Rep X.K T W H → mc sl W.cs Q' X' → PostE X.K T W H Q' Q → PostX X.K T W H X' E → tc σ H Q)
    {sl : Sl} {W : Wd} {σ : L2.St} {H : Hp} {Q' : WQ} {X' : XQ} {Q : VK} (hs : SlAt X.K T W H sl σ) (rp : Rep X.K T W H) (h : wChain g g' ma mb mc sl W.cs Q' X') (p : PostE X.K T W H Q' Q) (px : PostX X.K T W H X' E) : tChain r r' ta tb tc σ H Q := by
  refine ha sl W σ H _ X' _ hs rp h (fun d W1 v H1 q1 x1 r1 a1 => ?_) px
  refine hb sl W1 σ H1 _ X' _ (hs.ext x1) r1 q1 (fun e W2 u H2 q2 x2 r2 a2 => ?_) (px.st x1)
  refine hg W2 H2 d e v u _ _ r2 (a1.ext x2) a2 q2 (fun z W3 zv H3 q3 x3 r3 a3 => ?_)
  cases z with
  | bl k =>
    cases a3
    refine ⟨k, rfl, ?_⟩
    have x123 := x1.trans (x2.trans x3)
    cases k with
    | true =>
      rw [if_pos rfl]
      have q3 : mc sl W3.cs (fun f cs4 => g' e f cs4 Q') X' := q3
      refine hc sl W3 σ H3 _ X' _ (hs.ext x123) r3 q3 (fun f W4 w H4 q4 x4 r4 a4 => ?_) (px.st x123)
      exact hg' W4 H4 e f u w Q' Q r4 (a2.ext (x3.trans x4)) a4 q4 (p.st (x123.trans x4))
    | false =>
      rw [if_neg Bool.false_ne_true]
      exact p _ W3 _ H3 q3 x123 r3 (.bl false)
  | _ => exact q3.elim
theorem de_chain {op op' : CmpOp} {r r' : R2} {g g' : G2} (ho : OpR X (compareOp op) r) (hg : OkR X.K T r g) (ho' : OpR X (compareOp op') r') (hg' : OkR X.K T r' g') (ha : DE X T E a ma) (hb : DE X T E b mb) (hc : DE X T E c mc)
    (hm : lastMarks [op, op'] [b, c] = false := by with_unfolding_all rfl) : DE X T E (.Compare a [op, op'] [b, c] pos) (wChain g g' ma mb mc) := by
  obtain ⟨ta, pa, sa⟩ := ha.ex
  obtain ⟨tb, pb, sb⟩ := hb.ex
  obtain ⟨tc, pc, sc⟩ := hc.ex
  exact ⟨_, pe_chain ho ho' pa pb pc hm, fun sl W σ H Q' X' Q hs rp h p px => chain_ok hg hg' sa sb sc hs rp h p px⟩
theorem dt_chain {op op' : CmpOp} {r r' : R2} {g g' : G2} (ho : OpR X (compareOp op) r) (hg : OkR X.K T r g) (ho' : OpR X (compareOp op') r') (hg' : OkR X.K T r' g') (ha : DE X T E a ma) (hb : DE X T E b mb) (hc : DE X T E c mc)
    (hm : lastMarks [op, op'] [b, c] = false := by with_unfolding_all rfl) : DT X T E (.Compare a [op, op'] [b, c] pos) (wTst (wChain g g' ma mb mc)) := by
  obtain ⟨ta, pa, sa⟩ := ha.ex
  obtain ⟨tb, pb, sb⟩ := hb.ex
  obtain ⟨tc, pc, sc⟩ := hc.ex
  exact ⟨_, pt_chain ho ho' pa pb pc hm, fun sl W σ H Q' X' Q hs rp h p px => tst (fun _ _ _ _ _ _ _ hs rp h p px => chain_ok hg hg' sa sb sc hs rp h p px) hs rp h p px⟩
end

/-! ### without a step of the program: lists are frozen, frozen lists stand in the place of their roots -/
mutual
/-- frozen cells in the place of their roots -/
def mel (cs : Cells) : D → D
  | .non => .non
  | .bl b => .bl b
  | .int i => .int i
  | .str x => .str x
  | .lst xs => .lst (melL cs xs)
  | .tup xs => .tup (melL cs xs)
  | .ins n xs => .ins n (melL cs xs)
  | .root j => match cs[j]? with
    | some (.fz d) => d
    | _ => .root j
  | .scr xs => .scr xs
  | .exc n d => .exc n d
def melL (cs : Cells) : List D → List D
  | [] => []
  | d :: ds => mel cs d :: melL cs ds
end
section
variable {K : PySem.W.Frag} {T : Tb} {W : Wd} {H : Hp}
mutual
theorem At.mel (r : Rep K T W H) : ∀ {d : D} {v : V}, At K T W H d v → At K T W H (DL.mel W.cs d) v
  | _, _, .non => by simp only [DL.mel]; exact .non
  | _, _, .bl b => by simp only [DL.mel]; exact .bl b
  | _, _, .int i => by simp only [DL.mel]; exact .int i
  | _, _, .str s => by simp only [DL.mel]; exact .str s
  | _, _, .root (j := j) (a := a) h => by
    simp only [DL.mel]
    cases e : W.cs[j]? with
    | none => exact .root h
    | some c =>
      cases c with
      | fz d => exact r.cell j a _ h e
      | _ => exact .root h
  | _, _, .lst h f t => by simp only [DL.mel]; exact .lst h f (AtL.mel r t)
  | _, _, .tup h f t => by simp only [DL.mel]; exact .tup h f (AtL.mel r t)
  | _, _, .ins h l f t => by simp only [DL.mel]; exact .ins h l f (AtL.mel r t)
  | _, _, .scr h t => by simp only [DL.mel]; exact .scr h t
  | _, _, .exc e h f t => by simp only [DL.mel]; exact .exc e h f t
theorem AtL.mel (r : Rep K T W H) : ∀ {ds : List D} {vs : List V}, AtL K T W H ds vs → AtL K T W H (DL.melL W.cs ds) vs
  | _, _, .nil => by simp only [DL.melL]; exact .nil
  | _, _, .cons h t => by simp only [DL.melL]; exact .cons (At.mel r h) (AtL.mel r t)
end
/-- a live list's items, their roots replaced -/
inductive Gh : Sl → Cells → Sl → Cells → Prop
  | refl {sl cs} : Gh sl cs sl cs
  | fz {sl cs sl' cs'} (j : Nat) {ds : List D} (h : cs[j]? = some (.lst ds)) (t : Gh sl (cs.set j (.fz (.lst ds))) sl' cs') : Gh sl cs sl' cs'
  | cell {sl cs sl' cs'} (j : Nat) {ds : List D} (h : cs[j]? = some (.lst ds)) (t : Gh sl (cs.set j (.lst (melL cs ds))) sl' cs') : Gh sl cs sl' cs'
  | slot {sl cs sl' cs'} (i : Nat) {d : D} (h : sl[i]? = some (some d)) (t : Gh (sl.set i (some (DL.mel cs d))) cs sl' cs') : Gh sl cs sl' cs'
theorem Rep.relist (r : Rep K T W H) {j : Nat} {ds es : List D} (hc : W.cs[j]? = some (.lst ds)) (q : ∀ vs, AtL K T W H ds vs → AtL K T W H es vs) : Rep K T (W.put j (.lst es)) H ∧ Ext W H (W.put j (.lst es)) H := by
  have hj : j < W.A.length := by rw [r.len]; exact (List.getElem?_eq_some_iff.mp hc).1
  have ha : W.A[j]? = some W.A[j] := List.getElem?_eq_getElem hj
  obtain ⟨vs, h1, h2⟩ := r.cell j _ _ ha hc
  have e : upd H W.A[j] (.lst vs) = H := by
    funext b
    by_cases hb : b = W.A[j]
    · rw [hb, upd_same, h1]
    · rw [upd_ne hb]
  have x : Ext W H (W.put j (.lst es)) (upd H W.A[j] (.lst vs)) := .put ha hc trivial
  have := r.put (d := .lst es) (o := .lst vs) ha hc trivial ⟨vs, upd_same, (q vs h2).ext x⟩
  rw [e] at this x
  exact ⟨this, x⟩
theorem Gh.run : ∀ {sl cs sl' cs'}, Gh sl cs sl' cs' → ∀ {W : Wd} {σ : L2.St}, W.cs = cs → SlAt K T W H sl σ → Rep K T W H → ∃ W', W'.cs = cs' ∧ SlAt K T W' H sl' σ ∧ Rep K T W' H ∧ Ext W H W' H := by
  intro sl cs sl' cs' h
  induction h with
  | refl => exact fun {W} {σ} e hs r => ⟨W, e, hs, r, .refl⟩
  | @fz sl cs sl' cs' j ds hc t ih =>
    intro W σ e hs r
    subst e
    have hj : j < W.A.length := by rw [r.len]; exact (List.getElem?_eq_some_iff.mp hc).1
    have ha : W.A[j]? = some W.A[j] := List.getElem?_eq_getElem hj
    obtain ⟨vs, h1, h2⟩ := r.cell j _ _ ha hc
    obtain ⟨r2, _⟩ := r.freeze ha hc trivial (d := .lst ds) fun fz => .lst h1 fz (h2.ext (.freeze ha hc trivial))
    have x := Ext.freeze (H := H) (x := .fz (.lst ds)) ha hc trivial
    obtain ⟨W', e', hs', r', x'⟩ := ih (W := W.put j (.fz (.lst ds))) rfl (hs.ext x) r2
    exact ⟨W', e', hs', r', x.trans x'⟩
  | @cell sl cs sl' cs' j ds hc t ih =>
    intro W σ e hs r
    subst e
    obtain ⟨r2, x⟩ := r.relist hc fun vs h => h.mel r
    obtain ⟨W', e', hs', r', x'⟩ := ih (W := W.put j (.lst (melL W.cs ds))) rfl (hs.ext x) r2
    exact ⟨W', e', hs', r', x.trans x'⟩
  | @slot sl cs sl' cs' i d hi t ih =>
    intro W σ e hs r
    subst e
    refine ih (W := W) rfl ⟨by rw [List.length_set]; exact hs.1, fun k d' hk => ?_⟩ r
    by_cases hki : i = k
    · subst hki
      have hlt := (List.getElem?_eq_some_iff.mp hi).1
      rw [List.getElem?_set_self hlt] at hk
      cases hk
      obtain ⟨v, e1, a1⟩ := hs.2 i d hi
      exact ⟨v, e1, a1.mel r⟩
    · rw [List.getElem?_set_ne hki] at hk
      exact hs.2 k d' hk
end
section
variable {X : Cx} {T : Tb} {E : XK} {st : Stmt} {sts : List Stmt} {m : WS}
def wGh (m : WS) : WS := fun D sl cs => ∃ sl' cs', Gh sl cs sl' cs' ∧ m D sl' cs'
theorem ds_gh (h : DS X T E st m) : DS X T E st (wGh m) := by
  obtain ⟨t, p, s⟩ := h.ex
  refine ⟨t, p, fun sl W σ H D' D hs rp ⟨sl', cs', g, q⟩ po => ?_⟩
  obtain ⟨W', e, hs', r', x⟩ := g.run rfl hs rp
  exact s sl' W' σ H D' D hs' r' (by rw [e]; exact q) (po.st x)
end
/-! ### t[lo:hi] of a tuple -/
theorem cutV_whole {α : Type} {xs : List α} {a b : Nat} (h1 : a = 0) (h2 : b = xs.length) : (xs.drop a).take (b - a) = xs := by
  subst h1 h2
  rw [List.drop_zero, Nat.sub_zero, List.take_length]
def wSlT (me : WE) (ml mh : WO) : WE := fun sl cs Q X => me sl cs (fun d cs1 => ml sl cs1 (fun lo cs2 => mh sl cs2 (fun hi cs3 => match d with
  | .tup ds => Q (.tup (cutD ds lo hi)) cs3
  | _ => False) X) X) X
theorem de_sliceT {X : Cx} {T : Tb} {E : XK} {e : Expr} {lo hi : Option Expr} {me : WE} {ml mh : WO} {p2 pos : Pos} (he : DE X T E e me) (hl : DO X T E lo ml) (hh : DO X T E hi mh) : DE X T E (.Subscript e (.Slice lo hi none p2) pos) (wSlT me ml mh) := by
  obtain ⟨t, p, s⟩ := he.ex
  obtain ⟨t1, p1, s1⟩ := hl.ex
  obtain ⟨t2, p2, s2⟩ := hh.ex
  refine ⟨_, pe_slice sl_tupA p p1 p2, fun sl W σ H Q' X' Q hs rp h po px => ?_⟩
  refine s sl W σ H _ X' _ hs rp h (fun d W1 v H1 q1 x1 r1 a1 => ?_) px
  refine s1 sl W1 σ H1 _ X' _ (hs.ext x1) r1 q1 (fun lo W2 H2 q2 x2 r2 => ?_) (px.st x1)
  refine s2 sl W2 σ H2 _ X' _ ((hs.ext x1).ext x2) r2 q2 (fun hi W3 H3 q3 x3 r3 => ?_) ((px.st x1).st x2)
  cases d with
  | tup ds =>
    cases (a1.ext x2).ext x3 with
    | @tup l vs _ h1 f1 t =>
      have t' : AtL X.K T W3 H3 (cutD ds lo hi) (cutV vs lo hi) := by
        unfold cutD cutV
        rw [← t.length]
        exact (t.drop _).take _
      refine ⟨l, vs, rfl, .of h1, fun hw => ?_, fun _ q hq => ?_⟩
      · have e : cutD ds lo hi = ds := by
          unfold cutD
          exact cutV_whole (by rw [t.length]; exact hw.1) (by rw [t.length]; exact hw.2)
        have q3 : Q' (.tup (cutD ds lo hi)) W3.cs := q3
        rw [e] at q3
        exact po _ W3 _ _ q3 (x1.trans (x2.trans x3)) r3 (.tup h1 f1 t)
      · exact po _ W3 _ _ q3 (x1.trans (x2.trans (x3.trans (.laid hq)))) (r3.laid hq) (.tup upd_same (r3.fresh hq) (t'.ext (.laid hq)))
  | _ => exact q3.elim
end DL
namespace DL
open PySem PySem.Spec PyProof.Rows L2

/-! ### while -/
section
variable {X : Cx} {T : Tb} {E : XK} {pos : Pos}
def wWhile (t : WT) (tb : WS) : WS := fun D0 sl cs => ∃ P : Nat → Sl → Cells → Prop, (∃ m, P m sl cs) ∧ ∀ m sl cs, P m sl cs →
  t sl cs (fun b cs1 => if b = true then tb { nx := fun sl' cs' => ∃ m', m' < m ∧ P m' sl' cs', rt := D0.rt, xq := D0.xq, bk := D0.nx, ct := fun sl' cs' => ∃ m', m' < m ∧ P m' sl' cs' } sl cs1 else D0.nx sl cs1) D0.xq
theorem ds_while {c : Expr} {body : List Stmt} {mt : WT} {tb : WS} (hp : PassesOwn (model X.prog X.w) X.A X.env X.xe) (hc : DT X T E c mt) (hb : DSs X T E body tb) : DS X T E (.While c body [] pos) (wWhile mt tb) := by
  obtain ⟨t1, p1, s1⟩ := hc.ex
  obtain ⟨t2, p2, s2⟩ := hb.ex
  refine ⟨_, ps_while hp p1 p2, fun sl W σ H D' Dn hs rp h po => ?_⟩
  obtain ⟨P, ⟨m0, h0⟩, turn⟩ := h
  refine ⟨fun m σ' H' => ∃ sl' W', SlAt X.K T W' H' sl' σ' ∧ Rep X.K T W' H' ∧ Ext W H W' H' ∧ P m sl' W'.cs, ⟨m0, sl, W, hs, rp, .refl, h0⟩, ?_⟩
  rintro m σ1 H1 ⟨sl1, W1, hs1, r1, x1, h1⟩
  refine s1 sl1 W1 σ1 H1 _ _ _ hs1 r1 (turn m sl1 W1.cs h1) (fun b W2 H2 q2 x2 r2 => ?_) (po.xq.st x1)
  have x12 := x1.trans x2
  cases b with
  | true =>
    rw [if_pos rfl] at q2 ⊢
    refine ⟨fun σ' H' => ∃ sl' W', SlAt X.K T W' H' sl' σ' ∧ Rep X.K T W' H' ∧ Ext W H W' H' ∧ ∃ m', m' < m ∧ P m' sl' W'.cs, fun σ' H' ⟨sl', W', a1, a2, a3, m', a4, a5⟩ => ⟨m', a4, sl', W', a1, a2, a3, a5⟩, ?_⟩
    refine s2 sl1 W2 σ1 H2 _ _ (hs1.ext x2) r2 q2 ⟨fun sl5 W5 σ5 H5 q5 x5 r5 a5 => ?_, po.rt.st x12, fun sl5 W5 σ5 H5 q5 x5 r5 a5 => ?_, fun sl5 W5 σ5 H5 q5 x5 r5 a5 => ?_, po.xq.st x12⟩
    · exact ⟨sl5, W5, a5, r5, x12.trans x5, q5⟩
    · exact po.nx sl5 W5 σ5 H5 q5 (x12.trans x5) r5 a5
    · exact ⟨sl5, W5, a5, r5, x12.trans x5, q5⟩
  | false =>
    rw [if_neg Bool.false_ne_true] at q2 ⊢
    exact po.nx sl1 W2 σ1 H2 q2 x12 r2 (hs1.ext x2)

/-! ### for over a live list that stays as it is -/
def forL (g : WG) (tb : WS) (D0 : WD) (j : Nat) (ds : List D) : List D → Sl → Cells → Prop
  | [], sl, cs => cs[j]? = some (.lst ds) ∧ D0.nx sl cs
  | d :: es, sl, cs => cs[j]? = some (.lst ds) ∧ g d sl cs fun sl1 cs1 => tb { nx := fun s c => forL g tb D0 j ds es s c, rt := D0.rt, xq := D0.xq, bk := D0.nx, ct := fun s c => forL g tb D0 j ds es s c } sl1 cs1
def wForL (me : WE) (g : WG) (tb : WS) : WS := fun D0 sl cs => me sl cs (fun d cs1 => match d with
  | .root j => ∃ ds, cs1[j]? = some (.lst ds) ∧ forL g tb D0 j ds ds sl cs1
  | _ => False) D0.xq
theorem forL_here {g : WG} {tb : WS} {D0 : WD} {j : Nat} {ds es : List D} {sl : Sl} {cs : Cells} (h : forL g tb D0 j ds es sl cs) : cs[j]? = some (.lst ds) := by
  cases es with
  | nil => exact h.1
  | cons d es => exact h.1
theorem ds_forL {tg iter : Expr} {body : List Stmt} {me : WE} {g : WG} {gs : List Nat} {tb : WS} (hp : PassesOwn (model X.prog X.w) X.A X.env X.xe) (hc : X.calm = true) (hi : DE X T E iter me) (hg : DG X T tg g gs) (hb : DSs X T E body tb)
    (hs : ∀ x, foldedSetIterable iter X.env x = pure x := by intro _; rfl) : DS X T E (.For tg iter body [] pos) (wForL me g tb) := by
  obtain ⟨t1, p1, s1⟩ := hi.ex
  obtain ⟨tg', p2, s2⟩ := hg.ex
  obtain ⟨t3, p3, s3⟩ := hb.ex
  refine ⟨_, ps_for hp hc (pi_list p1) p2 p3 hs, fun sl W σ H D' Dn hs rp h po => ?_⟩
  refine s1 sl W σ H _ _ _ hs rp h (fun d W1 v H1 q1 x1 r1 a1 => ?_) po.xq
  cases a1 with
  | @root j l hj =>
    obtain ⟨ds, ec, q1⟩ := q1
    obtain ⟨vs, h1, t1⟩ := r1.cell _ _ _ hj ec
    refine ⟨l, rfl, ⟨vs, .of h1⟩, ?_⟩
    refine ⟨fun i m σ' H' => ∃ sl' W', SlAt X.K T W' H' sl' σ' ∧ Rep X.K T W' H' ∧ Ext W1 H1 W' H' ∧ m = ds.length - i ∧ i ≤ ds.length ∧ forL g tb D' j ds (ds.drop i) sl' W'.cs,
      ⟨_, sl, W1, hs.ext x1, r1, .refl, rfl, Nat.zero_le _, by rw [List.drop_zero]; exact q1⟩, ?_⟩
    rintro i m σ2 H2 ⟨sl2, W2, hs2, r2, x2, rfl, hi, q2⟩
    have ec2 := forL_here q2
    obtain ⟨us, h2, t2⟩ := r2.cell _ _ _ (x2.pre _ _ hj) ec2
    have lu := t2.length
    by_cases hlt : i < ds.length
    · have hd : ds.drop i = ds[i] :: ds.drop (i + 1) := List.drop_eq_getElem_cons hlt
      obtain ⟨v, e1, e2⟩ := t2.get' (List.getElem?_eq_getElem hlt)
      refine .inr ⟨⟨us, v, .of h2, e1⟩, fun σ' H' => ∃ sl' W', SlAt X.K T W' H' sl' σ' ∧ Rep X.K T W' H' ∧ Ext W1 H1 W' H' ∧ forL g tb D' j ds (ds.drop (i + 1)) sl' W'.cs,
        fun σ' H' ⟨sl', W', z1, z2, z3, z4⟩ => ⟨ds.length - (i + 1), by omega, sl', W', z1, z2, z3, rfl, hlt, z4⟩, fun y H3 hy => ?_⟩
      obtain ⟨eH, hy⟩ := hy
      subst eH
      have ey := hy us (.of h2)
      rw [e1] at ey
      cases ey
      rw [hd] at q2
      refine s2 sl2 W2 σ2 _ _ _ _ _ hs2 r2 e2 q2.2 fun sl4 σ4 q4 hs4 _ _ => ?_
      refine s3 sl4 W2 σ4 _ _ _ hs4 r2 q4 ⟨fun sl5 W5 σ5 H5 q5 x5 r5 a5 => ?_, (po.rt.st x1).st x2, fun sl5 W5 σ5 H5 q5 x5 r5 a5 => ?_, fun sl5 W5 σ5 H5 q5 x5 r5 a5 => ?_, (po.xq.st x1).st x2⟩
      · exact ⟨sl5, W5, a5, r5, x2.trans x5, q5⟩
      · exact po.nx sl5 W5 σ5 H5 q5 (x1.trans (x2.trans x5)) r5 a5
      · exact ⟨sl5, W5, a5, r5, x2.trans x5, q5⟩
    · have e : i = ds.length := by omega
      subst e
      rw [List.drop_length] at q2
      exact .inl ⟨⟨us, .of h2, by omega⟩, po.nx sl2 W2 σ2 H2 q2.2 (x1.trans x2) r2 hs2⟩
  | _ => exact q1.elim
end

/-! ### min of plain data -/
theorem dpAll {K : PySem.W.Frag} {T : Tb} {W : Wd} {H : Hp} (r : Rep K T W H) : ∀ {ds : List D} {vs : List V} {ps : List PyData}, AtL K T W H ds vs → (∀ (i : Nat) (d : D), ds[i]? = some d → ∃ p, ps[i]? = some p ∧ py W.cs d = some p) → ds.length = ps.length → DpAll K H vs ps
  | [], _, ps, .nil, _, hl => by
    cases ps with
    | nil => exact .nil
    | cons _ _ => cases hl
  | d :: ds, _, ps, .cons a t, h, hl => by
    cases ps with
    | nil => cases hl
    | cons p ps =>
      obtain ⟨q, e1, e2⟩ := h 0 d rfl
      cases e1
      exact .cons (py_at r e2 a) (dpAll r t (fun i e he => h (i + 1) e he) (by simpa using hl))
def rMinD (K : PySem.W.Frag) : List V → Hp → VK → Prop := fun xs H Q => ∃ (a : Addr) (vs : List V) (p : PyData) (ps : List PyData), xs = [.ref a] ∧ SqL K H a vs ∧ DpAll K H vs (p :: ps) ∧ PySem.W.AlikeAll (p :: ps) ∧ PyData.depthAll (p :: ps) ≤ 60 ∧
  ∀ (i : Nat) v, vs[i]? = some v → (p :: ps)[i]? = some (PySem.W.minD p ps) → Q v H
theorem minD_mem (p : PyData) (ps : List PyData) : PySem.W.minD p ps ∈ p :: ps := by
  unfold PySem.W.minD
  induction ps generalizing p with
  | nil => exact List.mem_cons_self
  | cons q ps ih =>
    rw [List.foldl_cons]
    have := ih (if PySem.W.dataLt q p then q else p)
    rcases List.mem_cons.mp this with e | e
    · rw [e]
      split
      · exact List.mem_cons_of_mem _ List.mem_cons_self
      · exact List.mem_cons_self
    · exact List.mem_cons_of_mem _ (List.mem_cons_of_mem _ e)
theorem vals_at {vs : List V} {us : List Value} (r : Vals vs us) : ∀ {i : Nat} {u : Value}, us[i]? = some u → ∃ v, vs[i]? = some v ∧ L2.RelV v u := by
  induction r with
  | nil => intro i u e; cases e
  | cons r t ih =>
    intro i u e
    cases i with
    | zero => cases e; exact ⟨_, rfl, r⟩
    | succ i => exact ih e
theorem cr_minD {X : Cx} (hc : X.calm = true) (hu : X.A.units + 64 < cLine) : CallR X (.builtin "min") (rMinD X.K) := by
  intro pins s σ H xs us Q I r h
  obtain ⟨a, vs, p, ps, rfl, hs, hd, ha, hdp, q⟩ := h
  obtain ⟨its, rv, hl, _⟩ := I.list hs
  rw [Vals.ref1 r]
  obtain ⟨as, hr⟩ := Dp.readsAll I (p :: ps) vs its hd rv
  refine PySem.W.min_list_data (I.ok.hd hc) hl.isList (by simpa using hr) ha (by omega) fun i v h' tk bs hv hrd hk => ?_
  have hv : its[i]? = some v := by simpa using hv
  obtain ⟨x, hx, rx⟩ := vals_at rv hv
  refine ⟨x, H, I.kept hk, rx, q i x hx ?_⟩
  obtain ⟨cs, hrc, hi, hmem, _⟩ := PySem.W.readsAll_at hr i v hv
  have e := PySem.W.alike_unique _ _ v cs bs (ha.1 _ hmem _ (minD_mem p ps)) (PySem.W.reads_keeps hk hrc) hrd
  rw [List.getElem?_eq_getElem hi]
  rw [List.getD_eq_getElem?_getD, List.getElem?_eq_getElem hi] at e
  exact congrArg some e
def gMinD : GL := g1 fun d cs Q => match lisD cs d with
  | some ds => ∃ p ps, ds.length = (p :: ps).length ∧ (∀ (i : Nat) e, ds[i]? = some e → ∃ q, (p :: ps)[i]? = some q ∧ py cs e = some q) ∧ PySem.W.AlikeAll (p :: ps) ∧ PyData.depthAll (p :: ps) ≤ 60 ∧
    ∀ (i : Nat) e, ds[i]? = some e → (p :: ps)[i]? = some (PySem.W.minD p ps) → Q e cs
  | none => False
theorem ok_minD {K : PySem.W.Frag} {T : Tb} : OkL K T (rMinD K) gMinD := ok_1 fun W H d v Q' Q r a q p => by
  split at q
  · rename_i ds e
    obtain ⟨l, vs, rfl, h1, t⟩ := lisD_at r a e
    obtain ⟨x, xs, q1, q2, q3, q4, q5⟩ := q
    refine ⟨l, vs, x, xs, rfl, h1, dpAll r t q2 q1, q3, q4, fun i v hv hm => ?_⟩
    obtain ⟨d, e1, e2⟩ := t.get hv
    exact p d W v H (q5 i d e1 hm) .refl r e2
  · exact q.elim

/-! ### try: .. except x as n: .., the suite goes on -/
def noXSl (sl : Sl) : Prop := ∀ (i : Nat) (d : D), sl[i]? = some (some d) → noX d
def wTryN (nN i : Nat) (ex : Nat → Option Bool) (mb mh : WS) : WS := fun D sl cs =>
  mb { D with xq := fun n d cs1 => ∃ b, ex n = some b ∧ (b = true → noX d → noXs cs1 → mh { nx := fun sl2 cs2 => noXSl (sl2.set i none) ∧ noXs cs2 ∧ D.nx (sl2.set i none) cs2, rt := fun v cs2 => noX v ∧ noXs cs2 ∧ D.rt v cs2, xq := fun _ _ _ => False } ((List.replicate nN none).set i (some (.exc n d))) cs1) ∧ (b = false → D.xq n d cs1) } sl cs
section
variable {X : Cx} {T : Tb} {E : XK} {i : Nat} {n x : Str} {c : Value} {body suite : List Stmt} {b₀ : Stmt} {np pos pos' : Pos} {ex : Nat → Option Bool} {mb mh : WS}
theorem SlAt.chgN {K : PySem.W.Frag} {T T1 : Tb} {W : Wd} {H : Hp} {sl : Sl} {σ : L2.St} (c : T1.cl = T.cl) (f : T1.fl = T.fl) (h : SlAt K T W H sl σ) (i : Nat) (n : noXSl (sl.set i none)) : SlAt K T1 W H (sl.set i none) (σ.set i none) := by
  refine ⟨by rw [List.length_set, List.length_set]; exact h.1, fun j d hj => ?_⟩
  have nd := n j d hj
  by_cases e : i = j
  · subst e
    have hlt : i < sl.length := by
      have := (List.getElem?_eq_some_iff.mp hj).1
      rwa [List.length_set] at this
    rw [List.getElem?_set_self hlt] at hj
    cases hj
  · rw [List.getElem?_set_ne e] at hj ⊢
    obtain ⟨v, e1, a⟩ := h.2 j d hj
    exact ⟨v, e1, At.chg c f nd a⟩
theorem ds_tryN (hT : T.ex = none) (hs : X.stack = X.env :: X.outer) (hf : X.env.frame = some X.env.locals) (hN : X.N.Nodup) (hi : X.N[i]? = some n) (hln : X.env.kindOf n = some .local) (hc : Names X x c) (tk : Takes X fun cls d _ H => E cls d H)
    (hex : ∀ k b, ex k = some b → PySem.W.exmOne X.K (.ref (T.xc k)) c = some b)
    (hb : ∀ (E' : XK) (pn : List (Addr × Obj)) (xe : Value → Shared → Prop), Takes (X.tr pn xe) (fun cls d _ H => E' cls d H) → PassesOwn (model X.prog X.w) X.A X.env xe → DSs (X.tr pn xe) T E' body mb)
    (hsu : ∀ (a : Addr) (oe : Obj) (k : Nat) (dx : Addr) (pn : List (Addr × Obj)), ex k = some true → Zc (.ref (T.xc k)) (some dx) oe → (∃ vs, oe.data = .fields vs) → DSs (X.suite a ((a, oe) :: pn)) (T.at (some (a, k, dx))) (fun _ _ _ => False) (b₀ :: suite) mh)
    {nN : Nat} (hl : X.N.length = nN := by rfl) :
    DS X T E (.Try body [.ExceptHandler (some (.Name x np)) (some n) (b₀ :: suite) pos'] [] [] pos) (wTryN nN i ex mb mh) := by
  subst hl
  have hPS := ps_try_as (X := X) (pos := pos) (pos' := pos') (np := np) (c := c) (x := x) (body := body) (suite := suite) (b₀ := b₀) (Wout := fun cls d _ H => E cls d H)
    (tb := fun W => tcan X.K T (EofW X.N.length W) mb)
    (ts := fun a cls d => fun D σ H => ∃ k dx, ex k = some true ∧ cls = .ref (T.xc k) ∧ d = some dx ∧ tcan X.K (T.at (some (a, k, dx))) (fun _ _ _ => False) mh D σ H) hs hf hN hi hln hc tk
    (fun W pn xe tkW pw => (hb (EofW X.N.length W) pn xe (fun u s' ⟨a, B, sI, pins, σ, H, cls, d, e, I, nb, up, sky, na, os, ag, w⟩ => tkW u s' ⟨a, B, sI, pins, σ, H, cls, d, e, I, nb, up, sky, na, os, ag, w σ I.len⟩) pw).can)
    (fun a oe cls d pn hz hd => ⟨fun pins s σ H D I ⟨k, dx, e0, e1, e2, q⟩ => by
      subst e1; subst e2
      exact (hsu a oe k dx pn e0 hz hd).can.run pins s σ H D I q⟩)
  refine ⟨_, hPS, fun sl W σ H D' D hs rp h p => ⟨sl, W, _, hs, rp, h, p.nx, p.rt, p.bk, p.ct, ?_⟩⟩
  intro k d W1 v H1 dx q1 x1 r1 a1 e1 f1 σ1 l1
  obtain ⟨b, hb1, hy, hn⟩ := q1
  refine ⟨b, hex k b hb1, fun hbt a na => ⟨k, dx, hbt ▸ hb1, rfl, rfl, _, W1, _, ?_, Rep.chg (T := T) (T1 := T.at (some (a, k, dx))) rfl rfl (r1.noX hT) r1, hy hbt (a1.noX hT) (r1.noX hT), ?_⟩, fun hbf => p.xq k d W1 v H1 dx (hn hbf) x1 r1 a1 e1 f1⟩
  · refine ⟨by simp [l1], fun j d' hj => ?_⟩
    by_cases hji : j = i
    · subst hji
      have hlt : j < X.N.length := (List.getElem?_eq_some_iff.mp hi).1
      rw [List.getElem?_set_self (by simpa using hlt)] at hj
      cases hj
      exact ⟨.ref a, List.getElem?_set_self (by rw [l1]; exact hlt), .exc rfl e1 f1 (At.chg (T := T) (T1 := T.at (some (a, k, dx))) rfl rfl (a1.noX hT) a1)⟩
    · rw [List.getElem?_set_ne (Ne.symm hji), List.getElem?_replicate] at hj
      split at hj <;> cases hj
  · refine ⟨fun sl2 W2 σ2 H2 ⟨n1, n2, q2⟩ x2 r2 a2 => ?_, fun v2 W2 u2 H2 ⟨n1, n2, q2⟩ x2 r2 a2 => ?_, fun _ _ _ _ z => z.elim, fun _ _ _ _ z => z.elim, fun _ _ _ _ _ _ z => z.elim⟩
    · exact p.nx (sl2.set i none) W2 (σ2.set i none) H2 q2 (x1.trans x2) (Rep.chg (T := T.at (some (a, k, dx))) (T1 := T) rfl rfl n2 r2) (SlAt.chgN (T := T.at (some (a, k, dx))) (T1 := T) rfl rfl a2 i n1)
    · exact p.rt v2 W2 u2 H2 q2 (x1.trans x2) (Rep.chg (T := T.at (some (a, k, dx))) (T1 := T) rfl rfl n2 r2) (At.chg (T := T.at (some (a, k, dx))) (T1 := T) rfl rfl n1 a2)
end
end DL
namespace DL
open PySem PySem.Spec PyProof.Rows L2

/-! ### comprehensions over a list that stays as it is, live or frozen -/
def lcWA (g : WG) (mt : WT) (me : WE) (sl : Sl) (Q : List D → Cells → Prop) (d : D) (ds : List D) : List D → List D → Cells → Prop
  | [], acc, cs => lisD cs d = some ds ∧ Q acc cs
  | x :: xs, acc, cs => lisD cs d = some ds ∧ g x sl cs fun sl2 cs2 => mt sl2 cs2 (fun b cs3 => if b = true then me sl2 cs3 (fun y cs4 => lcWA g mt me sl Q d ds xs (acc ++ [y]) cs4) (fun _ _ _ => False) else lcWA g mt me sl Q d ds xs acc cs3) (fun _ _ _ => False)
def wLcA (m0 : WE) (g : WG) (mt : WT) (me : WE) (vs : List Nat) : WE := fun sl cs Q X => m0 sl cs (fun d cs1 => ∃ ds, lisD cs1 d = some ds ∧ ds.length ≤ sizeLine ∧ lcWA g mt me (wipeD sl vs) (fun acc cs2 => Q (.lst acc) cs2) d ds ds [] cs1) X
theorem lcWA_here {g : WG} {mt : WT} {me : WE} {sl : Sl} {Q : List D → Cells → Prop} {d : D} {ds xs acc : List D} {cs : Cells} (h : lcWA g mt me sl Q d ds xs acc cs) : lisD cs d = some ds := by
  cases xs with
  | nil => exact h.1
  | cons x xs => exact h.1
section
variable {X : Cx} {T : Tb} {E : XK}
theorem de_lcA {elt tg iter : Expr} {ifs : List Expr} {scope : Scope} {own : List (Str × Nat)} {pos : Pos} {m0 : WE} {g : WG} {gs : List Nat} {mt : WT} {me : WE} (hc : X.calm = true) (hN : X.N.Nodup) (hi : DE X T E iter m0) (ok : BlkOk X.N X.env.scope scope own) (hgs : ∀ i ∈ gs, i ∈ own.map (·.2))
    (hg : ∀ (s : Shared) (H : Hp) (C : Addr) (cl : List (Str × Addr)) (fp : List Addr), DG (X.blk s H scope (compEnvC scope cl C X.env) fp) T tg g gs) (ht : ∀ (s : Shared) (H : Hp) (C : Addr) (cl : List (Str × Addr)) (fp : List Addr), DTs (X.blk s H scope (compEnvC scope cl C X.env) fp) T E0 ifs mt)
    (he : ∀ (s : Shared) (H : Hp) (C : Addr) (cl : List (Str × Addr)) (fp : List Addr), DE (X.blk s H scope (compEnvC scope cl C X.env) fp) T E0 elt me) (hs' : ∀ x, foldedSetIterable iter X.env x = pure x := by intro _; rfl) :
    DE X T E (.ListComp elt [⟨tg, iter, ifs, 0⟩] scope pos) (wLcA m0 g mt me (own.map (·.2))) := by
  obtain ⟨t1, p1, s1⟩ := hi.ex
  refine ⟨_, pe_lc (g := canG X.K T g gs) (tt := canT X.K T E0 mt) (te := canE X.K T E0 me) hc hN (pi_list p1) ok (fun s H C cl fp => (hg s H C cl fp).can) (fun s H C cl fp => (ht s H C cl fp).can) (fun s H C cl fp => (he s H C cl fp).can) hs', ?_⟩
  intro sl W σ H Q' X' Q hs rp h po px
  obtain ⟨vs, hvs⟩ : ∃ vs, vs = own.map (·.2) := ⟨_, rfl⟩
  rw [← hvs] at h hgs ⊢
  refine s1 sl W σ H _ X' _ hs rp h (fun d W1 v H1 ⟨ds, hd0, hz, q1⟩ x1 r1 a1 => ?_) px
  obtain ⟨l, vs0, rfl, hsq, at0⟩ := lisD_at r1 a1 hd0
  refine ⟨l, rfl, ⟨vs0, hsq⟩, ?_⟩
  intro L hL
  refine ⟨fun i m H' => ∃ Wi acc us, H' L = some (.lst us) ∧ AtL X.K T Wi H' acc us ∧ us.length ≤ i ∧ (∀ a, W1.G a → Wi.G a) ∧ Wi.G L ∧ Rep X.K T Wi H' ∧ Ex0 W1 H1 Wi H' ∧ m = ds.length - i ∧ i ≤ ds.length ∧
      lcWA g mt me (wipeD sl vs) (fun acc cs2 => Q' (.lst acc) cs2) d ds (ds.drop i) acc Wi.cs,
    ⟨_, W1.wG fun a => W1.G a ∨ a = L, [], [], upd_same, .nil, Nat.le_refl _, fun a z => .inl z, .inr rfl, r1.lay hL, .lay hL, rfl, Nat.zero_le _, by rw [List.drop_zero]; exact q1⟩, ?_⟩
  rintro i m H2 ⟨Wi, acc, us, hu, au, lu, g1, gL, r2, x2, rfl, hi, q2⟩
  have comp : ∀ {W3 : Wd} {H3 : Hp}, Ext Wi H2 W3 H3 → Ex0 W1 H1 W3 H3 := fun {W3 H3} x3 =>
    ⟨fun b o e l => let ⟨e1, l1⟩ := x2.keep b o e l; x3.keep b o e1 l1, fun j a e => x3.pre j a (x2.pre j a e), fun b hb z => by rw [x3.g] at z; exact x2.gk b hb z⟩
  obtain ⟨l2, ws, el, hsq2, at2⟩ := lisD_at r2 (a1.ex0 x2) (lcWA_here q2)
  cases el
  have lw := at2.length
  by_cases hlt : i < ds.length
  · have hd : ds.drop i = ds[i] :: ds.drop (i + 1) := List.drop_eq_getElem_cons hlt
    obtain ⟨v, e1, e2⟩ := at2.get' (List.getElem?_eq_getElem hlt)
    refine .inr ⟨⟨ws, v, hsq2, e1⟩, fun H' => ∃ Wi acc us, H' L = some (.lst us) ∧ AtL X.K T Wi H' acc us ∧ us.length ≤ i + 1 ∧ (∀ a, W1.G a → Wi.G a) ∧ Wi.G L ∧ Rep X.K T Wi H' ∧ Ex0 W1 H1 Wi H' ∧
      lcWA g mt me (wipeD sl vs) (fun acc cs2 => Q' (.lst acc) cs2) d ds (ds.drop (i + 1)) acc Wi.cs,
      fun H' ⟨Wj, acc, us, z1, z2, z3, z4, z5, z6, z7, z8⟩ => ⟨ds.length - (i + 1), by omega, Wj, acc, us, z1, z2, z3, z4, z5, z6, z7, rfl, hlt, z8⟩, fun y H3 hy => ?_⟩
    obtain ⟨eH, hy⟩ := hy
    subst eH
    have ey := hy ws hsq2
    rw [e1] at ey
    cases ey
    rw [hd] at q2
    have hs3 : SlAt X.K T Wi _ (wipeD sl vs) (wipe σ vs) := ((hs.ext x1).ex0 x2).wipe vs
    have nl : ¬ Wi.Live L := r2.aside_not gL
    refine ⟨_, Wi, _, _, hs3, r2, e2, q2.2, fun sl4 σ4 q4 hs4 l4 f4 => ⟨wipe_eq hgs l4 f4, ?_⟩⟩
    refine ⟨sl4, Wi, _, _, hs4, r2, q4, fun b W5 H5 q5 x5 r5 => ?_, post_no⟩
    have hu5 := x5.keep L _ hu nl
    have au5 := au.ext x5
    cases b with
    | true =>
      have q5 : me sl4 W5.cs (fun y cs4 => lcWA g mt me (wipeD sl vs) (fun acc cs2 => Q' (.lst acc) cs2) d ds (ds.drop (i + 1)) (acc ++ [y]) cs4) (fun _ _ _ => False) := q5
      refine iteT ⟨sl4, W5, _, _, hs4.ext x5, r5, q5, fun dy W6 y6 H6 q6 x6 r6 a6 => ?_, post_no⟩
      have hu6 := x6.keep L _ hu5.1 hu5.2
      have gL6 : W6.G L := by rw [x6.g, x5.g]; exact gL
      refine ⟨us, hu6.1, Nat.lt_of_le_of_lt lu (by omega), W6, acc ++ [dy], us ++ [y6], upd_same, ((au5.ext x6).append (.cons a6 .nil)).exz (.aside gL6), by rw [List.length_append, List.length_singleton]; omega, fun a z => by rw [x6.g, x5.g]; exact g1 a z, gL6, r6.aside gL6, ?_, q6⟩
      have x0 := comp (x5.trans x6)
      exact ⟨fun b o e l => let ⟨e1, l1⟩ := x0.keep b o e l; ⟨by rw [upd_ne (ne_of_none e hL)]; exact e1, l1⟩, x0.pre, x0.gk⟩
    | false =>
      have q5 : lcWA g mt me (wipeD sl vs) (fun acc cs2 => Q' (.lst acc) cs2) d ds (ds.drop (i + 1)) acc W5.cs := q5
      exact iteF ⟨W5, acc, us, hu5.1, au5, by omega, fun a z => by rw [x5.g]; exact g1 a z, by rw [x5.g]; exact gL, r5, comp x5, q5⟩
  · have e : i = ds.length := by omega
    subst e
    rw [List.drop_length] at q2
    refine .inl ⟨⟨ws, hsq2, by omega⟩, ?_⟩
    have xf : Ext W1 H1 (Wi.wG W1.G) H2 := ⟨x2.keep, x2.pre, rfl⟩
    exact po _ (Wi.wG W1.G) _ H2 q2.2 (x1.trans xf) (r2.less g1) (.lst hu ⟨r2.aside_not gL, fun z => (by obtain ⟨u, e, _⟩ := r1.gth L z; rw [hL] at e; cases e)⟩ (au.exz (.less g1)))
end
end DL
namespace DL
open PySem PySem.Spec PyProof.Rows L2

/-! ### math.comb -/
def bin : Nat → Nat → Nat
  | _, 0 => 1
  | 0, _ + 1 => 0
  | n + 1, k + 1 => bin n k + bin n (k + 1)
def fct : Nat → Nat
  | 0 => 1
  | k + 1 => fct k * (k + 1)
theorem fct_pos : ∀ k, 0 < fct k
  | 0 => Nat.one_pos
  | k + 1 => Nat.mul_pos (fct_pos k) (Nat.succ_pos k)
theorem bin_zero (n : Nat) : bin n 0 = 1 := by cases n <;> rfl
theorem bin_big : ∀ (n k : Nat), n < k → bin n k = 0
  | 0, k + 1, _ => rfl
  | n + 1, k + 1, h => by show bin n k + bin n (k + 1) = 0; rw [bin_big n k (by omega), bin_big n (k + 1) (by omega)]
  | 0, 0, h => absurd h (by omega)
  | n + 1, 0, h => absurd h (by omega)
theorem bin_self : ∀ n, bin n n = 1
  | 0 => rfl
  | n + 1 => by show bin n n + bin n (n + 1) = 1; rw [bin_self n, bin_big n (n + 1) (by omega)]
theorem bin_step : ∀ (n k : Nat), bin n (k + 1) * (k + 1) + bin n k * k = bin n k * n
  | 0, 0 => rfl
  | 0, k + 1 => by show 0 * (k + 1 + 1) + 0 * (k + 1) = 0 * 0; omega
  | n + 1, 0 => by
    have h : bin n 1 * 1 + bin n 0 * 0 = bin n 0 * n := bin_step n 0
    show (bin n 0 + bin n 1) * 1 + 1 * 0 = 1 * (n + 1)
    rw [bin_zero] at h ⊢
    omega
  | n + 1, k + 1 => by
    have h1 := bin_step n k
    have h2 := bin_step n (k + 1)
    show (bin n (k + 1) + bin n (k + 1 + 1)) * (k + 1 + 1) + (bin n k + bin n (k + 1)) * (k + 1) = (bin n k + bin n (k + 1)) * (n + 1)
    generalize bin n (k + 1 + 1) = a at *
    generalize bin n (k + 1) = b at *
    generalize bin n k = c at *
    have e1 : (b + a) * (k + 1 + 1) + (c + b) * (k + 1) = (a * (k + 1 + 1) + b * (k + 1)) + (b * (k + 1) + c * k) + b + c := by
      rw [Nat.add_mul, Nat.add_mul, Nat.mul_add b (k + 1) 1, Nat.mul_add c k 1]; omega
    rw [e1, h1, h2, Nat.add_mul, Nat.mul_add b n 1, Nat.mul_add c n 1]
    omega
theorem bin_pow : ∀ (n k : Nat), bin n k ≤ n ^ k
  | n, 0 => by rw [bin_zero]; exact Nat.le_refl _
  | 0, k + 1 => Nat.zero_le _
  | n + 1, k + 1 => by
    show bin n k + bin n (k + 1) ≤ (n + 1) ^ (k + 1)
    have h1 := bin_pow n k
    have h2 := bin_pow n (k + 1)
    have h3 : n ^ k ≤ (n + 1) ^ k := Nat.pow_le_pow_left (Nat.le_succ n) k
    rw [Nat.pow_succ] at h2 ⊢
    have h4 : n ^ k + n ^ k * n ≤ (n + 1) ^ k * (n + 1) := by
      rw [Nat.mul_add, Nat.mul_one]
      have := Nat.mul_le_mul_right n h3
      omega
    omega
theorem bin_symm : ∀ b c : Nat, bin (b + c) b = bin (b + c) c
  | 0, c => by rw [bin_zero, Nat.zero_add, bin_self]
  | b + 1, 0 => by rw [Nat.add_zero, bin_self, bin_zero]
  | b + 1, c + 1 => by
    have h1 := bin_symm b (c + 1)
    have h2 := bin_symm (b + 1) c
    rw [show b + 1 + (c + 1) = (b + c + 1) + 1 by omega]
    show bin (b + c + 1) b + bin (b + c + 1) (b + 1) = bin (b + c + 1) c + bin (b + c + 1) (c + 1)
    rw [show b + (c + 1) = b + c + 1 by omega] at h1
    rw [show b + 1 + c = b + c + 1 by omega] at h2
    omega
theorem fp_bin (n : Nat) : ∀ k : Nat, Builtin.Math.fallingProduct (n : Int) k = ((fct k * bin n k : Nat) : Int)
  | 0 => by rw [PySem.W.mc_fp_zero, bin_zero]; rfl
  | k + 1 => by
    rw [PySem.W.mc_fp_succ, fp_bin n k]
    have h := bin_step n k
    have h' : (bin n (k + 1) : Int) * ((k : Int) + 1) + (bin n k : Int) * k = (bin n k : Int) * n := by exact_mod_cast h
    show ((fct k * bin n k : Nat) : Int) * ((n : Int) - k) = ((fct k * (k + 1) * bin n (k + 1) : Nat) : Int)
    have e1 : ((fct k * (k + 1) * bin n (k + 1) : Nat) : Int) = (fct k : Int) * ((bin n (k + 1) : Int) * ((k : Int) + 1)) := by
      rw [Int.natCast_mul, Int.natCast_mul, Int.mul_assoc, Int.mul_comm (bin n (k + 1) : Int)]; rfl
    have e2 : ((fct k * bin n k : Nat) : Int) * ((n : Int) - k) = (fct k : Int) * ((bin n k : Int) * n - (bin n k : Int) * k) := by
      rw [Int.natCast_mul, Int.mul_assoc, Int.mul_sub]
    rw [e1, e2]
    congr 1
    omega
theorem fp_div (n m : Nat) : Builtin.Math.fallingProduct (n : Int) m / Builtin.Math.fallingProduct (m : Int) m = ((bin n m : Nat) : Int) := by
  rw [fp_bin, fp_bin, bin_self, Nat.mul_one, ← Int.natCast_ediv, Nat.mul_div_cancel_left _ (fct_pos m)]
theorem gives_comb {a b : Int} (t u : Tok) (ha : 0 ≤ a) (hb : 0 ≤ b) (ha2 : a < 2 ^ 128) (hk : b ≤ 16) : PySem.Gives (Builtin.«math.comb» ⟨[.int a t, .int b u], []⟩) (.int ((bin a.toNat b.toNat : Nat) : Int)) := by
  obtain ⟨n, rfl⟩ : ∃ n : Nat, a = (n : Int) := ⟨a.toNat, by omega⟩
  obtain ⟨k, rfl⟩ : ∃ k : Nat, b = (k : Int) := ⟨b.toNat, by omega⟩
  rw [show ((n : Int)).toNat = n by omega, show ((k : Int)).toNat = k by omega]
  by_cases h : n < k
  · rw [bin_big n k h]
    exact PySem.W.mc_run_comb0 _ t _ u (by omega) (by omega) (by omega)
  · obtain ⟨c, hc⟩ : ∃ c, n = k + c := ⟨n - k, by omega⟩
    obtain ⟨m, hm⟩ : ∃ m : Nat, m = min k c := ⟨_, rfl⟩
    have em : min (k : Int) ((n : Int) - (k : Int)) = (m : Int) := by rw [hm, hc]; omega
    have eb : bin n k = bin n m := by
      rw [hm]
      by_cases q : k ≤ c
      · rw [Nat.min_eq_left q]
      · rw [Nat.min_eq_right (by omega), hc, bin_symm]
    have hd := fp_div n m
    have hm16 : m ≤ 16 := by omega
    have sz : ((bin n m : Nat) : Int).natAbs < 2 ^ 2049 := by
      show bin n m < 2 ^ 2049
      have hn : n < 2 ^ 128 := by omega
      calc bin n m ≤ n ^ m := bin_pow n m
        _ ≤ (2 ^ 128) ^ m := Nat.pow_le_pow_left (Nat.le_of_lt hn) m
        _ = 2 ^ (128 * m) := (Nat.pow_mul 2 128 m).symm
        _ ≤ 2 ^ (128 * 16) := Nat.pow_le_pow_right (by decide) (Nat.mul_le_mul_left 128 hm16)
        _ < 2 ^ 2049 := Nat.pow_lt_pow_right (by decide) (by decide)
    have hs := PySem.Flt.log2_lt_of (by decide) sz
    have run := PySem.W.mc_run_comb (n : Int) t (k : Int) u (by omega) (by omega) (by omega) (by rw [em]; show ¬ (m : Int) > 2 ^ 63 - 1; omega) (by rw [em]; show ¬ (m : Int) > 20000; omega) (by rw [em]; omega) (by
      rw [em, show ((m : Int)).toNat = m by omega, hd]
      exact Nat.lt_of_lt_of_le hs (by show 2049 ≤ 2 ^ 27; decide))
    rw [em, show ((m : Int)).toNat = m by omega, hd] at run
    rw [eb]
    exact run
section
variable {X : Cx} {T : Tb} {E : XK} {x : Str} {p pos : Pos} {a b : Expr} {mr : WA}
def rComb : List V → Hp → VK → Prop := fun vs H Q => ∃ a b : Int, vs = [.int a, .int b] ∧ 0 ≤ a ∧ 0 ≤ b ∧ a < 2 ^ 128 ∧ b ≤ 16 ∧ Q (.int ((bin a.toNat b.toNat : Nat) : Int)) H
theorem cr_comb : CallR X (.builtin "math.comb") rComb := by
  intro pins s σ H vs us Q I r h
  obtain ⟨a, b, rfl, h1, h2, h3, h4, q⟩ := h
  obtain ⟨t, u, rfl⟩ := Vals.int2 r
  exact PySem.call_function_meets PySem.W.MGF.kind_comb PySem.W.MGF.plain_comb PySem.W.MGF.entry_comb (PySem.W.MGF.args_comb _ _) (gives_comb t u h1 h2 h3 h4).meets ⟨.int _, H, I.tok _, ⟨_, rfl⟩, q⟩
def gComb : GL := fun ds cs Q => match ds with
  | [.int a, .int b] => 0 ≤ a ∧ 0 ≤ b ∧ a < 2 ^ 128 ∧ b ≤ 16 ∧ Q (.int ((bin a.toNat b.toNat : Nat) : Int)) cs
  | _ => False
theorem ok_comb {K : PySem.W.Frag} : OkL K T rComb gComb := by
  intro W H ds vs Q' Q r t h p
  unfold gComb at h
  split at h
  · cases t with
    | cons t1 t2 =>
      cases t1
      cases t2 with
      | cons t3 t4 =>
        cases t3
        cases t4
        exact ⟨_, _, rfl, h.1, h.2.1, h.2.2.1, h.2.2.2.1, p _ W _ H h.2.2.2.2 .refl r (.int _)⟩
  · exact h.elim
theorem de_comb (hm : X.mg x = some (.builtin "math.comb")) (ha : DA X T E [a, b] mr) (hg : Gl X x := by rfl) (hdb : (x == ("__debug__" : Str)) = false := by decide)
    (he : starEach [a, b] X.env = (false, eval a X.env) :: starEach [b] X.env := by rfl) (hpl : (backTo pos (starEach [b] X.env)).any (·.1) = false := by rfl) : DE X T E (.Call (.Name x p) [a, b] [] pos) (wArg gComb mr) := by
  obtain ⟨t, pa, sa⟩ := ha.ex
  exact ⟨_, pe_callBfun cr_comb hg hm pa hdb he hpl, fun sl W σ H Q' X' Q hs rp h p px => args_ok ok_comb sa hs rp h p px⟩
end
end DL
namespace DL
open PySem PySem.Spec PyProof.Rows L2

/-! ### comprehensions of any kind: what is gathered, and how a turn adds to it, are left open -/
/-- what the end of a turn comes to: what it adds to, its names, what holds then, what an error comes to -/
abbrev EndW := Value → Env → (Shared → Prop) → (Value → Shared → Prop) → Shared → Prop
/-- a turn of the clause k, told by its parts; e its end -/
def TurnW (prog : Program) (w : World) (A : Around) (c : Expr) (k : Nat) (target : Expr) (ifs : List Expr) (e : EndW) : Prop :=
  ∀ (it acc : Value) (env : Env) (P : PySem.Fin → Shared → Prop) (F : Value → Shared → Prop) (s : Shared), wpAny (model prog w) A (pyNext it) (fun r t => match r with
    | none => P (.done .next) t
    | some v => wpAny (model prog w) A (letOwnedTupleGo target it v) (fun _ t => wpAny (model prog w) A (assign target env v) (fun _ t => wpAny (model prog w) A (forIn ifs true fun q r => if r = true then do let z ← isTrue q env (eval q env); pure (ForInStep.yield z) else pure (ForInStep.yield r)) (fun b t =>
        if b = true then e acc env (P (.again (.compLoop c k it acc env))) F t else P (.again (.compLoop c k it acc env)) t) F t) F t) F t) F s → wpAny (model prog w) A (compTurn c k it acc env) P F s
section
variable {prog : Program} {w : World} {A : Around} {R : Result → Shared → Prop} {s : Shared} {env : Env}
theorem loopG {c target : Expr} {ifs : List Expr} {k : Nat} {e : EndW} {it acc : Value} (hturn : TurnW prog w A c k target ifs e) (hq : (Code.compLoop c k it acc env).quiet = true)
    (hden : (model prog w).den (.compLoop c k it acc env) = (compTurn c k it acc env).onRaise (fun x => do noteFrame x env; theTreesLotGoes x)) (hund : A.under (.compLoop c k it acc env) = A) (I : Nat → Shared → Prop)
    (turn : ∀ n s, I n s → wpAny (model prog w) A (pyNext it) (fun r t => match r with
      | none => R (.ok .next) t
      | some v => wpAny (model prog w) A (letOwnedTupleGo target it v) (fun _ t => wpAny (model prog w) A (assign target env v) (fun _ t => wpAny (model prog w) A (forIn ifs true fun q r => if r = true then do let z ← isTrue q env (eval q env); pure (ForInStep.yield z) else pure (ForInStep.yield r)) (fun b t =>
          if b = true then e acc env (fun t => ∃ m, m < n ∧ I m t) (notedBy (model prog w) A env fun x t => R (.error x) t) t else ∃ m, m < n ∧ I m t) (notedBy (model prog w) A env fun x t => R (.error x) t) t) (notedBy (model prog w) A env fun x t => R (.error x) t) t) (notedBy (model prog w) A env fun x t => R (.error x) t) t) (notedBy (model prog w) A env fun x t => R (.error x) t) s)
    (mono : ∀ {acc env} {P P' : Shared → Prop} {F t}, (∀ t, P t → P' t) → e acc env P F t → e acc env P' F t)
    (n : Nat) (h : I n s) : codeAny (model prog w) A (.compLoop c k it acc env) R s := by
  refine codeAny_loop hq I (fun n s hI => ?_) n h
  rw [hden, hund]
  refine wpAny_noted (hturn it acc env _ _ s ?_)
  refine wpAny_mono (turn n s hI) (fun r t h1 => ?_) fun _ _ z => z
  cases r with
  | none => exact h1
  | some v =>
    refine wpAny_mono h1 (fun _ t h2 => wpAny_mono h2 (fun _ t h3 => wpAny_mono h3 (fun b t h4 => ?_) fun _ _ z => z) fun _ _ z => z) fun _ _ z => z
    cases b with
    | false => exact ⟨rfl, h4⟩
    | true => exact mono (fun t h5 => ⟨rfl, h5⟩) h4
end
def eSet (prog : Program) (w : World) (A : Around) (elt : Expr) : EndW := fun acc env P F t => wpAny (model prog w) A (eval elt env) (fun v t => wpAny (model prog w) A (call (.builtin "set.add") [acc, v]) (fun _ t => P t) F t) F t
def eIn (prog : Program) (w : World) (A : Around) (c i1 : Expr) : EndW := fun acc env P F t => wpAny (model prog w) A (eval i1 env) (fun x t => wpAny (model prog w) A (pyIter x) (fun it t => codeAny (model prog w) A (.compStart c 1 it acc env) (fun r t => match r with
  | .ok _ => P t
  | .error _ => False) t) F t) F t
def eDict (prog : Program) (w : World) (A : Around) (kx vx : Expr) : EndW := fun acc env P F t => wpAny (model prog w) A (eval kx env) (fun y t => wpAny (model prog w) A (eval vx env) (fun z t => ∃ D, acc = .ref D ∧ wpAny (model prog w) A (dictSet D y z) (fun _ t => P t) F t) F t) F t
section
variable {prog : Program} {w : World} {A : Around} {elt kx vx t0 i0 t1 i1 : Expr} {ifs0 ifs1 : List Expr} {scope : Scope} {pos : Pos}
theorem turn_set1 : TurnW prog w A (.SetComp elt [⟨t0, i0, ifs0, 0⟩, ⟨t1, i1, ifs1, 0⟩] scope pos) 1 t1 ifs1 (eSet prog w A elt) := by
  intro it acc env P F s h
  show wpAny _ _ (standAt i1.pos >>= _) _ _ s
  refine wpAny_bind (wpAny_standAt (wpAny_bind (wpAny_mono h (fun r t g => ?_) fun _ _ z => z)))
  cases r with
  | none => exact wpAny_pure g
  | some v =>
    refine wpAny_bind (wpAny_mono g (fun _ t g => wpAny_bind (wpAny_mono g (fun _ t g => wpAny_bind (wpAny_mono g (fun b t g => ?_) fun _ _ z => z)) fun _ _ z => z)) fun _ _ z => z)
    cases b with
    | false => exact wpAny_pure g
    | true => exact wpAny_bind (wpAny_bind (wpAny_mono g (fun x t g => wpAny_bind (wpAny_standAt (wpAny_bind (wpAny_mono g (fun _ t g => wpAny_pure (wpAny_pure g)) fun _ _ z => z)))) fun _ _ z => z))
theorem turn_set0 (hs : ∀ env x, foldedSetIterable i1 env x = pure x) : TurnW prog w A (.SetComp elt [⟨t0, i0, ifs0, 0⟩, ⟨t1, i1, ifs1, 0⟩] scope pos) 0 t0 ifs0 (eIn prog w A (.SetComp elt [⟨t0, i0, ifs0, 0⟩, ⟨t1, i1, ifs1, 0⟩] scope pos) i1) := by
  intro it acc env P F s h
  show wpAny _ _ (standAt i0.pos >>= _) _ _ s
  refine wpAny_bind (wpAny_standAt (wpAny_bind (wpAny_mono h (fun r t g => ?_) fun _ _ z => z)))
  cases r with
  | none => exact wpAny_pure g
  | some v =>
    refine wpAny_bind (wpAny_mono g (fun _ t g => wpAny_bind (wpAny_mono g (fun _ t g => wpAny_bind (wpAny_mono g (fun b t g => ?_) fun _ _ z => z)) fun _ _ z => z)) fun _ _ z => z)
    cases b with
    | false => exact wpAny_pure g
    | true =>
      refine wpAny_bind (wpAny_mono g (fun x t g => wpAny_bind (wpAny_standAt (wpAny_bind (wpAny_of_eq (hs env x) (wpAny_bind (wpAny_holding (wpAny_mono g (fun it1 t g => wpAny_bind (wpAny_runOwn ?_)) fun _ _ z => z))))))) fun _ _ z => z)
      rw [Around.mark_none]
      refine codeAny_mono g fun r t g => ?_
      cases r with
      | ok f => exact wpAny_pure g
      | error x => exact g.elim
theorem turn_dict : TurnW prog w A (.DictComp kx vx [⟨t0, i0, ifs0, 0⟩] scope pos) 0 t0 ifs0 (eDict prog w A kx vx) := by
  intro it acc env P F s h
  show wpAny _ _ (standAt i0.pos >>= _) _ _ s
  refine wpAny_bind (wpAny_standAt (wpAny_bind (wpAny_mono h (fun r t g => ?_) fun _ _ z => z)))
  cases r with
  | none => exact wpAny_pure g
  | some v =>
    refine wpAny_bind (wpAny_mono g (fun _ t g => wpAny_bind (wpAny_mono g (fun _ t g => wpAny_bind (wpAny_mono g (fun b t g => ?_) fun _ _ z => z)) fun _ _ z => z)) fun _ _ z => z)
    cases b with
    | false => exact wpAny_pure g
    | true =>
      refine wpAny_bind (wpAny_bind (wpAny_mono g (fun y t g => wpAny_bind (wpAny_holding (wpAny_mono g (fun z t g => ?_) fun _ _ z => z))) fun _ _ z => z))
      obtain ⟨D, rfl, g⟩ := g
      exact wpAny_bind (wpAny_standAt (wpAny_holding (wpAny_mono g (fun _ t g => wpAny_pure g) fun _ _ z => z)))
end
/-- what a turn's end does, as the data see it -/
structure PB (X : Cx) (own : List Nat) (e : EndW) (tb : Addr → L2.St → Hp → (Hp → Prop) → Prop) : Prop where
  mono : ∀ {acc env} {P P' : Shared → Prop} {F t}, (∀ t, P t → P' t) → e acc env P F t → e acc env P' F t
  err : ∀ {acc env} {P : Shared → Prop} {F F' : Value → Shared → Prop} {t}, (∀ x t, F x t → F' x t) → e acc env P F t → e acc env P F' t
  run : ∀ (pins : List (Addr × Obj)) (s : Shared) (σ : L2.St) (H : Hp) (D : Addr) (Nx : Hp → Prop) (P : Shared → Prop), Inv X pins σ H s → tb D σ H Nx →
    (∀ (s' : Shared) (σ' : L2.St) (H' : Hp), Inv X pins σ' H' s' → σ'.length = σ.length → (∀ (j : Nat) v, (wipe σ own)[j]? = some (some v) → σ'[j]? = some (some v)) → Nx H' → P s') → e (.ref D) X.env P X.xe s
/-- one clause: o0 the new object -/
def tC1 (o0 : Addr → HO) (wi : TI) (g : TG) (tt : TT) (tb : Addr → L2.St → Hp → (Hp → Prop) → Prop) (vs : List Nat) : TE := fun σ H Q => wi σ H fun J H1 => ∀ D, H1 D = none → ∃ W : Nat → Nat → Hp → Prop, (∃ m, W 0 m (upd H1 D (o0 D))) ∧ ∀ i m H, W i m H →
  (J.stop i H ∧ Q (.ref D) H) ∨ (J.go i H ∧ ∃ Nx : Hp → Prop, (∀ H', Nx H' → ∃ m', m' < m ∧ W (i + 1) m' H') ∧ ∀ x H', J.yld i H x H' → g x (wipe σ vs) H' fun σ2 H2 => wipe σ2 vs = wipe σ vs ∧ tt σ2 H2 fun b H3 => if b = true then tb D σ2 H3 Nx else Nx H3)
section
variable {X : Cx}
theorem compG {pins : List (Addr × Obj)} {s : Shared} {σ : L2.St} {H : Hp} {Q : VK} {c tg iter : Expr} {ifs : List Expr} {cls : List Comprehension} {scope : Scope} {own : List (Str × Nat)} {pos' : Pos} {wi : TI} {g : TG} {tt : TT} {e : EndW} {tb : Addr → L2.St → Hp → (Hp → Prop) → Prop}
    {newM : Sem Value} {ob : Obj} {o0 : Addr → HO} {use : Option (Value → Sem Unit)} {Qf : Value → Shared → Prop}
    (hcl : clausesOf c = ⟨tg, iter, ifs, 0⟩ :: cls) (hturn : TurnW X.prog X.w X.A c 0 tg ifs e)
    (hq : ∀ it acc env, (Code.compLoop c 0 it acc env).quiet = true) (hden : ∀ it acc env, (model X.prog X.w).den (.compLoop c 0 it acc env) = (compTurn c 0 it acc env).onRaise (fun x => do noteFrame x env; theTreesLotGoes x)) (hund : ∀ it acc env, X.A.under (.compLoop c 0 it acc env) = X.A)
    (hstart : ∀ {it acc env} {R : Result → Shared → Prop} {s : Shared}, codeAny (model X.prog X.w) X.A (.compLoop c 0 it acc env) R s → wpAny (model X.prog X.w) X.A (pyIter it) (fun it' s' => codeAny (model X.prog X.w) X.A (.compLoop c 0 it' acc env) R s') (notedBy (model X.prog X.w) X.A env fun x s' => R (.error x) s') s → codeAny (model X.prog X.w) X.A (.compStart c 0 it acc env) R s)
    (hnew : ∀ {E : Value → Shared → Prop} {Q : Value → Shared → Prop} {s : Shared}, Q (.ref s.heap.objs.size) { s with heap := s.heap.push ob } → wpAny (model X.prog X.w) X.A newM Q E s)
    (hlaid : ∀ {pins : List (Addr × Obj)} {σ : L2.St} {H : Hp} {s : Shared}, Inv X pins σ H s → Inv X pins σ (upd H s.heap.objs.size (o0 s.heap.objs.size)) { s with heap := s.heap.push ob })
    (hc : X.calm = true) (hN : X.N.Nodup) (I : Inv X pins σ H s) (hi : PI X tg iter wi) (ok : BlkOk X.N X.env.scope scope own)
    (hg : ∀ (s : Shared) (H : Hp) (C : Addr) (cl : List (Str × Addr)) (fp : List Addr), PG (X.blk s H scope (compEnvC scope cl C X.env) fp) tg g) (ht : ∀ (s : Shared) (H : Hp) (C : Addr) (cl : List (Str × Addr)) (fp : List Addr), PTs (X.blk s H scope (compEnvC scope cl C X.env) fp) ifs tt)
    (hb : ∀ (s : Shared) (H : Hp) (C : Addr) (cl : List (Str × Addr)) (fp : List Addr), PB (X.blk s H scope (compEnvC scope cl C X.env) fp) (own.map (·.2)) e tb) (hs : ∀ x, foldedSetIterable iter X.env x = pure x)
    (h : tC1 o0 wi g tt tb (own.map (·.2)) σ H Q)
    (hRR : ∀ D C s' m H', Inv X pins σ H' s' → Q (.ref D) H' → s'.heap.Ns C m → FpOk X pins H' C → compPost (model X.prog X.w) X.A X.xe use Qf (.ref D) C (.ok .next) s') :
    wpAny (model X.prog X.w) X.A (comprehension c scope X.env pos' newM false (eval iter X.env) use) Qf X.xe s := by
  have hfree : ∀ y ∈ scope.names, y.2 = .free → ∃ c, X.env.cells.lookup y.1 = some c := fun y hy e => (ok.free y hy e).elim (fun k => I.ok.has _ (.inl k)) fun k => I.ok.has _ (.inr k)
  refine wpAny_comprehension_free (use := use) hcl hs (closure_ok hfree) ok.kind (fun y hy e => by rw [ok.uniq y hy, e])
    (thn (hi.run pins s σ H _ I h) fun xv s1 hx => thn hx fun itv s2 h2 => ?_)
  obtain ⟨it, fp, tn, J, H2, eit, I2, T, st2, f2, q⟩ := h2
  cases eit
  refine hnew (newEnv_comp ?_)
  have I3 := hlaid I2
  have hDn : H2 s2.heap.objs.size = none := I2.hok.fresh (Nat.le_refl _)
  obtain ⟨W, ⟨m0, w0⟩, turn⟩ := q _ hDn
  have sz : ∀ b ∈ fp, b < s2.heap.objs.size := fun b hb => let ⟨_, e, _⟩ := T.obj _ _ st2 b hb; Heap.lt_size e
  generalize hD : s2.heap.objs.size = D at *
  generalize hs3 : ({ s2 with heap := s2.heap.push ob } : Shared) = s3 at *
  have h3 : s3.heap = s2.heap.push ob := by rw [← hs3]
  have f3 : ∀ b ∈ fp, FpOk X pins (upd H2 D (o0 D)) b ∧ b < s3.heap.objs.size := fun b hb => ⟨⟨by rw [upd_ne (Nat.ne_of_lt (sz b hb))]; exact (f2 b hb).1, (f2 b hb).2⟩, by rw [h3, Heap.size_push, hD]; exact Nat.lt_succ_of_lt (sz b hb)⟩
  have st3 : tn 0 s3.heap := T.keep _ _ _ st2 fun b _ o e => by rw [h3]; exact Heap.get?_push_of_some _ e
  have I4 := block_start I3 ok hN f3
  have bg := hg s3 (upd H2 D (o0 D)) s3.heap.objs.size (cellsFrom (s3.heap.objs.size + 1) scope.names (cloFrom X.env.cells scope.names [])) fp
  have bt := ht s3 (upd H2 D (o0 D)) s3.heap.objs.size (cellsFrom (s3.heap.objs.size + 1) scope.names (cloFrom X.env.cells scope.names [])) fp
  have bb := hb s3 (upd H2 D (o0 D)) s3.heap.objs.size (cellsFrom (s3.heap.objs.size + 1) scope.names (cloFrom X.env.cells scope.names [])) fp
  show codeAny _ _ (.compStart c 0 (.ref it) (.ref D) (compEnvC scope (cellsFrom (s3.heap.objs.size + 1) scope.names (cloFrom X.env.cells scope.names [])) s3.heap.objs.size X.env)) (compPost (model X.prog X.w) X.A X.xe use Qf (.ref D) s3.heap.objs.size) { s3 with heap := pushCells (s3.heap.push { cls := .type "dict", data := .dict #[] }) scope.names }
  have nfp : ∀ b ∈ fp, (upd H2 D (o0 D)) b = none := fun b hb => (f3 b hb).1.1
  generalize hce : compEnvC scope (cellsFrom (s3.heap.objs.size + 1) scope.names (cloFrom X.env.cells scope.names [])) s3.heap.objs.size X.env = ce at I4 bg bt bb ⊢
  have cL : ce.locals = s3.heap.objs.size := by rw [← hce]; rfl
  generalize upd H2 D (o0 D) = H3 at I3 I4 bg bt bb w0 nfp f3
  generalize hs4 : ({ s3 with heap := pushCells (s3.heap.push { cls := .type "dict", data := .dict #[] }) scope.names } : Shared) = s4 at I4 ⊢
  have st4 : tn 0 s4.heap := T.keep _ _ _ st3 fun b _ o e => by rw [← hs4]; exact pushCells_keeps _ _ _ _ (Heap.get?_push_of_some _ e)
  have stat : ∀ {σ' : L2.St} {H' : Hp} {s' : Shared}, Inv (X.blk s3 H3 scope ce fp) [] σ' H' s' → (∀ b ∈ fp, H' b = none) → ∀ b ∈ fp, FpOk (X.blk s3 H3 scope ce fp) [] H' b := fun I' hn b hb =>
    ⟨hn b hb, (I'.ok.exf b hb).1, I'.ok.exfs b hb, .inl hb, fun x c e => (I'.ok.exf b hb).2 x c e, fun p hp => absurd (show p ∈ ([] : List (Addr × Obj)) ++ [] from hp) (by simp)⟩
  have loop : codeAny (model X.prog X.w) X.A (.compLoop c 0 (.ref it) (.ref D) ce) (compPost (model X.prog X.w) X.A X.xe use Qf (.ref D) s3.heap.objs.size) s4 := by
    refine loopG hturn (hq _ _ _) (hden _ _ _) (hund _ _ _) (fun n s' => ∃ i H', Inv (X.blk s3 H3 scope ce fp) [] (wipe σ (own.map (·.2))) H' s' ∧ tn i s'.heap ∧ (∀ b ∈ fp, H' b = none) ∧ W i n H') ?_ bb.mono m0 ⟨0, H3, I4, st4, nfp, w0⟩
    rintro n s5 ⟨i, H5, I5, st5, n5, w5⟩
    rcases turn i n H5 w5 with ⟨stop, qq⟩ | ⟨go, Nx, hNx, step⟩
    · refine thnF (T.done (X.blk s3 H3 scope ce fp) rfl rfl rfl hc i [] s5 _ H5 (fun _ _ => False) I5 (stat I5 n5) st5 stop) fun r s6 ⟨hr, I6⟩ => ?_
      subst hr
      have nC : H5 s3.heap.objs.size = none := by rw [← cL]; exact I6.free
      obtain ⟨m, hn, _⟩ := I6.loc
      have hn : s6.heap.Ns ce.locals m := hn
      rw [cL] at hn
      exact hRR D s3.heap.objs.size s6 m H5 (I3.call' (ch := fp) I6.os I6.base I6.hok I6.bare fun b hb => ⟨(f3 b hb).1.2.2.2.1, (f3 b hb).1.2.1, (f3 b hb).1.2.2.2.2.1, (f3 b hb).1.2.2.2.2.2⟩) qq hn (I3.fpOk (Nat.le_refl _) nC)
    · refine thnF (T.item (X.blk s3 H3 scope ce fp) rfl rfl rfl hc i [] s5 _ H5 (fun _ _ => False) I5 (stat I5 n5) st5 go) fun r s6 ⟨u, hr, h6⟩ => ?_
      subst hr
      refine thnF h6 fun _ s7 ⟨x, H7, I7, r7, y7, st7, n7⟩ => ?_
      refine thnF (bg.run _ s7 _ H7 x u _ (I7.pinned (stat I7 n7) (T.obj _ _ st7)) r7 (step x H7 y7)) fun _ s8 ⟨σ8, H8, I8, hw8, q8⟩ => ?_
      refine thnF (bt.run _ s8 σ8 H8 _ I8 q8) fun ok' s9 ⟨H9, I9, q9⟩ => ?_
      have fin : ∀ {σ9 : L2.St} {s' : Shared} {H' : Hp}, Inv (X.blk s3 H3 scope ce fp) ([] ++ pinsAt fp s7.heap) σ9 H' s' → σ9.length = σ8.length → (∀ (j : Nat) v, (wipe σ8 (own.map (·.2)))[j]? = some (some v) → σ9[j]? = some (some v)) → Nx H' →
          ∃ m, m < n ∧ ∃ i H', Inv (X.blk s3 H3 scope ce fp) [] (wipe σ (own.map (·.2))) H' s' ∧ tn i s'.heap ∧ (∀ b ∈ fp, H' b = none) ∧ W i m H' := fun {σ9 s' H'} I' hl hk nx => by
        obtain ⟨m', hm, w'⟩ := hNx H' nx
        have pin' : ∀ b ∈ fp, ∀ o, s7.heap.get? b = some o → s'.heap.get? b = some o ∧ H' b = none := fun b hb o e =>
          let z := I'.pin (b, o) (List.mem_append_right _ (List.mem_append_right _ (mem_pinsAt hb e)))
          ⟨z.1, z.2.1⟩
        refine ⟨m', hm, i + 1, H', (I'.unpinned (pins := [])).weak (by rw [hl, ← hw8, wipe_length]) (fun j v e => hk j v (by rw [hw8]; exact e)), T.keep _ _ _ st7 fun b hb o e => (pin' b hb o e).1, fun b hb => ?_, w'⟩
        obtain ⟨o, e, _⟩ := T.obj _ _ st7 b hb
        exact (pin' b hb o e).2
      cases ok' with
      | false =>
        simp only [Bool.false_eq_true, if_false] at q9 ⊢
        exact fin I9 rfl (fun j v e => (wipe_some e).1) q9
      | true =>
        simp only [if_true] at q9 ⊢
        exact bb.err (fun _ _ z => False.elim z) (bb.run _ s9 σ8 H9 D Nx _ I9 q9 fun s' σ' H' I' hl hk nx => fin I' hl hk nx)
  exact hstart loop (T.self X.A 0 _ _ _ st4 loop)
end
/-- a clause inside: its own loop, then on -/
def tIn (wi1 : TI) (g1 : TG) (tt1 : TT) (tb : Addr → L2.St → Hp → (Hp → Prop) → Prop) (vs1 : List Nat) : Addr → L2.St → Hp → (Hp → Prop) → Prop := fun D σ H Nx => wi1 σ H fun J1 H4 => ∃ W1 : Nat → Nat → Hp → Prop, (∃ m, W1 0 m H4) ∧ ∀ j k H, W1 j k H →
  (J1.stop j H ∧ Nx H) ∨ (J1.go j H ∧ ∃ Nx1 : Hp → Prop, (∀ H', Nx1 H' → ∃ k', k' < k ∧ W1 (j + 1) k' H') ∧ ∀ x H', J1.yld j H x H' → g1 x (wipe σ vs1) H' fun σ3 H5 => wipe σ3 vs1 = wipe σ vs1 ∧ tt1 σ3 H5 fun b H6 => if b = true then tb D σ3 H6 Nx1 else Nx1 H6)
section
variable {Y : Cx} {s0 : Shared} {H0 : Hp} {scope : Scope} {ce : Env} {fp0 : List Addr}
theorem pb_in {c tg1 iter1 : Expr} {ifs1 : List Expr} {own vs1 : List Nat} {wi1 : TI} {g1 : TG} {tt1 : TT} {e : EndW} {tb : Addr → L2.St → Hp → (Hp → Prop) → Prop} (hc : Y.calm = true) (hv : ∀ i ∈ vs1, i ∈ own)
    (hturn : TurnW Y.prog Y.w Y.A c 1 tg1 ifs1 e)
    (hq : ∀ it acc env, (Code.compLoop c 1 it acc env).quiet = true) (hden : ∀ it acc env, (model Y.prog Y.w).den (.compLoop c 1 it acc env) = (compTurn c 1 it acc env).onRaise (fun x => do noteFrame x env; theTreesLotGoes x)) (hund : ∀ it acc env, Y.A.under (.compLoop c 1 it acc env) = Y.A)
    (hstart : ∀ {it acc env} {R : Result → Shared → Prop} {s : Shared}, codeAny (model Y.prog Y.w) Y.A (.compLoop c 1 it acc env) R s → wpAny (model Y.prog Y.w) Y.A (pyIter it) (fun it' s' => codeAny (model Y.prog Y.w) Y.A (.compLoop c 1 it' acc env) R s') (notedBy (model Y.prog Y.w) Y.A env fun x s' => R (.error x) s') s → codeAny (model Y.prog Y.w) Y.A (.compStart c 1 it acc env) R s)
    (hi1 : PI (Y.blk s0 H0 scope ce fp0) tg1 iter1 wi1) (hg1 : PG (Y.blk s0 H0 scope ce fp0) tg1 g1) (ht1 : PTs (Y.blk s0 H0 scope ce fp0) ifs1 tt1) (hb : PB (Y.blk s0 H0 scope ce fp0) vs1 e tb) :
    PB (Y.blk s0 H0 scope ce fp0) own (eIn Y.prog Y.w Y.A c iter1) (tIn wi1 g1 tt1 tb vs1) := by
  refine ⟨fun hP g => wpAny_mono g (fun x t g => wpAny_mono g (fun it t g => codeAny_mono g fun r t g => ?_) fun _ _ z => z) fun _ _ z => z, fun hF g => wpAny_mono g (fun x t g => wpAny_mono g (fun it t g => g) hF) hF, fun pins s σ H D Nx P I h nx => ?_⟩
  · cases r with
    | ok f => exact hP t g
    | error x => exact g
  refine wpAny_mono (hi1.run pins s σ H _ I h) (fun xv s10 hx => wpAny_mono hx (fun itv s11 h11 => ?_) fun _ _ z => z) fun _ _ z => z
  obtain ⟨it1, fp1, tn1, J1, H11, eit, I11, T1, st11, f11, W1, ⟨m1, w1⟩, turn1⟩ := h11
  cases eit
  have stat1 : ∀ {H' : Hp}, (∀ b ∈ fp1, H' b = none) → ∀ b ∈ fp1, FpOk (Y.blk s0 H0 scope ce fp0) pins H' b := fun hn b hb => ⟨hn b hb, (f11 b hb).2⟩
  have loop1 : codeAny (model Y.prog Y.w) Y.A (.compLoop c 1 (.ref it1) (.ref D) (Y.blk s0 H0 scope ce fp0).env) (fun r s' => match r with
      | .ok _ => ∃ H', Inv (Y.blk s0 H0 scope ce fp0) pins (wipe σ vs1) H' s' ∧ Nx H'
      | .error _ => False) s11 := by
    refine loopG hturn (hq _ _ _) (hden _ _ _) (hund _ _ _) (fun k s' => ∃ j H', Inv (Y.blk s0 H0 scope ce fp0) pins (wipe σ vs1) H' s' ∧ tn1 j s'.heap ∧ (∀ b ∈ fp1, H' b = none) ∧ W1 j k H') ?_ hb.mono m1 ⟨0, H11, I11.weak (wipe_length _ _) (fun j v e => (wipe_some e).1), st11, fun b hb => (f11 b hb).1, w1⟩
    rintro k s12 ⟨j, H12, I12, st12, n12, w12⟩
    rcases turn1 j k H12 w12 with ⟨stop1, nx1⟩ | ⟨go1, Nx1, hNx1, step1⟩
    · refine thnF (T1.done (Y.blk s0 H0 scope ce fp0) rfl rfl rfl hc j _ s12 (wipe σ vs1) H12 (fun _ _ => False) I12 (stat1 n12) st12 stop1) fun r s13 ⟨hr, I13⟩ => ?_
      subst hr
      exact ⟨H12, I13, nx1⟩
    · refine thnF (T1.item (Y.blk s0 H0 scope ce fp0) rfl rfl rfl hc j _ s12 (wipe σ vs1) H12 (fun _ _ => False) I12 (stat1 n12) st12 go1) fun r s13 ⟨u1, hr, h13⟩ => ?_
      subst hr
      refine thnF h13 fun _ s14 ⟨x1, H14, I14, r14, y14, st14, n14⟩ => ?_
      refine thnF (hg1.run _ s14 (wipe σ vs1) H14 x1 u1 _ (I14.pinned (stat1 n14) (T1.obj _ _ st14)) r14 (step1 x1 H14 y14)) fun _ s15 ⟨σ15, H15, I15, hw15, q15⟩ => ?_
      refine thnF (ht1.run _ s15 σ15 H15 _ I15 q15) fun b1 s16 ⟨H16, I16, q16⟩ => ?_
      have fin1 : ∀ {σ' : L2.St} {s' : Shared} {H' : Hp}, Inv (Y.blk s0 H0 scope ce fp0) (pins ++ pinsAt fp1 s14.heap) σ' H' s' → σ'.length = σ15.length → (∀ (j : Nat) v, (wipe σ15 vs1)[j]? = some (some v) → σ'[j]? = some (some v)) → Nx1 H' →
          ∃ m, m < k ∧ ∃ j H', Inv (Y.blk s0 H0 scope ce fp0) pins (wipe σ vs1) H' s' ∧ tn1 j s'.heap ∧ (∀ b ∈ fp1, H' b = none) ∧ W1 j m H' := fun {σ' s' H'} I' hl hk nx => by
        obtain ⟨m', hm, w'⟩ := hNx1 H' nx
        have pin' : ∀ b ∈ fp1, ∀ o, s14.heap.get? b = some o → s'.heap.get? b = some o ∧ H' b = none := fun b hb o e =>
          let z := I'.pin (b, o) (List.mem_append_right _ (List.mem_append_right _ (mem_pinsAt hb e)))
          ⟨z.1, z.2.1⟩
        refine ⟨m', hm, j + 1, H', I'.unpinned.weak (by rw [hl, ← wipe_length σ15 vs1, hw15]) (fun j v e => hk j v (by rw [hw15]; exact e)), T1.keep _ _ _ st14 fun b hb o e => (pin' b hb o e).1, fun b hb => ?_, w'⟩
        obtain ⟨o, e, _⟩ := T1.obj _ _ st14 b hb
        exact (pin' b hb o e).2
      cases b1 with
      | false =>
        simp only [Bool.false_eq_true, if_false] at q16 ⊢
        exact fin1 I16 rfl (fun j v e => (wipe_some e).1) q16
      | true =>
        simp only [if_true] at q16 ⊢
        exact hb.err (fun _ _ z => False.elim z) (hb.run _ s16 σ15 H16 D Nx1 _ I16 q16 fun s' σ' H' I' hl hk nx => fin1 I' hl hk nx)
  refine codeAny_mono (hstart loop1 (T1.self Y.A 0 _ _ _ st11 loop1)) fun r s' hr => ?_
  cases r with
  | error e => exact hr.elim
  | ok f =>
    obtain ⟨H', I', nx'⟩ := hr
    refine nx s' (wipe σ vs1) H' I' (wipe_length _ _) (fun j v e => ?_) nx'
    obtain ⟨e1, e2⟩ := wipe_some e
    rw [wipe_out fun z => e2 (hv j z)]
    exact e1
end
/-! ### sets of ints -/
theorem pb_set {X : Cx} {own : List Nat} {elt : Expr} {te : TE} (he : PE X elt te) : PB X own (eSet X.prog X.w X.A elt) (fun D σ H Nx => te σ H fun y H4 => ∃ (k : Int) (S : Int → Bool) (n : Nat), y = .int k ∧ H4 D = some (SetO X.w D S n) ∧ n + 1 < scanBound ∧ Nx (upd H4 D (SetO X.w D (fun j => S j || decide (j = k)) (if S k = true then n else n + 1)))) := by
  refine ⟨fun hP g => wpAny_mono g (fun x t g => wpAny_mono g (fun _ t g => hP t g) fun _ _ z => z) fun _ _ z => z, fun hF g => wpAny_mono g (fun x t g => wpAny_mono g (fun _ t g => g) hF) hF, fun pins s σ H D Nx P I h nx => ?_⟩
  refine wpAny_mono (he.run pins s σ H _ I h) (fun z s10 ⟨yv, H10, I10, r10, i, S, n, ey, hD, hz, q⟩ => ?_) fun _ _ z => z
  subst ey
  obtain ⟨tk, rfl⟩ := r10
  refine setR_add (setO_get I10 hD) hz fun h' sb new => ?_
  have there : ∃ u, h'.get? D = some u := let ⟨o, _, _, _, ho, _⟩ := new; ⟨o, ho⟩
  exact nx _ σ _ (I10.write (e := D) (t' := s10.toks + 1) (by rw [hD]; trivial) (.inl rfl) (fun b u hb hu => (sb.2 b hb).trans hu) there (setO_new new)) rfl (fun j v e => (wipe_some e).1) q
theorem start_set1 {prog : Program} {w : World} {A : Around} {env : Env} {elt t0 i0 t1 i1 : Expr} {ifs0 ifs1 : List Expr} {scope : Scope} {pos : Pos} {it acc : Value} {R : Result → Shared → Prop} {s : Shared}
    (h0 : codeAny (model prog w) A (.compLoop (.SetComp elt [⟨t0, i0, ifs0, 0⟩, ⟨t1, i1, ifs1, 0⟩] scope pos) 1 it acc env) R s)
    (h : wpAny (model prog w) A (pyIter it) (fun it' s' => codeAny (model prog w) A (.compLoop (.SetComp elt [⟨t0, i0, ifs0, 0⟩, ⟨t1, i1, ifs1, 0⟩] scope pos) 1 it' acc env) R s') (notedBy (model prog w) A env fun x s' => R (.error x) s') s) :
    codeAny (model prog w) A (.compStart (.SetComp elt [⟨t0, i0, ifs0, 0⟩, ⟨t1, i1, ifs1, 0⟩] scope pos) 1 it acc env) R s := by
  refine codeAny_of_tree ?_
  show wpAny _ _ ((compStart _ 1 it acc env).onRaise (fun x => do noteFrame x env; standAt theWindowsPlace)) _ _ s
  refine wpAny_notedAt ?_
  unfold compStart
  show wpAny _ _ (ask >>= _) _ _ s
  refine wpAny_bind (wpAny_askSetting (wpAny_ite ?_))
  split
  · first
      | exact wpAny_bind (wpAny_pure (wpAny_pure ⟨rfl, h0⟩))
      | exact wpAny_pure ⟨rfl, h0⟩
  · refine wpAny_bind (wpAny_rule ?_)
    first
      | exact wpAny_bind (wpAny_standAt (wpAny_bind (wpAny_mono h (fun it' s' h' => wpAny_pure ⟨rfl, h'⟩) fun _ _ x => x)))
      | (show wpAny _ _ (standAt i1.pos >>= _) _ _ s; exact wpAny_bind (wpAny_standAt (wpAny_bind (wpAny_mono h (fun it' s' h' => wpAny_pure ⟨rfl, h'⟩) fun _ _ x => x))))
theorem pe_sc2 {X : Cx} {elt tg iter tg1 iter1 : Expr} {ifs ifs1 : List Expr} {scope : Scope} {own : List (Str × Nat)} {vs1 : List Nat} {pos : Pos} {wi wi1 : TI} {g g1 : TG} {tt tt1 : TT} {te : TE} (hc : X.calm = true) (hN : X.N.Nodup) (hi : PI X tg iter wi) (ok : BlkOk X.N X.env.scope scope own) (hv : ∀ i ∈ vs1, i ∈ own.map (·.2))
    (hg : ∀ (s : Shared) (H : Hp) (C : Addr) (cl : List (Str × Addr)) (fp : List Addr), PG (X.blk s H scope (compEnvC scope cl C X.env) fp) tg g) (ht : ∀ (s : Shared) (H : Hp) (C : Addr) (cl : List (Str × Addr)) (fp : List Addr), PTs (X.blk s H scope (compEnvC scope cl C X.env) fp) ifs tt)
    (hi1 : ∀ (s : Shared) (H : Hp) (C : Addr) (cl : List (Str × Addr)) (fp : List Addr), PI (X.blk s H scope (compEnvC scope cl C X.env) fp) tg1 iter1 wi1)
    (hg1 : ∀ (s : Shared) (H : Hp) (C : Addr) (cl : List (Str × Addr)) (fp : List Addr), PG (X.blk s H scope (compEnvC scope cl C X.env) fp) tg1 g1) (ht1 : ∀ (s : Shared) (H : Hp) (C : Addr) (cl : List (Str × Addr)) (fp : List Addr), PTs (X.blk s H scope (compEnvC scope cl C X.env) fp) ifs1 tt1)
    (he : ∀ (s : Shared) (H : Hp) (C : Addr) (cl : List (Str × Addr)) (fp : List Addr), PE (X.blk s H scope (compEnvC scope cl C X.env) fp) elt te) (hs : ∀ x, foldedSetIterable iter X.env x = pure x) (hs1 : ∀ env x, foldedSetIterable iter1 env x = pure x) :
    PE X (.SetComp elt [⟨tg, iter, ifs, 0⟩, ⟨tg1, iter1, ifs1, 0⟩] scope pos) (tC1 (fun D => SetO X.w D (fun _ => false) 0) wi g tt (tIn wi1 g1 tt1 (fun D σ H Nx => te σ H fun y H4 => ∃ (k : Int) (S : Int → Bool) (n : Nat), y = .int k ∧ H4 D = some (SetO X.w D S n) ∧ n + 1 < scanBound ∧ Nx (upd H4 D (SetO X.w D (fun j => S j || decide (j = k)) (if S k = true then n else n + 1)))) vs1) (own.map (·.2))) := by
  refine ⟨fun pins s σ H Q I h => ?_⟩
  rw [PpSet.eval_SetComp]
  refine compG (c := .SetComp elt [⟨tg, iter, ifs, 0⟩, ⟨tg1, iter1, ifs1, 0⟩] scope pos) (e := eIn X.prog X.w X.A (.SetComp elt [⟨tg, iter, ifs, 0⟩, ⟨tg1, iter1, ifs1, 0⟩] scope pos) iter1) (ob := { cls := .type "set", dict := none, data := .set #[] 0 (.fresh 0 0 (!X.w.params.followText "set-order")) })
    rfl (turn_set0 hs1) (fun _ _ _ => rfl) (fun _ _ _ => rfl) (fun _ _ _ => rfl) (fun h0 h => PpSet.codeAny_compStart_set h0 h) (fun h => PpSet.newSet_ok h) (fun I2 => I2.laid (t' := _) (fun b o e => Heap.get?_push_of_some _ e) (Nat.le_refl _) (setO_new (setR_fresh X.w)))
    hc hN I hi ok hg ht (fun s0 H0 C cl fp => pb_in hc hv turn_set1 (fun _ _ _ => rfl) (fun _ _ _ => rfl) (fun _ _ _ => rfl) (fun h0 h => start_set1 h0 h) (hi1 s0 H0 C cl fp) (hg1 s0 H0 C cl fp) (ht1 s0 H0 C cl fp) (pb_set (he s0 H0 C cl fp))) hs h fun D C s' m H' I' q hn f => ⟨m, hn, fun h'' sb => ?_⟩
  obtain ⟨f0, f1, f2, f3, f4, f5⟩ := f
  exact ⟨.ref D, H', I'.turned (t' := s'.toks) (fun b o hb e => (sb.2 b hb).trans e) f0 f1 f3 f4 f5, rfl, q⟩
/-! ### sorted({.. for .. for ..}), ints -/
def insI (u : List Int) (k : Int) : List Int := if k ∈ u then u else u ++ [k]
theorem insI_mem {u : List Int} {k j : Int} : j ∈ insI u k ↔ j ∈ u ∨ j = k := by
  unfold insI
  split
  · exact ⟨.inl, fun h => h.elim id fun e => by rw [e]; assumption⟩
  · rw [List.mem_append, List.mem_singleton]
theorem setO_ins {w : World} {D : Addr} {u : List Int} {k : Int} : SetO w D (fun j => decide (j ∈ u) || decide (j = k)) (if decide (k ∈ u) = true then u.length else u.length + 1) = SetO w D (fun j => decide (j ∈ insI u k)) (insI u k).length := by
  have e1 : (fun j => decide (j ∈ u) || decide (j = k)) = fun j => decide (j ∈ insI u k) := by
    funext j
    rw [Bool.eq_iff_iff]
    simp [insI_mem]
  have e2 : (if decide (k ∈ u) = true then u.length else u.length + 1) = (insI u k).length := by
    unfold insI
    by_cases h : k ∈ u
    · rw [if_pos h, if_pos (by simpa using h)]
    · rw [if_neg h, if_neg (by simpa using h), List.length_append]; rfl
  rw [e1, e2]
def scJ (g : WG) (mt : WT) (me : WE) (sl : Sl) (nx : List Int → Cells → Prop) : List D → List Int → Cells → Prop
  | [], u, cs => nx u cs
  | d :: ds, u, cs => g d sl cs fun sl2 cs2 => mt sl2 cs2 (fun b cs3 => if b = true then me sl2 cs3 (fun y cs4 => match y with
      | .int k => u.length + 1 < 4096 ∧ scJ g mt me sl nx ds (insI u k) cs4
      | _ => False) (fun _ _ _ => False) else scJ g mt me sl nx ds u cs3) (fun _ _ _ => False)
def scW2 (g : WG) (mt : WT) (mi1 : WA) (g1 : WG) (mt1 : WT) (me : WE) (vs1 : List Nat) (sl : Sl) (Q : List Int → Cells → Prop) : List D → List Int → Cells → Prop
  | [], u, cs => Q u cs
  | d :: ds, u, cs => g d sl cs fun sl2 cs2 => mt sl2 cs2 (fun b cs3 => if b = true then mi1 sl2 cs3 (fun ds1 cs4 => scJ g1 mt1 me (wipeD sl2 vs1) (fun u cs5 => scW2 g mt mi1 g1 mt1 me vs1 sl Q ds u cs5) ds1 u cs4) (fun _ _ _ => False) else scW2 g mt mi1 g1 mt1 me vs1 sl Q ds u cs3) (fun _ _ _ => False)
def wSortS2 (mi : WA) (g : WG) (mt : WT) (mi1 : WA) (g1 : WG) (mt1 : WT) (me : WE) (vs vs1 : List Nat) : WE := fun sl cs Q X => mi sl cs (fun ds cs1 => scW2 g mt mi1 g1 mt1 me vs1 (wipeD sl vs) (fun u cs2 => u.length < 64 ∧ ∀ us : List Int, us.Pairwise (· < ·) → (∀ k, k ∈ us ↔ k ∈ u) → Q (.lst (us.map D.int)) cs2) ds [] cs1) X
section
variable {X : Cx} {T : Tb} {E : XK}
theorem sortS2_ok {w : World} {mi mi1 : WA} {g g1 : WG} {gs gs1 : List Nat} {mt mt1 : WT} {me : WE} {vs vs1 : List Nat} {wi : TI} (hgs : ∀ i ∈ gs, i ∈ vs) (hgs1 : ∀ i ∈ gs1, i ∈ vs1)
    (s1 : ∀ sl W σ H Q' X' R, SlAt X.K T W H sl σ → Rep X.K T W H → mi sl W.cs Q' X' → (∀ ds W1 J H1, Q' ds W1.cs → Ext W H W1 H1 → Rep X.K T W1 H1 → ItOK X.K T J ds W1 H1 → R J H1) → PostX X.K T W H X' E → wi σ H R)
    {sl : Sl} {W : Wd} {σ : L2.St} {H : Hp} {Q' : WQ} {X' : XQ} {Q : VK} (hs : SlAt X.K T W H sl σ) (rp : Rep X.K T W H) (h : wSortS2 mi g mt mi1 g1 mt1 me vs vs1 sl W.cs Q' X') (po : PostE X.K T W H Q' Q) (px : PostX X.K T W H X' E) :
    tC1 (fun D => SetO w D (fun _ => false) 0) wi (canG X.K T g gs) (canT X.K T E0 mt) (tIn (canI X.K T E0 mi1) (canG X.K T g1 gs1) (canT X.K T E0 mt1) (fun D σ H Nx => canE X.K T E0 me σ H fun y H4 => ∃ (k : Int) (S : Int → Bool) (n : Nat), y = .int k ∧ H4 D = some (SetO w D S n) ∧ n + 1 < scanBound ∧ Nx (upd H4 D (SetO w D (fun j => S j || decide (j = k)) (if S k = true then n else n + 1)))) vs1) vs σ H
      (fun v H1 => rSortedSet w [v] H1 Q) := by
  have nt : ∀ {D : Addr} {S : Int → Bool} {n : Nat}, ∀ xs, SetO w D S n ≠ .tup xs := fun _ z => by unfold SetO at z; cases z
  have e00 : ∀ D : Addr, SetO w D (fun _ => false) 0 = SetO w D (fun j => decide (j ∈ ([] : List Int))) ([] : List Int).length := fun D => by simp
  refine s1 sl W σ H _ X' _ hs rp h (fun ds W1 J H1 q1 x1 r1 ok => ?_) px
  intro L hL
  refine ⟨fun i m H' => ∃ Wi u, H' L = some (SetO w L (fun j => decide (j ∈ u)) u.length) ∧ (∀ a, W1.G a → Wi.G a) ∧ Wi.G L ∧ Rep X.K T Wi H' ∧ Ex0 W1 H1 Wi H' ∧ m = ds.length - i ∧ i ≤ ds.length ∧
      scW2 g mt mi1 g1 mt1 me vs1 (wipeD sl vs) (fun u cs2 => u.length < 64 ∧ ∀ us : List Int, us.Pairwise (· < ·) → (∀ k, k ∈ us ↔ k ∈ u) → Q' (.lst (us.map D.int)) cs2) (ds.drop i) u Wi.cs,
    ⟨_, W1.wG fun a => W1.G a ∨ a = L, [], by rw [upd_same]; exact congrArg some (e00 L), fun a z => .inl z, .inr rfl, r1.lay hL nt, .lay hL, rfl, Nat.zero_le _, by rw [List.drop_zero]; exact q1⟩, ?_⟩
  rintro i m H2 ⟨Wi, u, hu, gg, gL, r2, x2, rfl, hi, q2⟩
  have comp : ∀ {W2 W3 : Wd} {H2 H3 : Hp}, Ex0 W1 H1 W2 H2 → Ext W2 H2 W3 H3 → Ex0 W1 H1 W3 H3 := fun {W2 W3 H2 H3} x2 x3 =>
    ⟨fun b o e l => let ⟨e1, l1⟩ := x2.keep b o e l; x3.keep b o e1 l1, fun j a e => x3.pre j a (x2.pre j a e), fun b hb z => by rw [x3.g] at z; exact x2.gk b hb z⟩
  by_cases hlt : i < ds.length
  · refine .inr ⟨ok.go i Wi H2 x2.z r2 hlt, fun H' => ∃ Wi u, H' L = some (SetO w L (fun j => decide (j ∈ u)) u.length) ∧ (∀ a, W1.G a → Wi.G a) ∧ Wi.G L ∧ Rep X.K T Wi H' ∧ Ex0 W1 H1 Wi H' ∧
      scW2 g mt mi1 g1 mt1 me vs1 (wipeD sl vs) (fun u cs2 => u.length < 64 ∧ ∀ us : List Int, us.Pairwise (· < ·) → (∀ k, k ∈ us ↔ k ∈ u) → Q' (.lst (us.map D.int)) cs2) (ds.drop (i + 1)) u Wi.cs,
      fun H' ⟨Wj, u, z1, z4, z5, z6, z7, z8⟩ => ⟨ds.length - (i + 1), by omega, Wj, u, z1, z4, z5, z6, z7, rfl, hlt, z8⟩, fun y H3 hy => ?_⟩
    obtain ⟨d, ed, x3, r3, a3⟩ := ok.yld i Wi H2 y H3 x2.z r2 hlt hy
    have hd : ds.drop i = d :: ds.drop (i + 1) := by
      rw [List.drop_eq_getElem_cons hlt]
      congr 1
      exact Option.some.inj ((List.getElem?_eq_getElem hlt).symm.trans ed)
    rw [hd] at q2
    have hs3 : SlAt X.K T Wi H3 (wipeD sl vs) (wipe σ vs) := ((hs.ext x1).ex0 (comp x2 x3)).wipe vs
    have nl : ¬ Wi.Live L := r2.aside_not gL
    have hu3 := (x3.keep L _ hu nl).1
    refine ⟨_, Wi, d, _, hs3, r3, a3, q2, fun sl4 σ4 q4 hs4 l4 f4 => ⟨wipe_eq hgs l4 f4, ?_⟩⟩
    refine ⟨sl4, Wi, _, _, hs4, r3, q4, fun b W5 H5 q5 x5 r5 => ?_, post_no⟩
    have hu5 := x5.keep L _ hu3 nl
    have x05 := comp x2 (x3.trans x5)
    cases b with
    | false =>
      have q5 : scW2 g mt mi1 g1 mt1 me vs1 (wipeD sl vs) _ (ds.drop (i + 1)) u W5.cs := q5
      exact iteF ⟨W5, u, hu5.1, fun a z => by rw [x5.g]; exact gg a z, by rw [x5.g]; exact gL, r5, x05, q5⟩
    | true =>
      have q5 : mi1 sl4 W5.cs (fun ds1 cs4 => scJ g1 mt1 me (wipeD sl4 vs1) (fun u cs5 => scW2 g mt mi1 g1 mt1 me vs1 (wipeD sl vs) (fun u cs2 => u.length < 64 ∧ ∀ us : List Int, us.Pairwise (· < ·) → (∀ k, k ∈ us ↔ k ∈ u) → Q' (.lst (us.map D.int)) cs2) (ds.drop (i + 1)) u cs5) ds1 u cs4) (fun _ _ _ => False) := q5
      refine iteT ⟨sl4, W5, _, _, hs4.ext x5, r5, q5, fun ds1 W6 J1 H6 q6 x6 r6 ok1 => ?_, post_no⟩
      have hu6 := x6.keep L _ hu5.1 hu5.2
      have x06 := comp x2 ((x3.trans x5).trans x6)
      have gL6 : W6.G L := by rw [x6.g, x5.g]; exact gL
      have hs6 : SlAt X.K T W6 H6 sl4 σ4 := (hs4.ext x5).ext x6
      refine ⟨fun j k H' => ∃ Wj u, H' L = some (SetO w L (fun j => decide (j ∈ u)) u.length) ∧ (∀ a, W6.G a ↔ Wj.G a) ∧ Rep X.K T Wj H' ∧ Ex0 W1 H1 Wj H' ∧ Exz W6 H6 Wj H' ∧ k = ds1.length - j ∧ j ≤ ds1.length ∧
          scJ g1 mt1 me (wipeD sl4 vs1) (fun u cs5 => scW2 g mt mi1 g1 mt1 me vs1 (wipeD sl vs) (fun u cs2 => u.length < 64 ∧ ∀ us : List Int, us.Pairwise (· < ·) → (∀ k, k ∈ us ↔ k ∈ u) → Q' (.lst (us.map D.int)) cs2) (ds.drop (i + 1)) u cs5) (ds1.drop j) u Wj.cs,
        ⟨_, W6, u, hu6.1, fun a => .rfl, r6, x06, .refl, rfl, Nat.zero_le _, by rw [List.drop_zero]; exact q6⟩, ?_⟩
      rintro j k H7 ⟨Wj, u7, hu7, g7, r7, x07, xz7, rfl, hj, q7⟩
      have gL7 : Wj.G L := (g7 L).mp gL6
      have nl7 : ¬ Wj.Live L := r7.aside_not gL7
      by_cases hlt1 : j < ds1.length
      · refine .inr ⟨ok1.go j Wj H7 xz7 r7 hlt1, fun H' => ∃ Wk u, H' L = some (SetO w L (fun j => decide (j ∈ u)) u.length) ∧ (∀ a, W6.G a ↔ Wk.G a) ∧ Rep X.K T Wk H' ∧ Ex0 W1 H1 Wk H' ∧ Exz W6 H6 Wk H' ∧
          scJ g1 mt1 me (wipeD sl4 vs1) (fun u cs5 => scW2 g mt mi1 g1 mt1 me vs1 (wipeD sl vs) (fun u cs2 => u.length < 64 ∧ ∀ us : List Int, us.Pairwise (· < ·) → (∀ k, k ∈ us ↔ k ∈ u) → Q' (.lst (us.map D.int)) cs2) (ds.drop (i + 1)) u cs5) (ds1.drop (j + 1)) u Wk.cs,
          fun H' ⟨Wk, u, z1, z3, z4, z5, z6, z7⟩ => ⟨ds1.length - (j + 1), by omega, Wk, u, z1, z3, z4, z5, z6, rfl, hlt1, z7⟩, fun y1 H8 hy1 => ?_⟩
        obtain ⟨d1, ed1, x8, r8, a8⟩ := ok1.yld j Wj H7 y1 H8 xz7 r7 hlt1 hy1
        have hd1 : ds1.drop j = d1 :: ds1.drop (j + 1) := by
          rw [List.drop_eq_getElem_cons hlt1]
          congr 1
          exact Option.some.inj ((List.getElem?_eq_getElem hlt1).symm.trans ed1)
        rw [hd1] at q7
        have exzOf : ∀ {W8 : Wd} {H8 : Hp}, Ext Wj H7 W8 H8 → Exz W6 H6 W8 H8 := fun {W8 H8} x8 => ⟨fun b o e f => let ⟨e1, f1⟩ := xz7.fz b o e f; x8.fz e1 f1, fun j a e => x8.pre j a (xz7.pre j a e)⟩
        have slz : ∀ {W8 : Wd} {H8 : Hp}, Exz W6 H6 W8 H8 → SlAt X.K T W8 H8 sl4 σ4 := fun {W8 H8} x => ⟨hs6.1, fun i d e => let ⟨v, e1, e2⟩ := hs6.2 i d e; ⟨v, e1, e2.exz x⟩⟩
        have hs8 : SlAt X.K T Wj H8 (wipeD sl4 vs1) (wipe σ4 vs1) := (slz (exzOf x8)).wipe vs1
        have hu8 := (x8.keep L _ hu7 nl7).1
        refine ⟨_, Wj, d1, _, hs8, r8, a8, q7, fun sl9 σ9 q9 hs9 l9 f9 => ⟨wipe_eq hgs1 l9 f9, ?_⟩⟩
        refine ⟨sl9, Wj, _, _, hs9, r8, q9, fun b1 W10 H10 q10 x10 r10 => ?_, post_no⟩
        have hu10 := x10.keep L _ hu8 nl7
        cases b1 with
        | false =>
          have q10 : scJ g1 mt1 me (wipeD sl4 vs1) _ (ds1.drop (j + 1)) u7 W10.cs := q10
          exact iteF ⟨W10, u7, hu10.1, fun a => by rw [x10.g]; exact g7 a, r10, comp x07 (x8.trans x10), exzOf (x8.trans x10), q10⟩
        | true =>
          have q10 : me sl9 W10.cs (fun y cs4 => match y with
            | .int k => u7.length + 1 < 4096 ∧ scJ g1 mt1 me (wipeD sl4 vs1) _ (ds1.drop (j + 1)) (insI u7 k) cs4
            | _ => False) (fun _ _ _ => False) := q10
          refine iteT ⟨sl9, W10, _, _, hs9.ext x10, r10, q10, fun dy W11 y11 H11 q11 x11 r11 a11 => ?_, post_no⟩
          cases dy with
          | int kk =>
            cases a11
            obtain ⟨hz, q11⟩ := q11
            have hu11 := x11.keep L _ hu10.1 hu10.2
            have gL11 : W11.G L := by rw [x11.g, x10.g]; exact gL7
            refine ⟨kk, _, _, rfl, hu11.1, hz, W11, insI u7 kk, ?_, fun a => by rw [x11.g, x10.g]; exact g7 a, r11.aside gL11 nt, ?_, ?_, q11⟩
            · rw [upd_same]; exact congrArg some setO_ins
            · have x0 := comp x07 ((x8.trans x10).trans x11)
              exact ⟨fun b o e l => let ⟨e1, l1⟩ := x0.keep b o e l; ⟨by rw [upd_ne (ne_of_none e hL)]; exact e1, l1⟩, x0.pre, x0.gk⟩
            · have xz := exzOf ((x8.trans x10).trans x11)
              exact ⟨fun b o e f => let ⟨e1, f1⟩ := xz.fz b o e f; ⟨by rw [upd_ne (fun z => f1.2 (by rw [z]; exact gL11))]; exact e1, f1⟩, xz.pre⟩
          | _ => exact q11.elim
      · have e : j = ds1.length := by omega
        subst e
        rw [List.drop_length] at q7
        exact .inl ⟨ok1.stop _ Wj H7 xz7 r7 (Nat.le_refl _), Wj, u7, hu7, fun a z => (g7 a).mp (by rw [x6.g, x5.g]; exact gg a z), gL7, r7, x07, q7⟩
  · have e : i = ds.length := by omega
    subst e
    rw [List.drop_length] at q2
    obtain ⟨q64, q2⟩ := q2
    refine .inl ⟨ok.stop _ Wi H2 x2.z r2 (Nat.le_refl _), L, _, _, rfl, hu, q64, fun ns p hpw hmem hlen hp => ?_⟩
    have xf : Ext W1 H1 (Wi.wG W1.G) H2 := ⟨x2.keep, x2.pre, rfl⟩
    have rf : Rep X.K T (Wi.wG W1.G) H2 := r2.less gg
    exact po (.lst (ns.map D.int)) (Wi.wG W1.G) (.ref p) _ (q2 ns hpw fun k => by rw [hmem]; simp) ((x1.trans xf).trans (.laid hp)) (rf.laid hp) (.lst upd_same (rf.fresh hp) ((atL_ints ns).ext (.laid hp)))
theorem de_sortS2 {elt tg iter tg1 iter1 : Expr} {ifs ifs1 : List Expr} {scope : Scope} {own : List (Str × Nat)} {vs1 : List Nat} {p pos pos' : Pos} {x : Str} {mi mi1 : WA} {g g1 : WG} {gs gs1 : List Nat} {mt mt1 : WT} {me : WE} (hc : X.calm = true) (hN : X.N.Nodup) (hm : X.mg x = none) (hvb : bootBuiltins x = some (.builtin "sorted")) (hi : DI X T E tg iter mi) (ok : BlkOk X.N X.env.scope scope own) (hgs : ∀ i ∈ gs, i ∈ own.map (·.2)) (hv : ∀ i ∈ vs1, i ∈ own.map (·.2)) (hgs1 : ∀ i ∈ gs1, i ∈ vs1)
    (hg : ∀ (s : Shared) (H : Hp) (C : Addr) (cl : List (Str × Addr)) (fp : List Addr), DG (X.blk s H scope (compEnvC scope cl C X.env) fp) T tg g gs) (ht : ∀ (s : Shared) (H : Hp) (C : Addr) (cl : List (Str × Addr)) (fp : List Addr), DTs (X.blk s H scope (compEnvC scope cl C X.env) fp) T E0 ifs mt)
    (hi1 : ∀ (s : Shared) (H : Hp) (C : Addr) (cl : List (Str × Addr)) (fp : List Addr), DI (X.blk s H scope (compEnvC scope cl C X.env) fp) T E0 tg1 iter1 mi1)
    (hg1 : ∀ (s : Shared) (H : Hp) (C : Addr) (cl : List (Str × Addr)) (fp : List Addr), DG (X.blk s H scope (compEnvC scope cl C X.env) fp) T tg1 g1 gs1) (ht1 : ∀ (s : Shared) (H : Hp) (C : Addr) (cl : List (Str × Addr)) (fp : List Addr), DTs (X.blk s H scope (compEnvC scope cl C X.env) fp) T E0 ifs1 mt1)
    (he : ∀ (s : Shared) (H : Hp) (C : Addr) (cl : List (Str × Addr)) (fp : List Addr), DE (X.blk s H scope (compEnvC scope cl C X.env) fp) T E0 elt me) (gl : Gl X x := by rfl) (hn : x ≠ "__name__" := by decide) (hdb : (x == ("__debug__" : Str)) = false := by decide)
    (hs' : starEach [.SetComp elt [⟨tg, iter, ifs, 0⟩, ⟨tg1, iter1, ifs1, 0⟩] scope pos] X.env = (false, eval (.SetComp elt [⟨tg, iter, ifs, 0⟩, ⟨tg1, iter1, ifs1, 0⟩] scope pos) X.env) :: starEach [] X.env := by rfl) (hpl : (backTo pos' (starEach [] X.env)).any (·.1) = false := by rfl)
    (hs : ∀ x, foldedSetIterable iter X.env x = pure x := by intro _; rfl) (hs1 : ∀ env x, foldedSetIterable iter1 env x = pure x := by intro _ _; rfl) :
    DE X T E (.Call (.Name x p) [.SetComp elt [⟨tg, iter, ifs, 0⟩, ⟨tg1, iter1, ifs1, 0⟩] scope pos] [] pos') (wSortS2 mi g mt mi1 g1 mt1 me (own.map (·.2)) vs1) := by
  obtain ⟨wi, p1, s1⟩ := hi.ex
  refine ⟨_, pe_callB (cr_sortedSet hc) gl hm hvb (pa_cons (pe_sc2 (g := canG X.K T g gs) (tt := canT X.K T E0 mt) (wi1 := canI X.K T E0 mi1) (g1 := canG X.K T g1 gs1) (tt1 := canT X.K T E0 mt1) (te := canE X.K T E0 me) hc hN p1 ok hv (fun s H C cl fp => (hg s H C cl fp).can) (fun s H C cl fp => (ht s H C cl fp).can) (fun s H C cl fp => (hi1 s H C cl fp).can) (fun s H C cl fp => (hg1 s H C cl fp).can) (fun s H C cl fp => (ht1 s H C cl fp).can) (fun s H C cl fp => (he s H C cl fp).can) hs hs1) pa_nil hs') hn hdb hs' hpl, ?_⟩
  intro sl W σ H Q' X' Q hsl rp h po px
  exact sortS2_ok hgs hgs1 s1 hsl rp h po px
end
end DL
namespace DL
open PySem PySem.Spec PyProof.Rows L2

/-! ### {k: v for .. in ..}, keys of ints or tuples of them -/
theorem d_dictSetP {X : Cx} {pins : List (Addr × Obj)} {σ : L2.St} {H H' : Hp} {s : Shared} {E : Value → Shared → Prop} {D : Addr} {y z : V} {u r : Value} {Q : Unit → Shared → Prop} (hu : X.A.units < cLine) (I : Inv X pins σ H s) (g : DPut H D y z H')
    (ry : RelV y u) (rv : RelV z r) (h : ∀ s', Inv X pins σ H' s' → Q () s') : wpAny (model X.prog X.w) X.A (dictSet D u r) Q E s := by
  rcases g with ⟨kvs, k, e, ey, l, eH⟩ | ⟨kvs, k, b, e, ey, eb, l, eH⟩
  · subst ey eH
    exact d_dictSet I e l ry rv h
  · subst ey eH
    cases (show u = Value.ref b from ry)
    obtain ⟨zz, hd, xs, rel, dd⟩ := dt_of I.hok e
    have hl : (putK kvs k z).length ≤ sizeLine := by have := length_putK kvs k z; omega
    refine wpAny_dictSet_heap (hsz := by rw [← Paired.length rel]; exact zz) (knd := tupleKind (mixKind X.prog X.w)) hu (key_of I.hok eb) dd fun h' dd' hs => h _ ?_
    obtain ⟨q, es, ep, hq, h2, h3, h4, _, h5⟩ := dd'
    refine d_write I (by rw [e]; exact True.intro) hs ⟨q, hq⟩ ⟨hl, hd, _, (rel.put k eb rv).keeps fun c ys ec => ?_, q, es, ep, hq, h2, h3, h4, h5⟩
    rw [upd_ne (ne_of ec e (fun z => nomatch z))]
    exact ec
theorem pb_dict {X : Cx} {own : List Nat} {kx vx : Expr} {tk tv : TE} (hu : X.A.units < cLine) (hk : PE X kx tk) (hv : PE X vx tv) : PB X own (eDict X.prog X.w X.A kx vx) (fun D σ H Nx => tk σ H fun y H4 => tv σ H4 fun z H5 => ∃ H', DPut H5 D y z H' ∧ Nx H') := by
  refine ⟨fun hP g => wpAny_mono g (fun x t g => wpAny_mono g (fun z t g => ?_) fun _ _ z => z) fun _ _ z => z, fun hF g => wpAny_mono g (fun x t g => wpAny_mono g (fun z t g => ?_) hF) hF, fun pins s σ H D Nx P I h nx => ?_⟩
  · obtain ⟨D, e, g⟩ := g
    exact ⟨D, e, wpAny_mono g (fun _ t g => hP t g) fun _ _ z => z⟩
  · obtain ⟨D, e, g⟩ := g
    exact ⟨D, e, wpAny_mono g (fun _ t g => g) hF⟩
  refine wpAny_mono (hk.run pins s σ H _ I h) (fun u s10 ⟨yv, H10, I10, r10, q10⟩ => ?_) fun _ _ z => z
  refine wpAny_mono (hv.run pins s10 σ H10 _ I10 q10) (fun r s11 ⟨zv, H11, I11, r11, H', g, q11⟩ => ⟨D, rfl, ?_⟩) fun _ _ z => z
  exact d_dictSetP hu I11 g r10 r11 fun s' I' => nx s' σ H' I' rfl (fun j v e => (wipe_some e).1) q11
/-- a kind of keys, as data, in objects and in cells -/
structure DKnd (κ : Type) [DecidableEq κ] where
  key : D → Option κ
  ob : List (κ × V) → HO
  cell : List (κ × D) → C
  live : ∀ kvs, (cell kvs).live
  cat : ∀ {K : PySem.W.Frag} {T : Tb} {W : Wd} {H : Hp} {a : Addr} {kvs : List (κ × D)} {vs : List V}, H a = some (ob ((kvs.map (·.1)).zip vs)) → AtL K T W H (kvs.map (·.2)) vs → CellAt K T W H a (cell kvs)
  put : ∀ {K : PySem.W.Frag} {T : Tb} {W : Wd} {H : Hp} {L : Addr} {d : D} {y z : V} {k : κ} {l : List (κ × V)}, At K T W H d y → key d = some k → H L = some (ob l) → l.length < sizeLine → DPut H L y z (upd H L (ob (putK l k z)))
  nt : ∀ l xs, ob l ≠ .tup xs
  laid : ∀ {X : Cx} {pins : List (Addr × Obj)} {σ : L2.St} {H : Hp} {s : Shared}, Inv X pins σ H s → Inv X pins σ (upd H s.heap.objs.size (ob [])) { s with heap := s.heap.push { cls := .type "dict", data := .dict #[] } }
def kndT : DKnd (List Key) where
  key := tkey
  ob := .dT
  cell := .dT
  live := fun _ => trivial
  cat := fun h t => ⟨_, h, t⟩
  put := fun a e h hl => by
    obtain ⟨b, rfl, hb⟩ := tkey_at a e
    exact DPut.t h hb hl
  nt := fun _ _ z => by cases z
  laid := fun I => I.laid (t' := _) (fun b o e => Heap.get?_push_of_some _ e) (Nat.le_refl _) (dt_empty _ I.big)
def kndK : DKnd Key where
  key := unkey
  ob := .dK
  cell := .dK
  live := fun _ => trivial
  cat := fun h t => ⟨_, h, t⟩
  put := fun {K T W H L d y z k l} a e h hl => by
    cases d with
    | int i => cases e; cases a; exact DPut.k (k := .inl i) h hl
    | str x => cases e; cases a; exact DPut.k (k := .inr x) h hl
    | _ => cases e
  nt := fun _ _ z => by cases z
  laid := fun I => I.laid (t' := _) (fun b o e => Heap.get?_push_of_some _ e) (Nat.le_refl _) (dk_empty _ I.big)
section
variable {κ : Type} [DecidableEq κ] {K : PySem.W.Frag} {T : Tb} {W : Wd} {H : Hp}
def putG (kvs : List (κ × D)) (k : κ) (d : D) : List (κ × D) := if (kvs.any fun kv => decide (kv.1 = k)) = true then kvs.map (fun kv => if kv.1 = k then (kv.1, d) else kv) else kvs ++ [(k, d)]
theorem anyG_zip (k : κ) : ∀ (kvs : List (κ × D)) (vs : List V), AtL K T W H (kvs.map (·.2)) vs → ((kvs.map (·.1)).zip vs).any (fun kv => decide (kv.1 = k)) = kvs.any fun kv => decide (kv.1 = k)
  | [], _, .nil => rfl
  | (j, e) :: r, _, .cons (v := u) (vs := vs) a t => by
    simp only [List.map_cons, List.zip_cons_cons, List.any_cons, anyG_zip k r vs t]
theorem mapG_zip {d : D} {v : V} (k : κ) (b : At K T W H d v) : ∀ (kvs : List (κ × D)) (vs : List V), AtL K T W H (kvs.map (·.2)) vs → ∃ us,
    ((kvs.map (·.1)).zip vs).map (fun kv => if kv.1 = k then (kv.1, v) else kv) = ((kvs.map fun kv => if kv.1 = k then (kv.1, d) else kv).map (·.1)).zip us ∧
      AtL K T W H ((kvs.map fun kv => if kv.1 = k then (kv.1, d) else kv).map (·.2)) us
  | [], _, .nil => ⟨[], rfl, .nil⟩
  | (j, e) :: r, _, .cons (v := u) (vs := vs) a t => by
    obtain ⟨us, h1, h2⟩ := mapG_zip k b r vs t
    by_cases q : j = k
    · exact ⟨v :: us, by simp only [List.map_cons, List.zip_cons_cons, if_pos q, h1], by simp only [List.map_cons, if_pos q]; exact .cons b h2⟩
    · exact ⟨u :: us, by simp only [List.map_cons, List.zip_cons_cons, if_neg q, h1], by simp only [List.map_cons, if_neg q]; exact .cons a h2⟩
theorem zipG_snoc {k : κ} {v : V} : ∀ (kvs : List (κ × D)) (vs : List V), AtL K T W H (kvs.map (·.2)) vs → (kvs.map (·.1)).zip vs ++ [(k, v)] = ((kvs.map (·.1)) ++ [k]).zip (vs ++ [v])
  | [], _, .nil => rfl
  | (j, e) :: r, _, .cons a t => by
    simp only [List.map_cons, List.zip_cons_cons, List.cons_append, zipG_snoc r _ t]
theorem putG_zip {d : D} {v : V} (k : κ) (b : At K T W H d v) (kvs : List (κ × D)) (vs : List V) (t : AtL K T W H (kvs.map (·.2)) vs) : ∃ us,
    putK ((kvs.map (·.1)).zip vs) k v = ((putG kvs k d).map (·.1)).zip us ∧ AtL K T W H ((putG kvs k d).map (·.2)) us := by
  unfold putK putG
  rw [anyG_zip k kvs vs t]
  by_cases q : (kvs.any fun kv => decide (kv.1 = k)) = true
  · rw [if_pos q, if_pos q]
    exact mapG_zip k b kvs vs t
  · rw [if_neg q, if_neg q]
    exact ⟨vs ++ [v], by rw [zipG_snoc kvs vs t, List.map_append, List.map_singleton], by rw [List.map_append, List.map_singleton]; exact t.append (.cons b .nil)⟩
/-- an object that was set aside becomes a live cell -/
theorem Rep.raiseC (r : Rep K T W H) {L : Addr} {g : Addr → Prop} {c : C} (hg : ∀ a, g a → W.G a) (gL : W.G L) (nL : ¬ g L) (hc : ∀ {W' : Wd}, Exz W H W' H → CellAt K T W' H L c) :
    Rep K T ((W.wG g).push L c) H ∧ Exz W H ((W.wG g).push L c) H := by
  have xz : Exz W H ((W.wG g).push L c) H := ⟨fun b o e f => ⟨e, fun z => by
      rcases push_live (W := W.wG g) r.len z with z | z
      · exact f.1 z
      · exact f.2 (by rw [z]; exact gL), fun z => f.2 (hg b z)⟩, fun j a h => by
      show (W.A ++ [L])[j]? = some a
      rw [List.getElem?_append_left (List.getElem?_eq_some_iff.mp h).1]; exact h⟩
  have nl : ¬ W.Live L := r.aside_not gL
  refine ⟨⟨?_, fun i j a ci cj h1 h2 h3 h4 l1 l2 => ?_, fun j a d h1 h2 => ?_, fun a l z => ?_, fun a z => r.gth a (hg a z)⟩, xz⟩
  · show (W.A ++ [L]).length = (W.cs ++ [c]).length
    simp [r.len]
  · rcases push_at (W := W.wG g) r.len h1 h3 with ⟨x1, x2⟩ | ⟨x1, x2, _⟩
    · rcases push_at (W := W.wG g) r.len h2 h4 with ⟨y1, y2⟩ | ⟨y1, y2, _⟩
      · exact r.inj i j a ci cj x1 y1 x2 y2 l1 l2
      · exact absurd ⟨i, ci, by rw [← y2]; exact x1, x2, l1⟩ nl
    · rcases push_at (W := W.wG g) r.len h2 h4 with ⟨y1, y2⟩ | ⟨y1, y2, _⟩
      · exact absurd ⟨j, cj, by rw [← x2]; exact y1, y2, l2⟩ nl
      · rw [x1, y1]
  · rcases push_at (W := W.wG g) r.len h1 h2 with ⟨x1, x2⟩ | ⟨x1, x2, x3⟩
    · exact (r.cell j a d x1 x2).exz xz fun _ _ e => e
    · subst x2 x3
      exact hc xz
  · rcases push_live (W := W.wG g) r.len l with l | l
    · exact r.apart a l (hg a z)
    · exact nL (by rw [← l]; exact z)
end
def dcG {κ : Type} [DecidableEq κ] (kd : DKnd κ) (g : WG) (mt : WT) (mk mv : WE) (sl : Sl) (Q : List (κ × D) → Cells → Prop) : List D → List (κ × D) → Cells → Prop
  | [], kvs, cs => Q kvs cs
  | d :: ds, kvs, cs => g d sl cs fun sl2 cs2 => mt sl2 cs2 (fun b cs3 => if b = true then mk sl2 cs3 (fun y cs4 => mv sl2 cs4 (fun z cs5 => match kd.key y with
      | some k => kvs.length < sizeLine ∧ dcG kd g mt mk mv sl Q ds (putG kvs k z) cs5
      | none => False) (fun _ _ _ => False)) (fun _ _ _ => False) else dcG kd g mt mk mv sl Q ds kvs cs3) (fun _ _ _ => False)
def wDc {κ : Type} [DecidableEq κ] (kd : DKnd κ) (mi : WA) (g : WG) (mt : WT) (mk mv : WE) (vs : List Nat) : WE := fun sl cs Q X => mi sl cs (fun ds cs1 => dcG kd g mt mk mv (wipeD sl vs) (fun kvs cs2 => Q (.root cs2.length) (cs2 ++ [kd.cell kvs])) ds [] cs1) X
section
variable {X : Cx} {T : Tb} {E : XK} {κ : Type} [DecidableEq κ]
theorem dc_ok (kd : DKnd κ) {mi : WA} {g : WG} {gs : List Nat} {mt : WT} {mk mv : WE} {vs : List Nat} {wi : TI} (hgs : ∀ i ∈ gs, i ∈ vs)
    (s1 : ∀ sl W σ H Q' X' R, SlAt X.K T W H sl σ → Rep X.K T W H → mi sl W.cs Q' X' → (∀ ds W1 J H1, Q' ds W1.cs → Ext W H W1 H1 → Rep X.K T W1 H1 → ItOK X.K T J ds W1 H1 → R J H1) → PostX X.K T W H X' E → wi σ H R)
    {sl : Sl} {W : Wd} {σ : L2.St} {H : Hp} {Q' : WQ} {X' : XQ} {Q : VK} (hs : SlAt X.K T W H sl σ) (rp : Rep X.K T W H) (h : wDc kd mi g mt mk mv vs sl W.cs Q' X')
    (po : ∀ W' l H', Q' (.root (W'.cs.length - 1)) W'.cs → Ext W H W' H' → Rep X.K T W' H' → At X.K T W' H' (.root (W'.cs.length - 1)) (.ref l) → Q (.ref l) H') (px : PostX X.K T W H X' E) :
    tC1 (fun _ => kd.ob []) wi (canG X.K T g gs) (canT X.K T E0 mt) (fun D σ H Nx => canE X.K T E0 mk σ H fun y H4 => canE X.K T E0 mv σ H4 fun z H5 => ∃ H', DPut H5 D y z H' ∧ Nx H') vs σ H Q := by
  refine s1 sl W σ H _ X' _ hs rp h (fun ds W1 J H1 q1 x1 r1 ok => ?_) px
  intro L hL
  refine ⟨fun i m H' => ∃ Wi kvs us, H' L = some (kd.ob ((kvs.map (·.1)).zip us)) ∧ AtL X.K T Wi H' (kvs.map (·.2)) us ∧ (∀ a, W1.G a → Wi.G a) ∧ Wi.G L ∧ Rep X.K T Wi H' ∧ Ex0 W1 H1 Wi H' ∧ m = ds.length - i ∧ i ≤ ds.length ∧
      dcG kd g mt mk mv (wipeD sl vs) (fun kvs cs2 => Q' (.root cs2.length) (cs2 ++ [kd.cell kvs])) (ds.drop i) kvs Wi.cs,
    ⟨_, W1.wG fun a => W1.G a ∨ a = L, [], [], upd_same, .nil, fun a z => .inl z, .inr rfl, r1.lay hL (kd.nt _), .lay hL, rfl, Nat.zero_le _, by rw [List.drop_zero]; exact q1⟩, ?_⟩
  rintro i m H2 ⟨Wi, kvs, us, hu, au, g1, gL, r2, x2, rfl, hi, q2⟩
  have comp : ∀ {W3 : Wd} {H3 : Hp}, Ext Wi H2 W3 H3 → Ex0 W1 H1 W3 H3 := fun {W3 H3} x3 =>
    ⟨fun b o e l => let ⟨e1, l1⟩ := x2.keep b o e l; x3.keep b o e1 l1, fun j a e => x3.pre j a (x2.pre j a e), fun b hb z => by rw [x3.g] at z; exact x2.gk b hb z⟩
  by_cases hlt : i < ds.length
  · refine .inr ⟨ok.go i Wi H2 x2.z r2 hlt, fun H' => ∃ Wi kvs us, H' L = some (kd.ob ((kvs.map (·.1)).zip us)) ∧ AtL X.K T Wi H' (kvs.map (·.2)) us ∧ (∀ a, W1.G a → Wi.G a) ∧ Wi.G L ∧ Rep X.K T Wi H' ∧ Ex0 W1 H1 Wi H' ∧
      dcG kd g mt mk mv (wipeD sl vs) (fun kvs cs2 => Q' (.root cs2.length) (cs2 ++ [kd.cell kvs])) (ds.drop (i + 1)) kvs Wi.cs,
      fun H' ⟨Wj, kvs, us, z1, z2, z4, z5, z6, z7, z8⟩ => ⟨ds.length - (i + 1), by omega, Wj, kvs, us, z1, z2, z4, z5, z6, z7, rfl, hlt, z8⟩, fun y H3 hy => ?_⟩
    obtain ⟨d, ed, x3, r3, a3⟩ := ok.yld i Wi H2 y H3 x2.z r2 hlt hy
    have hd : ds.drop i = d :: ds.drop (i + 1) := by
      rw [List.drop_eq_getElem_cons hlt]
      congr 1
      exact Option.some.inj ((List.getElem?_eq_getElem hlt).symm.trans ed)
    rw [hd] at q2
    have hs3 : SlAt X.K T Wi H3 (wipeD sl vs) (wipe σ vs) := ((hs.ext x1).ex0 (comp x3)).wipe vs
    have nl : ¬ Wi.Live L := r2.aside_not gL
    have hu3 := (x3.keep L _ hu nl).1
    refine ⟨_, Wi, d, _, hs3, r3, a3, q2, fun sl4 σ4 q4 hs4 l4 f4 => ⟨wipe_eq hgs l4 f4, ?_⟩⟩
    refine ⟨sl4, Wi, _, _, hs4, r3, q4, fun b W5 H5 q5 x5 r5 => ?_, post_no⟩
    have hu5 := x5.keep L _ hu3 nl
    have au5 := (au.ext x3).ext x5
    cases b with
    | true =>
      have q5 : mk sl4 W5.cs (fun y cs4 => mv sl4 cs4 (fun z cs5 => match kd.key y with
        | some k => kvs.length < sizeLine ∧ dcG kd g mt mk mv (wipeD sl vs) (fun kvs cs2 => Q' (.root cs2.length) (cs2 ++ [kd.cell kvs])) (ds.drop (i + 1)) (putG kvs k z) cs5
        | none => False) (fun _ _ _ => False)) (fun _ _ _ => False) := q5
      refine iteT ⟨sl4, W5, _, _, hs4.ext x5, r5, q5, fun dy W6 y6 H6 q6 x6 r6 a6 => ?_, post_no⟩
      refine ⟨sl4, W6, _, _, (hs4.ext x5).ext x6, r6, q6, fun dz W7 z7 H7 q7 x7 r7 a7 => ?_, post_no⟩
      have hu6 := x6.keep L _ hu5.1 hu5.2
      have hu7 := x7.keep L _ hu6.1 hu6.2
      have gL7 : W7.G L := by rw [x7.g, x6.g, x5.g]; exact gL
      split at q7
      · rename_i k ek
        obtain ⟨hz, q7⟩ := q7
        have au7 := (au5.ext x6).ext x7
        have hl : ((kvs.map (·.1)).zip us).length < sizeLine := by
          rw [List.length_zip, List.length_map]
          omega
        obtain ⟨us', z1, z2⟩ := putG_zip k a7 kvs us au7
        refine ⟨_, kd.put (a6.ext x7) ek hu7.1 hl, W7, putG kvs k dz, us', by rw [upd_same, z1], z2.exz (.aside gL7), fun a z => by rw [x7.g, x6.g, x5.g]; exact g1 a z, gL7, r7.aside gL7 (kd.nt _), ?_, q7⟩
        have x0 := comp ((x3.trans x5).trans (x6.trans x7))
        exact ⟨fun b o e l => let ⟨e1, l1⟩ := x0.keep b o e l; ⟨by rw [upd_ne (ne_of_none e hL)]; exact e1, l1⟩, x0.pre, x0.gk⟩
      · exact q7.elim
    | false =>
      have q5 : dcG kd g mt mk mv (wipeD sl vs) (fun kvs cs2 => Q' (.root cs2.length) (cs2 ++ [kd.cell kvs])) (ds.drop (i + 1)) kvs W5.cs := q5
      exact iteF ⟨W5, kvs, us, hu5.1, au5, fun a z => by rw [x5.g]; exact g1 a z, by rw [x5.g]; exact gL, r5, comp (x3.trans x5), q5⟩
  · have e : i = ds.length := by omega
    subst e
    rw [List.drop_length] at q2
    refine .inl ⟨ok.stop _ Wi H2 x2.z r2 (Nat.le_refl _), ?_⟩
    have nL : ¬ W1.G L := fun z => (by obtain ⟨u, e, _⟩ := r1.gth L z; rw [hL] at e; cases e)
    obtain ⟨r3, xz⟩ := r2.raiseC (c := kd.cell kvs) g1 gL nL fun xz => kd.cat hu (au.exz xz)
    have el : ((Wi.wG W1.G).push L (kd.cell kvs)).cs.length - 1 = Wi.cs.length := by
      show (Wi.cs ++ [kd.cell kvs]).length - 1 = _
      simp
    have xf : Ext W1 H1 ((Wi.wG W1.G).push L (kd.cell kvs)) H2 := ⟨fun b o e l => let ⟨e1, l1⟩ := x2.keep b o e l; ⟨e1, fun z => by
        rcases push_live r2.len z with z | z
        · exact l1 z
        · rw [z, hL] at e; cases e⟩, fun j a e => xz.pre j a (x2.pre j a e), rfl⟩
    refine po ((Wi.wG W1.G).push L (kd.cell kvs)) L H2 (by rw [el]; exact q2) (x1.trans xf) r3 (.root ?_)
    rw [el]
    show (Wi.A ++ [L])[Wi.cs.length]? = some L
    rw [← r2.len, List.getElem?_append_right (Nat.le_refl _), Nat.sub_self]
    rfl
variable {kx vx tg iter : Expr} {ifs : List Expr} {scope : Scope} {own : List (Str × Nat)} {pos : Pos} {mi : WA} {g : WG} {gs : List Nat} {mt : WT} {mk mv : WE}
theorem de_dc (kd : DKnd κ) (hu : X.A.units < cLine) (hc : X.calm = true) (hN : X.N.Nodup) (hi : DI X T E tg iter mi) (ok : BlkOk X.N X.env.scope scope own) (hgs : ∀ i ∈ gs, i ∈ own.map (·.2))
    (hg : ∀ (s : Shared) (H : Hp) (C : Addr) (cl : List (Str × Addr)) (fp : List Addr), DG (X.blk s H scope (compEnvC scope cl C X.env) fp) T tg g gs) (ht : ∀ (s : Shared) (H : Hp) (C : Addr) (cl : List (Str × Addr)) (fp : List Addr), DTs (X.blk s H scope (compEnvC scope cl C X.env) fp) T E0 ifs mt)
    (hk : ∀ (s : Shared) (H : Hp) (C : Addr) (cl : List (Str × Addr)) (fp : List Addr), DE (X.blk s H scope (compEnvC scope cl C X.env) fp) T E0 kx mk)
    (hv : ∀ (s : Shared) (H : Hp) (C : Addr) (cl : List (Str × Addr)) (fp : List Addr), DE (X.blk s H scope (compEnvC scope cl C X.env) fp) T E0 vx mv) (hs : ∀ x, foldedSetIterable iter X.env x = pure x := by intro _; rfl) :
    DE X T E (.DictComp kx vx [⟨tg, iter, ifs, 0⟩] scope pos) (wDc kd mi g mt mk mv (own.map (·.2))) := by
  obtain ⟨wi, p1, s1⟩ := hi.ex
  refine ⟨tC1 (fun _ => kd.ob []) wi (canG X.K T g gs) (canT X.K T E0 mt) (fun D σ H Nx => canE X.K T E0 mk σ H fun y H4 => canE X.K T E0 mv σ H4 fun z H5 => ∃ H', DPut H5 D y z H' ∧ Nx H') (own.map (·.2)), ⟨fun pins s σ H Q I h => ?_⟩, fun sl W σ H Q' X' Q hs rp h po px => dc_ok kd hgs s1 hs rp h (fun W' l H' q x r a => po _ W' _ H' q x r a) px⟩
  rw [arm_eval_DictComp]
  refine compG (c := .DictComp kx vx [⟨tg, iter, ifs, 0⟩] scope pos) (e := eDict X.prog X.w X.A kx vx) (ob := { cls := .type "dict", data := .dict #[] })
    rfl turn_dict (fun _ _ _ => rfl) (fun _ _ _ => rfl) (fun _ _ _ => rfl) (fun h0 h => codeAny_compStart_dict h0 h) (fun h => wpAny_newObj_type h) (fun I2 => kd.laid I2)
    hc hN I p1 ok (fun s H C cl fp => (hg s H C cl fp).can) (fun s H C cl fp => (ht s H C cl fp).can) (fun s0 H0 C cl fp => pb_dict hu (hk s0 H0 C cl fp).can (hv s0 H0 C cl fp).can) hs h fun D C s' m H' I' q hn f => ⟨m, hn, fun h'' sb => ?_⟩
  obtain ⟨f0, f1, f2, f3, f4, f5⟩ := f
  exact ⟨.ref D, H', I'.turned (t' := s'.toks) (fun b o hb e => (sb.2 b hb).trans e) f0 f1 f3 f4 f5, rfl, q⟩
theorem sw_trueD {gs' : List Comprehension} {py : Pos} {y : Str} {l : Nat} {env : Env} (hk : env.scope.kind = .function) (hy : env.scope.names.lookup y = some .local) (hl : (py.line == pos.line) = true)
    (ha : (scope.names.any fun (n, k) => n == y && (k == .local || k == .cell)) = false) : swapsWith (.DictComp kx vx gs' scope pos) (some (.Name y py)) l env = pure true := by
  have ky : env.kindOf y = some .local := hy
  have hb : env.blockKind = .function := by unfold Env.blockKind; rw [hk]; rfl
  unfold swapsWith
  simp only [hb, ky, ha, Expr.pos, hl]
  rfl
/-- name = {..} on one line, the name a local -/
theorem ds_dc (kd : DKnd κ) {i : Nat} {y : Str} {py spos : Pos} (hu : X.A.units < cLine) (hc : X.calm = true) (hN : X.N.Nodup) (hyl : X.env.scope.names.lookup y = some .local)
    (hsw : swapsWith (.DictComp kx vx [⟨tg, iter, ifs, 0⟩] scope pos) (some (.Name y py)) spos.line X.env = pure true) (hi : DI X T E tg iter mi) (ok : BlkOk X.N X.env.scope scope own) (hgs : ∀ i ∈ gs, i ∈ own.map (·.2))
    (hg : ∀ (s : Shared) (H : Hp) (C : Addr) (cl : List (Str × Addr)) (fp : List Addr), DG (X.blk s H scope (compEnvC scope cl C X.env) fp) T tg g gs) (ht : ∀ (s : Shared) (H : Hp) (C : Addr) (cl : List (Str × Addr)) (fp : List Addr), DTs (X.blk s H scope (compEnvC scope cl C X.env) fp) T E0 ifs mt)
    (hk : ∀ (s : Shared) (H : Hp) (C : Addr) (cl : List (Str × Addr)) (fp : List Addr), DE (X.blk s H scope (compEnvC scope cl C X.env) fp) T E0 kx mk)
    (hv : ∀ (s : Shared) (H : Hp) (C : Addr) (cl : List (Str × Addr)) (fp : List Addr), DE (X.blk s H scope (compEnvC scope cl C X.env) fp) T E0 vx mv) (hy : X.N[i]? = some y := by rfl) (hs : ∀ x, foldedSetIterable iter X.env x = pure x := by intro _; rfl) :
    DS X T E (.Assign [.Name y py] (.DictComp kx vx [⟨tg, iter, ifs, 0⟩] scope pos) spos) (wAsg (wDc kd mi g mt mk mv (own.map (·.2))) (wgName i)) := by
  obtain ⟨wi, p1, s1⟩ := hi.ex
  refine ⟨tAsg (tC1 (fun _ => kd.ob []) wi (canG X.K T g gs) (canT X.K T E0 mt) (fun D σ H Nx => canE X.K T E0 mk σ H fun y H4 => canE X.K T E0 mv σ H4 fun z H5 => ∃ H', DPut H5 D y z H' ∧ Nx H') (List.map (fun p : Str × Nat => p.2) own)) (gName i), ⟨fun pins s σ H D I h => ?_⟩,
    fun sl W σ H D' Dn hs rp h p => dc_ok (Q := fun x H1 => gName i x σ H1 Dn.nx) kd hgs s1 hs rp h (fun W' l H' q x r a => p.nx _ W' _ H' q x r ((hs.ext x).set i a)) p.xq⟩
  rw [exec_Assign_Name_used _ _ _ _ hsw]
  refine wpAny_bind (wpAny_standAt (wpAny_bind ?_))
  show wpAny _ X.A (do let _ ← comprehension (.DictComp kx vx [⟨tg, iter, ifs, 0⟩] scope pos) scope X.env (firstIterPos [⟨tg, iter, ifs, 0⟩] pos) newDict false (eval iter X.env) (some (assign (.Name y py) X.env))) _ _ s
  refine wpAny_bind (thn (compG (c := .DictComp kx vx [⟨tg, iter, ifs, 0⟩] scope pos) (e := eDict X.prog X.w X.A kx vx) (ob := { cls := .type "dict", data := .dict #[] }) (Q := fun x H1 => gName i x σ H1 D.nx) (Qf := fun _ s' => SP X pins D .next s')
    rfl turn_dict (fun _ _ _ => rfl) (fun _ _ _ => rfl) (fun _ _ _ => rfl) (fun h0 h => codeAny_compStart_dict h0 h) (fun h => wpAny_newObj_type h) (fun I2 => kd.laid I2)
    hc hN I p1 ok (fun s H C cl fp => (hg s H C cl fp).can) (fun s H C cl fp => (ht s H C cl fp).can) (fun s0 H0 C cl fp => pb_dict hu (hk s0 H0 C cl fp).can (hv s0 H0 C cl fp).can) hs h fun L C s' m H' I' q hn f => ?_) fun _ s' hq => wpAny_pure (wpAny_pure hq))
  show wpAny _ _ (assign (.Name y py) X.env (.ref L)) _ _ _
  refine wpAny_assign_Name (store_ok2 (v := V.ref L) I' hN hy (.inl hyl) rfl (fun s2 I2 ⟨a, sb, ha⟩ => ?_) (.inr hyl))
  obtain ⟨f0, f1, f2, f3, f4, f5⟩ := f
  have haC : C ≠ a := by
    rcases ha with z | z
    · rw [z]; exact f1
    · exact fun e => f4 y a z e.symm
  exact ⟨m, hn.sameBut sb haC, fun h3 sb3 => ⟨_, H', I2.turned (t' := s2.toks) (fun b o hb e => (sb3.2 b hb).trans e) f0 f1 f3 f4 f5, q⟩⟩
end
/-! ### d[k], keys ints -/
def valG {κ : Type} [DecidableEq κ] (kvs : List (κ × D)) (k : κ) : Option D := (kvs.find? fun kv => decide (kv.1 = k)).map (·.2)
theorem valG_zip {κ : Type} [DecidableEq κ] {K : PySem.W.Frag} {T : Tb} {W : Wd} {H : Hp} (k : κ) : ∀ (kvs : List (κ × D)) (vs : List V), AtL K T W H (kvs.map (·.2)) vs → ∀ d, valG kvs k = some d → ∃ v, valV ((kvs.map (·.1)).zip vs) k = some v ∧ At K T W H d v
  | [], _, .nil, d, h => by cases h
  | (j, e) :: r, _, .cons (v := u) (vs := vs) a t, d, h => by
    unfold valG at h
    by_cases q : j = k
    · subst q
      rw [List.find?_cons, decide_eq_true (rfl : (j, e).1 = j)] at h
      cases h
      exact ⟨u, by simp [valV, List.find?_cons], a⟩
    · rw [List.find?_cons, decide_eq_false (show ¬ (j, e).1 = k from q)] at h
      obtain ⟨v, h1, h2⟩ := valG_zip k r vs t d h
      refine ⟨v, ?_, h2⟩
      simp only [List.map_cons, List.zip_cons_cons, valV, List.find?_cons, decide_eq_false q] at h1 ⊢
      exact h1
def wDIxK (mo mi : WE) : WE := fun sl cs Q X => mo sl cs (fun d cs1 => mi sl cs1 (fun y cs2 => match d with
  | .root j => match cs2[j]?, unkey y with
    | some (.dK kvs), some k => match valG kvs k with
      | some e => Q e cs2
      | none => False
    | _, _ => False
  | _ => False) X) X
theorem de_dixK {X : Cx} {T : Tb} {E : XK} {o i : Expr} {pos : Pos} {mo mi : WE} (hu : X.A.units + 1 < cLine) (ho : DE X T E o mo) (hi : DE X T E i mi) (hs : NoSl i := by intro _ _; rfl) : DE X T E (.Subscript o i pos) (wDIxK mo mi) := by
  obtain ⟨to, po, so⟩ := ho.ex
  obtain ⟨ti, pi, si⟩ := hi.ex
  refine ⟨_, pe_dget hu po pi hs, fun sl W σ H Q' X' Q hs rp h p px => ?_⟩
  refine so sl W σ H _ X' _ hs rp h (fun d W1 v H1 q1 x1 r1 a1 => ?_) px
  refine si sl W1 σ H1 _ X' _ (hs.ext x1) r1 q1 (fun y W2 u H2 q2 x2 r2 a2 => ?_) (px.st x1)
  have a1 := a1.ext x2
  split at q2
  · rename_i j
    split at q2
    · rename_i kvs k e1 e2
      split at q2
      · rename_i e ev
        cases a1 with
        | root hA =>
          obtain ⟨vs, h1, h2⟩ := r2.cell _ _ _ hA e1
          obtain ⟨w, z1, z2⟩ := valG_zip k kvs vs h2 e ev
          have ek : u = kV k := by
            cases y with
            | int i => cases e2; cases a2; rfl
            | str x => cases e2; cases a2; rfl
            | _ => cases e2
          exact ⟨_, w, rfl, by rw [ek, ← z1]; exact DGet.k h1, p _ W2 _ H2 q2 (x1.trans x2) r2 z2⟩
      · exact q2.elim
    · exact q2.elim
  · exact q2.elim
end DL
namespace DL
open PySem PySem.Spec PyProof.Rows L2

/-! ### == of lists (and tuples) that hold objects with an == of their own, where it comes out true -/
def lstOf (cs : Cells) : D → Option (List D)
  | .lst ds => some ds
  | .root j => match cs[j]? with
    | some (.lst ds) => some ds
    | some (.fz (.lst ds)) => some ds
    | _ => none
  | _ => none
theorem lstOf_at {K : PySem.W.Frag} {T : Tb} {W : Wd} {H : Hp} {d : D} {v : V} {ds : List D} (r : Rep K T W H) (a : At K T W H d v) (e : lstOf W.cs d = some ds) : ∃ l vs, v = .ref l ∧ H l = some (.lst vs) ∧ AtL K T W H ds vs := by
  cases a with
  | lst h f t => cases e; exact ⟨_, _, rfl, h, t⟩
  | @root j a h =>
    unfold lstOf at e
    simp only at e
    split at e
    · rename_i es q
      cases e
      obtain ⟨vs, h1, h2⟩ := r.cell j a _ h q
      exact ⟨a, vs, rfl, h1, h2⟩
    · rename_i es q
      cases e
      have z : At K T W H (.lst ds) (.ref a) := r.cell j a _ h q
      cases z with
      | lst h f t => exact ⟨a, _, rfl, h, t⟩
    · cases e
  | _ => cases e
def EqP0 (S : SD) (n : Nat) (cs : Cells) (x y : D) : Prop := (∃ i, x = .int i ∧ y = .int i) ∨ (∃ i, x = .str i ∧ y = .str i) ∨ (∃ i, x = .bl i ∧ y = .bl i) ∨ (x = .non ∧ y = .non) ∨
  ∃ ds es, x = .ins n ds ∧ y = .ins n es ∧ S [x, y] cs (fun r cs' => r = .bl true ∧ cs' = cs) (fun _ _ _ => False)
def EqP (S : SD) (n : Nat) (cs : Cells) : Nat → D → D → Prop
  | 0, x, y => EqP0 S n cs x y
  | m + 1, x, y => EqP0 S n cs x y ∨ (∃ xs ys, lstOf cs x = some xs ∧ lstOf cs y = some ys ∧ xs.length = ys.length ∧ ∀ (i : Nat) a b, xs[i]? = some a → ys[i]? = some b → EqP S n cs m a b) ∨
      ∃ xs ys, x = .tup xs ∧ y = .tup ys ∧ xs.length = ys.length ∧ ∀ (i : Nat) a b, xs[i]? = some a → ys[i]? = some b → EqP S n cs m a b
section
variable {X : Cx} {T : Tb} {E : XK} {k n : Nat} {f : Addr} {fd : FuncData} {ps : List Str} {S : SD}
/-- what such a comparison leaves -/
def EqLeft (X : Cx) (T : Tb) (pins : List (Addr × Obj)) (σ : L2.St) (W : Wd) (H : Hp) (s : Shared) : Prop := ∃ W' H', Inv X pins σ H' s ∧ Ext W H W' H' ∧ Rep X.K T W' H' ∧ W'.cs = W.cs
theorem eqP_flat {A : Around} {pins : List (Addr × Obj)} {s : Shared} {σ : L2.St} {H : Hp} {W : Wd} {x y : V} {u v : Value} (I : Inv X pins σ H s) (r : Rep X.K T W H) (rx : L2.RelV x u) (ry : L2.RelV y v) (fx : flatV x = true) (fy : flatV y = true) (e : eqV x y = true) :
    wpAny (model X.prog X.w) A (eqBool u v) (fun r s' => r = true ∧ EqLeft X T pins σ W H s') X.xe s := by
  have q := eqAt_V (A := A) (s := s) rx ry fx fy
  rw [e] at q
  exact q X.prog X.w X.xe _ ⟨rfl, W, H, I, .refl, r, rfl⟩
theorem eqP0_run (F : DFn X.prog X.w X.K X.mg X.base T CX0 k f fd ps S) (B : FnB X.K f fd ps) (m : Meth X.K (T.cl n) "__eq__" f) {A : Around} (hg : A.guards = some []) (hr : Room k A) (hf : A.frames = X.A.frames)
    {pins : List (Addr × Obj)} {s : Shared} {σ : L2.St} {H : Hp} {W : Wd} {x y : V} {u v : Value} {d e : D} (I : Inv X pins σ H s) (r : Rep X.K T W H) (ad : At X.K T W H d x) (ae : At X.K T W H e y) (rx : L2.RelV x u) (ry : L2.RelV y v) (h : EqP0 S n W.cs d e) :
    wpAny (model X.prog X.w) A (eqBool u v) (fun r s' => r = true ∧ EqLeft X T pins σ W H s') X.xe s := by
  rcases h with ⟨i, rfl, rfl⟩ | ⟨i, rfl, rfl⟩ | ⟨i, rfl, rfl⟩ | ⟨rfl, rfl⟩ | ⟨ds, es, rfl, rfl, hs⟩
  · cases ad; cases ae
    exact eqP_flat I r rx ry rfl rfl (by simp [eqV])
  · cases ad; cases ae
    exact eqP_flat I r rx ry rfl rfl (by simp [eqV])
  · cases ad; cases ae
    exact eqP_flat I r rx ry rfl rfl (by simp [eqV])
  · cases ad; cases ae
    exact eqP_flat I r rx ry rfl rfl (by simp [eqV])
  · cases ad with
    | @ins a dx _ vs _ h1 l1 f1 t1 =>
      cases ae with
      | @ins b dy _ us _ h2 l2 f2 t2 =>
        cases rx
        cases ry
        by_cases hab : a = b
        · subst hab
          exact SeqAt.EqAt.same (A := A) (s := s) (.ref a) X.prog X.w X.xe _ ⟨rfl, W, H, I, .refl, r, rfl⟩
        · obtain ⟨mA, J, _⟩ := ins_get I.hok h1
          obtain ⟨mB, J', _⟩ := ins_get I.hok h2
          obtain ⟨od, J, _⟩ := J.look
          obtain ⟨od', J', _⟩ := J'.look
          obtain ⟨m', hF⟩ := I.fr
          refine GQ.eqBool_refG hab ?_
          refine PySem.W.cmp_K (op := .Eq) (tb := .ref (T.cl n)) hr.units0 hF I.ok.mod.kin J J'.type (by simp [PySem.W.notFirst]) m.at_ m.fn ?_
          have r2 : Vals [V.ref a, V.ref b] [Value.ref a, Value.ref b] := .cons (show L2.RelV (.ref a) (.ref a) from rfl) (.cons (show L2.RelV (.ref b) (.ref b) from rfl) .nil)
          have sp : spD X.K T S [.ref a, .ref b] H (fun v H' => v = .bl true ∧ ∃ W', Ext W H W' H' ∧ Rep X.K T W' H' ∧ W'.cs = W.cs) E0 :=
            ⟨_, W, _, _, .cons (.ins h1 l1 f1 t1) (.cons (.ins h2 l2 f2 t2) .nil), r, hs, fun d W' v H' q x r' at' => by
              obtain ⟨q1, q2⟩ := q
              subst q1
              cases at'
              exact ⟨rfl, W', x, r', q2⟩, fun _ _ _ _ _ _ z => z.elim⟩
          have hl : ([Value.ref a, Value.ref b] ++ []).length = ps.length := by rw [List.append_nil, ← r2.length]; exact F.len _ _ _ _ sp
          have bd := B.b s [Value.ref a, Value.ref b] I.kIn hl
          rw [List.append_nil] at bd
          have e0 : Env0 X.prog X.w X.K X.mg X.base A X.stack s H := by
            have e := I.env0
            exact ⟨by rw [hf]; exact e.frames, e.mod, e.bs, e.bsz, e.funs, e.frf, e.hok, e.bare⟩
          refine wpAny_call (codeAny_mono (F.run A X.stack s H ⟨[.ref a, .ref b], []⟩ _ _ _ E0 hg hr e0 bd r2 sp) fun q s' hq' => ?_)
          rcases ends_of I pass0 hq' with ⟨r, e, z⟩ | ⟨e, e1, z⟩
          · subst e
            obtain ⟨v, H', I', rv, e1, W', x, r', q⟩ := z
            subst e1
            have rv : r = .bool true := rv
            subst rv
            exact ⟨true, rfl, rfl, W', H', I', x, r', q⟩
          · subst e1; exact z
theorem EqLeft.trans {pins : List (Addr × Obj)} {σ : L2.St} {W W1 : Wd} {H H1 : Hp} {s : Shared} (x : Ext W H W1 H1) (e : W1.cs = W.cs) (h : EqLeft X T pins σ W1 H1 s) : EqLeft X T pins σ W H s := by
  obtain ⟨W2, H2, I, y, r, q⟩ := h
  exact ⟨W2, H2, I, x.trans y, r, q.trans e⟩
theorem EqP0.up {m : Nat} {cs : Cells} {x y : D} (h : EqP0 S n cs x y) : EqP S n cs m x y := by
  cases m with
  | zero => exact h
  | succ m => exact .inl h
/-- item by item, where each pair comes out true -/
theorem eqP_turn {m : Nat} {A : Around} {pins : List (Addr × Obj)} {σ : L2.St} {H : Hp} {W : Wd} {ds es : List D} {xs ys : List V} {its its2 : List Value} {s' : Shared}
    (run : ∀ (s : Shared) (H : Hp) (W : Wd) (x y : V) (u v : Value) (d e : D), Inv X pins σ H s → Rep X.K T W H → At X.K T W H d x → At X.K T W H e y → L2.RelV x u → L2.RelV y v → EqP S n W.cs m d e → wpAny (model X.prog X.w) A.in1 (eqBool u v) (fun r s' => r = true ∧ EqLeft X T pins σ W H s') X.xe s)
    (I : Inv X pins σ H s') (r : Rep X.K T W H) (ax : AtL X.K T W H ds xs) (ay : AtL X.K T W H es ys) (rx : Vals xs its) (ry : Vals ys its2)
    (h : ∀ (i : Nat) a b, ds[i]? = some a → es[i]? = some b → EqP S n W.cs m a b) (i : Nat) (h1 : i < its.toArray.size) (h2 : i < its2.toArray.size) :
    wpAny (model X.prog X.w) A.in1 (eqBool its.toArray[i] its2.toArray[i]) (fun r s2 => r = true ∧ EqLeft X T pins σ W H s2) X.xe s' := by
  have g1 : its[i]? = some its.toArray[i] := by
    have h1' : i < its.length := by simpa using h1
    rw [List.getElem?_eq_getElem h1'] <;> simp
  have g2 : its2[i]? = some its2.toArray[i] := by
    have h2' : i < its2.length := by simpa using h2
    rw [List.getElem?_eq_getElem h2'] <;> simp
  have k1 : i < ds.length := by rw [ax.length, rx.length]; simpa using h1
  have k2 : i < es.length := by rw [ay.length, ry.length]; simpa using h2
  obtain ⟨x, hx, atx⟩ := ax.get' (List.getElem?_eq_getElem k1)
  obtain ⟨y, hy, aty⟩ := ay.get' (List.getElem?_eq_getElem k2)
  obtain ⟨u, hu, ru⟩ := rx.get hx
  obtain ⟨v, hv, rv⟩ := ry.get hy
  rw [g1] at hu
  rw [g2] at hv
  rw [Option.some.inj hu, Option.some.inj hv]
  exact run s' H W x y u v _ _ I r atx aty ru rv (h i _ _ (List.getElem?_eq_getElem k1) (List.getElem?_eq_getElem k2))
theorem rcP_list {m : Nat} {A : Around} (hr : Room (k + m + 1) A) {pins : List (Addr × Obj)} {σ : L2.St}
    (run : ∀ (s : Shared) (H : Hp) (W : Wd) (x y : V) (u v : Value) (d e : D), Inv X pins σ H s → Rep X.K T W H → At X.K T W H d x → At X.K T W H e y → L2.RelV x u → L2.RelV y v → EqP S n W.cs m d e → wpAny (model X.prog X.w) A.in1 (eqBool u v) (fun r s' => r = true ∧ EqLeft X T pins σ W H s') X.xe s)
    {s : Shared} {H : Hp} {W : Wd} {x y : V} {u v : Value} {d e : D} {xs ys : List D} (I : Inv X pins σ H s) (r : Rep X.K T W H) (ad : At X.K T W H d x) (ae : At X.K T W H e y) (rx : L2.RelV x u) (ry : L2.RelV y v)
    (e1 : lstOf W.cs d = some xs) (e2 : lstOf W.cs e = some ys) (hl : xs.length = ys.length) (h : ∀ (i : Nat) a b, xs[i]? = some a → ys[i]? = some b → EqP S n W.cs m a b) :
    wpAny (model X.prog X.w) A (richCompare .Eq u v) (fun v s' => v = .bool true ∧ EqLeft X T pins σ W H s') X.xe s := by
  obtain ⟨l, vs, rfl, _, _⟩ := lstOf_at r ad e1
  obtain ⟨l2, vs2, rfl, _, _⟩ := lstOf_at r ae e2
  cases rx
  cases ry
  refine GQ.rc_listG (N := xs.length) hr.units0 (fun _ s' => EqLeft X T pins σ W H s') (fun i s' q => ?_) (fun s' q => ⟨rfl, q⟩) ⟨W, H, I, .refl, r, rfl⟩
  obtain ⟨W1, H1, I1, x1, r1, c1⟩ := id q
  rw [← c1] at e1 e2 h
  obtain ⟨l', vs, z1, hv, av⟩ := lstOf_at r1 (ad.ext x1) e1
  obtain ⟨l2', vs2, z2, hv2, av2⟩ := lstOf_at r1 (ae.ext x1) e2
  cases z1
  cases z2
  obtain ⟨z, its, k, r, e⟩ := I1.hok _ _ hv
  obtain ⟨z2, its2, k2, r2, e2⟩ := I1.hok _ _ hv2
  refine ⟨its.toArray, its2.toArray, k, k2, e, e2, by rw [List.size_toArray, ← r.length, av.length], by rw [List.size_toArray, ← r2.length, ← av2.length, hl], fun h1 h2 => ?_⟩
  exact wpAny_mono (eqP_turn run I1 r1 av av2 r r2 h i h1 h2) (fun q s2 z => ⟨z.1, z.2.trans x1 c1⟩) fun _ _ z => z
theorem eqP_run (F : DFn X.prog X.w X.K X.mg X.base T CX0 k f fd ps S) (B : FnB X.K f fd ps) (hm : Meth X.K (T.cl n) "__eq__" f) {pins : List (Addr × Obj)} {σ : L2.St} : ∀ (m : Nat) (A : Around), A.guards = some [] → Room (k + m) A → A.frames = X.A.frames →
    ∀ (s : Shared) (H : Hp) (W : Wd) (x y : V) (u v : Value) (d e : D), Inv X pins σ H s → Rep X.K T W H → At X.K T W H d x → At X.K T W H e y → L2.RelV x u → L2.RelV y v → EqP S n W.cs m d e →
      wpAny (model X.prog X.w) A (eqBool u v) (fun r s' => r = true ∧ EqLeft X T pins σ W H s') X.xe s
  | 0, A, hg, hr, hf, s, H, W, x, y, u, v, d, e, I, r, ad, ae, rx, ry, h => eqP0_run F B hm hg hr hf I r ad ae rx ry h
  | m + 1, A, hg, hr, hf, s, H, W, x, y, u, v, d, e, I, r, ad, ae, rx, ry, h => by
    have ih := eqP_run F B hm (pins := pins) (σ := σ) m A.in1 hg (Room.in1 hr) hf
    rcases h with h | ⟨xs, ys, e1, e2, hl, h⟩ | ⟨xs, ys, rfl, rfl, hl, h⟩
    · exact eqP0_run F B hm hg (hr.mono (by omega)) hf I r ad ae rx ry h
    · obtain ⟨l, vs, rfl, _, _⟩ := lstOf_at r ad e1
      obtain ⟨l2, vs2, rfl, _, _⟩ := lstOf_at r ae e2
      by_cases hab : l = l2
      · subst hab
        cases rx
        cases ry
        exact SeqAt.EqAt.same (A := A) (s := s) (.ref l) X.prog X.w X.xe _ ⟨rfl, W, H, I, .refl, r, rfl⟩
      · have q := rcP_list (A := A) hr ih I r ad ae rx ry e1 e2 hl h
        cases rx
        cases ry
        exact GQ.eqBool_refG hab (wpAny_mono q (fun v s' z => ⟨true, z.1, rfl, z.2⟩) fun _ _ z => z)
    · cases ad with
      | @tup a vs _ h1 f1 t1 =>
        cases ae with
        | @tup b vs2 _ h2 f2 t2 =>
          cases rx
          cases ry
          by_cases hab : a = b
          · subst hab
            exact SeqAt.EqAt.same (A := A) (s := s) (.ref a) X.prog X.w X.xe _ ⟨rfl, W, H, I, .refl, r, rfl⟩
          · refine GQ.eqBool_refG hab ?_
            obtain ⟨its, r1, e1, z1⟩ := I.tuple (.inl (.inl h1))
            obtain ⟨its2, r2, e2, z2⟩ := I.tuple (.inl (.inl h2))
            have hsz : its.toArray.size = its2.toArray.size := by rw [List.size_toArray, List.size_toArray, ← r1.length, ← r2.length, ← t1.length, ← t2.length]; exact hl
            refine GQ.rc_tupG hsz hr.units0 (fun _ s' => EqLeft X T pins σ W H s') e1 e2 (fun i h1' h2' s' q => ?_) (fun s' q => ⟨true, rfl, rfl, q⟩) ⟨W, H, I, .refl, r, rfl⟩
            obtain ⟨W1, H1, I1, x1, q1, c1⟩ := id q
            rw [← c1] at h
            exact wpAny_mono (eqP_turn ih I1 q1 (t1.ext x1) (t2.ext x1) r1 r2 h i h1' h2') (fun q s2 z => ⟨z.1, z.2.trans x1 c1⟩) fun _ _ z => z
/-- at the top: two lists -/
def rEqL (X : Cx) (T : Tb) (S : SD) (n m : Nat) : R2 := fun x y H Q => ∃ W d e xs ys, Rep X.K T W H ∧ At X.K T W H d x ∧ At X.K T W H e y ∧ lstOf W.cs d = some xs ∧ lstOf W.cs e = some ys ∧ xs.length = ys.length ∧ (∀ (i : Nat) a b, xs[i]? = some a → ys[i]? = some b → EqP S n W.cs m a b) ∧
  ∀ W' H', Ext W H W' H' → Rep X.K T W' H' → W'.cs = W.cs → Q (.bl true) H'
def gEqL (m n : Nat) (S : SD) : G2 := fun d e cs Q => ∃ xs ys, lstOf cs d = some xs ∧ lstOf cs e = some ys ∧ xs.length = ys.length ∧ (∀ (i : Nat) a b, xs[i]? = some a → ys[i]? = some b → EqP S n cs m a b) ∧ Q (.bl true) cs
theorem op_eqL {m : Nat} (hg : X.A.guards = some []) (hr : Room (k + m + 1) X.A) (F : DFn X.prog X.w X.K X.mg X.base T CX0 k f fd ps S) (B : FnB X.K f fd ps) (hm : Meth X.K (T.cl n) "__eq__" f) : OpR X (compareOp .Eq) (rEqL X T S n m) := by
  intro pins s σ H x y v u Q I rx ry hq
  obtain ⟨W, d, e, xs, ys, r, ad, ae, e1, e2, hl, h, q⟩ := hq
  show wpAny (model X.prog X.w) X.A (richCompare .Eq v u) (EP X pins σ Q) X.xe s
  refine wpAny_mono (rcP_list (A := X.A) hr (eqP_run F B hm m X.A.in1 hg hr.in1 rfl) I r ad ae rx ry e1 e2 hl h) (fun v s' z => ?_) fun _ _ z => z
  obtain ⟨e, W', H', I', x', r', c'⟩ := z
  subst e
  exact ⟨.bl true, H', I', rfl, q W' H' x' r' c'⟩
theorem ok_eqL {m : Nat} : OkR X.K T (rEqL X T S n m) (gEqL m n S) := fun W H d e v u Q' Q r a b h p => by
  obtain ⟨xs, ys, e1, e2, hl, h, q⟩ := h
  exact ⟨W, d, e, xs, ys, r, a, b, e1, e2, hl, h, fun W' H' x' r' c' => p _ W' _ H' (by rw [c']; exact q) x' r' (.bl true)⟩
end
end DL
namespace DL
open PySem PySem.Spec PyProof.Rows L2

/-! ### math.gcd, math.factorial -/
section
variable {X : Cx} {T : Tb} {E : XK} {x : Str} {p pos : Pos} {a b : Expr} {mr : WA} {K : PySem.W.Frag}
def gGcd : GL := fun ds cs Q => match ds with
  | [.int a, .int b] => Q (.int ((Nat.gcd a.natAbs b.natAbs : Nat) : Int)) cs
  | _ => False
theorem ok_gcd : OkL K T rGcd gGcd := by
  intro W H ds vs Q' Q r t h p
  unfold gGcd at h
  split at h
  · cases t with
    | cons t1 t2 =>
      cases t1
      cases t2 with
      | cons t3 t4 =>
        cases t3
        cases t4
        exact ⟨_, _, rfl, p _ W _ H h .refl r (.int _)⟩
  · exact h.elim
theorem de_gcd (hm : X.mg x = some (.builtin "math.gcd")) (ha : DA X T E [a, b] mr) (hg : Gl X x := by rfl) (hdb : (x == ("__debug__" : Str)) = false := by decide)
    (he : starEach [a, b] X.env = (false, eval a X.env) :: starEach [b] X.env := by rfl) (hpl : (backTo pos (starEach [b] X.env)).any (·.1) = false := by rfl) : DE X T E (.Call (.Name x p) [a, b] [] pos) (wArg gGcd mr) := by
  obtain ⟨t, pa, sa⟩ := ha.ex
  exact ⟨_, pe_callBfun cr_gcd hg hm pa hdb he hpl, fun sl W σ H Q' X' Q hs rp h p px => args_ok ok_gcd sa hs rp h p px⟩
def rFac : List V → Hp → VK → Prop := fun vs H Q => ∃ a : Int, vs = [.int a] ∧ 0 ≤ a ∧ a ≤ 20000 ∧ Q (.int ((fct a.toNat : Nat) : Int)) H
theorem fct_fac : ∀ n : Nat, Builtin.Math.factorialNat n = fct n
  | 0 => rfl
  | n + 1 => by rw [PySem.W.mc_fac_succ, fct_fac n]; rfl
theorem vals1 {v : V} {us : List Value} (r : Vals [v] us) : ∃ u, us = [u] ∧ L2.RelV v u := by
  cases r with
  | cons h t => cases t; exact ⟨_, rfl, h⟩
theorem cr_fac : CallR X (.builtin "math.factorial") rFac := by
  intro pins s σ H vs us Q I r h
  obtain ⟨a, rfl, h0, h1, q⟩ := h
  obtain ⟨u, rfl, ru⟩ := vals1 r
  obtain ⟨t, rfl⟩ := (show ∃ t, u = Value.int a t from ru)
  refine PySem.W.mc_factorial h0 h1 fun _ => ⟨.int _, H, I.tok _, ⟨_, rfl⟩, ?_⟩
  rw [fct_fac]; exact q
def gFactorial : GL := fun ds cs Q => match ds with
  | [.int a] => 0 ≤ a ∧ a ≤ 20000 ∧ Q (.int ((fct a.toNat : Nat) : Int)) cs
  | _ => False
theorem ok_fac : OkL K T rFac gFactorial := by
  intro W H ds vs Q' Q r t h p
  unfold gFactorial at h
  split at h
  · cases t with
    | cons t1 t2 =>
      cases t1
      cases t2
      exact ⟨_, rfl, h.1, h.2.1, p _ W _ H h.2.2 .refl r (.int _)⟩
  · exact h.elim
theorem de_factorial (hm : X.mg x = some (.builtin "math.factorial")) (ha : DA X T E [a] mr) (hg : Gl X x := by rfl) (hdb : (x == ("__debug__" : Str)) = false := by decide)
    (he : starEach [a] X.env = (false, eval a X.env) :: starEach [] X.env := by rfl) (hpl : (backTo pos (starEach [] X.env)).any (·.1) = false := by rfl) : DE X T E (.Call (.Name x p) [a] [] pos) (wArg gFactorial mr) := by
  obtain ⟨t, pa, sa⟩ := ha.ex
  exact ⟨_, pe_callBfun cr_fac hg hm pa hdb he hpl, fun sl W σ H Q' X' Q hs rp h p px => args_ok ok_fac sa hs rp h p px⟩
end

/-! ### isinstance(x, tuple) -/
section
variable {X : Cx} {T : Tb} {E : XK} {e : Expr} {me : WE} {p p2 pos : Pos}
theorem pe_tupleTy (hm : X.mg "tuple" = none) (hg : Gl X "tuple" := by rfl) : PE X (.Name "tuple" pos) (tC (.ty "tuple")) :=
  ⟨fun pins s σ H Q I h => ld_blt I hg hm (by decide +kernel) ⟨.ty "tuple", H, I, rfl, h⟩ (by decide) (by decide)⟩
def wIsTup (me : WE) : WE := fun sl cs Q X => me sl cs (fun d cs1 => match d with
  | .int _ => Q (.bl false) cs1
  | .lst _ => Q (.bl false) cs1
  | .tup _ => Q (.bl true) cs1
  | _ => False) X
theorem kt_int {K : PySem.W.Frag} : PySem.W.kitOne K (.type "int") (.type "tuple") = some false := by rfl
theorem kt_lst {K : PySem.W.Frag} : PySem.W.kitOne K (.type "list") (.type "tuple") = some false := by rfl
theorem kt_tup {K : PySem.W.Frag} : PySem.W.kitOne K (.type "tuple") (.type "tuple") = some true := by rfl
theorem de_isTup (hz : X.mg "isinstance" = none) (ht : X.mg "tuple" = none) (he : DE X T E e me) (gl : Gl X "isinstance" := by rfl) (gl2 : Gl X "tuple" := by rfl)
    (hs : starEach [e, .Name "tuple" p2] X.env = (false, eval e X.env) :: starEach [.Name "tuple" p2] X.env := by rfl) (hb : bootBuiltins "isinstance" = some (.builtin "isinstance") := by first | rfl | decide +kernel) :
    DE X T E (.Call (.Name "isinstance" p) [e, .Name "tuple" p2] [] pos) (wIsTup me) := by
  obtain ⟨t, pe, se⟩ := he.ex
  refine ⟨_, pe_callB call_isi gl hz hb (pa_cons pe (pa_cons (pe_tupleTy ht gl2) pa_nil rfl) hs) (by decide) (by decide) hs rfl, fun sl W σ H Q' X' Q hs rp h po px => ?_⟩
  refine se sl W σ H _ X' _ hs rp h (fun d W1 v H1 q1 x1 r1 a1 => ?_) px
  cases a1 with
  | int i => exact ⟨_, _, _, _, false, rfl, .ty "tuple", .base (.int i), kt_int, po _ W1 _ H1 q1 x1 r1 (.bl false)⟩
  | lst h1 f1 t1 => exact ⟨_, _, _, _, false, rfl, .ty "tuple", .base (.lst h1), kt_lst, po _ W1 _ H1 q1 x1 r1 (.bl false)⟩
  | tup h1 f1 t1 => exact ⟨_, _, _, _, true, rfl, .ty "tuple", .base (.tup h1), kt_tup, po _ W1 _ H1 q1 x1 r1 (.bl true)⟩
  | _ => exact q1.elim
end
end DL
namespace PyProof.Rows
open PySem
section
variable {prog : Program} {w : World} {A : Around} {E : Value → Shared → Prop} {s : Shared}
/-- what stands in a tuple, gathered in a list -/
theorem gather_tup {tp : Addr} {its : List Value} {R : List Value → Shared → Prop} (ht : s.heap.IsTuple tp its.toArray) (hz : its.length ≤ sizeLine)
    (k : R its { s with heap := (s.heap.push (seqObj "list" #[] 0)).update s.heap.objs.size (Obj.mapSeq (· ++ its.toArray)) }) : wpAny (model prog w) A (collect (.ref tp)) R E s := by
  obtain ⟨u, hu, cu, m, du⟩ := id ht
  have new : (s.heap.push (seqObj "list" #[] 0)).get? s.heap.objs.size = some (seqObj "list" #[] 0) := Heap.get?_push_size _ rfl
  have old : (s.heap.push (seqObj "list" #[] 0)).get? tp = some u := Heap.get?_push_of_some _ hu
  unfold collect
  apply wpAny_bind
  apply wpAny_runValue
  apply codeAny_builtin entry_proto_collect'
  show wpAny _ _ (newList [] >>= fun e => again (.builtin "list.__iadd__" ⟨[e, .ref tp], []⟩)) _ _ s
  apply wpAny_bind
  refine wpAny_newList ?_ (Nat.zero_le _)
  apply wpAny_pure
  refine ⟨Code.quiet_builtin _ (by decide +kernel), ?_⟩
  apply codeAny_builtin entry_list_iadd'
  show wpAny _ _ (Builtin.List.listExtendWith _ (.ref tp) (.ref s.heap.objs.size)) _ _ _
  unfold Builtin.List.listExtendWith
  apply wpAny_bind
  refine wpAny_typeOf (T := "tuple") ⟨u, old, cu⟩ ?_
  rw [if_pos (by simp)]
  apply wpAny_bind
  refine listItems_at old du ?_
  apply wpAny_bind
  refine listItems_at new rfl ?_
  rw [if_neg (by simp)]
  apply wpAny_bind
  refine listUpdate_at new rfl ?_ (Nat.zero_le _) ?_
  · apply wpAny_pure
    show wpAny (model prog w) A (load s.heap.objs.size >>= fun o => match o.data with
      | .seq xs _ => pure xs.toList
      | _ => unsupported "internal:collect") R E _
    apply wpAny_bind
    refine wpAny_load (get?_update_seq new _) ?_
    show wpAny _ _ (pure (#[] ++ its.toArray).toList) R E _
    have e : ((#[] : Array Value) ++ its.toArray).toList = its := by simp
    rw [e]
    exact wpAny_pure k
  · have : ((#[] : Array Value) ++ its.toArray).size = its.length := by simp
    omega
theorem sort_tup {tp : Addr} {its : List Value} {ns : List Int} {R : Value → Shared → Prop} (ht : s.heap.IsTuple tp its.toArray) (hi : IntsAre its ns) (hs : its.length < 64)
    (k : ∀ (out : Array Value) (ms : List Int), IntsAre out.toList ms → ms.Perm ns → ms.Pairwise (· ≤ ·) → R (.ref (s.heap.objs.size + 1)) { s with heap := sortedAll s.heap its out }) : wpAny (model prog w) A (call (.builtin "sorted") [.ref tp]) R E s := by
  have hz : its.length ≤ sizeLine := by rw [sizeLine_eq]; omega
  apply Calls.call_function_entry kind_sorted plain_sorted entry_sorted (args_sorted1 _)
  unfold Builtin.«sorted»
  apply wpAny_bind (m := checkCount "sorted" 1 1 _)
  apply wpAny_pure
  apply wpAny_bind
  refine gather_tup ht hz ?_
  apply wpAny_bind
  refine wpAny_newList ?_ hz
  have sz : ((s.heap.push (seqObj "list" #[] 0)).update s.heap.objs.size (Obj.mapSeq (· ++ its.toArray))).objs.size = s.heap.objs.size + 1 := (Heap.size_update _ _ _).trans (size_push' _ _)
  have at1 : (((s.heap.push (seqObj "list" #[] 0)).update s.heap.objs.size (Obj.mapSeq (· ++ its.toArray))).push (seqObj "list" its.toArray 0)).get? ((s.heap.push (seqObj "list" #[] 0)).update s.heap.objs.size (Obj.mapSeq (· ++ its.toArray))).objs.size = some (seqObj "list" its.toArray 0) := Heap.get?_push_size _ rfl
  rw [sz] at at1
  dsimp only
  rw [sz]
  apply wpAny_bind
  apply wpAny_holding
  refine wpAny_call_entry slot_list_sort ⟨_, at1, rfl⟩ entry_list_sort ?_ (args_list_sort _)
  refine list_sort_tree at1 hi hs fun out ms b1 b2 b3 => ⟨_, rfl, ?_⟩
  exact wpAny_pure ⟨_, rfl, k out ms b1 b2 b3⟩
end
end PyProof.Rows
namespace DL
open PySem PySem.Spec PyProof.Rows L2
/-! ### sorted(t), t a tuple of ints -/
section
variable {X : Cx} {K : PySem.W.Frag} {T : Tb}
def rSortTup (K : PySem.W.Frag) : List V → Hp → VK → Prop := fun vs H Q => ∃ (a : Addr) (ns : List Int), vs = [V.ref a] ∧ H a = some (.tup (ns.map V.int)) ∧ ns.length < 64 ∧
  ∀ (ms : List Int) (l : Addr), ms.Perm ns → ms.Pairwise (· ≤ ·) → H l = none → Q (.ref l) (upd H l (.lst (ms.map V.int)))
theorem cr_sortTup : CallR X (.builtin "sorted") (rSortTup X.K) := by
  intro pins s σ H vs us Q I r h
  obtain ⟨tp, ns, rfl, ht, h64, q⟩ := h
  obtain ⟨its, rv, it, z⟩ := I.tuple (.inl (.inl ht))
  obtain rfl := Vals.ref1 r
  have hi := rv.ints
  refine sort_tup it hi (by rw [hi.length]; exact h64) fun out ms b1 b2 b3 => ?_
  obtain ⟨c, hc⟩ := sortedAll_at s.heap its out
  have hn : H (s.heap.objs.size + 1) = none := I.hok.fresh (Nat.le_succ _)
  refine ⟨.ref (s.heap.objs.size + 1), upd H (s.heap.objs.size + 1) (.lst (ms.map V.int)), I.laid (a := s.heap.objs.size + 1) (t' := s.toks) (fun _ _ => sortedAll_old) (Nat.le_succ _) ⟨?_, out.toList, c, vals_of_ints b1, hc⟩, rfl, q ms _ b2 b3 hn⟩
  rw [List.length_map, b2.length_eq, sizeLine_eq]; omega
def gSortTup : GL := g1 fun d cs Q => match d with
  | .tup ds => match asInts ds with
    | some ns => ns.length < 64 ∧ ∀ ms : List Int, ms.Perm ns → ms.Pairwise (· ≤ ·) → Q (.lst (ms.map .int)) cs
    | none => False
  | _ => False
theorem ok_sortTup : OkL K T (rSortTup K) gSortTup := ok_1 fun W H d v Q' Q r a q p => by
  cases a with
  | @tup a vs ds h1 f1 t1 =>
    simp only at q
    split at q
    · rename_i ns e
      obtain ⟨h64, q⟩ := q
      rw [asInts_some e] at t1
      obtain rfl := AtL.ints t1
      refine ⟨a, ns, rfl, h1, h64, fun ms l b1 b2 hl => p _ W _ _ (q ms b1 b2) (.laid hl) (r.laid hl) (.lst upd_same (r.fresh hl) ?_)⟩
      have : ∀ l : List Int, AtL K T W H (l.map D.int) (l.map V.int) := fun l => by
        induction l with
        | nil => exact .nil
        | cons x l ih => exact .cons (.int x) ih
      exact (this ms).ext (.laid hl)
    · exact q.elim
  | _ => exact q.elim
end
end DL
namespace PySem.W
open PySem PySem.Calls PyProof.Rows PySem.SeqAt
section
variable {prog : Program} {w : World} {A : Around} {s : Shared} {E : Value → Shared → Prop}
/-- < of two tuples by the tuple's own __lt__, as list.sort asks it of things of one type -/
theorem one_tup {xs ys : List PyData} {u v : Value} {as bs : List Addr} {Q : Bool → Shared → Prop} (ru : Reads s.heap u (.tuple xs) as) (rv : Reads s.heap v (.tuple ys) bs) (hal : alikeAll xs ys = true) (hu : A.units + min (PyData.tuple xs).depth (PyData.tuple ys).depth < cLine)
    (q : Q (dataLt (.tuple xs) (.tuple ys)) s) : wpAny (model prog w) A (oneLt' true u v) Q E s := by
  cases ru with
  | @tuple l o its n _ ix h1 h2 h3 h4 =>
    cases rv with
    | @tuple b o' its' n' _ iy k1 k2 k3 k4 =>
      obtain ⟨cls, dd, data, sl⟩ := o
      obtain ⟨cls', dd', data', sl'⟩ := o'
      simp only at h2 h3 k2 k3
      subst h2 h3 k2 k3
      have n1 : its.size = xs.length := by simpa using SeqAt.ReadsAll.length _ _ _ h4
      have n2 : its'.size = ys.length := by simpa using SeqAt.ReadsAll.length _ _ _ k4
      have q' : Q (PyProof.Rows.lexLt itemOrd (keyToksAll xs) (keyToksAll ys)) s := by rw [dataLt_tuple] at q; exact q
      rw [← firstLt_toks xs ys hal, ← n1, ← n2] at q'
      rw [oneLt'_eq, if_pos rfl]
      apply wpAny_bind
      refine wpAny_cRoomFor (SeqAt.room_here hu) ?_
      apply wpAny_bind
      refine wpAny_callSpecialIfBound?_slot (T := "tuple") ⟨_, h1, rfl⟩ F.slot_tuple_lt ?_
      refine call_meets F.slot_tuple_lt ⟨_, h1, rfl⟩ F.entry_tuple_lt (F.args_tuple_lt_2 _ _) (tuple_ltAt l b its its' n n' dd dd' sl sl' (pairEq xs ys) fun j => dataLt (xs.getD j .none) (ys.getD j .none)) ⟨h1, k1, fun j j1 j2 => ?_, fun j j1 j2 hj => ?_, ?_⟩
      · have z := eqAt_alikeAll xs ys A.in1 s its.toList its'.toList _ _ h4 k4 hal (room_in hu) j (by simpa using j1) (by simpa using j2)
        simpa using z
      · have z := rcLt_alikeAll xs ys A.in1 s its.toList its'.toList _ _ h4 k4 hal (room_in hu) j (by simpa using j1) (by simpa using j2) hj
        simpa using z
      · exact wpAny_truthy_bool q'
def neT : PyData → Bool
  | .tuple [] => false
  | _ => true
theorem firsts_of : ∀ (vs : List Value) (ds : List PyData) {Q : List (Option Value) → Shared → Prop}, EachIs (fun v d => ∃ as, Reads s.heap v d as) vs ds → (∀ d ∈ ds, ∃ xs, d = .tuple xs) →
    (∀ fs : List (Option Value), EachIs (fun f d => f.isSome = neT d) fs ds → Q fs s) → wpAny (model prog w) A (vs.mapM firstOfTuple') Q E s
  | [], _, Q, .nil, _, k => by rw [List.mapM_nil]; exact wpAny_pure (k [] .nil)
  | v :: vs, d :: ds, Q, .cons ⟨as, r⟩ t, ht, k => by
    obtain ⟨xs, rfl⟩ := ht d List.mem_cons_self
    rw [List.mapM_cons]
    apply wpAny_bind
    cases r with
    | @tuple l o its n _ ix h1 h2 h3 h4 =>
      rw [kas_first_eq]
      apply wpAny_bind
      refine wpAny_typeOf (T := "tuple") ⟨o, h1, h2⟩ ?_
      rw [if_neg (by decide)]
      apply wpAny_bind
      refine listItems_at h1 h3 ?_
      apply wpAny_pure
      apply wpAny_bind
      refine firsts_of vs ds t (fun d hd => ht d (List.mem_cons_of_mem _ hd)) fun fs hf => wpAny_pure (k _ (.cons ?_ hf))
      have hl : its.size = xs.length := by simpa using SeqAt.ReadsAll.length _ _ _ h4
      cases xs with
      | nil =>
        have : its[0]? = none := Array.getElem?_eq_none (by rw [hl]; exact Nat.le_refl 0)
        rw [this]; rfl
      | cons x xs =>
        have : its[0]? = some (its[0]'(by rw [hl]; simp)) := Array.getElem?_eq_getElem _
        rw [this]; rfl
/-- alike tuples can be sorted, empty ones too -/
theorem SortsAt.tups {vs : List Value} {ds : List PyData} (e : EachIs (fun v d => ∃ as, Reads s.heap v d as) vs ds) (hal : AllAlike ds) (ht : ∀ d ∈ ds, ∃ xs, d = .tuple xs) (hu : ∀ d, d ∈ ds → A.units + d.depth < cLine) : SortsAt prog w A s (dataKind s.heap ds) vs := by
  by_cases he : ∀ d ∈ ds, d ≠ PyData.tuple []
  · refine SortsAt.data e hal (.inl fun d hd => ?_) hu
    obtain ⟨xs, rfl⟩ := ht d hd
    cases xs with
    | nil => exact absurd rfl (he _ hd)
    | cons x r => exact ⟨x, r, rfl⟩
  · have room : ∀ {d d' : PyData}, d ∈ ds → A.units + min d.depth d'.depth < cLine := fun {d d'} hd => Nat.lt_of_le_of_lt (Nat.add_le_add_left (Nat.min_le_left _ _) _) (hu d hd)
    refine ⟨fun v hv => ?_, ?_⟩
    · obtain ⟨d, hd, as, r⟩ := e.left v hv
      exact ⟨_, dataKind_some hal hd r⟩
    · refine ⟨if (ds[0]?.map fun d => neT d).getD false then general' else oneType', ?_, fun h2 E Q hq => ?_⟩
      · intro E x y a b Q ha hb hq
        obtain ⟨d, as, hd, ra, rfl⟩ := dataKind_inv ha
        obtain ⟨d', as', hd', rb, rfl⟩ := dataKind_inv hb
        obtain ⟨xs, rfl⟩ := ht d hd
        obtain ⟨ys, rfl⟩ := ht d' hd'
        have hdd := hal _ hd _ hd'
        split
        · show wpAny (model prog w) A (oneLt' false x y) Q E s
          exact oneLt_alike (f := false) (fun z => nomatch z) ra rb hdd (fun z => nomatch z) (room hd) hq
        · rw [keyLt'_oneType]
          exact one_tup ra rb (by simpa [alike] using hdd) (room hd) hq
      · rw [keyKind'_eq, List.mapM_toArray, map_eq_pure_bind]
        apply wpAny_bind
        apply wpAny_bind
        refine firsts_of vs ds e ht fun fs hf => wpAny_pure ?_
        have some_no : fs.toArray.all (·.isSome) = false := by
          rw [List.all_toArray, Bool.eq_false_iff]
          intro z
          rw [List.all_eq_true] at z
          refine he fun d hd hd2 => ?_
          have : ∀ {fs : List (Option Value)} {ds : List PyData}, EachIs (fun f d => f.isSome = neT d) fs ds → (∀ f ∈ fs, f.isSome = true) → ∀ d ∈ ds, d ≠ PyData.tuple [] := fun {fs ds} h => by
            induction h with
            | nil => intro _ d hd; exact nomatch hd
            | cons h t ih =>
              intro q d hd
              rcases List.mem_cons.mp hd with w | w
              · subst w
                have := q _ List.mem_cons_self
                rw [h] at this
                rintro rfl; cases this
              · exact ih (fun f hf => q f (List.mem_cons_of_mem _ hf)) d w
          exact this hf z d hd hd2
        rw [if_neg (by rw [some_no]; exact Bool.false_ne_true)]
        cases hf with
        | nil => cases e; exact absurd h2 (by simp)
        | @cons f d fs ds h1 h2' =>
          have f0 : (((f :: fs).toArray)[0]?.bind id).isSome = neT d := by
            rw [← h1]; simp
          simp only [List.getElem?_cons_zero, Option.map_some, Option.getD_some] at hq
          cases hd : neT d with
          | true =>
            rw [hd] at f0
            rw [if_pos hd] at hq
            rw [if_pos f0]
            exact wpAny_pure hq
          | false =>
            rw [hd] at f0
            rw [if_neg (by rw [hd]; exact Bool.false_ne_true)] at hq
            rw [if_neg (by rw [f0]; exact Bool.false_ne_true)]
            have ty : ∀ v ∈ vs, ∀ (Q' : Value → Shared → Prop), Q' (.type "tuple") s → wpAny (model prog w) A (typeOf v) Q' E s := fun v hv Q' q' => by
              obtain ⟨d, hd, as, r⟩ := e.left v hv
              obtain ⟨xs, rfl⟩ := ht d hd
              cases r with
              | tuple k1 k2 k3 k4 => exact wpAny_typeOf (T := "tuple") ⟨_, k1, k2⟩ q'
            rw [oneTypeOnly'_eq, List.mapM_toArray, map_eq_pure_bind]
            apply wpAny_bind
            apply wpAny_bind
            apply wpAny_bind
            refine kas_mapM (r := Value.type "tuple") vs ty (wpAny_pure ?_)
            cases e with
            | @cons v0 _ vs0 _ _ _ =>
              have h0 : ((v0 :: vs0).map fun _ => Value.type "tuple").toArray[0]? = some (Value.type "tuple") := by simp
              have ha : (((v0 :: vs0).map fun _ => Value.type "tuple").toArray.all fun x => x == Value.type "tuple") = true := by
                rw [List.all_toArray, List.all_map, List.all_eq_true]
                intro _ _; rfl
              have hq2 : wpAny (model prog w) A (pure (if (some (Value.type "tuple")).isSome = true then oneType' else general')) Q E s := wpAny_pure hq
              rw [h0]
              simp only [ha, if_true]
              exact wpAny_pure hq2
theorem list_sort_tups {β : Type} {vs : List Value} {bs : List β} {enc : β → PyData} {R : Value → β → Prop} {a : Addr} {n : Nat} {Q : Value → Shared → Prop} (ho : s.heap.get? a = some (seqObj "list" vs.toArray n)) (e : EachIs R vs bs) (er : EachIs (fun v b => ∃ as, Reads s.heap v (enc b) as ∧ a ∉ as) vs bs) (hal : AllAlike (bs.map enc)) (ht : ∀ b ∈ bs, ∃ xs, enc b = .tuple xs) (hL : bs.length ≤ sizeLine)
    (hu : ∀ b, b ∈ bs → A.units + 1 + (enc b).depth < cLine) (h : ∀ out, out.length = bs.length → EachIs R out (bs.mergeSort (dataLe false enc)) → Q .none { s with heap := sortedHeap s.heap a vs (List.toArray out) }) :
    wpAny (model prog w) A (call (.builtin "list.sort") [.ref a]) Q E s := by
  have er' : EachIs (fun v b => ∃ as, Reads (sortingHeap s.heap a vs) v (enc b) as) vs bs := each_keepBut (h' := sortingHeap s.heap a vs) (fun _ _ hb q => sortingHeap_old hb q) (fun o q => by rw [ho] at q; rw [← Option.some.inj q]) hal er
  refine wpAny_call_entry slot_list_sort ⟨_, ho, rfl⟩ entry_list_sort (list_sort_vals (κ := dataKind (sortingHeap s.heap a vs) (bs.map enc)) ho (SortsAt.tups (s := { s with heap := sortingHeap s.heap a vs }) (each_map (R := fun v d => ∃ as, Reads (sortingHeap s.heap a vs) v d as) enc er') hal (fun d hd => by
    obtain ⟨b, hb, rfl⟩ := List.mem_map.mp hd
    exact ht b hb) (bound_map hu)) (by rw [e.length]; exact hL) ⟨.none, rfl, ?_⟩) (args_list_sort _)
  exact h _ (by rw [sortVals_length false rfl]; exact e.length) (sortVals_data false e er' hal)
end
end PySem.W
namespace PyProof.Rows
open PySem
section
variable {prog : Program} {w : World} {A : Around} {E : Value → Shared → Prop} {s : Shared} {T : String} {r d : Addr} {n : Nat} {P : Nat → Value → Prop} {OK : Heap → Prop} {β : Type} {enc : β → PyData} {R : Value → β → Prop} {Q : Value → Shared → Prop}
/-- what is gathered from anything that can be walked, sorted in a new list -/
theorem sort_src (src : PySem.W.KdlSrc prog w T r d n P OK) (hh : A.handled = none) (ok : OK s.heap) (hn : n ≤ sizeLine)
    (k : ∀ (h' : Heap) (tk : Nat) (its : List Value), (∀ b o, s.heap.get? b = some o → h'.get? b = some o) → its.length = n → (∀ (j : Nat) (v : Value), its[j]? = some v → P j v) →
      ∃ bs : List β, PySem.W.EachIs R its bs ∧ PySem.W.EachIs (fun v b => ∃ as, Reads h' v (enc b) as ∧ as = []) its bs ∧ PySem.W.AllAlike (bs.map enc) ∧ (∀ b ∈ bs, ∃ xs, enc b = PyData.tuple xs) ∧ (∀ b ∈ bs, A.units + 2 + (enc b).depth < cLine) ∧
        ∀ (h'' : Heap) (out : List Value) (c : Nat), (∀ b o, s.heap.get? b = some o → h''.get? b = some o) → h''.get? h'.objs.size = some (seqObj "list" out.toArray c) → PySem.W.EachIs R out (bs.mergeSort (PySem.W.dataLe false enc)) → Q (.ref h'.objs.size) { s with heap := h'', toks := tk }) :
    wpAny (model prog w) A (call (.builtin "sorted") [.ref r]) Q E s := by
  apply Calls.call_function_entry kind_sorted plain_sorted entry_sorted (args_sorted1 _)
  unfold Builtin.«sorted»
  apply wpAny_bind (m := checkCount "sorted" 1 1 _)
  apply wpAny_pure
  apply wpAny_bind
  refine PySem.W.kdu_collect (A := A.in1) src hh ok hn fun h' tk acc keep items => ?_
  have len : acc.toList.length = n := (Array.length_toList ..).trans items.1
  obtain ⟨bs, e1, e2, alike, able, deep, fin⟩ := k h' tk acc.toList keep len fun j v e => items.2 j v (by rw [← Array.getElem?_toList]; exact e)
  apply wpAny_bind
  refine wpAny_newList ?_ (by rw [len]; exact hn)
  have at0 : (h'.push (seqObj "list" acc.toList.toArray 0)).get? h'.objs.size = some (seqObj "list" acc.toList.toArray 0) := Heap.get?_push_size _ rfl
  have kp : ∀ b o, h'.get? b = some o → (h'.push (seqObj "list" acc.toList.toArray 0)).get? b = some o := fun b o e => Heap.get?_push_of_some _ e
  apply wpAny_bind
  apply wpAny_holding
  have bl : bs.length ≤ sizeLine := by rw [← e1.length, len]; exact hn
  refine wpAny_mono (PySem.W.list_sort_tups (s := { s with heap := h'.push (seqObj "list" acc.toList.toArray 0), toks := tk }) (Q := fun _ s' => Q (.ref h'.objs.size) s') at0 e1 (e2.mono fun v b ⟨as, rd, z⟩ => ⟨as, Reads.keeps kp rd, by rw [z]; exact List.not_mem_nil⟩) alike able bl (fun b hb => ?_) fun out _ sorted => ?_) (fun _ s' q => ?_) fun _ _ q => q
  · have := deep b hb
    show A.units + 1 + 1 + (enc b).depth < cLine
    omega
  · obtain ⟨c, hc⟩ := sortedHeap_at (vs := acc.toList) (out := out.toArray) at0
    refine fin _ out c (fun b o e => ?_) hc sorted
    have q := keep b o e
    have lt := Heap.lt_size q
    have lt2 : b < (h'.push (seqObj "list" acc.toList.toArray 0)).objs.size := by rw [size_push']; exact Nat.lt_succ_of_lt lt
    rw [sortedHeap_old (Nat.ne_of_lt lt) lt2]
    exact kp b o q
  · exact wpAny_pure ⟨_, rfl, q⟩
end
end PyProof.Rows
namespace DL
open PySem PySem.Spec PyProof.Rows L2
/-! ### sorted(d), d a dict with tuples as keys -/
def keyP : Key → PyData
  | .inl i => .int i
  | .inr x => .str x
def keyPs (k : List Key) : PyData := .tuple (k.map keyP)
section
variable {X : Cx} {K : PySem.W.Frag} {T : Tb}
def rSortDT : List V → Hp → VK → Prop := fun vs H Q => ∃ (d : Addr) (kvs : List (List Key × V)), vs = [V.ref d] ∧ Rd H d (.dT kvs) ∧ PySem.W.AllAlike (kvs.map fun kv => keyPs kv.1) ∧
  ∀ (bs : List Addr) (p : Addr), IsKeys H kvs bs → H p = none → Q (.ref p) (upd H p (.lst (((bs.zip kvs).mergeSort (PySem.W.dataLe false fun z => keyPs z.2.1)).map fun z => V.ref z.1)))
theorem reads_keys {h : Heap} : ∀ (k : List Key) (us : List Value), Vals (k.map kV) us → ∃ as, ReadsAll h us (k.map keyP) as ∧ as = []
  | [], _, .nil => ⟨[], .nil, rfl⟩
  | .inl i :: k, _, .cons r t => by
    obtain ⟨as, h1, h2⟩ := reads_keys k _ t
    obtain ⟨tk, rfl⟩ := r
    exact ⟨_, .cons (.int _ _) h1, by rw [h2]; rfl⟩
  | .inr x :: k, _, .cons r t => by
    obtain ⟨as, h1, h2⟩ := reads_keys k _ t
    obtain ⟨tk, rfl⟩ := r
    exact ⟨_, .cons (.str _ _) h1, by rw [h2]; rfl⟩
theorem depth_keys : ∀ k : List Key, PyData.depthAll (k.map keyP) = 0
  | [] => rfl
  | .inl i :: k => by simp only [List.map_cons, keyP, PyData.depthAll, PyData.depth, depth_keys k]; rfl
  | .inr x :: k => by simp only [List.map_cons, keyP, PyData.depthAll, PyData.depth, depth_keys k]; rfl
theorem cr_sortDT (hc : X.calm = true) (hu : X.A.units + 64 < cLine) : CallR X (.builtin "sorted") rSortDT := by
  intro pins s σ H xs us Q I r h
  obtain ⟨d, kvs, rfl, hd, hal, q⟩ := h
  obtain ⟨u, rfl, rx⟩ := r.one
  cases rx
  obtain ⟨z, hs, ks, pr, o, es, ep, ho, hx, hdt, he, hn⟩ := (show ObjOk X.prog X.w H s.heap d (.dT kvs) from hd.ok I.hok)
  have l1 : es.size = ks.length := size_of_entries he
  have l2 : kvs.length = ks.length := Paired.length pr
  have ik := isKeys_of pr
  have lb : (ks.map fun x => x.2.1).length = kvs.length := by rw [List.length_map]; exact l2.symm
  refine sort_src (R := fun v (b : Addr × List Key × V) => v = .ref b.1) (enc := fun b : Addr × List Key × V => keyPs b.2.1) (kdl_raw hs hx hdt) (I.ok.hd hc) ho (by omega) fun h' tk its kp len items => ?_
  have ea : its = (ks.map fun x => x.2.1).map Value.ref := by
    rw [List.map_map]
    apply List.ext_getElem?
    intro j
    rw [List.getElem?_map]
    cases hj : its[j]? with
    | none =>
      have h1 := List.getElem?_eq_none_iff.mp hj
      rw [List.getElem?_eq_none (by omega)]
      rfl
    | some v =>
      obtain ⟨en, hen, hv⟩ := items j v hj
      have qe := entry_at he j
      rw [hen] at qe
      cases hb : ks[j]? with
      | none => rw [hb] at qe; cases qe
      | some b =>
        rw [hb] at qe
        have e2 := Option.some.inj qe
        rw [hv, e2]
        rfl
  have rd : ∀ (bs : List Addr) (kvs : List (List Key × V)), IsKeys H kvs bs → ∀ z ∈ bs.zip kvs, H z.1 = some (.tup (z.2.1.map kV)) := fun bs kvs ik => by
    unfold IsKeys at ik
    induction ik with
    | nil => intro z hz; exact nomatch hz
    | cons h t ih =>
      intro z hz
      rw [List.zip_cons_cons] at hz
      rcases List.mem_cons.mp hz with e | hz
      · rw [e]; exact h
      · exact ih z hz
  have each : ∀ (R' : Value → Addr × List Key × V → Prop) (bs : List Addr) (kvs : List (List Key × V)), bs.length = kvs.length → (∀ z ∈ bs.zip kvs, R' (.ref z.1) z) → PySem.W.EachIs R' (bs.map Value.ref) (bs.zip kvs) := fun R' bs => by
    induction bs with
    | nil => intro kvs _ _; exact .nil
    | cons b bs ih =>
      intro kvs hl hz
      cases kvs with
      | nil => cases hl
      | cons kv kvs => exact .cons (hz _ List.mem_cons_self) (ih kvs (by simpa using hl) fun z hz' => hz z (List.mem_cons_of_mem _ hz'))
  have mz : ((ks.map fun x => x.2.1).zip kvs).map (fun b => keyPs b.2.1) = kvs.map fun kv => keyPs kv.1 := by
    have : ∀ (bs : List Addr) (kvs : List (List Key × V)), bs.length = kvs.length → (bs.zip kvs).map (fun b => keyPs b.2.1) = kvs.map fun kv => keyPs kv.1 := fun bs => by
      induction bs with
      | nil => intro kvs h; rw [List.eq_nil_of_length_eq_zero h.symm]; rfl
      | cons b bs ih =>
        intro kvs h
        cases kvs with
        | nil => cases h
        | cons kv kvs => rw [List.zip_cons_cons, List.map_cons, List.map_cons, ih kvs (by simpa using h)]
    exact this _ _ lb
  refine ⟨(ks.map fun x => x.2.1).zip kvs, by rw [ea]; exact each _ _ _ lb fun z _ => rfl, by
    rw [ea]
    refine each _ _ _ lb fun z hz => ?_
    obtain ⟨us, vs, ⟨ob, b1, b2, m, b3⟩, _⟩ := I.tuple (.inl (.inl (rd _ _ ik z hz)))
    obtain ⟨as, r1, r2⟩ := reads_keys z.2.1 us vs
    exact ⟨as, .tuple (kp _ _ b1) b2 b3 (by simpa using (r1 : ReadsAll h' us (z.2.1.map keyP) as)), r2⟩, by rw [mz]; exact hal, fun b _ => ⟨_, rfl⟩, fun b _ => by
    have : (keyPs b.2.1).depth ≤ 1 := by unfold keyPs; simp only [PyData.depth, depth_keys]; exact Nat.le_refl _
    omega, fun h'' out c kp'' hg hout => ?_⟩
  have hn2 : H h'.objs.size = none := (I.hok.kept kp).fresh (Nat.le_refl _)
  have hn1 : s.heap.get? h'.objs.size = none := by
    cases e : s.heap.get? h'.objs.size with
    | none => rfl
    | some o => exact absurd (Heap.lt_size (kp _ _ e)) (Nat.lt_irrefl _)
  have ev : ∀ (l : List (Addr × List Key × V)) (out : List Value), PySem.W.EachIs (fun v b => v = .ref b.1) out l → Vals (l.map fun z => V.ref z.1) out := fun l => by
    induction l with
    | nil => intro out h; cases h; exact .nil
    | cons x l ih =>
      intro out h
      cases h with
      | cons h1 h2 => exact .cons (by rw [h1]; rfl) (ih _ h2)
  refine ⟨.ref h'.objs.size, _, I.laidN (t' := tk) (o := .lst ((((ks.map fun x => x.2.1).zip kvs).mergeSort (PySem.W.dataLe false fun z => keyPs z.2.1)).map fun z => V.ref z.1)) kp'' hn1 hn2 ⟨?_, out, c, ev _ _ hout, hg⟩, rfl, q _ _ ik hn2⟩
  have e : ((((ks.map fun x => x.2.1).zip kvs).mergeSort (PySem.W.dataLe false fun z => keyPs z.2.1)).map fun z => V.ref z.1).length = kvs.length := by
    rw [List.length_map, List.length_mergeSort, List.length_zip, lb, Nat.min_self]
  show _ ≤ sizeLine
  rw [e]; exact z
def gSortDT : GL := g1 fun d cs Q => match dictT cs d with
  | some kvs => PySem.W.AllAlike (kvs.map fun kv => keyPs kv.1) ∧ Q (.lst (((kvs.map (·.1)).mergeSort (PySem.W.dataLe false keyPs)).map fun k => .tup (k.map keyD))) cs
  | none => False
theorem ok_sortDT : OkL K T rSortDT gSortDT := ok_1 fun W H d v Q' Q r a q p => by
  split at q
  · rename_i kvs e
    obtain ⟨h1, q⟩ := q
    obtain ⟨l, vs, rfl, rd, t⟩ := dictT_at r a e
    have lv := t.length
    rw [List.length_map] at lv
    have m1 : ((kvs.map (·.1)).zip vs).map (fun kv => keyPs kv.1) = kvs.map fun kv => keyPs kv.1 := by
      rw [show (fun kv : List Key × V => keyPs kv.1) = keyPs ∘ Prod.fst from rfl, ← List.map_map, List.map_fst_zip (by rw [List.length_map]; omega), List.map_map]; rfl
    refine ⟨l, _, rfl, rd, by rw [m1]; exact h1, fun bs pp ik hp => ?_⟩
    have rdk : ∀ (bs : List Addr) (kvs : List (List Key × V)), IsKeys H kvs bs → bs.length = kvs.length ∧ ∀ z ∈ bs.zip kvs, H z.1 = some (.tup (z.2.1.map kV)) := fun bs kvs ik => by
      unfold IsKeys at ik
      induction ik with
      | nil => exact ⟨rfl, fun z hz => nomatch hz⟩
      | cons h t ih =>
        refine ⟨by rw [List.length_cons, List.length_cons, ih.1], fun z hz => ?_⟩
        rw [List.zip_cons_cons] at hz
        rcases List.mem_cons.mp hz with e | hz
        · rw [e]; exact h
        · exact ih.2 z hz
    obtain ⟨lb, rk⟩ := rdk _ _ ik
    have m2 : (kvs.map (·.1)) = (bs.zip ((kvs.map (·.1)).zip vs)).map fun z => z.2.1 := by
      rw [show (fun z : Addr × List Key × V => z.2.1) = Prod.fst ∘ Prod.snd from rfl, ← List.map_map, List.map_snd_zip (by omega), List.map_fst_zip (by rw [List.length_map]; omega)]
    have m3 : ((bs.zip ((kvs.map (·.1)).zip vs)).map fun z => z.2.1).mergeSort (PySem.W.dataLe false keyPs) = ((bs.zip ((kvs.map (·.1)).zip vs)).mergeSort (PySem.W.dataLe false fun z => keyPs z.2.1)).map fun z => z.2.1 :=
      (PySem.W.sort_maps (r := PySem.W.dataLe false fun z : Addr × List Key × V => keyPs z.2.1) (s := PySem.W.dataLe false keyPs) (fun z => z.2.1) (l := bs.zip ((kvs.map (·.1)).zip vs)) fun _ _ _ _ => rfl).symm
    rw [m2, m3, List.map_map] at q
    have am : ∀ z ∈ (bs.zip ((kvs.map (·.1)).zip vs)).mergeSort (PySem.W.dataLe false fun z => keyPs z.2.1), At K T W H (.tup (z.2.1.map keyD)) (.ref z.1) := fun z hz => by
      have h3 := rk z ((List.mergeSort_perm _ _).mem_iff.mp hz)
      exact .tup h3 (r.tup_fz h3) (keysD_at _)
    have al : ∀ l : List (Addr × List Key × V), (∀ z ∈ l, At K T W H (.tup (z.2.1.map keyD)) (.ref z.1)) → AtL K T W H (l.map fun z => .tup (z.2.1.map keyD)) (l.map fun z => V.ref z.1) := fun l => by
      induction l with
      | nil => intro _; exact .nil
      | cons z l ih => intro h; exact .cons (h z List.mem_cons_self) (ih fun y hy => h y (List.mem_cons_of_mem _ hy))
    exact p _ W _ _ q (.laid hp) (r.laid hp) (.lst upd_same (r.fresh hp) ((al _ am).ext (.laid hp)))
  · exact q.elim
end
end DL
namespace DL
open PySem PySem.Spec PyProof.Rows L2
/-! ### x in xs, x not in xs: plain data in a list of plain data -/
section
variable {X : Cx}
def rInP (K : PySem.W.Frag) (neg : Bool) : R2 := fun x y H Q => ∃ p xs px ps, y = .ref p ∧ SqL K H p xs ∧ Dp K H x px ∧ DpAll K H xs ps ∧ px.canLay0 = true ∧ px.depth ≤ 60 ∧ PyData.canLayAll0 ps = true ∧ Q (.bl (if neg then !(ps.any fun q => PyData.eqv q px) else ps.any fun q => PyData.eqv q px)) H
noncomputable def eqP1 (h : Heap) (px : PyData) (u : Value) : Bool := @decide (∃ q as, q.canLay0 = true ∧ Reads h u q as ∧ PyData.eqv q px = true) (Classical.propDecidable _)
theorem eqP1_of {h : Heap} {px q : PyData} {u : Value} {as : List Addr} (hq : q.canLay0 = true) (r : Reads h u q as) : eqP1 h px u = PyData.eqv q px := by
  unfold eqP1
  rw [Bool.eq_iff_iff, @decide_eq_true_iff _ (Classical.propDecidable _)]
  constructor
  · rintro ⟨q', as', c', r', e⟩
    rw [SeqAt.Reads.unique q q' u as as' hq r r']; exact e
  · exact fun e => ⟨q, as, hq, r, e⟩
theorem any_eqP1 {h : Heap} {px : PyData} : ∀ {us : List Value} {ps : List PyData} {as : List Addr}, ReadsAll h us ps as → PyData.canLayAll0 ps = true → us.any (eqP1 h px) = ps.any fun q => PyData.eqv q px
  | _, _, _, .nil, _ => rfl
  | u :: us, q :: ps, _, .cons r t, hc => by
    simp only [PyData.canLayAll0, Bool.and_eq_true] at hc
    rw [List.any_cons, List.any_cons, eqP1_of hc.1 r, any_eqP1 t hc.2]
theorem mem_eqP1 {A : Around} {s : Shared} {px : PyData} {v : Value} {bs : List Addr} (rx : Reads s.heap v px bs) (hx : px.canLay0 = true) (hd : px.depth ≤ 60) (hu : A.units + 60 < cLine) : ∀ {us : List Value} {ps : List PyData} {as : List Addr}, ReadsAll s.heap us ps as → PyData.canLayAll0 ps = true → ∀ u ∈ us, SeqAt.EqAt A s u v (eqP1 s.heap px u)
  | _, _, _, .nil, _ => fun u hu => by cases hu
  | u :: us, q :: ps, _, .cons r t, hc => fun u' h => by
    simp only [PyData.canLayAll0, Bool.and_eq_true] at hc
    rcases List.mem_cons.mp h with rfl | h
    · rw [eqP1_of hc.1 r]
      exact SeqAt.eqAt_reads q px A s _ _ _ _ r rx hc.1 hx (by have := Nat.min_le_right q.depth px.depth; omega)
    · exact mem_eqP1 rx hx hd hu t hc.2 u' h
theorem op_inP (hu : X.A.units + 64 < cLine) : OpR X (compareOp .In) (rInP X.K false) := by
  intro pins s σ H x y v u Q I rx ry h
  obtain ⟨p, xs, px, ps, rfl, hq, hx, hs, cx, dx, cs, q⟩ := h
  cases ry
  obtain ⟨its, r, pl, hz⟩ := I.list hq
  obtain ⟨bs, rv⟩ := Dp.reads I px x v hx rx
  obtain ⟨as, ra⟩ := Dp.readsAll I ps _ _ hs r
  refine SeqAt.in_listAt (eqP1 s.heap px) pl.isList (fun w hw => mem_eqP1 rv cx dx (show X.A.units + 1 + 60 < cLine by omega) ra cs w (by simpa using hw)) ⟨.bl _, H, I, rfl, ?_⟩
  rw [show its.toArray.any (eqP1 s.heap px) = its.any (eqP1 s.heap px) by simp, any_eqP1 ra cs]
  exact q
theorem op_notInP (hu : X.A.units + 64 < cLine) : OpR X (compareOp .NotIn) (rInP X.K true) := by
  intro pins s σ H x y v u Q I rx ry h
  obtain ⟨p, xs, px, ps, rfl, hq, hx, hs, cx, dx, cs, q⟩ := h
  cases ry
  obtain ⟨its, r, pl, hz⟩ := I.list hq
  obtain ⟨bs, rv⟩ := Dp.reads I px x v hx rx
  obtain ⟨as, ra⟩ := Dp.readsAll I ps _ _ hs r
  refine SeqAt.notIn_listAt (eqP1 s.heap px) pl.isList (fun w hw => mem_eqP1 rv cx dx (show X.A.units + 1 + 60 < cLine by omega) ra cs w (by simpa using hw)) ⟨.bl _, H, I, rfl, ?_⟩
  rw [show its.toArray.any (eqP1 s.heap px) = its.any (eqP1 s.heap px) by simp, any_eqP1 ra cs]
  exact q
end
def gInP (neg : Bool) : G2 := fun d e cs Q => match lisD cs e with
  | some es => match py cs d, pyAll cs es with
    | some px, some ps => px.canLay0 = true ∧ px.depth ≤ 60 ∧ PyData.canLayAll0 ps = true ∧ Q (.bl (if neg then !(ps.any fun q => PyData.eqv q px) else ps.any fun q => PyData.eqv q px)) cs
    | _, _ => False
  | none => False
section
variable {K : PySem.W.Frag} {T : Tb}
theorem ok_inP {neg : Bool} : OkR K T (rInP K neg) (gInP neg) := by
  intro W H d e v u Q' Q r a b h p
  unfold gInP at h
  split at h
  · rename_i es e1
    split at h
    · rename_i px ps e2 e3
      obtain ⟨c1, c2, c3, q⟩ := h
      obtain ⟨l, vs, rfl, hs, t⟩ := lisD_at r b e1
      exact ⟨l, vs, px, ps, rfl, hs, py_at r e2 a, pyWL_at (cellPy_at r (cellPy_at r (cellPy_at r fun _ _ _ z => by cases z))) es vs ps e3 t, c1, c2, c3, p _ W _ H q .refl r (.bl _)⟩
    · exact h.elim
  · exact h.elim
end
end DL
namespace DL
open PySem PySem.Spec PyProof.Rows L2

/-! ### sorted(xs, key=f), f a def whose answers are plain data, lists too -/
/-- a place that the layer knows nothing of, new since the start -/
structure Aside (X : Cx) (pins : List (Addr × Obj)) (H : Hp) (a : Addr) : Prop where
  no : H a = none
  nl : a ≠ X.env.locals
  big : X.s_0.heap.objs.size ≤ a
  ce : ∀ x c, X.env.cells.lookup x = some c → c ≠ a
  pn : ∀ p ∈ X.pn ++ pins, p.1 ≠ a
section
variable {X : Cx} {pins : List (Addr × Obj)} {σ : L2.St} {H H' : Hp} {s : Shared} {a : Addr}
theorem Aside.new (I : Inv X pins σ H s) (h : s.heap.objs.size ≤ a) : Aside X pins H a := by
  have big : ∀ b o, s.heap.get? b = some o → b ≠ a := fun b o e z => by
    rw [z] at e
    exact Nat.lt_irrefl _ (Nat.lt_of_lt_of_le (Heap.lt_size e) h)
  refine ⟨I.hok.fresh h, fun z => ?_, Nat.le_trans I.sz h, fun x c e => ?_, fun p hp => ?_⟩
  · rw [z] at h
    exact Nat.lt_irrefl _ (Nat.lt_of_lt_of_le I.lt h)
  · obtain ⟨v, o, ho, _⟩ := I.cell x c e
    exact big c o ho
  · exact big p.1 p.2 (I.pin p hp).1
theorem Aside.nofs (d : Aside X pins H a) (I : Inv X pins σ H s) : a ∉ X.fs := fun hb => by
  obtain ⟨_, o, ho, _⟩ := I.ok.funs.mem hb
  exact Nat.lt_irrefl _ (Nat.lt_of_lt_of_le (Heap.lt_size ho) d.big)
theorem Aside.at_ (d : Aside X pins H a) (h : H' a = none) : Aside X pins H' a := ⟨h, d.nl, d.big, d.ce, d.pn⟩
/-- what stands there is written -/
theorem Aside.put (d : Aside X pins H a) (I : Inv X pins σ H s) {h' : Heap} {t' : Nat} (k : ∀ b o, b ≠ a → s.heap.get? b = some o → h'.get? b = some o) : Inv X pins σ H { s with heap := h', toks := t' } :=
  I.turned k d.no d.nl (.inr d.big) d.ce d.pn
/-- what stands there is pinned -/
theorem Aside.pin (d : Aside X pins H a) (I : Inv X pins σ H s) {o : Obj} (e : s.heap.get? a = some o) (hd : ∀ v, o.data ≠ .cell v) : Inv X ((a, o) :: pins) σ H s :=
  I.pins_of fun p hp => by
    rcases List.mem_cons.mp hp with z | z
    · rw [z]; exact ⟨e, d.no, d.nl, d.nofs I, hd⟩
    · exact I.pin p (List.mem_append_right _ z)
theorem Aside.more (d : Aside X pins H a) {b : Addr} {o : Obj} (h : b ≠ a) : Aside X ((b, o) :: pins) H a := ⟨d.no, d.nl, d.big, d.ce, fun p hp => by
  rcases List.mem_append.mp hp with z | z
  · exact d.pn p (List.mem_append_left _ z)
  · rcases List.mem_cons.mp z with z | z
    · rw [z]; exact h
    · exact d.pn p (List.mem_append_right _ z)⟩
theorem unpin {o : Obj} (I : Inv X ((a, o) :: pins) σ H s) : Inv X pins σ H s ∧ s.heap.get? a = some o ∧ H a = none := by
  obtain ⟨e, n, _⟩ := I.pin (a, o) (List.mem_append_right _ List.mem_cons_self)
  exact ⟨I.pins_of fun p hp => I.pin p (List.mem_append_right _ (List.mem_cons_of_mem _ hp)), e, n⟩
/-- .. and comes to be known -/
theorem Aside.know (d : Aside X pins H a) (I : Inv X pins σ H s) {o : HO} (new : ObjOk X.prog X.w (upd H a o) s.heap a o) : Inv X pins σ (upd H a o) s := by
  refine I.step (h' := s.heap) (g' := s.gens) (d' := s.drawn) (t' := s.toks) (ch := [a]) (fun b hb => ?_) (fun _ _ _ _ _ e _ => e) (fun b o _ _ _ e _ => ⟨o.slots, e⟩) (fun b o hb e n => ?_) (fun b o _ e => ⟨o, e⟩) (fun b xs e => ?_) (fun b u xs e => ?_) (fun b ps e => ?_) (fun _ h => h) (I.hok.laidN (fun _ _ e => e) d.no new) I.bare
  · rw [List.mem_singleton.mp hb]
    exact ⟨.inr d.big, d.nl, d.ce, d.pn⟩
  · rw [upd_ne (fun z => hb (by rw [z]; exact List.mem_singleton.mpr rfl))]; exact n
  · rw [upd_ne (ne_of_none e d.no)]; exact e
  · rw [upd_ne (ne_of_none e d.no)]; exact e
  · exact ⟨#[], by rw [upd_ne (ne_of_none e d.no), e]; simp⟩
end
section
variable {X : Cx} {T : Tb} {k : Nat} {f : Addr} {fd : FuncData} {ps : List Str} {S : SD} {pins : List (Addr × Obj)} {σ : L2.St}
/-- what a key must be: data at no change -/
def KeyD (S : SD) (cs : Cells) (d : D) (q : PyData) : Prop := S [d] cs (fun y cs' => cs' = cs ∧ py cs y = some q) (fun _ _ _ => False)
def KeyLeft (X : Cx) (T : Tb) (pins : List (Addr × Obj)) (σ : L2.St) (W : Wd) (H : Hp) (q : PyData) (v : Value) (s : Shared) : Prop :=
  ∃ W' H' y z, Inv X pins σ H' s ∧ Ext W H W' H' ∧ Rep X.K T W' H' ∧ W'.cs = W.cs ∧ L2.RelV z v ∧ At X.K T W' H' y z ∧ py W.cs y = some q
theorem key_turn (F : DFn X.prog X.w X.K X.mg X.base T CX0 k f fd ps S) (B : Binds X.K fd ps []) {A : Around} (hg : A.guards = some []) (hr : Room k A) (hf : A.frames = X.A.frames)
    {H : Hp} {s : Shared} {W : Wd} {x : V} {u : Value} {d : D} {q : PyData} (I : Inv X pins σ H s) (r : Rep X.K T W H) (ad : At X.K T W H d x) (rx : L2.RelV x u) (h : KeyD S W.cs d q) :
    wpAny (model X.prog X.w) A (call (.ref f) [u]) (KeyLeft X T pins σ W H q) (fun _ _ => False) s := by
  have sp : spD X.K T S [x] H (fun v H' => ∃ W' y, Ext W H W' H' ∧ Rep X.K T W' H' ∧ W'.cs = W.cs ∧ At X.K T W' H' y v ∧ py W.cs y = some q) E0 :=
    ⟨_, W, _, _, .cons ad .nil, r, h, fun y W' v H' z x' r' at' => ⟨W', y, x', r', z.1, at', z.2⟩, fun _ _ _ _ _ _ z => z.elim⟩
  have rl : Vals [x] [u] := .cons rx .nil
  have hl : ([u] ++ []).length = ps.length := by rw [List.append_nil, ← rl.length]; exact F.len _ _ _ _ sp
  have bd := B s [u] I.kIn hl
  rw [List.append_nil] at bd
  have e0 : Env0 X.prog X.w X.K X.mg X.base A X.stack s H := by
    have e := I.env0
    exact ⟨by rw [hf]; exact e.frames, e.mod, e.bs, e.bsz, e.funs, e.frf, e.hok, e.bare⟩
  refine wpAny_call (codeAny_mono (F.run A X.stack s H ⟨[u], []⟩ _ _ _ E0 hg hr e0 bd rl sp) fun w s' hq => ?_)
  cases w with
  | error e => exact hq.elim
  | ok fl =>
    cases fl with
    | ret v =>
      obtain ⟨z, H', I', rz, W', y, x', r', c', at', p'⟩ := I.after hq
      exact ⟨W', H', y, z, I', x', r', c', rz, at', p'⟩
    | next => exact False.elim hq
    | brk => exact False.elim hq
    | cont => exact False.elim hq
/-- behind j keys -/
def KeysAt (X : Cx) (T : Tb) (pins : List (Addr × Obj)) (σ : L2.St) (W : Wd) (H : Hp) (a kS : Addr) (ks : List PyData) (ea : Nat) (j : Nat) (s : Shared) : Prop :=
  ∃ W' H' ys vsK kA e, Inv X pins σ H' s ∧ Ext W H W' H' ∧ Rep X.K T W' H' ∧ W'.cs = W.cs ∧ Aside X pins H' a ∧ Aside X pins H' kS ∧ s.heap.get? kS = some (seqObj "list" kA e) ∧ s.heap.get? a = some (seqObj "list" #[] ea) ∧
    AtL X.K T W' H' ys vsK ∧ Vals vsK kA.toList ∧ pyAll W.cs ys = some (ks.take j)
theorem pyAll_snoc {cs : Cells} : ∀ {ys : List D} {ps : List PyData} {y : D} {p : PyData}, pyAll cs ys = some ps → py cs y = some p → pyAll cs (ys ++ [y]) = some (ps ++ [p])
  | [], ps, y, p, h, g => by
    unfold pyAll at h ⊢
    simp only [pyWL] at h
    cases h
    have g : pyW (cellPy cs (cellPy cs (cellPy cs fun _ => none))) y = some p := g
    simp only [List.nil_append, pyWL, g]
  | x :: ys, ps, y, p, h, g => by
    unfold pyAll at h ⊢
    simp only [pyWL] at h
    split at h
    · rename_i q qs e1 e2
      cases h
      have := pyAll_snoc (cs := cs) (ys := ys) e2 g
      unfold pyAll at this
      simp only [List.cons_append, pyWL, e1, this]
    · cases h
theorem key_fold (F : DFn X.prog X.w X.K X.mg X.base T CX0 k f fd ps S) (B : Binds X.K fd ps []) {A : Around} (hg : A.guards = some []) (hr : Room k A) (hf : A.frames = X.A.frames)
    {H : Hp} {s : Shared} {W : Wd} {a kS : Addr} {vs : List V} {its : List Value} {ds : List D} {ks : List PyData} {ea : Nat} {E : Value → Shared → Prop} {P : PySem.Fin → Shared → Prop} (hne : kS ≠ a)
    (t : AtL X.K T W H ds vs) (rv : Vals vs its) (hlen : ks.length = ds.length) (hz : ds.length ≤ sizeLine) (hk : ∀ (i : Nat) x p, ds[i]? = some x → ks[i]? = some p → KeyD S W.cs x p)
    (h0 : KeysAt X T pins σ W H a kS ks ea 0 s)
    (fin : ∀ s' kA e, KeysAt X T pins σ W H a kS ks ea ds.length s' → s'.heap.get? kS = some (seqObj "list" kA e) → wpAny (model X.prog X.w) A (PyProof.Rows.ksk_end a false its.toArray ea (.ref kS) kA) P E s') :
    wpAny (model X.prog X.w) A (PyProof.Rows.ksk_rest a (.ref f) false its.toArray ea (.ref kS)) P E s := by
  have l1 := t.length
  have l2 := rv.length
  unfold PyProof.Rows.ksk_rest
  refine wpAny_bind (wpAny_rule ?_)
  rw [List.forIn_toArray]
  refine wpAny_bind (PyProof.Rows.ksk_fold (fun j s' => KeysAt X T pins σ W H a kS ks ea j s') its 0 s h0 (fun j u s' hu hJ => ?_) fun s' hJ => ?_)
  · rw [Nat.zero_add] at hJ ⊢
    obtain ⟨W', H', ys, vsK, kA, e, I, x1, r1, c1, da, dk, gk, ga, ty, ry, py1⟩ := hJ
    have hj : j < its.length := (List.getElem?_eq_some_iff.mp hu).1
    obtain ⟨x, hx, at1⟩ := t.get' (List.getElem?_eq_getElem (show j < ds.length by omega))
    obtain ⟨u', hu', rx⟩ := rv.get hx
    rw [hu] at hu'
    cases hu'
    have hkj := hk j _ _ (List.getElem?_eq_getElem (show j < ds.length by omega)) (List.getElem?_eq_getElem (show j < ks.length by omega))
    rw [← c1] at hkj
    have I2 := (dk.more (o := seqObj "list" #[] ea) (Ne.symm hne)).pin (da.pin I ga (fun v z => by cases z)) gk fun v z => by cases z
    have hkA : kA.size = j := by
      have z1 : vsK.length = kA.size := ry.length.trans (Array.length_toList ..)
      have z2 := ty.length
      have z3 : (ks.take j).length = ys.length := pyWL_len py1
      rw [List.length_take, Nat.min_eq_left (by omega)] at z3
      exact (z3.trans (z2.trans z1)).symm
    refine wpAny_bind (wpAny_attempt (wpAny_mono (key_turn F B hg hr hf I2 r1 (at1.ext x1) rx hkj) (fun v s2 z => ?_) fun _ _ z => z.elim))
    obtain ⟨W2, H2, y, zv, I3, x2, r2, c2, rz, aty, pyy⟩ := z
    obtain ⟨I4, gk2, nk2⟩ := unpin I3
    obtain ⟨I5, ga2, na2⟩ := unpin I4
    try dsimp only
    have sb := Heap.SameBut.update s2.heap kS (Obj.mapSeq (·.push v))
    obtain ⟨e2, he2⟩ : ∃ n, (s2.heap.update kS (Obj.mapSeq (·.push v))).get? kS = some (seqObj "list" (kA.push v) n) := ⟨_, get?_update_seq gk2 (·.push v)⟩
    have hkz : kA.size ≤ sizeLine := by omega
    refine wpAny_bind (listUpdate_at gk2 rfl ?_ hkz (by rw [Array.size_push]; omega))
    have I6 : Inv X pins σ H2 { s2 with heap := s2.heap.update kS (Obj.mapSeq (·.push v)) } := (dk.at_ nk2).put (t' := s2.toks) I5 fun b o hb q => (sb.2 b hb).trans q
    refine wpAny_pure ⟨rfl, W2, H2, ys ++ [y], vsK ++ [zv], kA.push v, e2, I6, x1.trans x2, r2, c2.trans c1, da.at_ na2, dk.at_ nk2, he2, (sb.2 a (Ne.symm hne)).trans ga2, (ty.ext x2).append (.cons aty .nil), ?_, ?_⟩
    · rw [show (kA.push v).toList = kA.toList ++ [v] by simp]
      exact ry.append (.cons rz .nil)
    · have ek : ks.take (j + 1) = ks.take j ++ [ks[j]'(by omega)] := by rw [List.take_add_one, List.getElem?_eq_getElem (show j < ks.length by omega)]; rfl
      rw [ek]
      rw [c1] at pyy
      exact pyAll_snoc py1 pyy
  · rw [Nat.zero_add, ← l2, ← l1] at hJ
    obtain ⟨W', H', ys, vsK, kA, e, hh⟩ := id hJ
    refine wpAny_bind (listItems_at hh.2.2.2.2.2.2.1 rfl ?_)
    exact fin s' kA e hJ hh.2.2.2.2.2.2.1
end
section
variable {X : Cx} {pins : List (Addr × Obj)} {σ : L2.St} {H : Hp} {s : Shared} {a b : Addr}
theorem Aside.put2 (d : Aside X pins H a) (d2 : Aside X pins H b) (I : Inv X pins σ H s) {h' : Heap} {t' : Nat} (k : ∀ c o, c ≠ a → c ≠ b → s.heap.get? c = some o → h'.get? c = some o) : Inv X pins σ H { s with heap := h', toks := t' } := by
  have ne : ∀ c u, H c = some u → c ≠ a ∧ c ≠ b := fun c u e => ⟨(fun z => by rw [z, d.no] at e; cases e), (fun z => by rw [z, d2.no] at e; cases e)⟩
  have nin : ∀ c, c ∉ [a, b] → c ≠ a ∧ c ≠ b := fun c h => ⟨fun z => h (by rw [z]; simp), fun z => h (by rw [z]; simp)⟩
  refine I.step (g' := s.gens) (d' := s.drawn) (ch := [a, b]) (fun c hc => ?_) (fun c o _ _ hc e _ => k c o (nin c hc).1 (nin c hc).2 e) (fun c o _ _ hc e _ => ⟨o.slots, k c o (nin c hc).1 (nin c hc).2 e⟩) (fun _ _ _ _ n => n)
    (fun c o hc e => ⟨o, k c o (nin c hc).1 (nin c hc).2 e⟩) (fun _ _ e => e) (fun _ _ _ e => e) (fun c ps e => ⟨#[], by rw [e]; simp⟩) (fun m hm => ?_) (fun c u e => ?_) I.bare
  · rcases List.mem_cons.mp hc with z | z
    · rw [z]; exact ⟨.inr d.big, d.nl, d.ce, d.pn⟩
    · rw [List.mem_singleton.mp z]; exact ⟨.inr d2.big, d2.nl, d2.ce, d2.pn⟩
  · obtain ⟨o, es, ep, ho, q⟩ := hm
    exact ⟨o, es, ep, k _ o (Ne.symm d.nl) (Ne.symm d2.nl) ho, q⟩
  · refine (I.hok c u e).stay (fun c' v hc' q => ?_) (fun _ q => q) fun _ _ q => q
    rcases hc' with z | z
    · rw [z] at q ⊢
      exact k c v (ne c u e).1 (ne c u e).2 q
    · exact k c' v (ne c' _ z).1 (ne c' _ z).2 q
end
section
variable {X : Cx} {T : Tb} {k : Nat} {f : Addr} {fd : FuncData} {ps : List Str} {S : SD} {pins : List (Addr × Obj)} {σ : L2.St}
theorem reads_each {H : Hp} {s : Shared} (I : Inv X pins σ H s) : ∀ {vs : List V} {qs : List PyData} {us : List Value}, DpAll X.K H vs qs → Vals vs us → PySem.W.EachIs (fun v q => ∃ as, Reads s.heap v q as) us qs
  | [], [], _, .nil, .nil => .nil
  | _ :: _, _ :: _, _, .cons a t, .cons r u => .cons (Dp.reads I _ _ _ a r) (reads_each I t u)
theorem keyed_end {H : Hp} {W : Wd} {a kS : Addr} {vs : List V} {its : List Value} {ds : List D} {ks : List PyData} {ea : Nat} {A : Around} {E : Value → Shared → Prop} {Q : VK} {s : Shared} {kA : Array Value} {e : Nat} (hne : kS ≠ a) (hu : A.units + 60 < cLine)
    (t : AtL X.K T W H ds vs) (rv : Vals vs its) (hlen : ks.length = ds.length) (hz : ds.length ≤ sizeLine) (hal : PySem.W.AllAlike ks) (hsk : PySem.W.Sortable ks) (hd : ∀ q ∈ ks, q.depth ≤ 59)
    (hJ : KeysAt X T pins σ W H a kS ks ea ds.length s) (hkA : s.heap.get? kS = some (seqObj "list" kA e))
    (fin : ∀ W' H', Ext W H W' H' → Rep X.K T W' H' → W'.cs = W.cs → H' a = none → Q (.ref a) (upd H' a (.lst (((vs.zip ks).mergeSort (PySem.W.dataLe false (·.2))).map (·.1))))) :
    wpAny (model X.prog X.w) A (PyProof.Rows.ksk_end a false its.toArray ea (.ref kS) kA) (fun g s' => g = .done (.ret .none) ∧ EP X pins σ Q (.ref a) s') E s := by
  obtain ⟨W', H', ys, vsK, kA', e', I, x1, r1, c1, da, dk, gk, ga, ty, ry, py1⟩ := hJ
  rw [gk] at hkA
  have eA : kA' = kA := by
    have := Option.some.inj hkA
    injection this with _ _ z _
    injection z
  subst eA
  rw [← hlen, List.take_length] at py1
  have l1 := t.length
  have l2 := rv.length
  have hsz : kA'.size = its.length := by
    have z1 : vsK.length = kA'.size := ry.length.trans (Array.length_toList ..)
    have z3 : ks.length = ys.length := pyWL_len py1
    have z2 := ty.length
    omega
  have py1' : pyWL (cellPy W'.cs (cellPy W'.cs (cellPy W'.cs fun _ => none))) ys = some ks := by rw [c1]; exact py1
  have dp := pyWL_at (cellPy_at r1 (cellPy_at r1 (cellPy_at r1 fun _ _ _ z => by cases z))) ys vsK ks py1' ty
  have er := reads_each I dp ry
  obtain ⟨h₁, g1, g2⟩ := restrict s.heap fun c => decide (c ≠ kS)
  have g1' : ∀ c o, h₁.get? c = some o → c ≠ kS ∧ s.heap.get? c = some o := fun c o q => by
    by_cases z : c = kS
    · rw [z, g2 kS (decide_eq_false fun w => w rfl)] at q; cases q
    · rw [g1 c (decide_eq_true z)] at q; exact ⟨z, q⟩
  refine PySem.W.keyH_end (κ := PySem.W.dataKind s.heap ks) (h₁ := h₁) (fun c o _ q => (g1' c o q).2) (g2 kS (decide_eq_false fun w => w rfl)) gk ga hne (PySem.W.SortsAt.data er hal hsk fun q hq => by have := hd q hq; omega) hsz (by omega) fun h' tk c kp hout => ⟨rfl, ?_⟩
  have keep : ∀ c o, c ≠ kS → c ≠ a → s.heap.get? c = some o → h'.get? c = some o := fun c o n1 n2 q => kp c o n2 (by rw [g1 c (decide_eq_true n1)]; exact q)
  have I2 : Inv X pins σ H' { s with heap := h', toks := tk } := dk.put2 da I keep
  have ek : (vs.zip ks).map (·.2) = ks := List.map_snd_zip (by omega)
  have ev : (vs.zip ks).map (·.1) = vs := List.map_fst_zip (by omega)
  have eR : PySem.W.EachIs (fun v (b : V × PyData) => L2.RelV b.1 v) its (vs.zip ks) := each_of (by rw [ev]; exact rv) fun b _ u r => r
  have eo := PySem.W.keyedOut_each (rev := false) (β := V × PyData) (R := fun v b => L2.RelV b.1 v) (bs := vs.zip ks) (fun b => b.2) ⟨s.heap, kA'.toList, by rw [ek]; exact hal, by rw [ek], by rw [ek]; exact er⟩ eR
  have hl : (((vs.zip ks).mergeSort (PySem.W.dataLe false (·.2))).map (·.1)).length ≤ sizeLine := by
    rw [List.length_map, List.length_mergeSort, List.length_zip]
    omega
  exact ⟨.ref a, _, (da.know (o := .lst (((vs.zip ks).mergeSort (PySem.W.dataLe false (·.2))).map (·.1))) I2 ⟨hl, _, c, each_vals eo, hout⟩), rfl, fin W' H' x1 r1 c1 da.no⟩
end
end DL
namespace DL
open PySem PySem.Spec PyProof.Rows L2
section
variable {X : Cx} {T : Tb} {E : XK} {k : Nat} {f : Addr} {fd : FuncData} {ps : List Str} {S : SD} {pins : List (Addr × Obj)} {σ : L2.St}
theorem sortK_run (F : DFn X.prog X.w X.K X.mg X.base T CX0 k f fd ps S) (B : Binds X.K fd ps []) (hg : X.A.guards = some []) (hr : Room (k + 2) X.A) (hu : X.A.units + 64 < cLine)
    {H : Hp} {s : Shared} {W : Wd} {l : Addr} {vs : List V} {ds : List D} {ks : List PyData} {Q : VK} (I : Inv X pins σ H s) (r : Rep X.K T W H) (hl : SqL X.K H l vs) (t : AtL X.K T W H ds vs)
    (hlen : ks.length = ds.length) (hk : ∀ (i : Nat) x p, ds[i]? = some x → ks[i]? = some p → KeyD S W.cs x p) (hal : PySem.W.AllAlike ks) (hsk : PySem.W.Sortable ks) (hd : ∀ q ∈ ks, q.depth ≤ 59)
    (fin : ∀ W' H' p, Ext W H W' H' → Rep X.K T W' H' → W'.cs = W.cs → H' p = none → Q (.ref p) (upd H' p (.lst (((vs.zip ks).mergeSort (PySem.W.dataLe false (·.2))).map (·.1))))) :
    wpAny (model X.prog X.w) X.A (call (.builtin "sorted") [.ref l] [(Str.ofString "key", .ref f)]) (EP X pins σ Q) X.xe s := by
  obtain ⟨its, rv, hL, hz⟩ := I.list hl
  have l1 := t.length
  have l2 := rv.length
  have hr1 : Room (k + 1) X.A.in1 := Room.in1 hr
  have hr2 : Room k X.A.in1.in1 := Room.in1 hr1
  refine PySem.W.sorted_of_sort hL.isList (by omega) (ksk_s1 ..) (fun x => ksk_l1 ..) fun E' => ?_
  rw [ksk_t1]
  have ho := PySem.W.copyHeap_at s.heap its
  obtain ⟨e1, ho1⟩ : ∃ e1, ((PySem.W.copyHeap s.heap its).update (s.heap.objs.size + 1) (Obj.mapSeq fun _ => (#[] : Array Value))).get? (s.heap.objs.size + 1) = some (seqObj "list" #[] e1) := ⟨_, get?_update_seq ho fun _ => #[]⟩
  have ha : s.heap.objs.size + 1 < (PySem.W.copyHeap s.heap its).objs.size := Heap.lt_size ho
  have old : ∀ b o, s.heap.get? b = some o → (PySem.W.sortingHeap (PySem.W.copyHeap s.heap its) (s.heap.objs.size + 1) its).get? b = some o := fun b o q =>
    PySem.W.sortingHeap_old (fun z => Nat.lt_irrefl _ (Nat.lt_of_succ_lt (by rw [z] at q; exact Heap.lt_size q))) (PySem.W.copyHeap_old q)
  have kSz : (((PySem.W.copyHeap s.heap its).update (s.heap.objs.size + 1) (Obj.mapSeq fun _ => (#[] : Array Value))).push (seqObj "tuple" its.toArray 0)).objs.size = (PySem.W.copyHeap s.heap its).objs.size + 1 := by rw [size_push', Heap.size_update]
  unfold PyProof.Rows.ksk_tree
  refine wpAny_bind (listItems_at ho rfl ?_)
  refine wpAny_bind (listUpdate_at ho rfl ?_ (by rw [List.size_toArray]; omega) (Nat.zero_le _))
  refine wpAny_bind (seqEpoch_at ho1 rfl ?_)
  refine wpAny_bind (wpAny_newTuple ?_ (by show its.length ≤ _; omega))
  refine wpAny_bind (wpAny_newList ?_ (Nat.zero_le _))
  refine wpAny_holding ?_
  have da : Aside X pins H (s.heap.objs.size + 1) := .new I (Nat.le_succ _)
  have dk : Aside X pins H ((((PySem.W.copyHeap s.heap its).update (s.heap.objs.size + 1) (Obj.mapSeq fun _ => (#[] : Array Value))).push (seqObj "tuple" its.toArray 0)).objs.size) := .new I (by rw [kSz]; omega)
  have hne : (((PySem.W.copyHeap s.heap its).update (s.heap.objs.size + 1) (Obj.mapSeq fun _ => (#[] : Array Value))).push (seqObj "tuple" its.toArray 0)).objs.size ≠ s.heap.objs.size + 1 := by rw [kSz]; omega
  have I0 := I.kept (t' := s.toks) old
  refine key_fold (kS := (((PySem.W.copyHeap s.heap its).update (s.heap.objs.size + 1) (Obj.mapSeq fun _ => (#[] : Array Value))).push (seqObj "tuple" its.toArray 0)).objs.size) (A := X.A.in1.in1) F B hg hr2 rfl hne t rv hlen (by omega) hk
    ⟨W, H, [], [], #[], 0, I0, .refl, r, rfl, da, dk, Heap.get?_push_size _ rfl, Heap.get?_push_of_some _ (Heap.get?_push_of_some _ ho1), .nil, .nil, by unfold pyAll; simp only [pyWL, List.take_zero]⟩ fun s' kA e hJ hkA => ?_
  exact keyed_end hne (Nat.lt_of_le_of_lt (by show X.A.units + 1 + 1 + 60 ≤ X.A.units + 64; omega) hu) t rv hlen (by omega) hal hsk hd hJ hkA fun W' H' x' r' c' n' => fin W' H' _ x' r' c' n'
/-- sorted(xs, key=f) -/
def wSortKey (S : SD) (me : WE) : WE := fun sl cs Q X => me sl cs (fun d cs1 => match lisD cs1 d with
  | some ds => ∃ ks : List PyData, ks.length = ds.length ∧ (∀ (i : Nat) x p, ds[i]? = some x → ks[i]? = some p → KeyD S cs1 x p) ∧ PySem.W.AllAlike ks ∧ PySem.W.Sortable ks ∧ (∀ q ∈ ks, q.depth ≤ 59) ∧ Q (.lst (((ds.zip ks).mergeSort (PySem.W.dataLe false (·.2))).map (·.1))) cs1
  | none => False) X
theorem zip_triples {K : PySem.W.Frag} {W : Wd} {H : Hp} : ∀ {ds : List D} {vs : List V} {ks : List PyData}, AtL K T W H ds vs → ks.length = ds.length → ∃ L : List (D × V × PyData), ds = L.map (·.1) ∧ vs = L.map (·.2.1) ∧ ks = L.map (·.2.2) ∧ ∀ t ∈ L, At K T W H t.1 t.2.1
  | [], _, [], .nil, _ => ⟨[], rfl, rfl, rfl, fun _ h => nomatch h⟩
  | [], _, _ :: _, _, h => nomatch h
  | _ :: _, _, [], _, h => nomatch h
  | d :: ds, _, p :: ks, .cons (v := v) a t, h => by
    obtain ⟨L, h1, h2, h3, h4⟩ := zip_triples t (Nat.succ.inj h)
    refine ⟨(d, v, p) :: L, by rw [h1]; rfl, by rw [h2]; rfl, by rw [h3]; rfl, fun x hx => ?_⟩
    rcases List.mem_cons.mp hx with e | hx
    · rw [e]; exact a
    · exact h4 x hx
def rSortKey (X : Cx) (T : Tb) (S : SD) (f : Addr) : List V → List V → Hp → VK → Prop := fun xs zs H Q => ∃ W l vs ds ks, Rep X.K T W H ∧ xs = [.ref l] ∧ zs = [.ref f] ∧ SqL X.K H l vs ∧ AtL X.K T W H ds vs ∧ ks.length = ds.length ∧
  (∀ (i : Nat) x p, ds[i]? = some x → ks[i]? = some p → KeyD S W.cs x p) ∧ PySem.W.AllAlike ks ∧ PySem.W.Sortable ks ∧ (∀ q ∈ ks, q.depth ≤ 59) ∧
  ∀ W' H' p, Ext W H W' H' → Rep X.K T W' H' → W'.cs = W.cs → H' p = none → Q (.ref p) (upd H' p (.lst (((vs.zip ks).mergeSort (PySem.W.dataLe false (·.2))).map (·.1))))
theorem cr_sortKey (F : DFn X.prog X.w X.K X.mg X.base T CX0 k f fd ps S) (B : Binds X.K fd ps []) (hg : X.A.guards = some []) (hr : Room (k + 2) X.A) (hu : X.A.units + 64 < cLine) : CallRK X (.builtin "sorted") [Str.ofString "key"] (rSortKey X T S f) := by
  intro pins s σ H xs zs us ws Q I r1 r2 h
  obtain ⟨W, l, vs, ds, ks, r, rfl, rfl, hl, t, hlen, hk, hal, hsk, hd, fin⟩ := h
  rw [Vals.ref1 r1, Vals.ref1 r2]
  exact sortK_run F B hg hr hu I r hl t hlen hk hal hsk hd fin
variable {e : Expr} {me : WE} {x : Str} {p p2 p3 pos : Pos}
theorem de_sortKey (F : DFn X.prog X.w X.K X.mg X.base T CX0 k f fd ps S) (hg : X.A.guards = some []) (hr : Room (k + 2) X.A) (hu : X.A.units + 64 < cLine) (hmx : X.mg x = some (.ref f)) (B : Binds X.K fd ps []) (hm : X.mg "sorted" = none) (he : DE X T E e me)
    (gx : Gl X x := by rfl) (gl : Gl X "sorted" := by rfl) (hdb : (x == ("__debug__" : Str)) = false := by decide) (he2 : starEach [e] X.env = (false, eval e X.env) :: starEach [] X.env := by rfl)
    (he' : backTo pos (starEach [e] X.env) = (false, eval e X.env) :: backTo pos (starEach [] X.env) := by rfl) (hpl : (backTo pos (starEach [e] X.env)).any (·.1) = false := by rfl)
    (hall : (backToKw pos (keywordEach [⟨some "key", .Name x p2, p3⟩] X.env)).all (·.1.isSome) = true := by rfl) (hnone : (backToKw pos (keywordEach [⟨some "key", .Name x p2, p3⟩] X.env)).any (·.1.isNone) = false := by rfl)
    (hks : (backToKw pos (keywordEach [⟨some "key", .Name x p2, p3⟩] X.env)).filterMap (·.1) = [Str.ofString "key"] := by rfl) :
    DE X T E (.Call (.Name "sorted" p) [e] [⟨some "key", .Name x p2, p3⟩] pos) (wSortKey S me) := by
  obtain ⟨t, pe, se⟩ := he.ex
  refine ⟨_, pe_callBK (cr_sortKey F B hg hr hu) gl hm (by decide +kernel) (pa_cons pe pa_nil he2) (pk_cons (pe_glob gx hmx (show L2.RelV (.ref f) (.ref f) from rfl) hdb) pk_nil) (by decide) (by decide) he' hpl hall hnone hks, fun sl W σ H Q' X' Q hs rp h po px => ?_⟩
  refine se sl W σ H _ X' _ hs rp h (fun d W1 v H1 q1 x1 r1 a1 => ?_) px
  split at q1
  · rename_i ds ed
    obtain ⟨ks, hlen, hk, hal, hsk, hd, q1⟩ := q1
    obtain ⟨l, vs, rfl, hl, tt⟩ := lisD_at r1 a1 ed
    refine ⟨W1, l, vs, ds, ks, r1, rfl, rfl, hl, tt, hlen, hk, hal, hsk, hd, fun W' H' p x' r' c' n' => ?_⟩
    obtain ⟨L, h1, h2, h3, h4⟩ := zip_triples tt hlen
    have z1 : ∀ L : List (D × V × PyData), (L.map (·.1)).zip (L.map (·.2.2)) = L.map fun t => ((t.1, t.2.2) : D × PyData) := fun L => by
      induction L with
      | nil => rfl
      | cons y L ih => simp only [List.map_cons, List.zip_cons_cons, ih]
    have z2 : ∀ L : List (D × V × PyData), (L.map (·.2.1)).zip (L.map (·.2.2)) = L.map fun t => ((t.2.1, t.2.2) : V × PyData) := fun L => by
      induction L with
      | nil => rfl
      | cons y L ih => simp only [List.map_cons, List.zip_cons_cons, ih]
    have m1 : (L.map fun t => ((t.2.1, t.2.2) : V × PyData)).mergeSort (PySem.W.dataLe false (·.2)) = (L.mergeSort (PySem.W.dataLe false (·.2.2))).map fun t => (t.2.1, t.2.2) :=
      (PySem.W.sort_maps (r := PySem.W.dataLe false fun t : D × V × PyData => t.2.2) (s := PySem.W.dataLe false fun b : V × PyData => b.2) (fun t => (t.2.1, t.2.2)) (l := L) fun _ _ _ _ => rfl).symm
    have m3 : (L.map fun t => ((t.1, t.2.2) : D × PyData)).mergeSort (PySem.W.dataLe false (·.2)) = (L.mergeSort (PySem.W.dataLe false (·.2.2))).map fun t => (t.1, t.2.2) :=
      (PySem.W.sort_maps (r := PySem.W.dataLe false fun t : D × V × PyData => t.2.2) (s := PySem.W.dataLe false fun b : D × PyData => b.2) (fun t => (t.1, t.2.2)) (l := L) fun _ _ _ _ => rfl).symm
    rw [h1, h3, z1, m3, List.map_map] at q1
    have am : ∀ t ∈ L.mergeSort (PySem.W.dataLe false (·.2.2)), At X.K T W' H' t.1 t.2.1 := fun t ht => (h4 t ((List.mergeSort_perm L _).mem_iff.mp ht)).ext x'
    have q2 : Q' (.lst ((L.mergeSort (PySem.W.dataLe false (·.2.2))).map (·.1))) W'.cs := by rw [c']; exact q1
    refine po _ W' _ _ q2 ((x1.trans x').trans (.laid n')) (r'.laid n') (.lst (vs := (L.mergeSort (PySem.W.dataLe false (·.2.2))).map (·.2.1)) ?_ (r'.fresh n') ((atL_map am).ext (.laid n')))
    rw [upd_same, h2, h3, z2, m1, List.map_map]
    rfl
  · exact q1.elim
end
end DL
namespace DL
open PySem PySem.Spec PyProof.Rows L2
section
variable {X : Cx} {T : Tb} {E : XK} {k : Nat} {f : Addr} {fd : FuncData} {ps : List Str} {S : SD}
/-- .. as a live list -/
def wSortKeyR (S : SD) (me : WE) : WE := fun sl cs Q X => wSortKey S me sl cs (fun d cs1 => match d with
  | .lst ds => Q (.root cs1.length) (cs1 ++ [.lst ds])
  | _ => False) X
variable {e : Expr} {me : WE} {x : Str} {p p2 p3 pos : Pos}
theorem de_sortKeyR (F : DFn X.prog X.w X.K X.mg X.base T CX0 k f fd ps S) (hg : X.A.guards = some []) (hr : Room (k + 2) X.A) (hu : X.A.units + 64 < cLine) (hmx : X.mg x = some (.ref f)) (B : Binds X.K fd ps []) (hm : X.mg "sorted" = none) (he : DE X T E e me)
    (gx : Gl X x := by rfl) (gl : Gl X "sorted" := by rfl) (hdb : (x == ("__debug__" : Str)) = false := by decide) (he2 : starEach [e] X.env = (false, eval e X.env) :: starEach [] X.env := by rfl)
    (he' : backTo pos (starEach [e] X.env) = (false, eval e X.env) :: backTo pos (starEach [] X.env) := by rfl) (hpl : (backTo pos (starEach [e] X.env)).any (·.1) = false := by rfl)
    (hall : (backToKw pos (keywordEach [⟨some "key", .Name x p2, p3⟩] X.env)).all (·.1.isSome) = true := by rfl) (hnone : (backToKw pos (keywordEach [⟨some "key", .Name x p2, p3⟩] X.env)).any (·.1.isNone) = false := by rfl)
    (hks : (backToKw pos (keywordEach [⟨some "key", .Name x p2, p3⟩] X.env)).filterMap (·.1) = [Str.ofString "key"] := by rfl) :
    DE X T E (.Call (.Name "sorted" p) [e] [⟨some "key", .Name x p2, p3⟩] pos) (wSortKeyR S me) := by
  obtain ⟨t, pe, se⟩ := he.ex
  refine ⟨_, pe_callBK (cr_sortKey F B hg hr hu) gl hm (by decide +kernel) (pa_cons pe pa_nil he2) (pk_cons (pe_glob gx hmx (show L2.RelV (.ref f) (.ref f) from rfl) hdb) pk_nil) (by decide) (by decide) he' hpl hall hnone hks, fun sl W σ H Q' X' Q hs rp h po px => ?_⟩
  refine se sl W σ H _ X' _ hs rp h (fun d W1 v H1 q1 x1 r1 a1 => ?_) px
  split at q1
  · rename_i ds ed
    obtain ⟨ks, hlen, hk, hal, hsk, hd, q1⟩ := q1
    obtain ⟨l, vs, rfl, hl, tt⟩ := lisD_at r1 a1 ed
    refine ⟨W1, l, vs, ds, ks, r1, rfl, rfl, hl, tt, hlen, hk, hal, hsk, hd, fun W' H' p x' r' c' n' => ?_⟩
    obtain ⟨L, h1, h2, h3, h4⟩ := zip_triples tt hlen
    have z1 : ∀ L : List (D × V × PyData), (L.map (·.1)).zip (L.map (·.2.2)) = L.map fun t => ((t.1, t.2.2) : D × PyData) := fun L => by
      induction L with
      | nil => rfl
      | cons y L ih => simp only [List.map_cons, List.zip_cons_cons, ih]
    have z2 : ∀ L : List (D × V × PyData), (L.map (·.2.1)).zip (L.map (·.2.2)) = L.map fun t => ((t.2.1, t.2.2) : V × PyData) := fun L => by
      induction L with
      | nil => rfl
      | cons y L ih => simp only [List.map_cons, List.zip_cons_cons, ih]
    have m1 : (L.map fun t => ((t.2.1, t.2.2) : V × PyData)).mergeSort (PySem.W.dataLe false (·.2)) = (L.mergeSort (PySem.W.dataLe false (·.2.2))).map fun t => (t.2.1, t.2.2) :=
      (PySem.W.sort_maps (r := PySem.W.dataLe false fun t : D × V × PyData => t.2.2) (s := PySem.W.dataLe false fun b : V × PyData => b.2) (fun t => (t.2.1, t.2.2)) (l := L) fun _ _ _ _ => rfl).symm
    have m3 : (L.map fun t => ((t.1, t.2.2) : D × PyData)).mergeSort (PySem.W.dataLe false (·.2)) = (L.mergeSort (PySem.W.dataLe false (·.2.2))).map fun t => (t.1, t.2.2) :=
      (PySem.W.sort_maps (r := PySem.W.dataLe false fun t : D × V × PyData => t.2.2) (s := PySem.W.dataLe false fun b : D × PyData => b.2) (fun t => (t.1, t.2.2)) (l := L) fun _ _ _ _ => rfl).symm
    rw [h1, h3, z1, m3, List.map_map] at q1
    have am : ∀ t ∈ L.mergeSort (PySem.W.dataLe false (·.2.2)), At X.K T W' H' t.1 t.2.1 := fun t ht => (h4 t ((List.mergeSort_perm L _).mem_iff.mp ht)).ext x'
    have q2 : Q' (.root W'.cs.length) (W'.cs ++ [.lst ((L.mergeSort (PySem.W.dataLe false (·.2.2))).map (·.1))]) := by rw [c']; exact q1
    have e2 : ((vs.zip ks).mergeSort (PySem.W.dataLe false (·.2))).map (·.1) = (L.mergeSort (PySem.W.dataLe false (·.2.2))).map (·.2.1) := by
      rw [h2, h3, z2, m1, List.map_map]
      rfl
    rw [e2]
    obtain ⟨y1, y2, y3⟩ := new_root r' n' (atL_map am)
    exact po _ _ _ _ q2 ((x1.trans x').trans y1) y2 y3
  · exact q1.elim
end
end DL
namespace DL
open PySem PySem.Spec PyProof.Rows L2

/-! ### for i, x in enumerate(xs): xs live or frozen, and as it is through the loop -/
section
variable {X : Cx} {T : Tb} {E : XK} {pos pos' p tpos : Pos}
def forE (g : WG) (tb : WS) (D0 : WD) (d0 : D) (ds : List D) : Nat → List D → Sl → Cells → Prop
  | _, [], sl, cs => lisD cs d0 = some ds ∧ D0.nx sl cs
  | i, d :: es, sl, cs => lisD cs d0 = some ds ∧ g (.tup [.int (i : Nat), d]) sl cs fun sl1 cs1 => tb { nx := fun s c => forE g tb D0 d0 ds (i + 1) es s c, rt := D0.rt, xq := D0.xq, bk := D0.nx, ct := fun s c => forE g tb D0 d0 ds (i + 1) es s c } sl1 cs1
def wForE (ma : WA) (g : WG) (tb : WS) : WS := fun D0 sl cs => ma sl cs (fun es cs1 => match es with
  | [d] => ∃ ds, lisD cs1 d = some ds ∧ forE g tb D0 d ds 0 ds sl cs1
  | _ => False) D0.xq
theorem forE_here {g : WG} {tb : WS} {D0 : WD} {d0 : D} {i : Nat} {ds es : List D} {sl : Sl} {cs : Cells} (h : forE g tb D0 d0 ds i es sl cs) : lisD cs d0 = some ds := by
  cases es with
  | nil => exact h.1
  | cons d es => exact h.1
theorem ds_forE {e : Expr} {elts : List Expr} {kk : Nat} {body : List Stmt} {ma : WA} {g : WG} {gs : List Nat} {tb : WS} (hm : X.mg "enumerate" = none) (hp : PassesOwn (model X.prog X.w) X.A X.env X.xe) (hc : X.calm = true) (ha : DA X T E [e] ma)
    (hg : DG X T (.Tuple elts kk tpos) g gs) (hb : DSs X T E body tb) (gl : Gl X "enumerate" := by rfl) (hst : starEach [e] X.env = [(false, eval e X.env)] := by rfl)
    (hs : ∀ x, foldedSetIterable (.Call (.Name "enumerate" p) [e] [] pos) X.env x = pure x := by intro _; rfl) : DS X T E (.For (.Tuple elts kk tpos) (.Call (.Name "enumerate" p) [e] [] pos) body [] pos') (wForE ma g tb) := by
  obtain ⟨t1, p1, s1⟩ := ha.ex
  obtain ⟨tg', p2, s2⟩ := hg.ex
  obtain ⟨t3, p3, s3⟩ := hb.ex
  refine ⟨_, ps_for hp hc (pi_enum gl hm p1 hst) p2 p3 hs, fun sl W σ H D' Dn hs rp h po => ?_⟩
  refine s1 sl W σ H _ _ _ hs rp h (fun es W1 vs0 H1 q1 x1 r1 a1 => ?_) po.xq
  cases a1 with
  | nil => exact q1.elim
  | cons a1 a2 =>
    cases a2 with
    | cons _ _ => exact q1.elim
    | nil =>
      rename_i d0 v0
      obtain ⟨ds, ed, q1⟩ := (show ∃ ds, lisD W1.cs d0 = some ds ∧ forE g tb D' d0 ds 0 ds sl W1.cs from q1)
      obtain ⟨l, vs, rfl, h1, t1⟩ := lisD_at r1 a1 ed
      refine ⟨l, vs, rfl, h1, ?_⟩
      refine ⟨fun i m σ' H' => ∃ sl' W', SlAt X.K T W' H' sl' σ' ∧ Rep X.K T W' H' ∧ Ext W1 H1 W' H' ∧ m = ds.length - i ∧ i ≤ ds.length ∧ forE g tb D' d0 ds i (ds.drop i) sl' W'.cs,
        ⟨_, sl, W1, hs.ext x1, r1, .refl, rfl, Nat.zero_le _, by rw [List.drop_zero]; exact q1⟩, ?_⟩
      rintro i m σ2 H2 ⟨sl2, W2, hs2, r2, x2, rfl, hi, q2⟩
      have ec2 := forE_here q2
      obtain ⟨l', us, el, h2, t2⟩ := lisD_at r2 (a1.ext x2) ec2
      cases el
      have lu := t2.length
      by_cases hlt : i < ds.length
      · have hd : ds.drop i = ds[i] :: ds.drop (i + 1) := List.drop_eq_getElem_cons hlt
        obtain ⟨v, e1, e2⟩ := t2.get' (List.getElem?_eq_getElem hlt)
        refine .inr ⟨⟨us, v, h2, e1⟩, fun σ' H' => ∃ sl' W', SlAt X.K T W' H' sl' σ' ∧ Rep X.K T W' H' ∧ Ext W1 H1 W' H' ∧ forE g tb D' d0 ds (i + 1) (ds.drop (i + 1)) sl' W'.cs,
          fun σ' H' ⟨sl', W', z1, z2, z3, z4⟩ => ⟨ds.length - (i + 1), by omega, sl', W', z1, z2, z3, rfl, hlt, z4⟩, fun y H3 hy => ?_⟩
        obtain ⟨Tt, z, rfl, nT, rfl, hz⟩ := hy
        have ez := hz us h2
        rw [e1] at ez
        cases ez
        have hx : Ext W2 H2 W2 (upd H2 Tt (.tup [.int (i : Nat), v])) := .laid nT
        rw [hd] at q2
        refine s2 sl2 W2 σ2 _ _ _ _ _ (hs2.ext hx) (r2.laid nT) (.tup upd_same (r2.fresh nT) (.cons (.int _) (.cons (e2.ext hx) .nil))) q2.2 fun sl4 σ4 q4 hs4 _ _ => ?_
        refine s3 sl4 W2 σ4 _ _ _ hs4 (r2.laid nT) q4 ⟨fun sl5 W5 σ5 H5 q5 x5 r5 a5 => ?_, ((po.rt.st x1).st x2).st hx, fun sl5 W5 σ5 H5 q5 x5 r5 a5 => ?_, fun sl5 W5 σ5 H5 q5 x5 r5 a5 => ?_, ((po.xq.st x1).st x2).st hx⟩
        · exact ⟨sl5, W5, a5, r5, x2.trans (hx.trans x5), q5⟩
        · exact po.nx sl5 W5 σ5 H5 q5 (x1.trans (x2.trans (hx.trans x5))) r5 a5
        · exact ⟨sl5, W5, a5, r5, x2.trans (hx.trans x5), q5⟩
      · have e : i = ds.length := by omega
        subst e
        rw [List.drop_length] at q2
        exact .inl ⟨⟨us, h2, by omega⟩, po.nx sl2 W2 σ2 H2 q2.2 (x1.trans x2) r2 hs2⟩
end

/-! ### an own == with anything on its right; isinstance(x, C) of anything -/
structure NoIs (K : PySem.W.Frag) (C : Addr) : Prop where
  int : PySem.W.kitOne K (.type "int") (.ref C) = some false
  str : PySem.W.kitOne K (.type "str") (.ref C) = some false
  non : PySem.W.kitOne K (.type "NoneType") (.ref C) = some false
  lst : PySem.W.kitOne K (.type "list") (.ref C) = some false
theorem kit_sub {K : PySem.W.Frag} {C : Addr} {T : String} (h : PySem.W.kitOne K (.type T) (.ref C) = some false) : PySem.W.subIn K (.type T) (.ref C) = some false := by
  unfold PySem.W.kitOne at h
  rw [if_neg (by intro z; exact nomatch (beq_iff_eq.mp z))] at h
  unfold PySem.W.kitCls at h
  simp only at h
  split at h
  · exact h
  · cases h
/-- data of one of the plain types that are asked about -/
def other : D → Prop
  | .int _ => True
  | .str _ => True
  | .non => True
  | .lst _ => True
  | _ => False
theorem other_ty {K : PySem.W.Frag} {T : Tb} {W : Wd} {H : Hp} {C : Addr} (N : NoIs K C) {d : D} {v : V} (o : other d) (a : At K T W H d v) : ∃ t, TyX K H v t ∧ PySem.W.kitOne K t (.ref C) = some false ∧ PySem.W.subIn K t (.ref C) = some false := by
  cases a with
  | int i => exact ⟨_, .base (.int i), N.int, kit_sub N.int⟩
  | str i => exact ⟨_, .base (.str i), N.str, kit_sub N.str⟩
  | non => exact ⟨_, .base .non, N.non, kit_sub N.non⟩
  | lst h _ _ => exact ⟨_, .base (.lst h), N.lst, kit_sub N.lst⟩
  | _ => exact o.elim
section
variable {X : Cx} {T : Tb} {E : XK} {k n : Nat} {f C : Addr} {fd : FuncData} {ps : List Str} {S : SD}
def rEqZ (K : PySem.W.Frag) (T : Tb) (S : SD) (C : Addr) : R2 := fun x y H Q => ∃ a dx fs t, x = .ref a ∧ H a = some (.ins C dx fs) ∧ TyX K H y t ∧ PySem.W.notFirst K C t = true ∧
  spD K T S [.ref a, y] H (fun v H' => ∃ b, v = .bl b ∧ Q (.bl b) H') E0
theorem op_eqZ (hg : X.A.guards = some []) (hr : Room k X.A) (F : DFn X.prog X.w X.K X.mg X.base T CX0 k f fd ps S) (B : FnB X.K f fd ps) (m : Meth X.K C "__eq__" f) : OpR X (compareOp .Eq) (rEqZ X.K T S C) := by
  intro pins s σ H x y v u Q I rx ry hq
  obtain ⟨a, dx, fs, t, rfl, ha, ty, nf, hs⟩ := hq
  cases rx
  obtain ⟨mA, J, _⟩ := ins_get I.hok ha
  obtain ⟨od, J, _⟩ := J.look
  obtain ⟨m', hF⟩ := I.fr
  obtain ⟨P, Z, hP, _⟩ := kit_of I ry ty
  show wpAny (model X.prog X.w) X.A (richCompare .Eq (.ref a) u) (EP X pins σ Q) X.xe s
  refine PySem.W.cmp_K (op := .Eq) (tb := t) hr.units0 hF I.ok.mod.kin J (Z.ty _ _ I.kIn hP) nf m.at_ m.fn ?_
  refine wpAny_mono (run_g (us := [.ref a, u]) F hg hr B.b pass0 I (.cons (show L2.RelV (.ref a) (.ref a) from rfl) (.cons ry .nil)) hs) (fun r s' z => ?_) fun _ _ x => x
  obtain ⟨v, H', I', rv, b, rfl, q⟩ := z
  have rv : r = .bool b := rv
  subst rv
  exact ⟨.bl _, H', I', rfl, q⟩
def gEqZ (n : Nat) (S : SD) : G2 := fun d e cs Q => match d with
  | .ins n1 _ => n1 = n ∧ ((∃ es, e = .ins n es) ∨ other e) ∧ S [d, e] cs (fun r cs' => match r with
    | .bl b => Q (.bl b) cs'
    | _ => False) fun _ _ _ => False
  | _ => False
theorem ok_eqZ {K : PySem.W.Frag} (c : C8.InsC K (T.cl n)) (N : NoIs K (T.cl n)) : OkR K T (rEqZ K T S (T.cl n)) (gEqZ n S) := fun W H d e v u Q' Q r a b h p => by
  cases a with
  | @ins a dx n1 vs ds h1 l1 f1 t1 =>
    obtain ⟨e1, h2, h⟩ := h
    subst e1
    have fin : ∀ t, TyX K H u t → PySem.W.notFirst K (T.cl n1) t = true → rEqZ K T S (T.cl n1) (.ref a) u H Q := fun t ty nf =>
      ⟨a, dx, _, t, rfl, h1, ty, nf, _, W, _, _, .cons (.ins h1 l1 f1 t1) (.cons b .nil), r, h, fun d W' v H' q x r' at' => by
        cases d with
        | bl b => cases at'; exact ⟨b, rfl, p _ W' _ H' q x r' (.bl _)⟩
        | _ => exact q.elim, fun _ _ _ _ _ _ z => z.elim⟩
    rcases h2 with ⟨es, rfl⟩ | h2
    · cases b with
      | ins h2 l2 f2 t2 => exact fin _ (.base (TyOf.ins h2 c.cl c.ha c.hn c.htk c.hm)) (by simp [PySem.W.notFirst])
    · obtain ⟨t, ty, _, e2⟩ := other_ty N h2 b
      exact fin t ty (by unfold PySem.W.notFirst; rw [e2]; simp)
  | _ => exact h.elim
variable {e : Expr} {me : WE} {p p2 pos : Pos} {x : Str}
def wIsiA (n : Nat) (me : WE) : WE := fun sl cs Q X => me sl cs (fun d cs1 => (∃ es, d = .ins n es ∧ Q (.bl true) cs1) ∨ (other d ∧ Q (.bl false) cs1)) X
theorem de_isiA (c : C8.InsC X.K (T.cl n)) (N : NoIs X.K (T.cl n)) (hz : X.mg "isinstance" = none) (hm : X.mg x = some (.ref (T.cl n))) (he : DE X T E e me) (gl : Gl X "isinstance" := by rfl) (gl2 : Gl X x := by rfl)
    (hs : starEach [e, .Name x p2] X.env = (false, eval e X.env) :: starEach [.Name x p2] X.env := by rfl) (hdb : (x == ("__debug__" : Str)) = false := by decide) (hb : bootBuiltins "isinstance" = some (.builtin "isinstance") := by first | rfl | decide +kernel) :
    DE X T E (.Call (.Name "isinstance" p) [e, .Name x p2] [] pos) (wIsiA n me) := by
  obtain ⟨t, pe, se⟩ := he.ex
  refine ⟨_, pe_callB call_isi gl hz hb (pa_cons pe (pa_cons (C8.pe_gc gl2 ⟨_, hm, (show L2.RelV (.ref (T.cl n)) (.ref (T.cl n)) from rfl)⟩ hdb) pa_nil rfl) hs) (by decide) (by decide) hs rfl, fun sl W σ H Q' X' Q hs rp h po px => ?_⟩
  refine se sl W σ H _ X' _ hs rp h (fun d W1 v H1 q1 x1 r1 a1 => ?_) px
  rcases q1 with ⟨es, rfl, q1⟩ | ⟨o, q1⟩
  · cases a1 with
    | @ins a dx n' vs ds h1 l1 f1 t1 => exact ⟨_, _, _, _, true, rfl, .own _, .base (TyOf.ins h1 c.cl c.ha c.hn c.htk c.hm), c.me, po _ W1 _ H1 q1 x1 r1 (.bl true)⟩
  · obtain ⟨t, ty, e1, _⟩ := other_ty N o a1
    exact ⟨_, _, _, _, false, rfl, .own _, ty, e1, po _ W1 _ H1 q1 x1 r1 (.bl false)⟩
end
end DL
namespace DL
open PySem PySem.Spec PyProof.Rows L2

/-! ### the exception in hand, in a def that it is handed to -/
/-- what is known of the exception at a in every state of the context -/
def Knows (X : Cx) (a : Addr) (oe : Obj) : Prop := ∀ pins σ H s, Inv X pins σ H s → s.heap.get? a = some oe
theorem knows_suite {X : Cx} {a : Addr} {oe : Obj} {pn : List (Addr × Obj)} : Knows (X.suite a ((a, oe) :: pn)) a oe := fun _ _ _ _ I =>
  (I.pin (a, oe) (List.mem_append_left _ List.mem_cons_self)).1
theorem knows_cx {CX : CXT} {P : Program} {w : World} {K : PySem.W.Frag} {mg : Str → Option Value} {base : Heap} {N : List Str} {qual : Str} {sc : Scope} {f : Addr} {cdv : Value} {A : Around} {outer : List Env} {s : Shared} {H : Hp} {E : XK} {a : Addr} {oe : Obj} :
    Knows (L2H.cxH CX P w K mg base N qual sc f cdv A outer s H E (a, oe)) a oe := fun _ _ _ _ I => (I.pin (a, oe) (List.mem_append_left _ List.mem_cons_self)).1
theorem knows_nox {CX : CXT} {P : Program} {w : World} {K : PySem.W.Frag} {mg : Str → Option Value} {base : Heap} {N : List Str} {qual : Str} {sc : Scope} {f : Addr} {cdv : Value} {A : Around} {outer : List Env} {s : Shared} {H : Hp} {E : XK} {a : Addr} {oe : Obj} :
    Knows (L2H.cxH CX P w K mg base N qual sc f cdv A outer s H E (a, oe)).nox a oe := fun _ _ _ _ I => (I.pin (a, oe) (List.mem_append_left _ List.mem_cons_self)).1
structure FnE (p : Addr × Obj) (P : Program) (w : World) (K : PySem.W.Frag) (mg : Str → Option Value) (base : Heap) (CX : CXT) (k : Nat) (f : Addr) (fd : FuncData) (ps : List Str) (sp : Sp) : Prop where
  len : ∀ vs H Q E, sp vs H Q E → vs.length = ps.length
  run : ∀ (A : Around) (outer : List Env) (s : Shared) (H : Hp) (args : Args) (us : List Value) (vs : List V) (Q : VK) (E : XK), A.guards = some [] → L2H.RoomH k A → L2H.PinOk outer H s p → Env0 P w K mg base A outer s H →
    BindsTo s fd args (ps.zip us) → Vals vs us → sp vs H Q E → codeAny (model P w) A (.call (.ref f) args) (CR CX outer P w H s Q E) s
theorem fnE_of {p : Addr × Obj} {CX : CXT} {P : Program} {w : World} {K : PySem.W.Frag} {mg : Str → Option Value} {base : Heap} {k : Nat} {f : Addr} {fd : FuncData} {x qual : Str} {st : Stmt} {N ps : List Str} {sp : Sp} (F : Fun K x qual st f fd)
    (S : FnScope N ps (defScope st)) (len : ∀ vs H Q E, sp vs H Q E → vs.length = ps.length)
    (hb : ∀ (cdv : Value) (A : Around) (outer : List Env) (s : Shared) (H : Hp) (vs : List V) (Q : VK) (E : XK), A.guards = some [] → L2H.RoomH k (A.deeper (envOfC qual (defScope st) s.heap.objs.size f cdv)) → sp vs H Q E →
      ∃ t, PSs (L2H.cxH CX P w K mg base N qual (defScope st) f cdv A outer s H E p) (defBody st) t ∧ t { nx := fun _ H' => Q .non H', rt := Q } (start N vs) H) : FnE p P w K mg base CX (k + 1) f fd ps sp := by
  obtain ⟨oc, od, kV, doc, pm, an, cdv, ct, osl, rfl, lk, hcd⟩ := F.ex
  refine ⟨len, ?_⟩
  intro A outer s H args us vs Q E hg hr hpin e0 hbi rv hsp
  have kx : K.In s.heap := e0.mod.kin.keeps fun b o z => (e0.bs b o z).1
  have nl : s.heap.NoLimit := e0.mod.nolimit.keeps fun b o z => (e0.bs b o z).1
  refine codeAny_call_function hr.depth (kx _ _ lk) rfl S.co S.gen rfl (PySem.W.codeRec_of kx hcd) (hbi _ _ _ _ ?_)
  refine wpAny_newFunctionEnv_cells S.kind (fun ⟨n, u⟩ hy => ?_) fun env he s1 ic => ?_
  · rcases S.par n (List.of_mem_zip hy).1 with q | q
    · exact .inl q
    · exact .inr ⟨q, PySem.W.cellsFrom_some _ _ _ (.inl q)⟩
  · subst he
    refine ⟨nl.keeps ic.toInCall.keep, codeAny_func ?_⟩
    obtain ⟨t, ht, hq⟩ := hb cdv A outer s H vs Q E hg (hr.deeper _) hsp
    refine wpAny_mono (ht.run [] s1 (start N vs) H _ (L2H.inv_startH S hpin e0 (len _ _ _ _ hsp) rv ic) hq) ?_ fun _ _ z => z
    intro fl s' hs
    cases fl with
    | ret u =>
      obtain ⟨v, σ', H', J, r1, q⟩ := hs
      exact ⟨v, H', J.os, J.bare, J.base, J.hok, r1, q⟩
    | next =>
      obtain ⟨σ', H', J, q⟩ := hs
      exact ⟨V.non, H', J.os, J.bare, J.base, J.hok, rfl, q⟩
    | brk => exact (hs.choose_spec.choose_spec.2).elim
    | cont => exact (hs.choose_spec.choose_spec.2).elim
/-- a def's promise where it is handed an exception of a class that ex takes -/
def DFnE (ex : Nat → Option Bool) (P : Program) (w : World) (K : PySem.W.Frag) (mg : Str → Option Value) (base : Heap) (T : Tb) (n : Nat) (f : Addr) (fd : FuncData) (ps : List Str) (S : SD) : Prop :=
  ∀ (a : Addr) (oe : Obj) (k : Nat) (dx : Addr), ex k = some true → Zc (.ref (T.xc k)) (some dx) oe → (∃ vs, oe.data = .fields vs) → FnE (a, oe) P w K mg base CX0 n f fd ps (spD K (T.at (some (a, k, dx))) S)
theorem DFnE.ok {ex : Nat → Option Bool} {P : Program} {w : World} {K : PySem.W.Frag} {mg : Str → Option Value} {base : Heap} {T : Tb} {n : Nat} {f : Addr} {fd : FuncData} {x qual : Str} {st : Stmt} {N ps : List Str} {S : SD}
    (F : Fun K x qual st f fd) (Sc : FnScope N ps (defScope st)) (len : ∀ ds cs Q X', S ds cs Q X' → ds.length = ps.length)
    (hb : ∀ (a : Addr) (oe : Obj) (k : Nat) (dx : Addr), ex k = some true → Zc (.ref (T.xc k)) (some dx) oe → (∃ vs, oe.data = .fields vs) → ∀ (cdv : Value) (A : Around) (outer : List Env) (s : Shared) (H : Hp) (E : XK), A.guards = some [] → L2H.RoomH n (A.deeper (envOfC qual (defScope st) s.heap.objs.size f cdv)) →
      ∃ m, DSs (L2H.cxH CX0 P w K mg base N qual (defScope st) f cdv A outer s H E (a, oe)).nox (T.at (some (a, k, dx))) E0 (defBody st) m ∧ ∀ ds cs Q X', S ds cs Q X' → m { nx := fun _ cs' => Q .non cs', rt := Q, xq := fun _ _ _ => False } (startD N.length ds) cs) :
    DFnE ex P w K mg base T (n + 1) f fd ps S := by
  intro a oe k dx hk hz hf
  refine fnE_of F Sc (fun vs H Q E ⟨ds, W, Q', X', a, r, h, p, px⟩ => ?_) fun cdv A outer s H vs Q E hg hr ⟨ds, W, Q', X', aa, r, h, p, px⟩ => ?_
  · rw [← a.length]; exact len _ _ _ _ h
  · obtain ⟨m, hm, hq⟩ := hb a oe k dx hk hz hf cdv A outer s H E hg hr
    obtain ⟨t, pt, st⟩ := hm.ex
    refine ⟨t, pt.nox, st (startD N.length ds) W (start N vs) H _ _ (SlAt.start aa) r (hq ds W.cs Q' X' h) ⟨fun sl' W' σ' H' q x r' _ => p .non W' .non H' q x r' .non, p, fun _ _ _ _ z => z.elim, fun _ _ _ _ z => z.elim, fun _ _ _ _ _ _ z => z.elim⟩⟩
section
variable {X : Cx} {T : Tb} {E : XK} {ex : Nat → Option Bool} {n k : Nat} {a dx f : Addr} {oe : Obj} {pn : List (Addr × Obj)} {fd : FuncData} {ps : List Str} {S : SD} {x : Str} {p pos : Pos} {e : Expr} {es : List Expr} {mr : WA}
/-- f(e, ..) in an except suite, where f is handed the exception -/
theorem de_callE (F : DFnE ex X.prog X.w X.K X.mg X.base T n f fd ps S) (hk : ex k = some true) (hz : Zc (.ref (T.xc k)) (some dx) oe) (hf : ∃ vs, oe.data = .fields vs) (hg : X.A.guards = some []) (hr : L2H.RoomH n X.A)
    (hm : X.mg x = some (.ref f)) (hkp : PySem.W.keepIn X.K (.ref f) = true) (hb : Binds X.K fd ps []) (hx : Passes CX0 (X.suite a ((a, oe) :: pn)) E)
    (ha : DA (X.suite a ((a, oe) :: pn)) (T.at (some (a, k, dx))) E (e :: es) mr) (gl : Gl X x := by rfl) (hdb : (x == ("__debug__" : Str)) = false := by decide) (he : starEach (e :: es) X.env = (false, eval e X.env) :: starEach es X.env := by rfl) (hpl : (backTo pos (starEach es X.env)).any (·.1) = false := by rfl) :
    DE (X.suite a ((a, oe) :: pn)) (T.at (some (a, k, dx))) E (.Call (.Name x p) (e :: es) [] pos) (wCall S mr) := by
  obtain ⟨t, pa, sa⟩ := ha.ex
  have F := F a oe k dx hk hz hf
  refine ⟨fun σ H Q => t σ H fun vs H1 => spD X.K (T.at (some (a, k, dx))) S vs H1 Q E, ⟨fun pins s σ H Q I h => ?_⟩, fun sl W σ H Q' X' Q hs rp h po px => ?_⟩
  · refine wpAny_Call_Name_kw (ld_glob I gl hm (PySem.W.callWith_K (h₀ := X.base) I.ok.mod.kin hkp (thn (pa.run pos pins s σ H _ I h) fun us s1 z => ?_) he hpl) hdb)
    obtain ⟨vs, H1, J, r, q⟩ := z
    refine ⟨J.kIn, ?_⟩
    have hl : (us ++ []).length = ps.length := by rw [List.append_nil, ← r.length]; exact F.len _ _ _ _ q
    have b := hb s1 us J.kIn hl
    rw [List.append_nil] at b
    obtain ⟨e1, e2, e3, e4, e5⟩ := J.pin (a, oe) (List.mem_append_left _ List.mem_cons_self)
    have ea : L2H.PinOk (X.suite a ((a, oe) :: pn)).stack H1 s1 (a, oe) := ⟨e1, e2, fun z => by
      rcases List.mem_cons.mp (J.stkSub a z) with z | z
      · exact e3 z
      · exact e4 z, e5⟩
    refine wpAny_call (codeAny_mono (F.run (X.suite a ((a, oe) :: pn)).A (X.suite a ((a, oe) :: pn)).stack s1 H1 ⟨us, []⟩ us vs Q E hg ⟨hr.dp, hr.un⟩ ea J.env0 b r q) fun q' s' hq => ?_)
    rcases ends_of J hx hq with ⟨u, e, z⟩ | ⟨e, e1, z⟩
    · subst e; exact z
    · subst e1; exact z
  · exact sa sl W σ H _ X' _ hs rp h (fun ds W1 vs H1 q1 x1 r1 a1 => ⟨ds, W1, Q', X', a1, r1, q1, po.st x1, px.st x1⟩) px
end

/-! ### the exception's value, isinstance of it, wherever it is known -/
section
variable {X : Cx} {T : Tb} {E : XK} {a dx : Addr} {k : Nat} {oe : Obj} {e : Expr} {me : WE} {p p2 pos : Pos} {x : Str} {c : V} {u : Value}
theorem pe_xfK {C : Addr} {cls : Value} {d : Option Addr} {te : TE} {n : Str} (kn : Knows X a oe) (T : XfC X.K C) (hno : PySem.W.findIn X.K (.ref C) n = some none)
    (hz : Zc cls d oe) (hf : ∃ vs, oe.data = .fields vs) (he : PE X e te) (hb : attributeBase e n X.env (eval e X.env) = eval e X.env := by rfl) :
    PE X (.Attribute e n pos) (tXf a cls d C n te) := by
  refine ⟨fun pins s σ H Q I h => ?_⟩
  refine attr_of hb (thn (he.run pins s σ H _ I h) fun u s1 hh => ?_)
  obtain ⟨x, H1, I1, rx, ex, ec, dd, fs, v, ed, ea, l, q⟩ := hh
  subst ex
  obtain rfl : u = Value.ref a := rx
  subst ec
  subst ed
  have ha := kn _ _ _ _ I1
  obtain ⟨vs, hd⟩ := hf
  have hx : ObjOk X.prog X.w H1 s1.heap dd (.xd fs) := I1.hok dd _ ea
  obtain ⟨mA, hns, hr⟩ := hx
  obtain ⟨od, ho, hl⟩ := lookIn_ns hns
  obtain ⟨u, hu, ru⟩ := RelO.some_of (v := v) (o := mA n) (by rw [← l]; exact hr n)
  have J : PySem.W.InstAt s1.heap a oe C (some od) := ⟨ha, hz.1, by unfold PySem.W.notCls; rw [hd] <;> rfl, by rw [hz.2]; exact ho⟩
  exact HandSPX.exc_get I1.kIn J T.ga T.gg T.exC (PySem.W.findObj_own T.hdC hno rfl (by rw [hl, hu])) (handed_of ru) ⟨v, H1, I1.tok _, ru, q⟩
theorem de_xvalK (kn : Knows X a oe) (Kx : XKit X.K (T.xc k)) (hz : Zc (.ref (T.xc k)) (some dx) oe) (hf : ∃ vs, oe.data = .fields vs) (he : DE X (T.at (some (a, k, dx))) E e me) (hb : attributeBase e "value" X.env (eval e X.env) = eval e X.env := by rfl) :
    DE X (T.at (some (a, k, dx))) E (.Attribute e "value" pos) (wXval me) := by
  obtain ⟨t, pe, se⟩ := he.ex
  refine ⟨_, pe_xfK kn ⟨Kx.ga, Kx.gt, Kx.ex, Kx.hd⟩ Kx.nv hz hf pe hb, fun sl W σ H Q' X' Q hs rp h po px => ?_⟩
  refine se sl W σ H _ X' _ hs rp h (fun d W1 v H1 q1 x1 r1 a1 => ?_) px
  cases a1 with
  | @exc a' dx' n' v' d' e1 h1 f1 t1 =>
    cases (show some (a, k, dx) = some (a', n', dx') from e1)
    exact ⟨rfl, rfl, dx, _, v', rfl, h1, rfl, po _ W1 _ H1 q1 x1 r1 t1⟩
  | _ => exact q1.elim
theorem exc_instK (kn : Knows X a oe) {C : Addr} {pins : List (Addr × Obj)} {s : Shared} {σ : L2.St} {H : Hp} {fs : List (Str × V)} (hz : Zc (.ref C) (some dx) oe) (hf : ∃ vs, oe.data = .fields vs) (I : Inv X pins σ H s) (hd : H dx = some (.xd fs)) :
    ∃ od, PySem.W.InstAt s.heap a oe C (some od) := by
  have ha := kn _ _ _ _ I
  obtain ⟨vs, hv⟩ := hf
  obtain ⟨mA, hns, hr⟩ := (show ObjOk X.prog X.w H s.heap dx (.xd fs) from I.hok dx _ hd)
  obtain ⟨od, ho, hl⟩ := lookIn_ns hns
  exact ⟨od, ha, hz.1, by unfold PySem.W.notCls; rw [hv] <;> rfl, by rw [hz.2]; exact ho⟩
theorem call_isXK (kn : Knows X a oe) {C : Addr} (Kx : XKit X.K C) (hz : Zc (.ref C) (some dx) oe) (hf : ∃ vs, oe.data = .fields vs) : CallR X (.builtin "isinstance") (rIsX X.K a C dx) := by
  intro pins s σ H xs us Q I r h
  obtain ⟨c, u, b, fs, rfl, hd, kc, e, q⟩ := h
  obtain ⟨u1, u2, rfl, r1, r2⟩ := vals2 r
  have e2 := kc.eq r2
  subst e2
  cases (show u1 = Value.ref a from r1)
  obtain ⟨od, J⟩ := exc_instK kn hz hf I hd
  exact PySem.W.kia_one (PySem.W.kitx_exc Kx.hcl Kx.ga Kx.gt Kx.ex Kx.ca Kx.cn Kx.ct Kx.mo) I.kIn J e (fun z => nomatch z) fun tk => ⟨.bl b, H, I.tok tk, rfl, q⟩
theorem call_isXTK (kn : Knows X a oe) {C : Addr} (Kx : XKit X.K C) (hz : Zc (.ref C) (some dx) oe) (hf : ∃ vs, oe.data = .fields vs) : CallR X (.builtin "isinstance") (rIsXT X.K a C dx) := by
  intro pins s σ H xs us Q I r h
  obtain ⟨tp, cs, ws, b, fs, rfl, hT, hd, kc, e, q⟩ := h
  obtain ⟨u1, u2, rfl, r1, r2⟩ := vals2 r
  cases (show u2 = Value.ref tp from r2)
  cases (show u1 = Value.ref a from r1)
  obtain ⟨od, J⟩ := exc_instK kn hz hf I hd
  obtain ⟨_, its, rv, o, h1, h2, n, h3⟩ := (show ObjOk X.prog X.w H s.heap tp (.tup cs) from I.hok tp _ hT)
  have e3 := ClsV.all kc rv
  subst e3
  obtain ⟨oc, od', dt, sl⟩ := o
  simp only at h2 h3
  subst h2 h3
  exact PySem.W.kia_tup (PySem.W.kitx_exc Kx.hcl Kx.ga Kx.gt Kx.ex Kx.ca Kx.cn Kx.ct Kx.mo) I.kIn J h1 e (fun z => nomatch z) fun tk => ⟨.bl b, H, I.tok tk, rfl, q⟩
theorem de_isXK (kn : Knows X a oe) {tab : Nat → Option Bool} (Kx : XKit X.K (T.xc k)) (hz : Zc (.ref (T.xc k)) (some dx) oe) (hf : ∃ vs, oe.data = .fields vs) (he : DE X (T.at (some (a, k, dx))) E e me)
    (hi : X.mg "isinstance" = none) (hc : PE X (.Name x p2) (tC c)) (kc : ClsV c u) (ht : ∀ b, tab k = some b → PySem.W.kitOne X.K (.ref (T.xc k)) u = some b) (gl : Gl X "isinstance" := by rfl)
    (hs : starEach [e, .Name x p2] X.env = (false, eval e X.env) :: starEach [.Name x p2] X.env := by rfl) (hs2 : starEach [.Name x p2] X.env = (false, eval (.Name x p2) X.env) :: starEach [] X.env := by rfl) (hb : bootBuiltins "isinstance" = some (.builtin "isinstance") := by first | rfl | decide +kernel) :
    DE X (T.at (some (a, k, dx))) E (.Call (.Name "isinstance" p) [e, .Name x p2] [] pos) (wIsX tab me) := by
  obtain ⟨t, pe, se⟩ := he.ex
  refine ⟨_, pe_callB (call_isXK kn Kx hz hf) gl hi hb (pa_cons pe (pa_cons hc pa_nil hs2) hs) (by decide) (by decide) hs rfl, fun sl W σ H Q' X' Q hs rp h po px => ?_⟩
  refine se sl W σ H _ X' _ hs rp h (fun d W1 v H1 q1 x1 r1 a1 => ?_) px
  cases a1 with
  | @exc a' dx' n' v' d' e1 h1 f1 t1 =>
    cases (show some (a, k, dx) = some (a', n', dx') from e1)
    obtain ⟨b, e2, q1⟩ := q1
    exact ⟨c, u, b, _, rfl, h1, kc, ht b e2, po _ W1 _ H1 q1 x1 r1 (.bl b)⟩
  | _ => exact q1.elim
theorem de_isXTK (kn : Knows X a oe) {tab : Nat → Option Bool} {es : List Expr} {cs : List V} {us : List Value} {p3 : Nat} (Kx : XKit X.K (T.xc k)) (hz : Zc (.ref (T.xc k)) (some dx) oe) (hf : ∃ vs, oe.data = .fields vs) (he : DE X (T.at (some (a, k, dx))) E e me)
    (hi : X.mg "isinstance" = none) (hc : PA X es (fun _ H Q => Q cs H)) (kc : Paired ClsV cs us) (hn : cs.length ≤ 100) (ht : ∀ b, tab k = some b → PySem.W.kitAny X.K (.ref (T.xc k)) us = some b) (gl : Gl X "isinstance" := by rfl)
    (hs : starEach [e, .Tuple es p3 p2] X.env = (false, eval e X.env) :: starEach [.Tuple es p3 p2] X.env := by rfl) (hs2 : starEach [.Tuple es p3 p2] X.env = (false, eval (.Tuple es p3 p2) X.env) :: starEach [] X.env := by rfl) (hb : bootBuiltins "isinstance" = some (.builtin "isinstance") := by first | rfl | decide +kernel) :
    DE X (T.at (some (a, k, dx))) E (.Call (.Name "isinstance" p) [e, .Tuple es p3 p2] [] pos) (wIsX tab me) := by
  obtain ⟨t, pe, se⟩ := he.ex
  refine ⟨_, pe_callB (call_isXTK kn Kx hz hf) gl hi hb (pa_cons pe (pa_cons (pe_tup hc) pa_nil hs2) hs) (by decide) (by decide) hs rfl, fun sl W σ H Q' X' Q hs rp h po px => ?_⟩
  refine se sl W σ H _ X' _ hs rp h (fun d W1 v H1 q1 x1 r1 a1 => ?_) px
  cases a1 with
  | @exc a' dx' n' v' d' e1 h1 f1 t1 =>
    cases (show some (a, k, dx) = some (a', n', dx') from e1)
    obtain ⟨b, e2, q1⟩ := q1
    refine ⟨by rw [sizeLine_eq]; omega, fun q nq => ?_⟩
    have ex := Ext.laid (W := W1) (o := .tup cs) nq
    exact ⟨q, cs, us, b, _, rfl, upd_same, by rw [upd_ne (ne_of_none h1 nq)]; exact h1, kc, ht b e2, po _ W1 _ _ q1 (x1.trans ex) (r1.laid nq) (.bl b)⟩
  | _ => exact q1.elim
end
end DL
namespace DL
open PySem PySem.Spec PyProof.Rows L2
/-! ### xs.index(x) where == is the text's own: the walk -/
namespace IX
open PySem PySem.SeqAt
open AutoSeq1
open MeetsSeq MeetsSeq2 MeetsSeq3 SeqRoads2
section
variable {prog : Program} {w : World} {A : Around} {R : Result → Shared → Prop}
/-- at each turn the list is read anew: N items; the i-th is the one that is looked for, or the walk goes on -/
def Idx (prog : Program) (w : World) (A : Around) (R : Result → Shared → Prop) (l : Addr) (x : Value) (N : Nat) (I : Nat → Shared → Prop) : Prop :=
  ∀ i s, I i s → i < N ∧ ∃ (items : Array Value) (n : Nat), s.heap.get? l = some { cls := .type "list", data := .seq items n } ∧ N ≤ items.size ∧
    ∀ h1 : i < items.size, wpAny (model prog w) A.in1 (eqBool items[i] x) (fun r s' => (r = true ∧ R (.ok (.ret (.int i s'.toks))) { s' with toks := s'.toks + 1 }) ∨ (r = false ∧ I (i + 1) s')) (fun e s' => R (.error e) s') s
theorem loop (l : Addr) (x : Value) (N : Nat) (I : Nat → Shared → Prop) (upto : Int) (hu : (N : Int) ≤ upto) (hl : Idx prog w A R l x N I) (k : Nat) :
    ∀ i : Nat, N - i = k → ∀ s, I i s → wpAny (model prog w) A.in1 (Builtin.«list.index.loop» ⟨[.ref l, x, rawInt i, rawInt upto], []⟩) (GQ.FinOf prog w A R) (fun e s' => R (.error e) s') s := by
  induction k with
  | zero =>
    intro i hk s h
    have := (hl _ _ h).1
    omega
  | succ k ih =>
    intro i hk s h
    obtain ⟨hN, items, n, hl1, hs1, turn⟩ := hl _ _ h
    have hlt : i < items.size := by omega
    have ht := turn hlt
    obtain ⟨hp, g, d, tk, os⟩ := s
    wp_walk using wpAny_loadPart' hl1
    have hi : (if (i : Int) < upto then items[((i : Nat) : Int).toNat]? else none) = some items[i] := by
      rw [if_pos (by omega)]
      simp [hlt]
    rw [hi]
    refine wpAny_bind (wpAny_mono ht (fun r s2 h2 => ?_) fun _ _ x => x)
    rcases h2 with ⟨hr, h2⟩ | ⟨hr, h2⟩
    · subst hr
      obtain ⟨hp2, g2, d2, tk2, os2⟩ := s2
      wp_walk
      exact h2
    · subst hr
      have hrec := ih (i + 1) (by omega) s2 h2
      obtain ⟨hp2, g2, d2, tk2, os2⟩ := s2
      have hc : ((i : Int) + 1) = ((i + 1 : Nat) : Int) := by omega
      wp_walk
      rw [hc]
      exact ⟨plainId_quiet plain_index_loop _, codeAny_builtin entry_index_loop (by
        rw [Around.under_plainId plain_index_loop _]
        exact hrec)⟩
theorem start (l : Addr) (x : Value) (N : Nat) (I : Nat → Shared → Prop) (hN : (N : Int) ≤ 2 ^ 63 - 1) (hl : Idx prog w A R l x N I) {s : Shared} (h : I 0 s) :
    wpAny (model prog w) A.in1 (Builtin.«list.index» ⟨[.ref l, x], []⟩) (GQ.FinOf prog w A R) (fun e s' => R (.error e) s') s := by
  obtain ⟨_, items, n, hl1, hs1, _⟩ := hl _ _ h
  have hrec := loop (A := A) (R := R) l x N I (2 ^ 63 - 1) hN hl _ 0 rfl s h
  obtain ⟨hp, g, d, tk, os⟩ := s
  wp_walk using wpAny_loadPart' hl1
  have a1 : ((fun i : Int => if i < 0 then max 0 (i + (items.size : Int)) else i) ((none : Option Int).getD 0)) = ((0 : Nat) : Int) := by simp
  have a2 : ((fun i : Int => if i < 0 then max 0 (i + (items.size : Int)) else i) ((none : Option Int).getD (2 ^ 63 - 1))) = 2 ^ 63 - 1 := by simp
  rw [a1, a2]
  exact ⟨plainId_quiet plain_index_loop _, codeAny_builtin entry_index_loop (by
    rw [Around.under_plainId plain_index_loop _]
    exact hrec)⟩
end
end IX

/-! data that one value can bear in one way only -/
mutual
def pure1 : D → Bool
  | .non => true
  | .bl _ => true
  | .int _ => true
  | .str _ => true
  | .lst ds => pureL ds
  | .tup ds => pureL ds
  | _ => false
def pureL : List D → Bool
  | [] => true
  | d :: ds => pure1 d && pureL ds
end
section
variable {K : PySem.W.Frag} {T : Tb} {W : Wd} {H : Hp}
mutual
theorem at_one : ∀ (d e : D) (v : V), pure1 d = true → pure1 e = true → At K T W H d v → At K T W H e v → d = e
  | .non, e, _, _, pe, a, b => by cases a; cases b <;> first | rfl | cases pe
  | .bl x, e, _, _, pe, a, b => by cases a; cases b <;> first | rfl | cases pe
  | .int x, e, _, _, pe, a, b => by cases a; cases b <;> first | rfl | cases pe
  | .str x, e, _, _, pe, a, b => by cases a; cases b <;> first | rfl | cases pe
  | .lst ds, e, _, pd, pe, a, b => by
    cases a with
    | lst h f t =>
      cases b with
      | lst h2 f2 t2 =>
        rw [h] at h2
        cases h2
        rw [atL_one ds _ _ (by simpa only [pure1] using pd) (by simpa only [pure1] using pe) t t2]
      | tup h2 f2 t2 => rw [h] at h2; cases h2
      | _ => cases pe
  | .tup ds, e, _, pd, pe, a, b => by
    cases a with
    | tup h f t =>
      cases b with
      | tup h2 f2 t2 =>
        rw [h] at h2
        cases h2
        rw [atL_one ds _ _ (by simpa only [pure1] using pd) (by simpa only [pure1] using pe) t t2]
      | lst h2 f2 t2 => rw [h] at h2; cases h2
      | _ => cases pe
  | .ins _ _, _, _, pd, _, _, _ => by cases pd
  | .root _, _, _, pd, _, _, _ => by cases pd
  | .scr _, _, _, pd, _, _, _ => by cases pd
  | .exc _ _, _, _, pd, _, _, _ => by cases pd
theorem atL_one : ∀ (ds es : List D) (vs : List V), pureL ds = true → pureL es = true → AtL K T W H ds vs → AtL K T W H es vs → ds = es
  | [], _, _, _, _, a, b => by cases a; cases b; rfl
  | d :: ds, _, _, pd, pe, a, b => by
    cases a with
    | cons a1 a2 =>
      cases b with
      | @cons e _ es _ b1 b2 =>
        simp only [pureL, Bool.and_eq_true] at pd pe
        rw [at_one d e _ pd.1 pe.1 a1 b1, atL_one ds es _ pd.2 pe.2 a2 b2]
end
theorem ins_one {n : Nat} {ds es : List D} {v : V} (pd : pureL ds = true) (pe : pureL es = true) (a : At K T W H (.ins n ds) v) (b : At K T W H (.ins n es) v) : ds = es := by
  cases a with
  | ins h l f t =>
    cases b with
    | ins h2 l2 f2 t2 =>
      rw [h] at h2
      have e := Option.some.inj h2
      injection e with _ _ e
      have ev : ∀ (ns : List Str) (vs us : List V), vs.length = ns.length → us.length = ns.length → ns.zip vs = ns.zip us → vs = us := fun ns => by
        induction ns with
        | nil => intro vs us h1 h2 _; rw [List.length_eq_zero_iff.mp h1, List.length_eq_zero_iff.mp h2]
        | cons n ns ih =>
          intro vs us h1 h2 e
          cases vs with
          | nil => cases h1
          | cons v vs =>
            cases us with
            | nil => cases h2
            | cons u us =>
              rw [List.zip_cons_cons, List.zip_cons_cons] at e
              injection e with e1 e2
              injection e1 with _ e1
              rw [e1, ih vs us (by simpa using h1) (by simpa using h2) e2]
      rw [ev _ _ _ l l2 e] at t
      exact atL_one ds es _ pd pe t t2
end

/-! ### xs.index(x), xs a list of own objects with an == of their own -/
def EqB (S : SD) (n : Nat) (cs : Cells) (x y : D) (b : Bool) : Prop := ∃ ds es, x = .ins n ds ∧ y = .ins n es ∧ pureL ds = true ∧ pureL es = true ∧ (b = false → ds ≠ es) ∧ S [x, y] cs (fun r cs' => r = .bl b ∧ cs' = cs) (fun _ _ _ => False)
section
variable {X : Cx} {T : Tb} {E : XK} {k n : Nat} {f : Addr} {fd : FuncData} {ps : List Str} {S : SD}
theorem eqB_run (F : DFn X.prog X.w X.K X.mg X.base T CX0 k f fd ps S) (B : FnB X.K f fd ps) (m : Meth X.K (T.cl n) "__eq__" f) {A : Around} (hg : A.guards = some []) (hr : Room k A) (hf : A.frames = X.A.frames)
    {pins : List (Addr × Obj)} {s : Shared} {σ : L2.St} {H : Hp} {W : Wd} {x y : V} {u v : Value} {d e : D} {bb : Bool} (I : Inv X pins σ H s) (r : Rep X.K T W H) (ad : At X.K T W H d x) (ae : At X.K T W H e y) (rx : L2.RelV x u) (ry : L2.RelV y v) (h : EqB S n W.cs d e bb) :
    wpAny (model X.prog X.w) A (eqBool u v) (fun r s' => r = bb ∧ EqLeft X T pins σ W H s') X.xe s := by
  obtain ⟨ds, es, rfl, rfl, pd, pe, hne, hs⟩ := h
  have one := ad
  have two := ae
  cases ad with
  | @ins a dx _ vs _ h1 l1 f1 t1 =>
    cases ae with
    | @ins b dy _ us _ h2 l2 f2 t2 =>
      cases rx
      cases ry
      by_cases hab : a = b
      · subst hab
        have eb : bb = true := by
          cases bb with
          | true => rfl
          | false => exact (hne rfl (ins_one pd pe one two)).elim
        subst eb
        exact SeqAt.EqAt.same (A := A) (s := s) (.ref a) X.prog X.w X.xe _ ⟨rfl, W, H, I, .refl, r, rfl⟩
      · obtain ⟨mA, J, _⟩ := ins_get I.hok h1
        obtain ⟨mB, J', _⟩ := ins_get I.hok h2
        obtain ⟨od, J, _⟩ := J.look
        obtain ⟨od', J', _⟩ := J'.look
        obtain ⟨m', hF⟩ := I.fr
        refine GQ.eqBool_refG hab ?_
        refine PySem.W.cmp_K (op := .Eq) (tb := .ref (T.cl n)) hr.units0 hF I.ok.mod.kin J J'.type (by simp [PySem.W.notFirst]) m.at_ m.fn ?_
        have r2 : Vals [V.ref a, V.ref b] [Value.ref a, Value.ref b] := .cons (show L2.RelV (.ref a) (.ref a) from rfl) (.cons (show L2.RelV (.ref b) (.ref b) from rfl) .nil)
        have sp : spD X.K T S [.ref a, .ref b] H (fun v H' => v = .bl bb ∧ ∃ W', Ext W H W' H' ∧ Rep X.K T W' H' ∧ W'.cs = W.cs) E0 :=
          ⟨_, W, _, _, .cons (.ins h1 l1 f1 t1) (.cons (.ins h2 l2 f2 t2) .nil), r, hs, fun d W' v H' q x r' at' => by
            obtain ⟨q1, q2⟩ := q
            subst q1
            cases at'
            exact ⟨rfl, W', x, r', q2⟩, fun _ _ _ _ _ _ z => z.elim⟩
        have hl : ([Value.ref a, Value.ref b] ++ []).length = ps.length := by rw [List.append_nil, ← r2.length]; exact F.len _ _ _ _ sp
        have bd := B.b s [Value.ref a, Value.ref b] I.kIn hl
        rw [List.append_nil] at bd
        have e0 : Env0 X.prog X.w X.K X.mg X.base A X.stack s H := by
          have e := I.env0
          exact ⟨by rw [hf]; exact e.frames, e.mod, e.bs, e.bsz, e.funs, e.frf, e.hok, e.bare⟩
        refine wpAny_call (codeAny_mono (F.run A X.stack s H ⟨[.ref a, .ref b], []⟩ _ _ _ E0 hg hr e0 bd r2 sp) fun q s' hq' => ?_)
        rcases ends_of I pass0 hq' with ⟨r, e, z⟩ | ⟨e, e1, z⟩
        · subst e
          obtain ⟨v, H', I', rv, e1, W', x, r', q⟩ := z
          subst e1
          have rv : r = .bool bb := rv
          subst rv
          exact ⟨bb, rfl, rfl, W', H', I', x, r', q⟩
        · subst e1; exact z
def rIxO (X : Cx) (T : Tb) (S : SD) (n : Nat) : V → List V → Hp → VK → Prop := fun x xs H Q => ∃ (W : Wd) (o e : D) (ds : List D) (y : V) (j : Nat), xs = [y] ∧ Rep X.K T W H ∧ At X.K T W H o x ∧ At X.K T W H e y ∧ lstOf W.cs o = some ds ∧
  (∀ (i : Nat) d, i < j → ds[i]? = some d → EqB S n W.cs d e false) ∧ (∃ d, ds[j]? = some d ∧ EqB S n W.cs d e true) ∧ ∀ W' H', Ext W H W' H' → Rep X.K T W' H' → W'.cs = W.cs → Q (.int (j : Nat)) H'
theorem mt_ixO (hg : X.A.guards = some []) (hr : Room (k + 1) X.A) (F : DFn X.prog X.w X.K X.mg X.base T CX0 k f fd ps S) (B : FnB X.K f fd ps) (hm : Meth X.K (T.cl n) "__eq__" f) : MtR X "list.index" (rIxO X T S n) := by
  intro pins s σ H x xs v us Q I rx rxs h
  obtain ⟨W, o, e, ds, y, j, rfl, r, ao, ae, eo, hno, ⟨dj, hj, hyes⟩, q⟩ := h
  obtain ⟨l, vs, rfl, hl, al⟩ := lstOf_at r ao eo
  cases rx
  cases rxs with
  | cons ry rt =>
    rename_i uy ut
    cases rt
    obtain ⟨z0, its0, k0, r0, e0⟩ := I.hok _ _ hl
    have hjl : j < ds.length := (List.getElem?_eq_some_iff.mp hj).1
    have hz : ds.length ≤ sizeLine := by rw [al.length]; exact z0
    refine GQ.call_here PySem.F.slot_list_index ⟨_, e0, rfl⟩ PySem.F.entry_list_index (PySem.F.args_list_index_2 _ _) ?_
    refine IX.start l uy (j + 1) (fun i s' => i ≤ j ∧ EqLeft X T pins σ W H s') (by have := sizeLine_eq; omega) (fun i s' hI => ?_) ⟨Nat.zero_le _, W, H, I, .refl, r, rfl⟩
    obtain ⟨hij, W1, H1, I1, x1, r1, c1⟩ := hI
    refine ⟨by omega, ?_⟩
    rw [← c1] at eo
    obtain ⟨l', vs1, z1, hv, av⟩ := lstOf_at r1 (ao.ext x1) eo
    cases z1
    obtain ⟨z, its, kk, rr, ee⟩ := I1.hok _ _ hv
    have hsz : ds.length = its.length := by rw [av.length, rr.length]
    refine ⟨its.toArray, kk, ee, by rw [List.size_toArray]; omega, fun h1 => ?_⟩
    have hid : i < ds.length := by omega
    obtain ⟨w, hw, atw⟩ := av.get' (List.getElem?_eq_getElem hid)
    obtain ⟨u, hu, ru⟩ := rr.get hw
    have g1 : its[i]? = some its.toArray[i] := by
      rw [List.getElem?_eq_getElem (by omega)] <;> simp
    rw [g1] at hu
    rw [Option.some.inj hu]
    have run : ∀ bb : Bool, EqB S n W1.cs ds[i] e bb → wpAny (model X.prog X.w) X.A.in1 (eqBool u uy) (fun r s' => r = bb ∧ EqLeft X T pins σ W1 H1 s') X.xe s' := fun bb hb =>
      eqB_run F B hm (A := X.A.in1) hg hr.in1 rfl I1 r1 atw (ae.ext x1) ru ry hb
    by_cases hlast : i = j
    · subst hlast
      have ed : ds[i] = dj := by
        rw [List.getElem?_eq_getElem hid] at hj
        exact Option.some.inj hj
      rw [c1] at run
      refine wpAny_mono (run true (by rw [ed]; exact hyes)) (fun b s2 hb => ?_) fun _ _ z => z
      obtain ⟨eb, W2, H2, I2, x2, r2, c2⟩ := hb
      exact .inl ⟨eb, .int (i : Nat), H2, I2.tok _, ⟨_, rfl⟩, q W2 H2 (x1.trans x2) r2 (c2.trans c1)⟩
    · rw [c1] at run
      refine wpAny_mono (run false (hno i _ (by omega) (List.getElem?_eq_getElem hid))) (fun b s2 hb => ?_) fun _ _ z => z
      obtain ⟨eb, W2, H2, I2, x2, r2, c2⟩ := hb
      exact .inr ⟨eb, by omega, W2, H2, I2, x1.trans x2, r2, c2.trans c1⟩
/-- o.index(e) -/
def gIxO (n : Nat) (S : SD) : GM := fun o es cs Q => match es with
  | [e] => ∃ (ds : List D) (j : Nat), lstOf cs o = some ds ∧ (∀ (i : Nat) d, i < j → ds[i]? = some d → EqB S n cs d e false) ∧ (∃ d, ds[j]? = some d ∧ EqB S n cs d e true) ∧ Q (.int (j : Nat)) cs
  | _ => False
theorem ok_ixO : OkM X.K T (rIxO X T S n) (gIxO n S) := by
  intro W H d v ds vs Q' Q r a b h p
  cases b with
  | nil => exact h.elim
  | cons b1 b2 =>
    cases b2 with
    | cons _ _ => exact h.elim
    | nil =>
      obtain ⟨es, j, h1, h2, h3, q⟩ := h
      exact ⟨W, d, _, es, _, j, rfl, r, a, b1, h1, h2, h3, fun W' H' x' r' c' => p _ W' _ H' (by rw [c']; exact q) x' r' (.int _)⟩
/-- o.index(e), plain data -/
def gIxP : GM := fun o es cs Q => match es with
  | [e] => ∃ (ps : List PyData) (px z : PyData) (j : Nat), py cs o = some (.list ps) ∧ py cs e = some px ∧ SeqAt.shaped (.list ps) = true ∧ SeqAt.shaped px = true ∧ ps[j]? = some z ∧ PyData.eqv z px = true ∧
      (∀ (m : Nat) (z' : PyData), m < j → ps[m]? = some z' → PyData.eqv z' px = false) ∧ Q (.int (j : Nat)) cs
  | _ => False
theorem ok_ixP {K : PySem.W.Frag} : OkM K T (rIndexD K) gIxP := by
  intro W H d v ds vs Q' Q r a b h p
  cases b with
  | nil => exact h.elim
  | cons b1 b2 =>
    cases b2 with
    | cons _ _ => exact h.elim
    | nil =>
      obtain ⟨ps, px, z, j, h1, h2, s1, s2, hz, hy, hn, q⟩ := h
      have dl := py_at r h1 a
      have dx := py_at r h2 b1
      have dl' := dl
      cases dl' with
      | lst hs ha => exact ⟨_, _, px, ps, j, z, rfl, rfl, dl, dx, s1, s2, hz, hy, hn, p _ W _ H q .refl r (.int _)⟩
end
/-! ### d.setdefault(k, x), d a live dict with ints as keys -/
section
variable {X : Cx} {T : Tb} {E : XK} {o e f : Expr} {mo mi mf : WE} {apos cpos pos : Pos}
def wDNewK : WE := fun _ cs Q _ => Q (.root cs.length) (cs ++ [.dK []])
theorem de_dnewK : DE X T E (.Dict [] [] pos) wDNewK := by
  refine ⟨_, pe_dnewK, fun sl W σ H Q' X' Q hs rp h p px q hq => ?_⟩
  refine p _ (W.push q (.dK [])) _ _ h (.pushed rp hq) (rp.pushed hq ⟨[], upd_same, .nil⟩) (.root ?_)
  show (W.A ++ [q])[W.cs.length]? = some q
  rw [← rp.len, List.getElem?_append_right (Nat.le_refl _), Nat.sub_self]
  rfl
theorem valG_none {κ : Type} [DecidableEq κ] {K : PySem.W.Frag} {W : Wd} {H : Hp} {k : κ} {kvs : List (κ × D)} {vs : List V} (t : AtL K T W H (kvs.map (·.2)) vs) (h : valG kvs k = none) : valV ((kvs.map (·.1)).zip vs) k = none := by
  have a := anyG_zip k kvs vs t
  unfold valG at h
  unfold valV
  rw [Option.map_eq_none_iff, List.find?_eq_none] at h ⊢
  have e : (kvs.any fun kv => decide (kv.1 = k)) = false := List.any_eq_false.mpr h
  rw [e] at a
  exact List.any_eq_false.mp a
def wSetd (mo mi mf : WE) : WE := fun sl cs Q X => mo sl cs (fun d cs1 => match d with
  | .root j => (∃ kvs, cs1[j]? = some (.dK kvs)) ∧ mi sl cs1 (fun y cs2 => ∃ k : Int, y = .int k ∧ mf sl cs2 (fun z cs3 => ∃ kvs, cs3[j]? = some (.dK kvs) ∧ kvs.length < sizeLine ∧
      (∀ e, valG kvs (.inl k : Key) = some e → Q e cs3) ∧ (valG kvs (.inl k : Key) = none → Q z (cs3.set j (.dK (putG kvs (.inl k) z))))) X) X
  | _ => False) X
theorem de_setd (ho : DE X T E o mo) (hi : DE X T E e mi) (hf : DE X T E f mf) (m : M2 X o "setdefault" apos e f cpos := by exact ⟨rfl, rfl, rfl, rfl⟩) : DE X T E (.Call (.Attribute o "setdefault" apos) [e, f] [] cpos) (wSetd mo mi mf) := by
  obtain ⟨to, po, so⟩ := ho.ex
  obtain ⟨ti, pi, si⟩ := hi.ex
  obtain ⟨tf, pf, sf⟩ := hf.ex
  refine ⟨_, pe_dsetd po pi pf m, fun sl W σ H Q' X' Q hs rp h p px => ?_⟩
  refine so sl W σ H _ X' _ hs rp h (fun d W1 v H1 q1 x1 r1 a1 => ?_) px
  cases a1 with
  | @root j l hj =>
    obtain ⟨⟨kvs0, ec0⟩, q1⟩ := q1
    obtain ⟨vs0, h0, t0⟩ := r1.cell _ _ _ hj ec0
    refine ⟨l, rfl, .inl ⟨_, .inl h0⟩, ?_⟩
    refine si sl W1 σ H1 _ X' _ (hs.ext x1) r1 q1 (fun y W2 u H2 q2 x2 r2 a2 => ?_) (px.st x1)
    obtain ⟨k, rfl, q2⟩ := q2
    refine sf sl W2 σ H2 _ X' _ ((hs.ext x1).ext x2) r2 q2 (fun z W3 w H3 q3 x3 r3 a3 => ?_) ((px.st x1).st x2)
    obtain ⟨kvs, ec, hz, qs, qn⟩ := q3
    have hj3 := x3.pre _ _ (x2.pre _ _ hj)
    obtain ⟨vs, h3, t⟩ := r3.cell _ _ _ hj3 ec
    cases a2
    have ln : ((kvs.map (·.1)).zip vs).length < sizeLine := by
      have := t.length
      rw [List.length_zip, List.length_map]
      rw [List.length_map] at this
      omega
    refine ⟨_, (.inl k : Key), h3, rfl, ln, fun v hv => ?_, fun hn => ?_⟩
    · cases ev : valG kvs (.inl k : Key) with
      | some e =>
        obtain ⟨v', z1, z2⟩ := valG_zip _ kvs vs t e ev
        rw [z1] at hv
        cases hv
        exact p _ W3 _ H3 (qs e ev) ((x1.trans x2).trans x3) r3 z2
      | none =>
        rw [valG_none t ev] at hv
        cases hv
    · cases ev : valG kvs (.inl k : Key) with
      | some e =>
        obtain ⟨v', z1, z2⟩ := valG_zip _ kvs vs t e ev
        rw [z1] at hn
        cases hn
      | none =>
        have ex : Ext W3 H3 (W3.put j (.dK (putG kvs (.inl k) z))) (upd H3 l (.dK (putK ((kvs.map (·.1)).zip vs) (.inl k) w))) := .put hj3 ec trivial
        obtain ⟨us, e1, e2⟩ := putG_zip (.inl k : Key) a3 kvs vs t
        refine p _ (W3.put j (.dK (putG kvs (.inl k) z))) _ _ (qn ev) (((x1.trans x2).trans x3).trans ex) (r3.put hj3 ec trivial ⟨us, by rw [upd_same, e1], e2.ext ex⟩) (a3.ext ex)
  | _ => exact q1.elim
end
end DL
namespace DL
open PySem PySem.Spec PyProof.Rows L2
/-! ### list(d.values()), d a live dict with ints or texts as keys -/
section
variable {X : Cx} {T : Tb} {E : XK} {o : Expr} {p pos apos mpos : Pos} {td : TE} {mo : WE}
def tListVals (td : TE) : TE := fun σ H Q => td σ H fun x H1 => ∃ (a : Addr) (kvs : List (Key × V)), x = V.ref a ∧ H1 a = some (.dK kvs) ∧ ∀ q, H1 q = none → Q (.ref q) (upd H1 q (.lst (kvs.map (·.2))))
theorem vals_of_items {κ : Type} : ∀ {kvs : List (κ × V)} {vs : List (κ × Value)} {us : List Value}, KV kvs vs → us.length = vs.length → (∀ (j : Nat) (v : Value), us[j]? = some v → ∃ k, vs[j]? = some (k, v)) → Vals (kvs.map (·.2)) us
  | _, _, [], .nil, _, _ => .nil
  | _, _, u :: us, .cons r t, hl, h => by
    obtain ⟨k, e⟩ := h 0 u rfl
    have e' := Option.some.inj e
    rw [List.map_cons]
    refine .cons ?_ (vals_of_items t (by simpa using hl) fun j v ej => ?_)
    · rw [e'] at r
      exact r.2
    · obtain ⟨k, e2⟩ := h (j + 1) v (by simpa using ej)
      exact ⟨k, by simpa using e2⟩
  | _, _, _ :: _, .nil, hl, _ => by simp at hl
  | _, _, [], .cons _ _, hl, _ => by simp at hl
theorem pe_listVals (hc : X.calm = true) (hg : Gl X "list") (hm : X.mg "list" = none) (hd : PE X o td) (hbase : attributeBase o "values" X.env (eval o X.env) = eval o X.env := by rfl) (hline : (apos.endLine == mpos.line) = true := by rfl)
    (hse : starEach [Expr.Call (.Attribute o "values" apos) [] [] mpos] X.env = [(false, eval (Expr.Call (.Attribute o "values" apos) [] [] mpos) X.env)] := by rfl) :
    PE X (.Call (.Name "list" p) [.Call (.Attribute o "values" apos) [] [] mpos] [] pos) (tListVals td) := by
  refine ⟨fun pins s σ H Q I h => ?_⟩
  refine wpAny_Call_Name_kw (ld_blt I hg hm (u := .type "list") (by first | rfl | decide +kernel) ?_ (by first | decide +kernel | decide) (by first | decide +kernel | decide))
  rw [hse]
  refine PySem.callWith_type1 (wpAny_Call_method0_late hbase hline (thn (hd.run pins s σ H _ I h) fun v s1 ⟨x, H1, I1, r1, a, kvs, ex, ha, q⟩ => ?_))
  subst ex
  obtain rfl : v = Value.ref a := r1
  obtain ⟨z, hsys, vs, rel, dof⟩ := dk_of I1.hok ha
  obtain ⟨ep, dat⟩ := dof.dictAt
  have dat' := dat
  obtain ⟨ob, es, ho, ex, hdat, hko, hpr, hnd⟩ := dat'
  refine ⟨"dict", "dict.values", F.plainAttrs_dict, F.slot_dict_values, F.type_dict_values, ⟨ob, ho, ex.1⟩, fun b e => ?_, Calls.callWith_builtin rfl (PySem.evalArgs_none ?_)⟩
  · cases e
    exact ⟨ob, ho, ex.2.1⟩
  refine call_meetsIn F.slot_dict_values ⟨ob, ho, ex.1⟩ F.entry_dict_values (F.args_dict_values_1 _) (meets_dict_values (mixKind X.prog X.w) a hsys) ⟨⟨vs, dof⟩, ?_⟩
  have k1 : ∀ b u, s1.heap.get? b = some u → (s1.heap.push { cls := .type "dict_values", data := .fields #[.ref a] }).get? b = some u := fun b u e => Heap.get?_push_of_some _ e
  have dat1 : (s1.heap.push { cls := .type "dict_values", data := .fields #[.ref a] }).DictAt (mixKind X.prog X.w) a vs ep := dat.keep k1
  refine PySem.W.kdl_call (PySem.W.kdl_values (knd := mixKind X.prog X.w) (r := s1.heap.objs.size) (d := a) (kvs := vs) (ep := ep)) (I.ok.hd hc) ⟨⟨_, Heap.get?_push_size _ rfl, rfl, rfl⟩, dat1⟩ (by rw [← KV.length rel]; exact z) fun h' tk acc c' hk hD hacc => ?_
  have hv : Vals (kvs.map (·.2)) acc.toList := vals_of_items rel (by rw [Array.length_toList]; exact hacc.1) fun j v e => hacc.2 j v (by rw [← Array.getElem?_toList]; exact e)
  have I2 : Inv X pins σ H1 { s1 with heap := s1.heap.push { cls := .type "dict_values", data := .fields #[.ref a] } } := I1.kept (t' := s1.toks) k1
  refine ⟨.ref (s1.heap.push { cls := .type "dict_values", data := .fields #[.ref a] }).objs.size, upd H1 (s1.heap.push { cls := .type "dict_values", data := .fields #[.ref a] }).objs.size (.lst (kvs.map (·.2))), I2.laid (t' := tk) hk (Nat.le_refl _)
    (show ObjOk X.prog X.w _ _ _ (.lst (kvs.map (·.2))) from ⟨by rw [List.length_map]; exact z, acc.toList, c', hv, by rw [Array.toArray_toList]; exact hD⟩), rfl, q _ (I2.hok.fresh (Nat.le_refl _))⟩
/-- list(o.values()), o a live dict: a live list of what stands in it -/
def wListVals (root : Bool) (mo : WE) : WE := fun sl cs Q X => mo sl cs (fun d cs1 => match d with
  | .root j => ∃ kvs : List (Key × D), cs1[j]? = some (.dK kvs) ∧ (if root then Q (.root cs1.length) (cs1 ++ [.lst (kvs.map (·.2))]) else Q (.lst (kvs.map (·.2))) cs1)
  | _ => False) X
theorem de_listVals {root : Bool} (hc : X.calm = true) (hm : X.mg "list" = none) (ho : DE X T E o mo) (hg : Gl X "list" := by rfl) (hbase : attributeBase o "values" X.env (eval o X.env) = eval o X.env := by rfl) (hline : (apos.endLine == mpos.line) = true := by rfl)
    (hse : starEach [Expr.Call (.Attribute o "values" apos) [] [] mpos] X.env = [(false, eval (Expr.Call (.Attribute o "values" apos) [] [] mpos) X.env)] := by rfl) :
    DE X T E (.Call (.Name "list" p) [.Call (.Attribute o "values" apos) [] [] mpos] [] pos) (wListVals root mo) := by
  obtain ⟨t, po, so⟩ := ho.ex
  refine ⟨_, pe_listVals hc hg hm po hbase hline hse, fun sl W σ H Q' X' Q hs rp h p px => ?_⟩
  refine so sl W σ H _ X' _ hs rp h (fun d W1 v H1 q1 x1 r1 a1 => ?_) px
  cases a1 with
  | @root j l hj =>
    obtain ⟨kvs, ec, q1⟩ := q1
    obtain ⟨vs, h1, t1⟩ := r1.cell _ _ _ hj ec
    have ev : (((kvs.map (·.1)).zip vs).map (·.2)) = vs := by
      rw [List.map_snd_zip (by rw [List.length_map, ← t1.length, List.length_map]; exact Nat.le_refl _)]
    refine ⟨l, _, rfl, h1, fun q hq => ?_⟩
    rw [ev]
    cases root with
    | true =>
      have q1 : Q' (.root W1.cs.length) (W1.cs ++ [.lst (kvs.map (·.2))]) := q1
      have ex : Ext W1 H1 (W1.push q (.lst (kvs.map (·.2)))) (upd H1 q (.lst vs)) := .pushed r1 hq
      refine p _ (W1.push q (.lst (kvs.map (·.2)))) _ _ q1 (x1.trans ex) (r1.pushed hq ⟨vs, upd_same, t1.ext ex⟩) (.root ?_)
      show (W1.A ++ [q])[W1.cs.length]? = some q
      rw [← r1.len, List.getElem?_append_right (Nat.le_refl _), Nat.sub_self]
      rfl
    | false =>
      have q1 : Q' (.lst (kvs.map (·.2))) W1.cs := q1
      have ex : Ext W1 H1 W1 (upd H1 q (.lst vs)) := .laid hq
      exact p _ W1 _ _ q1 (x1.trans ex) (r1.laid hq) (.lst upd_same (r1.fresh hq) (t1.ext ex))
  | _ => exact q1.elim
end
end DL
namespace DL
open PySem PySem.Spec PyProof.Rows L2

/-! ### dicts with nested keys -/
mutual
theorem bare_hash (w w' : World) : ∀ k : NestedKey, bareK k = true → k.hash w = k.hash w'
  | .none, _ => by simp only [NestedKey.hash]
  | .num i, _ => by simp only [NestedKey.hash]
  | .text x, h => by simp only [bareK] at h; cases h
  | .tup ks, h => by
    simp only [bareK] at h
    simp only [NestedKey.hash]
    rw [bare_hashes w w' ks h]
theorem bare_hashes (w w' : World) : ∀ ks : List NestedKey, bareKs ks = true → NestedKey.hashes w ks = NestedKey.hashes w' ks
  | [], _ => by simp only [NestedKey.hashes]
  | k :: ks, h => by
    simp only [bareKs, Bool.and_eq_true] at h
    simp only [NestedKey.hashes]
    rw [bare_hash w w' k h.1, bare_hashes w w' ks h.2]
end
mutual
def nkeyF : D → Nat → Option NestedKey
  | .int i, _ => some (.num i)
  | .tup ds, n + 1 => match nkeysF ds n with
    | some ks => some (.tup ks)
    | none => none
  | _, _ => none
def nkeysF : List D → Nat → Option (List NestedKey)
  | [], _ => some []
  | d :: ds, n => match nkeyF d n, nkeysF ds n with
    | some k, some ks => some (k :: ks)
    | _, _ => none
end
/-- the nested key behind a datum -/
def nkey : D → Option NestedKey
  | .tup ds => match nkeysF ds 7 with
    | some ks => some (.tup ks)
    | none => none
  | _ => none
mutual
theorem nkeyF_of : ∀ (d : D) (n : Nat) (k : NestedKey), nkeyF d n = some k → d = nkD k ∧ bareK k = true ∧ k.depth ≤ n
  | .int i, n, k, h => by
    simp only [nkeyF, Option.some.injEq] at h
    subst h
    simp only [nkD, bareK, NestedKey.depth]
    exact ⟨trivial, trivial, Nat.zero_le _⟩
  | .tup ds, 0, k, h => by simp only [nkeyF] at h; cases h
  | .tup ds, n + 1, k, h => by
    simp only [nkeyF] at h
    cases e : nkeysF ds n with
    | none => rw [e] at h; cases h
    | some ks =>
      rw [e] at h
      obtain rfl := Option.some.inj h
      obtain ⟨e1, e2, e3⟩ := nkeysF_of ds n ks e
      simp only [nkD, bareK, NestedKey.depth, ← e1]
      exact ⟨trivial, e2, Nat.succ_le_succ e3⟩
  | .non, n, k, h => by simp only [nkeyF] at h; cases h
  | .bl _, n, k, h => by simp only [nkeyF] at h; cases h
  | .str _, n, k, h => by simp only [nkeyF] at h; cases h
  | .lst _, n, k, h => by simp only [nkeyF] at h; cases h
  | .ins _ _, n, k, h => by simp only [nkeyF] at h; cases h
  | .root _, n, k, h => by simp only [nkeyF] at h; cases h
  | .scr _, n, k, h => by simp only [nkeyF] at h; cases h
  | .exc _ _, n, k, h => by simp only [nkeyF] at h; cases h
theorem nkeysF_of : ∀ (ds : List D) (n : Nat) (ks : List NestedKey), nkeysF ds n = some ks → ds = nkDs ks ∧ bareKs ks = true ∧ NestedKey.depthAll ks ≤ n
  | [], n, ks, h => by
    simp only [nkeysF, Option.some.injEq] at h
    subst h
    simp only [nkDs, bareKs, NestedKey.depthAll]
    exact ⟨trivial, trivial, Nat.zero_le _⟩
  | d :: ds, n, ks, h => by
    simp only [nkeysF] at h
    cases e : nkeyF d n with
    | none => rw [e] at h; cases h
    | some k =>
      cases e2 : nkeysF ds n with
      | none => rw [e, e2] at h; cases h
      | some js =>
        rw [e, e2] at h
        obtain rfl := Option.some.inj h
        obtain ⟨a1, a2, a3⟩ := nkeyF_of d n k e
        obtain ⟨b1, b2, b3⟩ := nkeysF_of ds n js e2
        simp only [nkDs, bareKs, NestedKey.depthAll, ← a1, ← b1, a2, b2]
        exact ⟨trivial, rfl, Nat.max_le.mpr ⟨a3, b3⟩⟩
end
section
variable {K : PySem.W.Frag} {T : Tb} {W : Wd} {H : Hp}
mutual
theorem nk_is {P : Program} {w : World} {h : Heap} (ok : HOk P w H h) : ∀ (k : NestedKey) {v : V} {u : Value}, At K T W H (nkD k) v → RelV v u → NestedIs h k u
  | .none, v, u, a, r => by
    simp only [nkD] at a
    cases a
    obtain rfl : u = Value.none := r
    exact .none
  | .num i, v, u, a, r => by
    simp only [nkD] at a
    cases a
    obtain ⟨t, rfl⟩ := (show ∃ t, u = Value.int i t from r)
    exact .int _ _
  | .text x, v, u, a, r => by
    simp only [nkD] at a
    cases a
    obtain ⟨t, rfl⟩ := (show ∃ t, u = Value.str x t from r)
    exact .text _ _
  | .tup ks, v, u, a, r => by
    simp only [nkD] at a
    cases a with
    | @tup b vs ds h1 f t =>
      obtain rfl : u = Value.ref b := r
      obtain ⟨_, its, rv, o, e1, e2, n, e3⟩ := (show ObjOk P w H h b (.tup vs) from ok b _ h1)
      exact .tup e1 e2 e3 (by simpa using nks_is ok ks t rv)
theorem nks_is {P : Program} {w : World} {h : Heap} (ok : HOk P w H h) : ∀ (ks : List NestedKey) {vs : List V} {us : List Value}, AtL K T W H (nkDs ks) vs → Vals vs us → NestedAll h ks us
  | [], vs, us, a, r => by
    simp only [nkDs] at a
    cases a
    cases r
    exact .nil
  | k :: ks, vs, us, a, r => by
    simp only [nkDs] at a
    cases a with
    | cons a1 a2 =>
      cases r with
      | cons r1 r2 => exact .cons (nk_is ok k a1 r1) (nks_is ok ks a2 r2)
end
/-- the tuple at b is the key k -/
def NIs (H : Hp) (b : Addr) (k : NestedKey) : Prop := ∀ (P : Program) (w : World) (h : Heap), HOk P w H h → (nestedKind P w).is h k b
theorem nkey_at {d : D} {v : V} {k : NestedKey} (a : At K T W H d v) (h : nkey d = some k) : ∃ b, v = .ref b ∧ At K T W H (nkD k) (.ref b) ∧ (bareK k = true ∧ k.depth ≤ 8) ∧ NIs H b k := by
  unfold nkey at h
  split at h
  · rename_i ds
    cases e : nkeysF ds 7 with
    | none => rw [e] at h; cases h
    | some ks =>
      rw [e] at h
      obtain rfl := Option.some.inj h
      obtain ⟨e1, e2, e3⟩ := nkeysF_of ds 7 ks e
      subst e1
      cases a with
      | @tup b vs ds h1 f t =>
        have a2 : At K T W H (nkD (.tup ks)) (.ref b) := by simp only [nkD]; exact .tup h1 f t
        have dp : (NestedKey.tup ks).depth ≤ 8 := by simp only [NestedKey.depth]; omega
        exact ⟨b, rfl, a2, ⟨by simp only [bareK]; exact e2, dp⟩, fun P w h ok => ⟨nk_is ok _ a2 rfl, dp⟩⟩
  · cases h
def valN (kvs : NKV) (k : NestedKey) : Option V := (kvs.find? fun p => decide (p.1 = k)).map (·.2.2)
def putN (kvs : NKV) (k : NestedKey) (b : Addr) (v : V) : NKV := if (kvs.any fun p => decide (p.1 = k)) = true then kvs.map (fun p => if p.1 = k then (p.1, p.2.1, v) else p) else kvs ++ [(k, b, v)]
theorem valN_pos {p : NestedKey × Addr × V} {r : NKV} {k : NestedKey} (e : p.1 = k) : valN (p :: r) k = some p.2.2 := by simp [valN, List.find?_cons, e]
theorem valN_neg {p : NestedKey × Addr × V} {r : NKV} {k : NestedKey} (e : ¬ p.1 = k) : valN (p :: r) k = valN r k := by simp [valN, List.find?_cons, e]
theorem valN_any (k : NestedKey) : ∀ kvs : NKV, (kvs.any fun p => decide (p.1 = k)) = (valN kvs k).isSome
  | [] => rfl
  | p :: r => by
    rw [List.any_cons]
    by_cases e : p.1 = k
    · simp only [valN_pos e, decide_eq_true e, Bool.true_or, Option.isSome_some]
    · rw [valN_neg e, decide_eq_false e, Bool.false_or]; exact valN_any k r
theorem putN_len (kvs : NKV) (k : NestedKey) (b : Addr) (v : V) : (putN kvs k b v).length ≤ kvs.length + 1 := by
  unfold putN
  split
  · rw [List.length_map]; omega
  · rw [List.length_append, List.length_cons, List.length_nil]; omega
theorem NPair.val {kvs : NKV} {xs : List (NestedKey × Addr × Value)} (r : NPair kvs xs) (k : NestedKey) : RelO (valN kvs k) ((atKey xs k).map (·.2)) := by
  induction r with
  | nil => exact True.intro
  | @cons p q ps qs h t ih =>
    obtain ⟨h1, _, h2⟩ := h
    by_cases e : p.1 = k
    · have e' : q.1 = k := h1.symm.trans e
      have b : atKey (q :: qs) k = some q.2 := by simp [atKey, List.find?_cons, e']
      rw [valN_pos e, b]; exact h2
    · have e' : ¬ q.1 = k := fun z => e (h1.trans z)
      have b : atKey (q :: qs) k = atKey qs k := by simp [atKey, List.find?_cons, e']
      rw [valN_neg e, b]; exact ih
theorem NPair.repl {kvs : NKV} {xs : List (NestedKey × Addr × Value)} (r : NPair kvs xs) (k : NestedKey) {y : V} {u : Value} (ry : RelV y u) :
    NPair (kvs.map fun p => if p.1 = k then (p.1, p.2.1, y) else p) (xs.map (putAt k u)) := by
  induction r with
  | nil => exact .nil
  | @cons p q ps qs h t ih =>
    rw [List.map_cons, List.map_cons]
    refine .cons ?_ ih
    obtain ⟨h1, h2, h3⟩ := h
    unfold putAt
    by_cases e : p.1 = k
    · rw [if_pos e, if_pos (h1.symm.trans e)]; exact ⟨h1, h2, ry⟩
    · rw [if_neg e, if_neg (fun z => e (h1.trans z))]; exact ⟨h1, h2, h3⟩
theorem NPair.put {kvs : NKV} {xs : List (NestedKey × Addr × Value)} (r : NPair kvs xs) (k : NestedKey) (b : Addr) {y : V} {u : Value} (ry : RelV y u) : NPair (putN kvs k b y) (storedH xs k b u) := by
  have e : (kvs.any fun p => decide (p.1 = k)) = (atKey xs k).isSome := by
    rw [valN_any, (r.val k).isSome_eq, Option.isSome_map]
  unfold putN storedH
  rw [e]
  by_cases q : (atKey xs k).isSome = true
  · rw [if_pos q, if_pos q]; exact r.repl k ry
  · rw [if_neg q, if_neg q]; exact Paired.snoc r ⟨rfl, rfl, ry⟩
theorem NPair.mem {kvs : NKV} {xs : List (NestedKey × Addr × Value)} (r : NPair kvs xs) : ∀ x ∈ xs, ∃ p ∈ kvs, p.1 = x.1 ∧ p.2.1 = x.2.1 := by
  induction r with
  | nil => exact fun _ h => nomatch h
  | cons h t ih =>
    intro x hx
    rcases List.mem_cons.mp hx with rfl | hx
    · exact ⟨_, List.mem_cons_self, h.1, h.2.1⟩
    · obtain ⟨p, hp, e⟩ := ih x hx
      exact ⟨p, List.mem_cons_of_mem _ hp, e⟩
theorem putN_bare {kvs : NKV} {k : NestedKey} {b : Addr} {v : V} (h : ∀ p ∈ kvs, bareK p.1 = true ∧ p.1.depth ≤ 8) (hk : bareK k = true ∧ k.depth ≤ 8) : ∀ p ∈ putN kvs k b v, bareK p.1 = true ∧ p.1.depth ≤ 8 := by
  unfold putN
  intro p hp
  split at hp
  · obtain ⟨q, hq, rfl⟩ := List.mem_map.mp hp
    split
    · exact h q hq
    · exact h q hq
  · rcases List.mem_append.mp hp with hp | hp
    · exact h p hp
    · rw [List.mem_singleton.mp hp]; exact hk
theorem nd_rd {P : Program} {w : World} {h : Heap} {a : Addr} {kvs : NKV} (ok : HOk P w H h) (e : Rd H a (NdO a kvs)) (hk : ∀ p ∈ kvs, NIs H p.2.1 p.1) :
    kvs.length ≤ sizeLine ∧ (a == sysModules) = false ∧ (∀ p ∈ kvs, bareK p.1 = true ∧ p.1.depth ≤ 8) ∧ ∃ xs, NPair kvs xs ∧ h.DictOfH (nestedKind P w) a xs := by
  obtain ⟨⟨z, y, bk, xs, r, o, es, ep, h1, h2, h3, h4, h5⟩, _⟩ := (show ObjOk P w H h a (NdO a kvs) from rd_of ok e)
  refine ⟨z, y, bk, xs, r, o, es, ep, h1, h2, h3, h4 P w, fun x hx => ?_, h5⟩
  obtain ⟨p, hp, e1, e2⟩ := NPair.mem r x hx
  rw [← e1, ← e2]
  exact hk p hp P w h ok
theorem nd_ok {P : Program} {w : World} {H' : Hp} {h' : Heap} {a : Addr} {kvs : NKV} {xs : List (NestedKey × Addr × Value)} (z : kvs.length ≤ sizeLine) (y : (a == sysModules) = false) (bk : ∀ p ∈ kvs, bareK p.1 = true ∧ p.1.depth ≤ 8) (r : NPair kvs xs) (dd : h'.DictOfH (nestedKind P w) a xs) :
    ObjOk P w H' h' a (NdO a kvs) := by
  obtain ⟨q, es, ep, hq, h2, h3, h4, _, h5⟩ := dd
  refine ⟨⟨z, y, bk, xs, r, q, es, ep, hq, h2, h3, fun P' w' => ?_, h5⟩, ⟨q, hq⟩, ?_⟩
  · rw [h4]
    refine List.map_congr_left fun x hx => ?_
    obtain ⟨p, hp, e1, e2⟩ := NPair.mem r x hx
    show DictEntry.mk (x.1.hash w) _ _ = DictEntry.mk (x.1.hash w') _ _
    rw [bare_hash w w' x.1 (by rw [← e1]; exact (bk p hp).1)]
  · rintro h1 h2' ⟨z, y, bk, xs, r, o, es, ep, e1, e2⟩ k
    exact ⟨z, y, bk, xs, r, o, es, ep, k _ e1, e2⟩
theorem nd_empty {P : Program} {w : World} (h : Heap) (hb : sysModules < h.objs.size) : ObjOk P w H (h.push { cls := .type "dict", data := .dict #[] }) h.objs.size (NdO h.objs.size []) :=
  nd_ok (xs := []) (Nat.zero_le _) (beq_eq_false_iff_ne.mpr (Ne.symm (Nat.ne_of_lt hb))) (fun _ h => nomatch h) .nil (Heap.DictOfH.new h)
/-! at a cell -/
theorem NAt.val {kvs : List (NestedKey × D)} {ws : NKV} (t : NAt K T W H kvs ws) (k : NestedKey) : match valG kvs k with
    | some d => ∃ v, valN ws k = some v ∧ At K T W H d v
    | none => valN ws k = none := by
  unfold NAt at t
  induction t with
  | nil => exact rfl
  | @cons p q ps qs h t ih =>
    obtain ⟨h1, _, h2⟩ := h
    by_cases e : p.1 = k
    · have e' : q.1 = k := h1.symm.trans e
      have b : valG (p :: ps) k = some p.2 := by simp [valG, List.find?_cons, e]
      rw [b]
      exact ⟨q.2.2, valN_pos e', h2⟩
    · have e' : ¬ q.1 = k := fun z => e (h1.trans z)
      have b : valG (p :: ps) k = valG ps k := by simp [valG, List.find?_cons, e]
      rw [b, valN_neg e']
      exact ih
theorem NAt.length {kvs : List (NestedKey × D)} {ws : NKV} (t : NAt K T W H kvs ws) : kvs.length = ws.length := Paired.length t
theorem NAt.any {kvs : List (NestedKey × D)} {ws : NKV} (t : NAt K T W H kvs ws) (k : NestedKey) : (kvs.any fun p => decide (p.1 = k)) = ws.any fun p => decide (p.1 = k) := by
  unfold NAt at t
  induction t with
  | nil => rfl
  | cons h t ih => rw [List.any_cons, List.any_cons, ih, h.1]
theorem NAt.put {kvs : List (NestedKey × D)} {ws : NKV} {k : NestedKey} {b : Addr} {d : D} {v : V} (t : NAt K T W H kvs ws) (hb : At K T W H (nkD k) (.ref b)) (ha : At K T W H d v) : NAt K T W H (putG kvs k d) (putN ws k b v) := by
  unfold putG putN
  rw [t.any k]
  by_cases e : (ws.any fun p => decide (p.1 = k)) = true
  · rw [if_pos e, if_pos e]
    unfold NAt at t ⊢
    clear e
    induction t with
    | nil => exact .nil
    | @cons p q ps qs h t ih =>
      rw [List.map_cons, List.map_cons]
      refine .cons ?_ ih
      obtain ⟨h1, h2, h3⟩ := h
      by_cases e : p.1 = k
      · rw [if_pos e, if_pos (h1.symm.trans e)]; exact ⟨h1, h2, ha⟩
      · rw [if_neg e, if_neg (fun z => e (h1.trans z))]; exact ⟨h1, h2, h3⟩
  · rw [if_neg e, if_neg e]
    exact Paired.snoc t ⟨rfl, hb, ha⟩
theorem NAt.keys {kvs : List (NestedKey × D)} {ws : NKV} (t : NAt K T W H kvs ws) : ∀ q ∈ ws, At K T W H (nkD q.1) (.ref q.2.1) := by
  unfold NAt at t
  induction t with
  | nil => exact fun _ h => nomatch h
  | cons h t ih =>
    intro x hx
    rcases List.mem_cons.mp hx with rfl | hx
    · rw [← h.1]; exact h.2.1
    · exact ih x hx
theorem NAt.nis {kvs : List (NestedKey × D)} {ws : NKV} {a : Addr} (t : NAt K T W H kvs ws) (e : Rd H a (NdO a ws)) : ∀ p ∈ ws, NIs H p.2.1 p.1 := fun p hp P w h ok => by
  obtain ⟨⟨_, _, bk, _⟩, _⟩ := (show ObjOk P w H h a (NdO a ws) from rd_of ok e)
  exact ⟨nk_is ok _ (t.keys p hp) rfl, (bk p hp).2⟩
end
/-! readings -/
def NKs (H : Hp) (a : Addr) (kvs : NKV) : Prop := Rd H a (NdO a kvs) ∧ ∀ p ∈ kvs, NIs H p.2.1 p.1
def NGet (H : Hp) (a : Addr) (y : V) (r : Option V) : Prop := ∃ kvs k b, NKs H a kvs ∧ y = .ref b ∧ NIs H b k ∧ r = valN kvs k
def NPut (H : Hp) (a : Addr) (y v : V) (H' : Hp) : Prop := ∃ kvs k b, H a = some (NdO a kvs) ∧ (∀ p ∈ kvs, NIs H p.2.1 p.1) ∧ y = .ref b ∧ NIs H b k ∧ (bareK k = true ∧ k.depth ≤ 8) ∧ kvs.length < sizeLine ∧ H' = upd H a (NdO a (putN kvs k b v))
section
variable {X : Cx} {pins : List (Addr × Obj)} {σ : L2.St} {H : Hp} {s : Shared} {a : Addr} {y v : V} {u r : Value} {o : Option V} {A : Around} {E : Value → Shared → Prop}
theorem room_n (hu : A.units + 64 < cLine) : (nestedKind X.prog X.w).room A.in1 := by
  show A.units + 1 + 8 < cLine
  omega
theorem nd_typeIs {kvs : NKV} (I : Inv X pins σ H s) (e : NKs H a kvs) : s.TypeIs (.ref a) "dict" ∧ (∀ b, Value.ref a = .ref b → ∃ ob, s.heap.get? b = some ob ∧ ob.dict = none) ∧ (a == sysModules) = false := by
  obtain ⟨_, hd, _, xs, _, dd⟩ := nd_rd I.hok e.1 e.2
  refine ⟨dd.typeIs, fun b q => ?_, hd⟩
  cases q
  obtain ⟨ob, _, _, h1, h2, _⟩ := dd
  exact ⟨ob, h1, h2.2.1⟩
theorem n_getItem {Q : Value → Shared → Prop} (hu : A.units + 64 < cLine) (I : Inv X pins σ H s) (g : NGet H a y (some v)) (ry : RelV y u) (h : ∀ w' s', Inv X pins σ H s' → RelV v w' → Q w' s') :
    wpAny (model X.prog X.w) A (getItem (.ref a) u) Q E s := by
  obtain ⟨kvs, k, b, e, ey, eb, l⟩ := g
  subst ey
  cases (show u = Value.ref b from ry)
  obtain ⟨z, hd, bk, xs, rel, dd⟩ := nd_rd I.hok e.1 e.2
  obtain ⟨w', hw, rw'⟩ := RelO.some_of (v := v) (o := (atKey xs k).map (·.2)) (by rw [l]; exact rel.val k)
  obtain ⟨p, hp, hp2⟩ := Option.map_eq_some_iff.mp hw
  refine wpAny_getItem_heap (room_n hu) (eb _ _ _ I.hok) dd hp ?_
  rw [hp2]
  exact h w' _ (I.tok _) rw'
theorem n_get2 {d : V} {Q : Value → Shared → Prop} (hu : A.units + 64 < cLine) (I : Inv X pins σ H s) (g : NGet H a y o) (ry : RelV y u) (rd : RelV d r) (h : ∀ w' s', Inv X pins σ H s' → RelV (o.getD d) w' → Q w' s') :
    wpAny (model X.prog X.w) A (call (.builtin "dict.get") [.ref a, u, r]) Q E s := by
  obtain ⟨kvs, k, b, e, ey, eb, l⟩ := g
  subst ey
  cases (show u = Value.ref b from ry)
  obtain ⟨z, hd, bk, xs, rel, dd⟩ := nd_rd I.hok e.1 e.2
  refine call_meetsIn PySem.F.slot_dict_get dd.typeIs PySem.F.entry_dict_get (PySem.F.args_dict_get_3 _ _ _) (meetsH_dict_get_default (nestedKind X.prog X.w) a b hd r) ⟨room_n hu, k, xs, eb _ _ _ I.hok, dd, h _ _ (I.tok _) ?_⟩
  rw [l]
  exact (rel.val k).getD rd
theorem n_setItem {H' : Hp} {Q : Unit → Shared → Prop} (hu : A.units + 64 < cLine) (I : Inv X pins σ H s) (g : NPut H a y v H') (ry : RelV y u) (rv : RelV v r) (h : ∀ s', Inv X pins σ H' s' → Q () s') :
    wpAny (model X.prog X.w) A (setItem (.ref a) u r) Q E s := by
  obtain ⟨kvs, k, b, e, ek, ey, eb, kb, l, eH⟩ := g
  subst ey eH
  cases (show u = Value.ref b from ry)
  obtain ⟨z, hd, bk, xs, rel, dd⟩ := nd_rd I.hok (.inl e) ek
  have hz : xs.length ≤ sizeLine := by rw [← Paired.length rel]; exact z
  have hl : (putN kvs k b v).length ≤ sizeLine := by have := putN_len kvs k b v; omega
  refine wpAny_setItem_heap (hsz := hz) (room_n hu) (eb _ _ _ I.hok) dd fun h' dd' hs => h _ ?_
  have he : ∃ q, h'.get? a = some q := let ⟨q, _, _, hq, _⟩ := dd'; ⟨q, hq⟩
  exact d_write I (by rw [e]; exact True.intro) hs he (nd_ok hl hd (putN_bare bk kb) (rel.put k b rv) dd')
end
def tNGet (td ty : TE) : TE := fun σ H Q => td σ H fun x H1 => ty σ H1 fun y H2 => ∃ a v, x = .ref a ∧ NGet H2 a y (some v) ∧ Q v H2
def tNGet2 (td ty tx : TE) : TE := fun σ H Q => td σ H fun x H1 => ∃ a, x = .ref a ∧ (∃ kvs, NKs H1 a kvs) ∧ ty σ H1 fun y H2 => tx σ H2 fun z H3 => ∃ o, NGet H3 a y o ∧ Q (o.getD z) H3
def sNPut (td ty tv : TE) : TS := fun D σ H => tv σ H fun v H1 => td σ H1 fun x H2 => ty σ H2 fun y H3 => ∃ a H4, x = .ref a ∧ NPut H3 a y v H4 ∧ D.nx σ H4
def tNNew : TE := fun _ H Q => ∀ p, H p = none → Q (.ref p) (upd H p (NdO p []))
def tNDisp (tk tv : TE) : TE := fun σ H Q => ∀ p, H p = none → tk σ (upd H p (NdO p [])) fun x H1 => tv σ H1 fun y H2 => ∃ (b : Addr) (k : NestedKey) (y' : V), [(x, y)] = [(V.ref b, y')] ∧ NIs H2 b k ∧ (bareK k = true ∧ k.depth ≤ 8) ∧ H2 p = some (NdO p []) ∧ Q (.ref p) (upd H2 p (NdO p [(k, b, y')]))
section
variable {X : Cx} {o i e f k v value : Expr} {pos pos' apos cpos : Pos} {td ty tv tx tk : TE}
theorem pe_nget (hu : X.A.units + 64 < cLine) (ho : PE X o td) (hi : PE X i ty) (hs : NoSl i) : PE X (.Subscript o i pos) (tNGet td ty) := by
  refine ⟨fun pins s σ H Q I h => ?_⟩
  refine subD_of PySem.F.slot_dict_getitem.lookup hs (thn (ho.run pins s σ H _ I h) fun u s1 ⟨x, H1, I1, rx, q1⟩ => thn (hi.run pins s1 σ H1 _ I1 q1) fun iv s2 ⟨y, H2, I2, ry, a, v, ex, g, q2⟩ => ?_)
  subst ex
  obtain rfl : u = Value.ref a := rx
  obtain ⟨kvs, k, b, e, g2⟩ := id g
  exact ⟨(nd_typeIs I2 e).1, n_getItem hu I2 g ry fun w' s3 I3 rw' => ⟨v, H2, I3, rw', q2⟩⟩
theorem pe_nget2 (hu : X.A.units + 64 < cLine) (ho : PE X o td) (he : PE X e ty) (hf : PE X f tx) (m : M2 X o "get" apos e f cpos) : PE X (.Call (.Attribute o "get" apos) [e, f] [] cpos) (tNGet2 td ty tx) := by
  refine ⟨fun pins s σ H Q I h => ?_⟩
  refine wpAny_Call_method m.base m.few m.line PySem.F.plainAttrs_dict PySem.F.slot_dict_get PySem.F.type_dict_get (thn (ho.run pins s σ H _ I h) fun u s1 ⟨x, H1, I1, rx, a, ex, ⟨kvs, d⟩, q1⟩ => ?_)
  subst ex
  obtain rfl : u = Value.ref a := rx
  obtain ⟨t1, t2, _⟩ := nd_typeIs I1 d
  refine ⟨t1, t2, ?_⟩
  rw [m.trees]
  refine Calls.callWith_builtin rfl (Calls.evalArgs_plain (Calls.spliced_cons (thn (he.run pins s1 σ H1 _ I1 q1) fun iv s2 ⟨y, H2, I2, ry, q2⟩ =>
    Calls.spliced_cons (thn (hf.run pins s2 σ H2 _ I2 q2) fun fv s3 ⟨z, H3, I3, rz, ov, g, q3⟩ => Calls.spliced_nil ?_))))
  exact n_get2 hu I3 g ry rz fun w' s4 I4 rw' => ⟨_, H3, I4, rw', q3⟩
theorem ps_nput (hu : X.A.units + 64 < cLine) (ho : PE X o td) (hi : PE X i ty) (hv : PE X value tv) (hs : swapsWith value (some (.Subscript o i pos')) pos.line X.env = pure false) :
    PS X (.Assign [.Subscript o i pos'] value pos) (sNPut td ty tv) := by
  refine ⟨fun pins s σ H D I h => ?_⟩
  refine wpAny_Assign_Subscript (thn (hv.run pins s σ H _ I h) fun r s1 ⟨v, H1, I1, rv, q1⟩ => thn (ho.run pins s1 σ H1 _ I1 q1) fun u s2 ⟨x, H2, I2, rx, q2⟩ => thn (hi.run pins s2 σ H2 _ I2 q2) fun iv s3 ⟨y, H3, I3, ry, a, H4, ex, g, q3⟩ => ?_) hs
  subst ex
  obtain rfl : u = Value.ref a := rx
  exact n_setItem hu I3 g ry rv fun s4 I4 => ⟨σ, H4, I4, q3⟩
theorem pe_nnew : PE X (.Dict [] [] pos) tNNew := ⟨fun pins s σ H Q I h =>
  wpAny_Dict_empty ⟨.ref s.heap.objs.size, _, I.laid (a := s.heap.objs.size) (o := NdO s.heap.objs.size []) (t' := s.toks) (fun _ _ q => Heap.get?_push_of_some _ q) (Nat.le_refl _) (nd_empty s.heap I.big), rfl, h _ (I.hok.fresh (Nat.le_refl _))⟩⟩
theorem pe_ndisp (hu : X.A.units + 64 < cLine) (hk : PE X k tk) (hv : PE X v tv) : PE X (.Dict [some k] [v] pos) (tNDisp tk tv) := by
  refine ⟨fun pins s σ H Q I q => ?_⟩
  have hn := I.hok.fresh (Nat.le_refl s.heap.objs.size)
  have I1 := I.laid (a := s.heap.objs.size) (o := NdO s.heap.objs.size []) (h' := s.heap.push { cls := .type "dict", data := .dict #[] }) (t' := s.toks) (fun _ _ q => Heap.get?_push_of_some _ q) (Nat.le_refl _) (nd_empty s.heap I.big)
  have hp : PPs X pos [some k] [v] [(tk, tv)] := pps_cons hk hv pps_nil
  rw [arm_eval_Dict, zip_pairTrees [some k] [v] X.env pos rfl rfl, dictDisplay_pairs (pairTrees [some k] [v] X.env pos) (by intro z; cases z) (show (1 : Nat) < 17 from by decide)]
  refine wpAny_bind (wpAny_standAt (wpAny_bind (wpAny_subDictH (knd := nestedKind X.prog X.w) (Q := fun d s' => wpAny (model X.prog X.w) X.A (pure (Value.ref d)) _ X.xe s') (show X.A.units + 8 < cLine by omega) (show (1 : Nat) ≤ 15 from by decide)
    (thn (hp.run pins _ σ _ (fun ps H2 => ∃ (b : Addr) (kk : NestedKey) (y : V), ps = [(.ref b, y)] ∧ NIs H2 b kk ∧ (bareK kk = true ∧ kk.depth ≤ 8) ∧ H2 s.heap.objs.size = some (NdO s.heap.objs.size []) ∧ Q (.ref s.heap.objs.size) (upd H2 s.heap.objs.size (NdO s.heap.objs.size [(kk, b, y)]))) I1 ?_) fun ws s2 z => ?_))))
  · exact q _ hn
  · obtain ⟨ps, H2, I2, rel, b, kk, y, rfl, hb, kb, e, q2⟩ := z
    cases rel with
    | @cons p w _ ws r1 t1 =>
      cases t1
      obtain ⟨u, r⟩ := w
      obtain ⟨ru, ry⟩ := r1
      cases (show u = Value.ref b from ru)
      obtain ⟨z, hd, bk, xs, rk, dd⟩ := nd_rd I2.hok (.inl e) (fun _ h => nomatch h)
      cases rk
      refine ⟨[(kk, b, r)], ⟨rfl, rfl, hb _ _ _ I2.hok, True.intro⟩, dd, fun h' tk dd' hs => wpAny_pure ⟨.ref s.heap.objs.size, _, ?_, rfl, q2⟩⟩
      have he : ∃ q, h'.get? s.heap.objs.size = some q := let ⟨q, _, _, hq, _⟩ := dd'; ⟨q, hq⟩
      refine d_write I2 (by rw [e]; exact True.intro) hs he (nd_ok (xs := [(kk, b, r)]) (show (1 : Nat) ≤ sizeLine by rw [sizeLine_eq]; decide) hd (fun p hp => by rw [List.mem_singleton.mp hp]; exact kb) (.cons ⟨rfl, rfl, ry⟩ .nil) dd')
end
/-! walks -/
theorem Inv.frzN {X : Cx} {pins : List (Addr × Obj)} {σ : L2.St} {H : Hp} {s : Shared} {d : Addr} {o : Obj} {kvs : NKV} (I : Inv X pins σ H s) (h : H d = some (.frz o (NdO d kvs))) :
    (d == sysModules) = false ∧ s.heap.get? d = some o ∧ o.ExactDict ∧ ∃ (es : Array DictEntry) (ep : Nat), o.data = .dict es ep ∧ es.size = kvs.length ∧
      ∀ (i : Nat) (p : NestedKey × Addr × V), kvs[i]? = some p → ∃ (en : DictEntry), es[i]? = some en ∧ en.key = .ref p.2.1 := by
  obtain ⟨hd, ⟨z, hs, bk, xs, pr, o', es, ep, ho, hx, hdt, he, _⟩, _⟩ := I.hok d _ h
  rw [hd] at ho
  cases ho
  refine ⟨hs, hd, hx, es, ep, hdt, ?_, fun i p e => ?_⟩
  · have l1 : es.size = xs.length := size_of_entries (he X.prog X.w)
    have l2 : kvs.length = xs.length := Paired.length pr
    omega
  · obtain ⟨b, hb, e1, e2, _⟩ := paired_get pr e
    have q := entry_at (he X.prog X.w) i
    rw [hb] at q
    exact ⟨_, q, by rw [e2]; rfl⟩
def Itkn (d : Addr) (o : Obj) (kvs : NKV) : It :=
  ⟨fun i H => H d = some (.frz o (NdO d kvs)) ∧ i < kvs.length, fun i H x H' => H' = H ∧ ∃ p, kvs[i]? = some p ∧ x = .ref p.2.1, fun i H => H d = some (.frz o (NdO d kvs)) ∧ kvs.length ≤ i⟩
theorem turn_keysN {P : Program} {w : World} {K : PySem.W.Frag} {tg : Expr} {d : Addr} {o : Obj} {es : Array DictEntry} {ep : Nat} {kvs : NKV} (it : Addr) (hod : o.data = .dict es ep) : Turn P w K tg (Itkn d o kvs) [it] it (fun i h => h.IsKeyIter it d i kvs.length ep) where
  mem := by simp
  obj := fun i h st b hb => by
    have e : b = it := by simpa using hb
    subst e
    obtain ⟨oi, e, c, dd⟩ := st
    exact ⟨oi, e, fun v z => by rw [dd] at z; cases z⟩
  keep := fun i h h' st k => st.at fun oi e => k it (by simp) oi e
  item := by
    intro X hP hw hK hc i pins s σ H E I hf st hg
    subst hP hw hK
    obtain ⟨hd, hi⟩ := hg
    obtain ⟨f0, f1, f2, f3, f4, f5⟩ := hf it (by simp)
    obtain ⟨hs, hgd, hx, es', ep', hdt, hsz, ent⟩ := Inv.frzN I hd
    obtain ⟨rfl, rfl⟩ := dict_ep hod hdt
    obtain ⟨p, hkv⟩ : ∃ p, kvs[i]? = some p := ⟨kvs[i], List.getElem?_eq_getElem hi⟩
    obtain ⟨en, hen, hkey⟩ := ent i p hkv
    refine next_key_item st hgd hdt hsz hen fun h' st' sb => ?_
    have I1 : Inv X pins σ H { s with heap := h' } := I.turned (t' := s.toks) (fun b ob hb e => (sb.2 b hb).trans e) f0 f1 f3 f4 f5
    obtain ⟨oi, e, c, dd⟩ := id st'
    exact ⟨en.key, rfl, go_of (s := { s with heap := h' }) e c dd (by decide) ⟨.ref p.2.1, H, I1, hkey, ⟨rfl, p, hkv, rfl⟩, st', fun b hb => (hf b hb).1⟩⟩
  done := by
    intro X hP hw hK hc i pins s σ H E I hf st hg
    subst hP hw hK
    obtain ⟨hd, hi⟩ := hg
    obtain ⟨f0, f1, f2, f3, f4, f5⟩ := hf it (by simp)
    obtain ⟨hs, hgd, hx, es', ep', hdt, hsz, ent⟩ := Inv.frzN I hd
    obtain ⟨rfl, rfl⟩ := dict_ep hod hdt
    exact next_key_end (I.ok.hd hc) st hgd hdt hsz hi fun h' eb => ⟨rfl, I.turned (t' := s.toks) (fun b ob hb e => eb b ob hb e) f0 f1 f3 f4 f5⟩
  self := fun A i s Q E st h => by
    refine wpAny_pyIter_slot st.typeIs F.slot_dict_keyiterator_iter (wpAny_call_entry F.slot_dict_keyiterator_iter st.typeIs F.entry_dict_keyiterator_iter ?_ (F.args_dict_keyiterator_iter_1 _))
    show wpAny _ _ (ret (.ref it)) _ _ s
    exact wpAny_pure ⟨_, rfl, "dict_keyiterator", _, st.typeIs, F.slot_dict_keyiterator_next.lookup, h⟩
section
variable {X : Cx} {T : Tb} {E : XK} {tg e : Expr} {m : WE} {td : TE}
def iKeysN (td : TE) : TI := fun σ H R => td σ H fun x H1 => ∃ d, x = .ref d ∧ ((∃ kvs, H1 d = some (NdO d kvs) ∧ ∀ o, R (Itkn d o kvs) (upd H1 d (.frz o (NdO d kvs)))) ∨ ∃ o kvs, H1 d = some (.frz o (NdO d kvs)) ∧ R (Itkn d o kvs) H1)
theorem pi_keysN (he : PE X e td) : PI X tg e (iKeysN td) := by
  refine ⟨fun pins s σ H R I h => ?_⟩
  refine thn (he.run pins s σ H _ I h) fun u s1 ⟨x, H1, I1, rx, d, ex, q⟩ => ?_
  subst ex
  obtain rfl : u = Value.ref d := rx
  rcases q with ⟨kvs, hd, q⟩ | ⟨o, kvs, hd, q⟩
  · obtain ⟨o, I2⟩ := I1.lock hd True.intro
    obtain ⟨hs, hgd, hx, es, ep, hdt, hsz, ent⟩ := Inv.frzN I2 upd_same
    refine iter_keys hs hgd hx hdt (pi_one (tk := s1.toks) I2 _ (turn_keysN _ hdt) ⟨_, Heap.get?_push_size _ rfl, rfl, ?_⟩ (q o))
    rw [hsz] <;> rfl
  · obtain ⟨hs, hgd, hx, es, ep, hdt, hsz, ent⟩ := Inv.frzN I1 hd
    refine iter_keys hs hgd hx hdt (pi_one (tk := s1.toks) I1 _ (turn_keysN _ hdt) ⟨_, Heap.get?_push_size _ rfl, rfl, ?_⟩ q)
    rw [hsz] <;> rfl
def keyN (kvs : List (NestedKey × D)) : List D := kvs.map fun kv => nkD kv.1
def wKeysN (m : WE) : WA := fun sl cs Q X => m sl cs (fun d cs1 => match d with
  | .root j => match cs1[j]? with
    | some (.dN kvs) => Q (keyN kvs) (cs1.set j (.zN kvs))
    | some (.zN kvs) => Q (keyN kvs) cs1
    | _ => False
  | _ => False) X
theorem NAt.at {K : PySem.W.Frag} {W : Wd} {H : Hp} {kvs : List (NestedKey × D)} {ws : NKV} (t : NAt K T W H kvs ws) {i : Nat} {q : NestedKey × Addr × V} (h : ws[i]? = some q) : ∃ d, (keyN kvs)[i]? = some d ∧ At K T W H d (.ref q.2.1) := by
  unfold NAt at t
  induction t generalizing i with
  | nil => cases h
  | @cons a b l m z t ih =>
    cases i with
    | zero =>
      rw [List.getElem?_cons_zero] at h
      cases h
      exact ⟨nkD a.1, rfl, z.2.1⟩
    | succ j =>
      rw [List.getElem?_cons_succ] at h
      exact ih h
theorem it_keysN {K : PySem.W.Frag} {W0 : Wd} {H0 : Hp} {d : Addr} {o : Obj} {kvs : List (NestedKey × D)} {ws : NKV} (h : H0 d = some (.frz o (NdO d ws))) (f : W0.Fz d) (t : NAt K T W0 H0 kvs ws) : ItOK K T (Itkn d o ws) (keyN kvs) W0 H0 := by
  have hz : ws.length = (keyN kvs).length := by
    unfold keyN
    rw [List.length_map, t.length]
  refine ⟨fun i W H x r hi => ⟨(x.fz _ _ h f).1, by rw [hz]; exact hi⟩, fun i W H y H' x r hi hy => ?_, fun i W H x r hi => ⟨(x.fz _ _ h f).1, by rw [hz]; exact hi⟩⟩
  obtain ⟨e, p, h1, h2⟩ := hy
  subst e h2
  obtain ⟨dd, g1, g2⟩ := t.at h1
  exact ⟨dd, g1, .refl, r, g2.exz x⟩
theorem di_keysN (he : DE X T E e m) : DI X T E tg e (wKeysN m) := by
  obtain ⟨t, p, s⟩ := he.ex
  refine ⟨_, pi_keysN p, fun sl W σ H Q' X' R hs rp h k px => ?_⟩
  refine s sl W σ H _ X' _ hs rp h (fun d W1 v H1 q1 x1 r1 a1 => ?_) px
  cases a1 with
  | @root j l h1 =>
    have q1 : (match W1.cs[j]? with
      | some (.dN kvs) => Q' (keyN kvs) (W1.cs.set j (.zN kvs))
      | some (.zN kvs) => Q' (keyN kvs) W1.cs
      | _ => False) := q1
    refine ⟨l, rfl, ?_⟩
    split at q1
    · rename_i kvs ec
      obtain ⟨ws, e1, e2⟩ := r1.cell _ _ _ h1 ec
      refine .inl ⟨_, e1, fun o => ?_⟩
      obtain ⟨r2, x2⟩ := r1.lockN (o := o) h1 ec e2
      have h1' : (W1.put j (.zN kvs)).A[j]? = some l := h1
      have ec' : (W1.put j (.zN kvs)).cs[j]? = some (.zN kvs) := List.getElem?_set_self (List.getElem?_eq_some_iff.mp ec).1
      obtain ⟨o', ws', g1, g2, g3⟩ := r2.cell j l _ h1' ec'
      exact k _ (W1.put j (.zN kvs)) _ _ q1 (x1.trans x2) r2 (it_keysN upd_same g2 (e2.ex0 x2.o))
    · rename_i kvs ec
      obtain ⟨o, ws, e1, g2, e2⟩ := r1.cell _ _ _ h1 ec
      exact .inr ⟨o, _, e1, k _ W1 _ H1 q1 x1 r1 (it_keysN e1 g2 e2)⟩
    · exact q1.elim
  | _ => exact q1.elim
/-! rules -/
/-- the dict behind a datum, locked or not -/
def dictN (cs : Cells) : D → Option (List (NestedKey × D))
  | .root j => match cs[j]? with
    | some (.dN kvs) => some kvs
    | some (.zN kvs) => some kvs
    | _ => none
  | _ => none
def dictNL (cs : Cells) : D → Option (Nat × List (NestedKey × D))
  | .root j => match cs[j]? with
    | some (.dN kvs) => some (j, kvs)
    | _ => none
  | _ => none
theorem dictN_at {K : PySem.W.Frag} {W : Wd} {H : Hp} {d : D} {v : V} {kvs : List (NestedKey × D)} (r : Rep K T W H) (a : At K T W H d v) (h : dictN W.cs d = some kvs) : ∃ l ws, v = .ref l ∧ NKs H l ws ∧ NAt K T W H kvs ws := by
  cases a with
  | @root j l h1 =>
    have h : (match W.cs[j]? with
      | some (.dN kvs) => some kvs
      | some (.zN kvs) => some kvs
      | _ => none) = some kvs := h
    split at h
    · rename_i ec
      cases h
      obtain ⟨ws, e1, e2⟩ := r.cell _ _ _ h1 ec
      exact ⟨l, ws, rfl, ⟨.inl e1, e2.nis (.inl e1)⟩, e2⟩
    · rename_i ec
      cases h
      obtain ⟨o, ws, e1, _, e2⟩ := r.cell _ _ _ h1 ec
      exact ⟨l, ws, rfl, ⟨.inr ⟨o, e1⟩, e2.nis (.inr ⟨o, e1⟩)⟩, e2⟩
    · cases h
  | _ => cases h
theorem dictNL_at {K : PySem.W.Frag} {W : Wd} {H : Hp} {d : D} {v : V} {j : Nat} {kvs : List (NestedKey × D)} (r : Rep K T W H) (a : At K T W H d v) (h : dictNL W.cs d = some (j, kvs)) :
    ∃ l ws, v = .ref l ∧ W.A[j]? = some l ∧ W.cs[j]? = some (.dN kvs) ∧ H l = some (NdO l ws) ∧ NAt K T W H kvs ws := by
  cases a with
  | @root i l h1 =>
    have h : (match W.cs[i]? with
      | some (.dN kvs) => some (i, kvs)
      | _ => none) = some (j, kvs) := h
    split at h
    · rename_i ec
      cases h
      obtain ⟨ws, e1, e2⟩ := r.cell _ _ _ h1 ec
      exact ⟨l, ws, rfl, h1, ec, e1, e2⟩
    · cases h
  | _ => cases h
end
section
variable {X : Cx} {T : Tb} {E : XK} {o i e f k v : Expr} {mo mi me mf mk mv : WE} {pos apos cpos : Pos}
def wDNewN : WE := fun _ cs Q _ => Q (.root cs.length) (cs ++ [.dN []])
theorem de_dnewN : DE X T E (.Dict [] [] pos) wDNewN := by
  refine ⟨_, pe_nnew, fun sl W σ H Q' X' Q hs rp h p px q hq => ?_⟩
  refine p _ (W.push q (.dN [])) _ _ h (.pushed rp hq) (rp.pushed hq ⟨[], upd_same, .nil⟩) (.root ?_)
  show (W.A ++ [q])[W.cs.length]? = some q
  rw [← rp.len, List.getElem?_append_right (Nat.le_refl _), Nat.sub_self]
  rfl
/-- d[k] -/
def wDIxN (mo mi : WE) : WE := fun sl cs Q X => mo sl cs (fun d cs1 => mi sl cs1 (fun y cs2 => match dictN cs2 d, nkey y with
  | some kvs, some k => match valG kvs k with
    | some e => Q e cs2
    | none => False
  | _, _ => False) X) X
theorem de_dixN (hu : X.A.units + 64 < cLine) (ho : DE X T E o mo) (hi : DE X T E i mi) (hs : NoSl i := by intro _ _; rfl) : DE X T E (.Subscript o i pos) (wDIxN mo mi) := by
  obtain ⟨to, po, so⟩ := ho.ex
  obtain ⟨ti, pi, si⟩ := hi.ex
  refine ⟨_, pe_nget hu po pi hs, fun sl W σ H Q' X' Q hs rp h p px => ?_⟩
  refine so sl W σ H _ X' _ hs rp h (fun d W1 v H1 q1 x1 r1 a1 => ?_) px
  refine si sl W1 σ H1 _ X' _ (hs.ext x1) r1 q1 (fun y W2 u H2 q2 x2 r2 a2 => ?_) (px.st x1)
  split at q2
  · rename_i kvs k e1 e2
    obtain ⟨l, ws, rfl, rd, t⟩ := dictN_at r2 (a1.ext x2) e1
    obtain ⟨b, rfl, hb, _, nb⟩ := nkey_at a2 e2
    have z := t.val k
    split at q2
    · rename_i e ev
      rw [ev] at z
      obtain ⟨w, z1, z2⟩ := z
      exact ⟨l, w, rfl, ⟨_, k, b, rd, rfl, nb, z1.symm⟩, p _ W2 _ H2 q2 (x1.trans x2) r2 z2⟩
    · exact q2.elim
  · exact q2.elim
/-- d.get(k, x) -/
def wDGetN (mo mi mf : WE) : WE := fun sl cs Q X => mo sl cs (fun d cs1 => (dictN cs1 d).isSome = true ∧ mi sl cs1 (fun y cs2 => mf sl cs2 (fun z cs3 => match dictN cs3 d, nkey y with
  | some kvs, some k => Q ((valG kvs k).getD z) cs3
  | _, _ => False) X) X) X
theorem de_dgetN (hu : X.A.units + 64 < cLine) (ho : DE X T E o mo) (hi : DE X T E e mi) (hf : DE X T E f mf) (m : M2 X o "get" apos e f cpos := by exact ⟨rfl, rfl, rfl, rfl⟩) : DE X T E (.Call (.Attribute o "get" apos) [e, f] [] cpos) (wDGetN mo mi mf) := by
  obtain ⟨to, po, so⟩ := ho.ex
  obtain ⟨ti, pi, si⟩ := hi.ex
  obtain ⟨tf, pf, sf⟩ := hf.ex
  refine ⟨_, pe_nget2 hu po pi pf m, fun sl W σ H Q' X' Q hs rp h p px => ?_⟩
  refine so sl W σ H _ X' _ hs rp h (fun d W1 v H1 q1 x1 r1 a1 => ?_) px
  obtain ⟨q0, q1⟩ := q1
  obtain ⟨kvs0, e0⟩ := Option.isSome_iff_exists.mp q0
  obtain ⟨l, ws0, rfl, rd0, t0⟩ := dictN_at r1 a1 e0
  refine ⟨l, rfl, ⟨_, rd0⟩, ?_⟩
  refine si sl W1 σ H1 _ X' _ (hs.ext x1) r1 q1 (fun y W2 u H2 q2 x2 r2 a2 => ?_) (px.st x1)
  refine sf sl W2 σ H2 _ X' _ ((hs.ext x1).ext x2) r2 q2 (fun z W3 w H3 q3 x3 r3 a3 => ?_) ((px.st x1).st x2)
  split at q3
  · rename_i kvs k e1 e2
    obtain ⟨l', ws, el, rd, t⟩ := dictN_at r3 ((a1.ext x2).ext x3) e1
    cases el
    obtain ⟨b, rfl, hb, _, nb⟩ := nkey_at (a2.ext x3) e2
    have zz := t.val k
    cases ev : valG kvs k with
    | some e =>
      rw [ev] at zz q3
      obtain ⟨w', z1, z2⟩ := zz
      exact ⟨some w', ⟨_, k, b, rd, rfl, nb, z1.symm⟩, p _ W3 _ H3 q3 ((x1.trans x2).trans x3) r3 z2⟩
    | none =>
      rw [ev] at zz q3
      exact ⟨none, ⟨_, k, b, rd, rfl, nb, zz.symm⟩, p _ W3 _ H3 q3 ((x1.trans x2).trans x3) r3 a3⟩
  · exact q3.elim
/-- d[k] = e -/
def wDPutN (mo mi me : WE) : WS := fun D0 sl cs => me sl cs (fun d cs1 => mo sl cs1 (fun o cs2 => mi sl cs2 (fun y cs3 => match dictNL cs3 o, nkey y with
  | some (j, kvs), some k => kvs.length < sizeLine ∧ D0.nx sl (cs3.set j (.dN (putG kvs k d)))
  | _, _ => False) D0.xq) D0.xq) D0.xq
theorem ds_dputN {pos' : Pos} (hu : X.A.units + 64 < cLine) (ho : DE X T E o mo) (hi : DE X T E i mi) (he : DE X T E e me) (hs : swapsWith e (some (.Subscript o i pos')) pos.line X.env = pure false := by rfl) :
    DS X T E (.Assign [.Subscript o i pos'] e pos) (wDPutN mo mi me) := by
  obtain ⟨to, po, so⟩ := ho.ex
  obtain ⟨ti, pi, si⟩ := hi.ex
  obtain ⟨te, pe, se⟩ := he.ex
  refine ⟨_, ps_nput hu po pi pe hs, fun sl W σ H D' Dn hs rp h p => ?_⟩
  refine se sl W σ H _ _ _ hs rp h (fun d W1 v H1 q1 x1 r1 a1 => ?_) p.xq
  refine so sl W1 σ H1 _ _ _ (hs.ext x1) r1 q1 (fun o W2 u H2 q2 x2 r2 a2 => ?_) (p.xq.st x1)
  refine si sl W2 σ H2 _ _ _ ((hs.ext x1).ext x2) r2 q2 (fun y W3 w H3 q3 x3 r3 a3 => ?_) ((p.xq.st x1).st x2)
  split at q3
  · rename_i j kvs k e1 e2
    obtain ⟨hz, q3⟩ := q3
    obtain ⟨l, ws, rfl, h1, h2, h3, t⟩ := dictNL_at r3 (a2.ext x3) e1
    obtain ⟨b, rfl, hb, kb, nb⟩ := nkey_at a3 e2
    refine ⟨l, _, rfl, ⟨_, k, b, h3, t.nis (.inl h3), rfl, nb, kb, by rw [← t.length]; exact hz, rfl⟩, ?_⟩
    have ex : Ext W3 H3 (W3.put j (.dN (putG kvs k d))) (upd H3 l (NdO l (putN ws k b v))) := .put h1 h2 trivial
    refine p.nx sl (W3.put j (.dN (putG kvs k d))) σ _ q3 (((x1.trans x2).trans x3).trans ex) (r3.put h1 h2 trivial ⟨_, upd_same, (t.put hb ((a1.ext x2).ext x3)).ex0 ex.o⟩) ((hs.ext x1).ext (x2.trans (x3.trans ex)))
  · exact q3.elim
/-- {k: v} -/
def wDispN (mk mv : WE) : WE := fun sl cs Q X => mk sl (cs ++ [.dN []]) (fun y cs1 => mv sl cs1 (fun d cs2 => match nkey y, cs2[cs.length]? with
  | some k, some (.dN []) => Q (.root cs.length) (cs2.set cs.length (.dN [(k, d)]))
  | _, _ => False) X) X
theorem de_dispN (hu : X.A.units + 64 < cLine) (hk : DE X T E k mk) (hv : DE X T E v mv) : DE X T E (.Dict [some k] [v] pos) (wDispN mk mv) := by
  obtain ⟨tk, pk, sk⟩ := hk.ex
  obtain ⟨tv, pv, sv⟩ := hv.ex
  refine ⟨_, pe_ndisp hu pk pv, fun sl W σ H Q' X' Q hs rp h p px a ha => ?_⟩
  have ex : Ext W H (W.push a (.dN [])) (upd H a (NdO a [])) := .pushed rp ha
  have rp2 := rp.pushed ha (o := NdO a []) (c := .dN []) ⟨[], upd_same, .nil⟩
  refine sk sl (W.push a (.dN [])) σ _ _ X' _ (hs.ext ex) rp2 h (fun y W1 u H1 q1 x1 r1 a1 => ?_) (px.st ex)
  refine sv sl W1 σ H1 _ X' _ ((hs.ext ex).ext x1) r1 q1 (fun d W2 w H2 q2 x2 r2 a2 => ?_) ((px.st ex).st x1)
  split at q2
  · rename_i k e1 e2
    obtain ⟨b, rfl, hb, kb, nb⟩ := nkey_at (a1.ext x2) e1
    have h1 : W2.A[W.cs.length]? = some a := by
      refine x2.pre _ _ (x1.pre _ _ ?_)
      show (W.A ++ [a])[W.cs.length]? = some a
      rw [← rp.len, List.getElem?_append_right (Nat.le_refl _), Nat.sub_self]
      rfl
    obtain ⟨ws, g1, g2⟩ := r2.cell _ _ _ h1 e2
    cases g2
    refine ⟨b, k, w, rfl, nb, kb, g1, ?_⟩
    have ex3 : Ext W2 H2 (W2.put W.cs.length (.dN [(k, d)])) (upd H2 a (NdO a [(k, b, w)])) := .put h1 e2 trivial
    exact p _ _ _ _ q2 (((ex.trans x1).trans x2).trans ex3) (r2.put h1 e2 trivial ⟨_, upd_same, .cons ⟨rfl, hb.ext ex3, a2.ext ex3⟩ .nil⟩) (.root h1)
  · exact q2.elim
end
end DL
namespace DL
open PySem PySem.Spec PyProof.Rows L2

theorem u65 {A : Around} {k : Nat} (hr : Room k A) : A.units + 65 < cLine := by have := hr.un; omega
/-! ### d == e, d != e: tuples as keys, ints as values -/
section
variable {prog : Program} {w : World} {κ : Type} [DecidableEq κ] {knd : HeapKind prog w κ} {A : Around} {E : Value → Shared → Prop} {s : Shared}
inductive HitsH (A : Around) (s : Shared) (ys : List (κ × Addr × Value)) : List (κ × Addr × Value) → Bool → Prop
  | nil : HitsH A s ys [] true
  | miss {x : κ × Addr × Value} {r : List (κ × Addr × Value)} : atKey ys x.1 = none → HitsH A s ys (x :: r) false
  | hit {x : κ × Addr × Value} {p : Addr × Value} {r : List (κ × Addr × Value)} {e b : Bool} : atKey ys x.1 = some p → SeqAt.EqAt A s x.2.2 p.2 e → HitsH A s ys r b → HitsH A s ys (x :: r) (e && b)
theorem same_keyed {nm : String} {a b : Addr} {xs ys : List (κ × Addr × Value)} {r : Bool} {Q : Bool → Shared → Prop} (ha : (a == sysModules) = false) (hb : (b == sysModules) = false) (hu : knd.room A)
    (da : s.heap.DictOfH knd a xs) (db : s.heap.DictOfH knd b ys) (hits : HitsH A s ys xs r) (h : Q (xs.length == ys.length && r) s) : wpAny (model prog w) A (Builtin.Dict.samePairs nm a b) Q E s := by
  obtain ⟨oa, es, ep, hoa, _, hda, hea, hia, hna⟩ := da
  obtain ⟨ob, fs, fp, hob, _, hdb, heb, hib, hnb⟩ := db
  have hla : es.size = xs.length := size_of_entries hea
  have hlb : fs.size = ys.length := size_of_entries heb
  unfold Builtin.Dict.samePairs Builtin.Dict.showsAll
  rw [if_neg (show ¬ (a == sysModules) = true by rw [ha]; exact Bool.false_ne_true), if_neg (show ¬ (b == sysModules) = true by rw [hb]; exact Bool.false_ne_true)]
  refine wpAny_bind (wpAny_pure (wpAny_bind (wpAny_pure ?_)))
  refine wpAny_bind (wpAny_dictEntries hoa hda ?_)
  dsimp only
  refine wpAny_bind (wpAny_dictEntries hob hdb ?_)
  by_cases hsz : es.size = fs.size
  · have h' : Q r s := by
      rw [← hla, ← hlb, hsz, beq_self_eq_true, Bool.true_and] at h
      exact h
    rw [if_neg (by rw [hsz]; simp)]
    refine wpAny_bind (wpAny_dictEpoch hoa hda ?_)
    refine wpAny_bind ?_
    rw [Std.Legacy.Range.forIn_eq_forIn_range']
    simp only [Std.Legacy.Range.size, Nat.sub_zero, Nat.add_sub_cancel, Nat.div_one]
    refine wpAny_forIn_list _ (fun rest q s' => s' = s ∧ q = (none, ()) ∧ ∃ i, rest = List.range' i (es.size - i) ∧ i ≤ es.size ∧ HitsH A s ys (xs.drop i) r) _ ?_ ?_ _ _ ⟨rfl, rfl, 0, by simp, Nat.zero_le _, hits⟩
    · rintro x rest q s' ⟨rfl, rfl, i, hr, hi, hpre⟩
      have hlt : i < es.size := by
        rcases Nat.lt_or_ge i es.size with z | z
        · exact z
        · rw [Nat.sub_eq_zero_of_le z] at hr; simp at hr
      obtain ⟨rfl, hrest⟩ : x = i ∧ rest = List.range' (i + 1) (es.size - (i + 1)) := by
        rw [show es.size - i = (es.size - (i + 1)) + 1 by omega, List.range'_succ] at hr
        injection hr with h1 h2
        exact ⟨h1, h2⟩
      refine wpAny_bind (wpAny_dictEntries hoa hda ?_)
      have hlt' : x < xs.length := by omega
      obtain ⟨y, hy⟩ : ∃ y, xs[x]? = some y := ⟨_, List.getElem?_eq_getElem hlt'⟩
      have hdrop : xs.drop x = y :: xs.drop (x + 1) := by
        rw [List.getElem?_eq_getElem hlt'] at hy
        obtain rfl := Option.some.inj hy
        exact List.drop_eq_getElem_cons hlt'
      rw [entry_at hea x, hy]
      rw [hdrop] at hpre
      show wpAny _ _ (holding [Value.ref y.2.1, y.2.2] _ >>= _) _ _ _
      refine wpAny_bind (wpAny_holding (wpAny_bind (wpAny_dictFind_heap hu (hia y (List.mem_of_getElem? hy)) hob hdb heb hib hnb (fun hno => ?_) fun j p hj => ?_)))
      · have hn := atKey_none_of_get hno
        cases hpre with
        | miss _ =>
          refine wpAny_pure ?_
          show wpAny _ _ (if (!false) = true then _ else _) _ _ _
          rw [if_pos (by decide)]
          exact wpAny_pure (wpAny_pure h')
        | hit z _ _ => rw [hn] at z; cases z
      · have hp := atKey_of_get hnb hj
        refine wpAny_bind (wpAny_dictEntries hob hdb ?_)
        rw [entry_at heb j, hj]
        cases hpre with
        | miss z => rw [hp] at z; cases z
        | @hit _ p' _ e b z1 z2 z3 =>
          obtain rfl := Option.some.inj (hp.symm.trans z1)
          refine wpAny_holding (z2 prog w _ _ ?_)
          cases e with
          | false =>
            rw [Bool.false_and] at h'
            show wpAny _ _ (if (!false) = true then _ else _) _ _ _
            rw [if_pos (by decide)]
            exact wpAny_pure (wpAny_pure h')
          | true =>
            show wpAny _ _ (if (!true) = true then _ else _) _ _ _
            rw [if_neg (by decide)]
            refine wpAny_bind (wpAny_dictEpoch hoa hda ?_)
            rw [if_neg (by simp)]
            exact wpAny_pure ⟨rfl, rfl, x + 1, hrest, hlt, by rw [Bool.true_and]; exact z3⟩
    · rintro q s' ⟨rfl, rfl, i, hr, hi, hpre⟩
      have hin : i = es.size := by
        rcases Nat.lt_or_ge i es.size with z | z
        · rw [show es.size - i = (es.size - (i + 1)) + 1 by omega, List.range'_succ] at hr; exact nomatch hr
        · exact Nat.le_antisymm hi z
      refine wpAny_pure ?_
      rw [hin, hla, List.drop_length] at hpre
      cases hpre
      exact h'
  · rw [if_pos (by simpa using hsz)]
    have hbf : (xs.length == ys.length) = false := by
      rw [← hla, ← hlb]
      simpa using hsz
    rw [hbf, Bool.false_and] at h
    exact wpAny_bind (wpAny_rule (wpAny_pure h))
end
inductive HitsV (js : List (List Key × V)) : List (List Key × V) → Bool → Prop
  | nil : HitsV js [] true
  | miss {k : List Key} {v : V} {r : List (List Key × V)} : valV js k = none → HitsV js ((k, v) :: r) false
  | hit {k : List Key} {i j : Int} {r : List (List Key × V)} {b : Bool} : valV js k = some (.int j) → HitsV js r b → HitsV js ((k, .int i) :: r) ((i == j) && b)
theorem HitsV.up {A : Around} {s : Shared} {H : Hp} {js : List (List Key × V)} {ys : List (List Key × Addr × Value)} (ry : KT H js ys) : ∀ {ks : List (List Key × V)} {xs : List (List Key × Addr × Value)} {r : Bool}, KT H ks xs → HitsV js ks r → HitsH A s ys xs r := by
  intro ks xs r rk hv
  induction hv generalizing xs with
  | nil => cases rk; exact .nil
  | @miss k v r e =>
    cases rk with
    | @cons _ q _ qs z t =>
      refine .miss ?_
      rw [← z.1]
      have := ry.val k
      rw [e] at this
      exact Option.map_eq_none_iff.mp (RelO.none_of this)
  | @hit k i j r b e h ih =>
    cases rk with
    | @cons _ q _ qs z t =>
      have := ry.val k
      rw [e] at this
      obtain ⟨w', hw, rw'⟩ := RelO.some_of (v := .int j) (o := (atKey ys k).map (·.2)) this
      obtain ⟨p, hp, hp2⟩ := Option.map_eq_some_iff.mp hw
      obtain ⟨t1, e1⟩ := (show ∃ t, w' = Value.int j t from rw')
      obtain ⟨t2, e2⟩ := (show ∃ t, q.2.2 = Value.int i t from z.2.2)
      refine .hit (p := p) (by rw [← z.1]; exact hp) ?_ (ih t)
      rw [hp2, e1, e2]
      exact SeqAt.EqAt.int_int i t2 j t1
section
variable {X : Cx}
def rDEq (k : Bool → Bool) : R2 := fun x y H Q => ∃ (a b : Addr) (ks js : List (List Key × V)) (r : Bool), x = .ref a ∧ y = .ref b ∧ Rd H a (.dT ks) ∧ Rd H b (.dT js) ∧ HitsV js ks r ∧ Q (.bl (k (ks.length == js.length && r))) H
theorem op_eqDT (hu : X.A.units + 1 < cLine) : OpR X (compareOp .Eq) (rDEq id) := by
  intro pins s σ H x y v u Q I rx ry h
  obtain ⟨a, b, ks, js, r, rfl, rfl, ea, eb, hv, q⟩ := h
  obtain rfl : v = Value.ref a := rx
  obtain rfl : u = Value.ref b := ry
  obtain ⟨za, ya, xs, ra, da⟩ := dt_rd I.hok ea
  obtain ⟨zb, yb, ys, rb, db⟩ := dt_rd I.hok eb
  refine wpAny_richCompare_same_room (op := .Eq) da.typeIs db.typeIs PySem.F.slot_dict_eq (wpAny_call_entry PySem.F.slot_dict_eq da.typeIs PySem.F.entry_dict_eq ?_ (PySem.F.args_dict_eq_2 _ _)) (Nat.lt_of_succ_lt hu)
  show wpAny _ _ (Builtin.Dict.dictSlotArgs "__eq__" ⟨[.ref a, .ref b], []⟩ >>= _) _ _ s
  refine wpAny_bind ?_
  unfold Builtin.Dict.dictSlotArgs
  refine wpAny_bind (wpAny_notOrdered_dict da.typeIs ?_)
  show wpAny _ _ (pure (Value.ref a, Value.ref b)) _ _ s
  refine wpAny_pure ?_
  refine wpAny_bind (wpAny_isInstance (T := "dict") db.typeIs PySem.F.sub_dict_dict ?_)
  simp only [Bool.not_true, Bool.false_eq_true, if_false]
  refine wpAny_bind (wpAny_pure (wpAny_bind (wpAny_pure ?_)))
  refine wpAny_bind (same_keyed ya yb (tupleKind_room_in1 hu) da db (hv.up rb ra) ?_)
  refine wpAny_pure ⟨_, rfl, ?_, ?_⟩
  · exact fun x => nomatch x
  · rw [← Paired.length ra, ← Paired.length rb]
    refine ⟨.bl (ks.length == js.length && r), H, I, ?_, q⟩
    show Value.bool _ = Value.bool _
    simp
theorem op_neDT (hu : X.A.units + 1 < cLine) : OpR X (compareOp .NotEq) (rDEq not) := by
  intro pins s σ H x y v u Q I rx ry h
  obtain ⟨a, b, ks, js, r, rfl, rfl, ea, eb, hv, q⟩ := h
  obtain rfl : v = Value.ref a := rx
  obtain rfl : u = Value.ref b := ry
  obtain ⟨za, ya, xs, ra, da⟩ := dt_rd I.hok ea
  obtain ⟨zb, yb, ys, rb, db⟩ := dt_rd I.hok eb
  refine wpAny_richCompare_same_room (op := .NotEq) da.typeIs db.typeIs PySem.F.slot_dict_ne (wpAny_call_entry PySem.F.slot_dict_ne da.typeIs PySem.F.entry_dict_ne ?_ (PySem.F.args_dict_ne_2 _ _)) (Nat.lt_of_succ_lt hu)
  show wpAny _ _ (Builtin.Dict.dictSlotArgs "__ne__" ⟨[.ref a, .ref b], []⟩ >>= _) _ _ s
  refine wpAny_bind ?_
  unfold Builtin.Dict.dictSlotArgs
  refine wpAny_bind (wpAny_notOrdered_dict da.typeIs ?_)
  show wpAny _ _ (pure (Value.ref a, Value.ref b)) _ _ s
  refine wpAny_pure ?_
  refine wpAny_bind (wpAny_isInstance (T := "dict") db.typeIs PySem.F.sub_dict_dict ?_)
  simp only [Bool.not_true, Bool.false_eq_true, if_false]
  refine wpAny_bind (wpAny_pure (wpAny_bind (wpAny_pure ?_)))
  refine wpAny_bind (same_keyed ya yb (tupleKind_room_in1 hu) da db (hv.up rb ra) ?_)
  refine wpAny_pure ⟨_, rfl, ?_, ?_⟩
  · exact fun x => nomatch x
  · rw [← Paired.length ra, ← Paired.length rb]
    refine ⟨.bl (!(ks.length == js.length && r)), H, I, ?_, q⟩
    show Value.bool _ = Value.bool _
    simp
end
def allInt (kvs : KD) : Prop := ∀ kv ∈ kvs, ∃ i, kv.2 = .int i
def hitK (b : KD) (kv : List Key × D) : Bool := match kv.2, valD b kv.1 with
  | .int i, some (.int j) => i == j
  | _, _ => false
def eqKD (a b : KD) : Bool := a.length == b.length && a.all (hitK b)
def gDEq (k : Bool → Bool) : G2 := fun d e cs Q => match dictT cs d, dictT cs e with
  | some a, some b => allInt a ∧ allInt b ∧ Q (.bl (k (eqKD a b))) cs
  | _, _ => False
theorem valD_int {b : KD} (h : allInt b) {k : List Key} {d : D} (e : valD b k = some d) : ∃ j, d = .int j := by
  unfold valD at e
  obtain ⟨p, hp, rfl⟩ := Option.map_eq_some_iff.mp e
  exact h p (List.mem_of_find?_eq_some hp)
theorem hits_at {K : PySem.W.Frag} {T : Tb} {W : Wd} {H : Hp} {b : KD} {us : List V} (hb : allInt b) (tb : AtL K T W H (b.map (·.2)) us) : ∀ (a : KD) (vs : List V), allInt a → AtL K T W H (a.map (·.2)) vs → HitsV ((b.map (·.1)).zip us) ((a.map (·.1)).zip vs) (a.all (hitK b))
  | [], _, _, .nil => .nil
  | (k, d) :: a, _, ha, .cons (v := v) (vs := vs) h t => by
    obtain ⟨i, e⟩ := ha _ List.mem_cons_self
    have e : d = .int i := e
    subst e
    cases h
    have ih := hits_at hb tb a vs (fun kv hk => ha kv (List.mem_cons_of_mem _ hk)) t
    have z := valD_zip k b us tb
    rw [List.all_cons]
    simp only [List.map_cons, List.zip_cons_cons, hitK]
    cases ev : valD b k with
    | none =>
      rw [ev] at z
      simp only [Bool.false_and]
      exact .miss z
    | some d =>
      obtain ⟨j, rfl⟩ := valD_int hb ev
      rw [ev] at z
      obtain ⟨w, z1, z2⟩ := z
      cases z2
      exact .hit z1 ih
theorem ok_deq {K : PySem.W.Frag} {T : Tb} {k : Bool → Bool} : OkR K T (rDEq k) (gDEq k) := by
  intro W H d e v u Q' Q r a b h p
  unfold gDEq at h
  split at h
  · rename_i ka kb e1 e2
    obtain ⟨l, vs, rfl, rd, t⟩ := dictT_at r a e1
    obtain ⟨m, us, rfl, rd2, t2⟩ := dictT_at r b e2
    refine ⟨l, m, _, _, _, rfl, rfl, rd, rd2, hits_at h.2.1 t2 ka vs h.1 t, ?_⟩
    have e1 : ((ka.map (·.1)).zip vs).length = ka.length := by
      have := t.length
      rw [List.length_map] at this
      rw [List.length_zip, List.length_map]; omega
    have e2 : ((kb.map (·.1)).zip us).length = kb.length := by
      have := t2.length
      rw [List.length_map] at this
      rw [List.length_zip, List.length_map]; omega
    rw [e1, e2]
    exact p _ W _ H h.2.2 .refl r (.bl _)
  · exact h.elim
end DL
namespace DL
open PySem PySem.Spec PyProof.Rows L2

/-! ### is True, is False -/
def gIsB (k : Bool → Bool) : G2 := fun d e cs Q => match d, e with
  | .bl a, .bl b => Q (.bl (k (decide (a = b)))) cs
  | _, _ => False
theorem ok_isB {K : PySem.W.Frag} {T : Tb} : OkR K T rIsB (gIsB id) := by
  intro W H d e v u Q' Q r a b h p
  unfold gIsB at h
  split at h
  · cases a
    cases b
    exact ⟨_, _, rfl, rfl, p _ W _ H h .refl r (.bl _)⟩
  · exact h.elim
theorem ok_notB {K : PySem.W.Frag} {T : Tb} : OkR K T rNotB (gIsB not) := by
  intro W H d e v u Q' Q r a b h p
  unfold gIsB at h
  split at h
  · cases a
    cases b
    exact ⟨_, _, rfl, rfl, p _ W _ H h .refl r (.bl _)⟩
  · exact h.elim
/-! nested keys at hand -/
theorem nkeysF_ints (n : Nat) : ∀ w : List Int, nkeysF (w.map D.int) n = some (w.map NestedKey.num)
  | [] => rfl
  | x :: w => by simp only [List.map_cons, nkeysF, nkeyF, nkeysF_ints n w]
theorem nkDs_ints : ∀ w : List Int, nkDs (w.map NestedKey.num) = w.map D.int
  | [] => rfl
  | x :: w => by simp only [List.map_cons, nkDs, nkD, nkDs_ints w]
/-- (exponents, used) -/
def xk (e : List Int) (u : Int) : NestedKey := .tup [.tup (e.map .num), .num u]
theorem nkey_xk (e : List Int) (u : Int) : nkey (.tup [.tup (e.map D.int), .int u]) = some (xk e u) := by
  simp only [nkey, nkeysF, nkeyF, nkeysF_ints]
  rfl
theorem nkD_xk (e : List Int) (u : Int) : nkD (xk e u) = .tup [.tup (e.map D.int), .int u] := by
  simp only [xk, nkD, nkDs, nkDs_ints]
/-- (size, letters) -/
def rk (u : Int) (e : List Int) : NestedKey := .tup [.num u, .tup (e.map .num)]
theorem nkey_rk (e : List Int) (u : Int) : nkey (.tup [.int u, .tup (e.map D.int)]) = some (rk u e) := by
  simp only [nkey, nkeysF, nkeyF, nkeysF_ints]
  rfl
theorem nkD_rk (e : List Int) (u : Int) : nkD (rk u e) = .tup [.int u, .tup (e.map D.int)] := by
  simp only [rk, nkD, nkDs, nkDs_ints]
theorem nums_inj : ∀ {a b : List Int}, a.map NestedKey.num = b.map NestedKey.num → a = b
  | [], [], _ => rfl
  | [], _ :: _, h => nomatch h
  | _ :: _, [], h => nomatch h
  | x :: a, y :: b, h => by
    rw [List.map_cons, List.map_cons] at h
    injection h with h1 h2
    injection h1 with h1
    rw [h1, nums_inj h2]
theorem xk_inj {e f : List Int} {u v : Int} (h : xk e u = xk f v) : e = f ∧ u = v := by
  unfold xk at h
  injection h with h
  injection h with h1 h2
  injection h1 with h1
  injection h2 with h2 _
  injection h2 with h2
  exact ⟨nums_inj h1, h2⟩
theorem rk_inj {e f : List Int} {u v : Int} (h : rk u e = rk v f) : u = v ∧ e = f := by
  unfold rk at h
  injection h with h
  injection h with h1 h2
  injection h1 with h1
  injection h2 with h2 _
  injection h2 with h2
  exact ⟨h1, nums_inj h2⟩
end DL
namespace DL
open PySem PySem.Spec PyProof.Rows L2
theorem atI0 {α : Type} (x : α) (xs : List α) : atI (x :: xs) 0 = some x := atI_nat (j := 0) rfl
theorem atI1 {α : Type} (x y : α) (xs : List α) : atI (x :: y :: xs) 1 = some y := atI_nat (j := 1) rfl
theorem atI2 {α : Type} (x y z : α) (xs : List α) : atI (x :: y :: z :: xs) 2 = some z := atI_nat (j := 2) rfl
theorem ixN30 : ixN 3 0 = some 0 := rfl
theorem ixN31 : ixN 3 1 = some 1 := rfl
theorem ixN32 : ixN 3 2 = some 2 := rfl
theorem log2_lt {i : Int} {n : Nat} (h : i.natAbs < 2 ^ n) (hn : 0 < n) : i.natAbs.log2 < n := PySem.Flt.log2_lt_of hn h
/-- what a product asks: factors below powers of two -/
theorem mulOk {i j : Int} (a b : Nat) (ha : i.natAbs < 2 ^ a) (hb : j.natAbs < 2 ^ b) (h0 : 0 < a) (h1 : 0 < b) (h : a + b ≤ 1000000) : IntMulOk i j := (wide_mul ha hb h0 h1 h).ok
theorem bits_le {i : Int} {a : Nat} (h : i.natAbs < 2 ^ a) (h0 : 0 < a) : Builtin.Int.intBits i ≤ a := by
  unfold Builtin.Int.intBits
  have := log2_lt h h0
  split <;> omega
theorem powOk {i n : Int} (a : Nat) (ha : i.natAbs < 2 ^ a) (h0 : 0 < a) (hn : 0 ≤ n) (hz : (a : Int) * n ≤ 2 ^ 27) : CPowW i n := by
  refine ⟨hn, Int.le_trans ?_ hz⟩
  exact Int.mul_le_mul_of_nonneg_right (by have := bits_le ha h0; omega) hn
theorem divOk {i j : Int} (b : Nat) (h : 0 < j) (hb : j.natAbs < 2 ^ b) (h0 : 0 < b) (h9 : b ≤ 9000) : CDivW i j := wide_div h hb h0 h9

theorem gEqI {k : Bool → Bool} {i j : Int} {cs : Cells} {Q : WQ} : gEqD k (.int i) (.int j) cs Q = Q (.bl (k (decide (i = j)))) cs := rfl
theorem gEqB {k : Bool → Bool} {i j : Bool} {cs : Cells} {Q : WQ} : gEqD k (.bl i) (.bl j) cs Q = Q (.bl (k (decide (i = j)))) cs := rfl
theorem gEqS {k : Bool → Bool} {i j : Str} {cs : Cells} {Q : WQ} : gEqD k (.str i) (.str j) cs Q = Q (.bl (k (decide (i = j)))) cs := rfl

theorem lc_inv {g : WG} {mt : WT} {me : WE} {sl : Sl} {Q : List D → Cells → Prop} {ds : List D} (P : Nat → List D → Cells → Prop)
    (step : ∀ i d acc cs (k1 : WQ) (k0 : Cells → Prop), ds[i]? = some d → P i acc cs → (∀ y cs', P (i + 1) (acc ++ [y]) cs' → k1 y cs') → (∀ cs', P (i + 1) acc cs' → k0 cs') →
      g d sl cs fun sl2 cs2 => mt sl2 cs2 (fun b cs3 => if b = true then me sl2 cs3 k1 (fun _ _ _ => False) else k0 cs3) (fun _ _ _ => False))
    (fin : ∀ acc cs, P ds.length acc cs → Q acc cs) : ∀ (n i : Nat) (acc : List D) (cs : Cells), i + n = ds.length → P i acc cs → lcW g mt me sl Q (ds.drop i) acc cs
  | 0, i, acc, cs, e, h => by
    have : i = ds.length := by omega
    subst this
    rw [List.drop_length]
    exact fin acc cs h
  | n + 1, i, acc, cs, e, h => by
    have hi : i < ds.length := by omega
    rw [List.drop_eq_getElem_cons hi]
    exact step i ds[i] acc cs _ _ (List.getElem?_eq_getElem hi) h (fun y cs' q => lc_inv P step fin n (i + 1) _ cs' (by omega) q) fun cs' q => lc_inv P step fin n (i + 1) _ cs' (by omega) q
theorem lc_by {g : WG} {mt : WT} {me : WE} {sl : Sl} {Q : List D → Cells → Prop} {ds : List D} {cs : Cells} (P : Nat → List D → Cells → Prop) (h0 : P 0 [] cs)
    (step : ∀ i d acc cs (k1 : WQ) (k0 : Cells → Prop), ds[i]? = some d → P i acc cs → (∀ y cs', P (i + 1) (acc ++ [y]) cs' → k1 y cs') → (∀ cs', P (i + 1) acc cs' → k0 cs') →
      g d sl cs fun sl2 cs2 => mt sl2 cs2 (fun b cs3 => if b = true then me sl2 cs3 k1 (fun _ _ _ => False) else k0 cs3) (fun _ _ _ => False))
    (fin : ∀ acc cs, P ds.length acc cs → Q acc cs) : lcW g mt me sl Q ds [] cs := by
  have := lc_inv P step fin ds.length 0 [] cs (by omega) h0
  rwa [List.drop_zero] at this
/-- a comprehension that changes nothing, over typed items -/
theorem lc_fm {α : Type} {g : WG} {mt : WT} {me : WE} {sl : Sl} {Q : List D → Cells → Prop} {cs : Cells} (e : α → D) (f : α → Option D) : ∀ (xs : List α) (acc : List D),
    (∀ x, x ∈ xs → ∀ (k1 : WQ) (k0 : Cells → Prop), (match f x with
      | some y => k1 y cs
      | none => k0 cs) → g (e x) sl cs fun sl2 cs2 => mt sl2 cs2 (fun b cs3 => if b = true then me sl2 cs3 k1 (fun _ _ _ => False) else k0 cs3) (fun _ _ _ => False)) →
    Q (acc ++ xs.filterMap f) cs → lcW g mt me sl Q (xs.map e) acc cs
  | [], acc, _, h => by rw [List.filterMap_nil, List.append_nil] at h; exact h
  | x :: xs, acc, st, h => by
    refine st x List.mem_cons_self _ _ ?_
    cases q : f x with
    | some y =>
      refine lc_fm e f xs _ (fun z hz => st z (List.mem_cons_of_mem _ hz)) ?_
      rw [List.filterMap_cons, q] at h
      rw [List.append_assoc]
      exact h
    | none =>
      refine lc_fm e f xs _ (fun z hz => st z (List.mem_cons_of_mem _ hz)) ?_
      rw [List.filterMap_cons, q] at h
      exact h
theorem filterMap_some {α β : Type} (f : α → β) : ∀ xs : List α, xs.filterMap (fun x => some (f x)) = xs.map f
  | [] => rfl
  | x :: xs => by rw [List.filterMap_cons, filterMap_some f xs]; rfl
theorem lc_map {α : Type} {g : WG} {me : WE} {sl : Sl} {Q : List D → Cells → Prop} {cs : Cells} (e : α → D) (f : α → D) (xs : List α)
    (st : ∀ x, x ∈ xs → ∀ (k : WQ), k (f x) cs → g (e x) sl cs fun sl2 cs2 => me sl2 cs2 k (fun _ _ _ => False)) (h : Q (xs.map f) cs) : lcW g wYes me sl Q (xs.map e) [] cs := by
  refine lc_fm e (fun x => some (f x)) xs [] (fun x hx k1 k0 q => ?_) (by rw [List.nil_append, filterMap_some]; exact h)
  simp only [wYes, if_true]
  exact st x hx k1 q
theorem for_inv {g : WG} {tb : WS} {D0 : WD} {ds : List D} (P : Nat → Sl → Cells → Prop)
    (step : ∀ i d sl cs (k : Sl → Cells → Prop), ds[i]? = some d → P i sl cs → (∀ sl' cs', P (i + 1) sl' cs' → k sl' cs') → g d sl cs fun sl1 cs1 => tb { nx := k, rt := D0.rt, xq := D0.xq, bk := D0.nx, ct := k } sl1 cs1)
    (fin : ∀ sl cs, P ds.length sl cs → D0.nx sl cs) : ∀ (n i : Nat) (sl : Sl) (cs : Cells), i + n = ds.length → P i sl cs → forW g tb D0 (ds.drop i) sl cs
  | 0, i, sl, cs, e, h => by
    have : i = ds.length := by omega
    subst this
    rw [List.drop_length]
    exact fin sl cs h
  | n + 1, i, sl, cs, e, h => by
    have hi : i < ds.length := by omega
    rw [List.drop_eq_getElem_cons hi]
    exact step i ds[i] sl cs _ (List.getElem?_eq_getElem hi) h fun sl' cs' q => for_inv P step fin n (i + 1) sl' cs' (by omega) q
theorem for_by {g : WG} {tb : WS} {D0 : WD} {ds : List D} {sl : Sl} {cs : Cells} (P : Nat → Sl → Cells → Prop) (h0 : P 0 sl cs)
    (step : ∀ i d sl cs (k : Sl → Cells → Prop), ds[i]? = some d → P i sl cs → (∀ sl' cs', P (i + 1) sl' cs' → k sl' cs') → g d sl cs fun sl1 cs1 => tb { nx := k, rt := D0.rt, xq := D0.xq, bk := D0.nx, ct := k } sl1 cs1)
    (fin : ∀ sl cs, P ds.length sl cs → D0.nx sl cs) : forW g tb D0 ds sl cs := by
  have := for_inv P step fin ds.length 0 sl cs (by omega) h0
  rwa [List.drop_zero] at this
theorem intsD_at {lo : Int} {n i : Nat} {d : D} (h : (intsD lo n)[i]? = some d) : d = .int (lo + i) ∧ i < n := by
  have hi : i < n := by have := (List.getElem?_eq_some_iff.mp h).1; rwa [ints_len] at this
  rw [ints_get hi] at h
  exact ⟨(Option.some.inj h).symm, hi⟩
theorem szl {n : Nat} (h : n ≤ 16000000) : n ≤ sizeLine := by rw [sizeLine_eq]; omega
theorem szlt {n : Nat} (h : n < 16000000) : n < sizeLine := by rw [sizeLine_eq]; omega

/-! ### == of plain data, by types: e puts a value as data -/
structure EqD {α : Type} [DecidableEq α] (e : α → D) (k : Nat) : Prop where
  ex : ∃ p : α → PyData, (∀ f x, pyW f (e x) = some (p x)) ∧ (∀ x, (p x).canLay0 = true) ∧ (∀ x, (p x).depth ≤ k) ∧ ∀ x y, PyData.eqv (p x) (p y) = decide (x = y)
theorem eqd_int : EqD D.int 0 := ⟨PyData.int, fun _ _ => by simp only [pyW], fun _ => by simp only [PyData.canLay0], fun _ => by simp only [PyData.depth]; exact Nat.le_refl _, fun x y => by simp only [PyData.eqv]; rw [Bool.eq_iff_iff]; simp⟩
theorem eqd_bool : EqD D.bl 0 := ⟨PyData.bool, fun _ _ => by simp only [pyW], fun _ => by simp only [PyData.canLay0], fun _ => by simp only [PyData.depth]; exact Nat.le_refl _, fun x y => by simp only [PyData.eqv]; rw [Bool.eq_iff_iff]; simp⟩
section
variable {α β : Type} [DecidableEq α] [DecidableEq β] {e : α → D} {e2 : β → D} {k m : Nat}
theorem EqD.mono (h : EqD e k) (hk : k ≤ m) : EqD e m := let ⟨p, h1, h2, h3, h4⟩ := h.ex; ⟨p, h1, h2, fun x => Nat.le_trans (h3 x) hk, h4⟩
theorem pyl_map {p : α → PyData} (h1 : ∀ f x, pyW f (e x) = some (p x)) (f : Nat → Option PyData) : ∀ l : List α, pyWL f (l.map e) = some (l.map p)
  | [] => by simp only [List.map_nil, pyWL]
  | a :: l => by simp only [List.map_cons, pyWL, h1, pyl_map h1 f l]
theorem canl_map {p : α → PyData} (h2 : ∀ x, (p x).canLay0 = true) : ∀ l : List α, PyData.canLayAll0 (l.map p) = true
  | [] => by simp only [List.map_nil, PyData.canLayAll0]
  | a :: l => by simp only [List.map_cons, PyData.canLayAll0, h2, canl_map h2 l, Bool.and_true]
theorem depl_map {p : α → PyData} (h3 : ∀ x, (p x).depth ≤ k) : ∀ l : List α, PyData.depthAll (l.map p) ≤ k
  | [] => by simp only [List.map_nil, PyData.depthAll]; exact Nat.zero_le _
  | a :: l => by
    have := h3 a
    have := depl_map h3 l
    simp only [List.map_cons, PyData.depthAll]; omega
theorem eqvl_map {p : α → PyData} (h4 : ∀ x y, PyData.eqv (p x) (p y) = decide (x = y)) : ∀ l m : List α, PyData.eqvAll (l.map p) (m.map p) = decide (l = m)
  | [], [] => by simp [PyData.eqvAll]
  | [], _ :: _ => by simp [PyData.eqvAll]
  | _ :: _, [] => by simp [PyData.eqvAll]
  | a :: l, b :: m => by
    simp only [List.map_cons, PyData.eqvAll, h4, eqvl_map h4 l m, List.cons.injEq]
    rw [Bool.eq_iff_iff]; simp
theorem EqD.list (h : EqD e k) : EqD (fun xs : List α => .lst (xs.map e)) (k + 1) := by
  obtain ⟨p, h1, h2, h3, h4⟩ := h.ex
  refine ⟨fun xs => .list (xs.map p), fun f x => ?_, fun x => ?_, fun x => ?_, fun x y => ?_⟩
  · simp only [pyW, pyl_map h1, Option.map_some]
  · simp only [PyData.canLay0, canl_map h2]
  · have := depl_map h3 x
    simp only [PyData.depth]; omega
  · simp only [PyData.eqv, eqvl_map h4]
theorem EqD.pair (h : EqD e k) (g : EqD e2 k) : EqD (fun t : α × β => .tup [e t.1, e2 t.2]) (k + 1) := by
  obtain ⟨p, h1, h2, h3, h4⟩ := h.ex
  obtain ⟨q, g1, g2, g3, g4⟩ := g.ex
  refine ⟨fun t => .tuple [p t.1, q t.2], fun f x => ?_, fun x => ?_, fun x => ?_, fun x y => ?_⟩
  · simp only [pyW, pyWL, h1, g1, Option.map_some]
  · simp only [PyData.canLay0, PyData.canLayAll0, h2, g2, Bool.and_true]
  · have := h3 x.1
    have := g3 x.2
    simp only [PyData.depth, PyData.depthAll]; omega
  · simp only [PyData.eqv, PyData.eqvAll, h4, g4]
    obtain ⟨a, b⟩ := x
    obtain ⟨c, d⟩ := y
    rw [Bool.eq_iff_iff]; simp
theorem gEq_py {kk : Bool → Bool} {cs : Cells} {Q : WQ} {d1 d2 : D} {p q : PyData} (h1 : py cs d1 = some p) (h2 : py cs d2 = some q) (s1 : SeqAt.shaped p = true) (s2 : SeqAt.shaped q = true) (h : Q (.bl (kk (PyData.eqv p q))) cs) : gEqD kk d1 d2 cs Q := by
  unfold gEqD
  split
  · unfold py at h1 h2
    simp only [pyW] at h1 h2
    cases h1; cases h2
    simpa [PyData.eqv, BEq.beq, instBEqOfDecidableEq] using h
  · unfold py at h1 h2
    simp only [pyW] at h1 h2
    cases h1; cases h2
    simpa [PyData.eqv, BEq.beq, instBEqOfDecidableEq] using h
  · unfold py at h1 h2
    simp only [pyW] at h1 h2
    cases h1; cases h2
    rename_i i j
    have e : PyData.eqv (.str i) (.str j) = decide (i = j) := by
      simp only [PyData.eqv]
      rw [Bool.eq_iff_iff]; simp
    rw [e] at h
    exact h
  · rw [h1, h2]
    exact ⟨s1, s2, h⟩
theorem shaped_of {p : PyData} (h2 : p.canLay0 = true) (h3 : p.depth ≤ 64) : SeqAt.shaped p = true := by
  unfold SeqAt.shaped
  rw [Bool.and_eq_true]
  exact ⟨h2, decide_eq_true h3⟩
theorem gEq_of {kk : Bool → Bool} {cs : Cells} {Q : WQ} (h : EqD e k) {x y : α} (q : Q (.bl (kk (decide (x = y)))) cs) (hk : k ≤ 64 := by decide) : gEqD kk (e x) (e y) cs Q := by
  obtain ⟨p, h1, h2, h3, h4⟩ := h.ex
  exact gEq_py (h1 _ x) (h1 _ y) (shaped_of (h2 x) (Nat.le_trans (h3 x) hk)) (shaped_of (h2 y) (Nat.le_trans (h3 y) hk)) (by rw [h4]; exact q)
/-- a live list with typed items, with a list -/
theorem py_root {j : Nat} {cs : Cells} {xs : List α} {p : α → PyData} (h1 : ∀ f x, pyW f (e x) = some (p x)) (hc : cellL cs[j]? = some (xs.map e)) : py cs (.root j) = some (.list (xs.map p)) := by
  unfold py
  simp only [pyW]
  unfold cellPy
  rw [hc]
  simp only [pyl_map h1, Option.map_some]
theorem gEq_root {kk : Bool → Bool} {cs : Cells} {Q : WQ} {j : Nat} {xs ys : List α} (h : EqD e k) (hc : cellL cs[j]? = some (xs.map e)) (q : Q (.bl (kk (decide (xs = ys)))) cs) (hk : k + 1 ≤ 64 := by decide) : gEqD kk (.root j) (.lst (ys.map e)) cs Q := by
  obtain ⟨p, h1, h2, h3, h4⟩ := h.list.ex
  obtain ⟨p', h1', h2', h3', h4'⟩ := h.ex
  have e1 : ∀ l : List α, p l = .list (l.map p') := fun l => by
    have := h1 (fun _ => none) l
    simp only [pyW, pyl_map h1', Option.map_some] at this
    exact (Option.some.inj this).symm
  refine gEq_py (p := p xs) (q := p ys) ?_ (h1 _ ys) (shaped_of (h2 xs) (Nat.le_trans (h3 xs) hk)) (shaped_of (h2 ys) (Nat.le_trans (h3 ys) hk)) (by rw [h4]; exact q)
  rw [e1]
  exact py_root h1' hc
end
theorem gEq_empty {α : Type} [DecidableEq α] {e : α → D} {k : Nat} {kk : Bool → Bool} {cs : Cells} {Q : WQ} {j : Nat} {xs : List α} (h : EqD e k) (hc : cs[j]? = some (.lst (xs.map e))) (q : Q (.bl (kk (decide (xs = [])))) cs) (hk : k + 1 ≤ 64 := by decide) : gEqD kk (.root j) (.lst []) cs Q :=
  gEq_root (ys := []) h (by rw [hc]; rfl) q hk

/-! ### the pool of draws: three ints in a live list -/
/-- the j-th cell is a pool from which at most N were drawn by mixing -/
def Pl (N : Nat) (cs : Cells) (j : Nat) : Prop := ∃ a b c : Int, cs[j]? = some (.lst [.int a, .int b, .int c]) ∧ 0 ≤ a ∧ 0 ≤ b ∧ b < 2 ^ 62 ∧ 0 ≤ c ∧ c ≤ (N : Int)
theorem Pl.mono {N M : Nat} {cs : Cells} {j : Nat} (h : Pl N cs j) (l : N ≤ M) : Pl M cs j := by
  obtain ⟨a, b, c, h1, h2, h3, h4, h5, h6⟩ := h
  exact ⟨a, b, c, h1, h2, h3, h4, h5, by omega⟩
/-- all other cells stay -/
structure Fr (j : Nat) (cs cs' : Cells) : Prop where
  le : cs.length ≤ cs'.length
  at_ : ∀ i, i ≠ j → i < cs.length → cs'[i]? = cs[i]?
theorem Fr.refl {j : Nat} {cs : Cells} : Fr j cs cs := ⟨Nat.le_refl _, fun _ _ _ => rfl⟩
theorem Fr.trans {j : Nat} {a b c : Cells} (x : Fr j a b) (y : Fr j b c) : Fr j a c :=
  ⟨Nat.le_trans x.le y.le, fun i h1 h2 => (y.at_ i h1 (Nat.lt_of_lt_of_le h2 x.le)).trans (x.at_ i h1 h2)⟩
theorem Fr.set {j : Nat} {cs : Cells} {c : C} : Fr j cs (cs.set j c) := ⟨by simp, fun i h _ => List.getElem?_set_ne (Ne.symm h)⟩
theorem Fr.push {j : Nat} {cs : Cells} {c : C} : Fr j cs (cs ++ [c]) := ⟨by simp, fun i _ h => List.getElem?_append_left h⟩
theorem Pl.lt {N : Nat} {cs : Cells} {j : Nat} (h : Pl N cs j) : j < cs.length := by
  obtain ⟨a, b, c, h1, _⟩ := h
  exact (List.getElem?_eq_some_iff.mp h1).1
theorem Pl.set_ne {N : Nat} {cs : Cells} {j i : Nat} {c : C} (h : Pl N cs j) (n : i ≠ j) : Pl N (cs.set i c) j := by
  obtain ⟨a, b, d, h1, r⟩ := h
  exact ⟨a, b, d, by rw [List.getElem?_set_ne n]; exact h1, r⟩
/-- a younger cell is written -/
theorem Fr.set_new {j i : Nat} {cs cs' : Cells} {c : C} (f : Fr j cs cs') (h : cs.length ≤ i) : Fr j cs (cs'.set i c) :=
  ⟨by rw [List.length_set]; exact f.le, fun m h1 h2 => by rw [List.getElem?_set_ne (by omega)]; exact f.at_ m h1 h2⟩
/-- a word's letters, as data -/
def wordD (w : List Int) : D := .lst (w.map D.int)

def S_law_draw : SD := fun ds cs Q _ => ∃ (j N : Nat) (n : Int), ds = [.root j, .int n] ∧ Pl N cs j ∧ N ≤ 1000000 ∧ 0 < n ∧ n.natAbs < 2 ^ 500 ∧
  ∀ d cs', 0 ≤ d → d < n → Fr j cs cs' → cs'.length = cs.length → Pl (N + 1) cs' j → Q (.int d) cs'
theorem len_law_draw : ∀ ds cs Q X', S_law_draw ds cs Q X' → ds.length = 2 := by
  rintro ds cs Q X' ⟨j, N, n, rfl, _⟩
  rfl
def m_law_draw_5 : WS :=
  (wRet (wBin (gI (fun _ j => 0 < j) fun i j => i % j) (wArg gIntC (wCons (wBin (gI CDivW fun i j => i / j) (wVar 3) (wC (.int 1048576))) wNil)) (wVar 1)))
def m_law_draw_4 : WS :=
  wSeq (wAsg (wBin (gI (fun _ j => 0 < j) fun i j => i % j) (wArg gIntC (wCons (wBin (gI CPowW fun i j => i ^ j.toNat) (wBin gAdd (wVar 3) (wBin gMul (wC (.int 32452843)) (wBin gIx (wVar 0) (wC (.int 2))))) (wC (.int 3))) wNil)) (wC (.int 170141183460469231731687303715884105727))) (wgName 3))
    m_law_draw_5
def m_law_draw_3 : WS :=
  wSeq (wAsg (wBin (gI (fun _ j => 0 < j) fun i j => i % j) (wArg gIntC (wCons (wBin (gI CPowW fun i j => i ^ j.toNat) (wBin gAdd (wBin gIx (wVar 0) (wC (.int 1))) (wBin gMul (wC (.int 15485863)) (wBin gIx (wVar 0) (wC (.int 2))))) (wC (.int 3))) wNil)) (wC (.int 162259276829213363391578010288127))) (wgName 3))
    m_law_draw_4
def m_law_draw_2 : WS :=
  wSeq (wSub gSetL (wVar 0) (wC (.int 2)) (wBin gAdd (wBin gIx (wVar 0) (wC (.int 2))) (wC (.int 1))))
    m_law_draw_3
def m_law_draw : WS :=
  wSeq (wIfS (wTst (wBin (gB0 fun i j => decide (j < i)) (wBin gIx (wVar 0) (wC (.int 0))) (wC (.int 0)))) (wSeq (wAsg (wBin (gI (fun _ j => 0 < j) fun i j => i % j) (wArg gIntC (wCons (wBin gIx (wVar 0) (wC (.int 0))) wNil)) (wVar 1)) (wgName 2))
    (wSeq (wSub gSetL (wVar 0) (wC (.int 0)) (wBin (gI CDivW fun i j => i / j) (wBin gIx (wVar 0) (wC (.int 0))) (wVar 1)))
    (wRet (wVar 2)))) wNext)
    m_law_draw_2
theorem body_law_draw : Body S_law_draw m_law_draw 4 := by
  rintro ds cs Q X' ⟨j, N, n, rfl, ⟨a, b, c, hc, ha, hb, hb2, h0, hN⟩, hM, hn, hn2, k⟩
  have hj : j < cs.length := (List.getElem?_eq_some_iff.mp hc).1
  simp only [m_law_draw, m_law_draw_2, m_law_draw_3, m_law_draw_4, m_law_draw_5, wVar, wDNew, wDIx, wDGet, wDPut, wKeys, gSorted, dictT, dictLive, tkey, keyT, wIsi, gEqO, wKw, wCallK, wMethK, pick, wC, wBin, wTst, wUn, wNil, wCons, wArg, gTupD, gLstD, gRootD, wAndT, wOrT, wNotT, wAndV, wOrV, wNotV, wIf, wNext, wSeq, wBreak, wCont, wDrop, wRet, wRetN, wIfS, wgName, wgNil, wgCons, wgTup, wAsg, wPar, wPar3, gDict, wLcR, wTru, wDIn, truD, wLc2, lcW2, lcJ, wMaxDef, wListRg, gIn, flatD, flatL, wFroz, wTupI, wRng1, wRng2, wRng3, wEnum, wZip, wFor, wYes, wLc, wipeD, gI, gI0, gB0, gAdd, gCatR, gMul, gNeg, gEqI, gEqB, gEqS, gIsN, isNonD, wCall, wMeth, wMake, wFldS, fldD, wFld, wProp, g1, g2L, gLen, gAbs, gIntC, gStrI, gMax2, gMin2, gInts, gSum, gMaxL, gMinL, gBls, gListOf, gListOfR, gTupOf, gIx, woNo, woSome, wSl, wRev, wRevF, wBM, wBM0, gAppend, gInsert, gReverse, gExtend, gPopAt, gPop, gSetL, wSub, wAug, gIxL, wAugS, wFz, seqD, lisD, frozL, derefL, liveL, cellL, cellF, startD, List.map_cons, List.map_nil, List.length_cons, List.length_nil, List.replicate, List.cons_append, List.nil_append, List.getElem?_cons_zero, List.getElem?_cons_succ, List.getElem?_nil, List.set_cons_zero, List.set_cons_succ, Nat.reduceSub, Nat.reduceAdd, Nat.reduceLT, Nat.reduceLeDiff, if_true, if_false, Bool.false_eq_true, decide_eq_true_eq, Option.isSome_some, id_eq, and_true, true_and, wDisp1, gCatT, gDEm, wItems, itemT, gLenT, wChain, wSlT, gComb, wIsTup, gGcd, gFactorial, gSortTup, gSortDT, gInP, wSortKey, wSortKeyR, wDNewN, wDIxN, wDGetN, wDPutN, wDispN, wKeysN, dictN, dictNL, gDEq, gIsB, hc, atI0, atI1, atI2, ixN30, ixN32]
  by_cases h : 0 < a
  · rw [if_pos h]
    refine ⟨hn, divOk 500 hn hn2 (by decide) (by decide), ?_⟩
    refine k _ _ (Int.emod_nonneg _ (by omega)) (Int.emod_lt_of_pos _ hn) .set (by simp) ⟨a / n, b, c, List.getElem?_set_self hj, Int.ediv_nonneg ha (by omega), hb, hb2, h0, by omega⟩
  · rw [if_neg h]
    simp only [List.getElem?_set_self hj, wVar, wDNew, wDIx, wDGet, wDPut, wKeys, gSorted, dictT, dictLive, tkey, keyT, wIsi, gEqO, wKw, wCallK, wMethK, pick, wC, wBin, wTst, wUn, wNil, wCons, wArg, gTupD, gLstD, gRootD, wAndT, wOrT, wNotT, wAndV, wOrV, wNotV, wIf, wNext, wSeq, wBreak, wCont, wDrop, wRet, wRetN, wIfS, wgName, wgNil, wgCons, wgTup, wAsg, wPar, wPar3, gDict, wLcR, wTru, wDIn, truD, wLc2, lcW2, lcJ, wMaxDef, wListRg, gIn, flatD, flatL, wFroz, wTupI, wRng1, wRng2, wRng3, wEnum, wZip, wFor, wYes, wLc, wipeD, gI, gI0, gB0, gAdd, gCatR, gMul, gNeg, gEqI, gEqB, gEqS, gIsN, isNonD, wCall, wMeth, wMake, wFldS, fldD, wFld, wProp, g1, g2L, gLen, gAbs, gIntC, gStrI, gMax2, gMin2, gInts, gSum, gMaxL, gMinL, gBls, gListOf, gListOfR, gTupOf, gIx, woNo, woSome, wSl, wRev, wRevF, wBM, wBM0, gAppend, gInsert, gReverse, gExtend, gPopAt, gPop, gSetL, wSub, wAug, gIxL, wAugS, wFz, seqD, lisD, frozL, derefL, liveL, cellL, cellF, startD, List.map_cons, List.map_nil, List.length_cons, List.length_nil, List.replicate, List.cons_append, List.nil_append, List.getElem?_cons_zero, List.getElem?_cons_succ, List.getElem?_nil, List.set_cons_zero, List.set_cons_succ, Nat.reduceSub, Nat.reduceAdd, Nat.reduceLT, Nat.reduceLeDiff, if_true, if_false, Bool.false_eq_true, decide_eq_true_eq, Option.isSome_some, id_eq, and_true, true_and, wDisp1, gCatT, gDEm, wItems, itemT, gLenT, wChain, wSlT, gComb, wIsTup, gGcd, gFactorial, gSortTup, gSortDT, gInP, wSortKey, wSortKeyR, wDNewN, wDIxN, wDGetN, wDPutN, wDispN, wKeysN, dictN, dictNL, gDEq, gIsB, atI0, atI1, atI2]
    have c1 : (c + 1).natAbs < 2 ^ 32 := by omega
    have p2 : (2 : Nat) ^ 62 = 4611686018427387904 := by decide
    have p90 : (2 : Nat) ^ 64 = 18446744073709551616 := by decide
    have b1 : (b + 15485863 * (c + 1)).natAbs < 2 ^ 64 := by omega
    refine ⟨mulOk 32 32 (by decide) c1 (by decide) (by decide) (by decide), powOk 64 b1 (by decide) (by decide) (by decide), by decide, mulOk 32 32 (by decide) c1 (by decide) (by decide) (by decide), ?_⟩
    have m1 := Int.emod_nonneg ((b + 15485863 * (c + 1)) ^ Int.toNat 3) (show (162259276829213363391578010288127 : Int) ≠ 0 by decide)
    have m2 := Int.emod_lt_of_pos ((b + 15485863 * (c + 1)) ^ Int.toNat 3) (show (0 : Int) < 162259276829213363391578010288127 by decide)
    generalize (b + 15485863 * (c + 1)) ^ Int.toNat 3 % 162259276829213363391578010288127 = u at m1 m2 ⊢
    have p1 : (2 : Nat) ^ 110 = 1298074214633706907132624082305024 := by decide
    have b2 : (u + 32452843 * (c + 1)).natAbs < 2 ^ 110 := by omega
    have m3 := Int.emod_nonneg ((u + 32452843 * (c + 1)) ^ Int.toNat 3) (show (170141183460469231731687303715884105727 : Int) ≠ 0 by decide)
    generalize (u + 32452843 * (c + 1)) ^ Int.toNat 3 % 170141183460469231731687303715884105727 = v at m3 ⊢
    refine ⟨powOk 110 b2 (by decide) (by decide) (by decide), by decide, divOk 32 (by decide) (by decide) (by decide) (by decide), hn, ?_⟩
    refine k _ _ (Int.emod_nonneg _ (by omega)) (Int.emod_lt_of_pos _ hn) .set (by simp) ⟨a, b, c + 1, List.getElem?_set_self hj, ha, hb, hb2, by omega, by omega⟩

def S_law_pool : SD := fun ds cs Q _ => ∃ (ns : List Int) (i : Int), ds = [.scr (ns.map D.int), .int i] ∧ 0 ≤ i ∧ i ≤ 63 ∧ ns.length ≤ 63 ∧
  ∀ cs', cs'.length = cs.length + 1 → (∀ k, k < cs.length → cs'[k]? = cs[k]?) → Pl 0 cs' cs.length → Q (.root cs.length) cs'
theorem len_law_pool : ∀ ds cs Q X', S_law_pool ds cs Q X' → ds.length = 2 := by
  rintro ds cs Q X' ⟨ns, i, rfl, _⟩
  rfl
def m_law_pool : WS :=
  (wSeq (wAsg (wC (.int 0)) (wgName 2))
    (wSeq (wIfS (wTst (wBin (gB0 fun i j => decide (i < j)) (wVar 1) (wArg gLen (wCons (wVar 0) wNil)))) (wAsg (wBin gIx (wVar 0) (wVar 1)) (wgName 2)) wNext)
    (wRet (wArg gRootD (wCons (wArg gMax2 (wCons (wC (.int 0)) (wCons (wBin (gI0 fun i j => i - j) (wArg gAbs (wCons (wVar 2) wNil)) (wBin (gI CPowW fun i j => i ^ j.toNat) (wC (.int 10)) (wC (.int 18)))) wNil))) (wCons (wBin gAdd (wBin (gI (fun _ j => 0 < j) fun i j => i % j) (wArg gIntC (wCons (wVar 2) wNil)) (wC (.int 2305843009213693951))) (wBin gMul (wC (.int 7368787)) (wBin gAdd (wVar 1) (wC (.int 1))))) (wCons (wC (.int 0)) wNil)))))))
theorem pool_end {cs : Cells} {Q : WQ} {i c : Int} (h0 : 0 ≤ i) (h1 : i ≤ 63) (k : ∀ cs' : Cells, cs'.length = cs.length + 1 → (∀ k, k < cs.length → cs'[k]? = cs[k]?) → Pl 0 cs' cs.length → Q (.root cs.length) cs') (a : Int) (ha : 0 ≤ a) :
    Q (.root cs.length) (cs ++ [C.lst [.int a, .int (c % 2305843009213693951 + 7368787 * (i + 1)), .int 0]]) := by
  have m1 := Int.emod_nonneg c (show (2305843009213693951 : Int) ≠ 0 by decide)
  have m2 := Int.emod_lt_of_pos c (show (0 : Int) < 2305843009213693951 by decide)
  refine k _ (by simp) (fun k hk => List.getElem?_append_left hk) ⟨a, c % 2305843009213693951 + 7368787 * (i + 1), 0, by simp, ha, by omega, by omega, Int.le_refl _, Int.le_refl _⟩
theorem atI_int {α : Type} {xs : List α} {i : Int} (h0 : 0 ≤ i) (h : i < xs.length) : ∃ x, atI xs i = some x ∧ xs[i.toNat]? = some x := by
  have hi : i.toNat < xs.length := by omega
  obtain ⟨n, rfl⟩ : ∃ n : Nat, i = (n : Int) := ⟨i.toNat, by omega⟩
  exact ⟨xs[n], atI_nat (List.getElem?_eq_getElem _), List.getElem?_eq_getElem _⟩
theorem body_law_pool : Body S_law_pool m_law_pool 3 := by
  rintro ds cs Q X' ⟨ns, i, rfl, h0, h1, hz, k⟩
  simp only [m_law_pool, wVar, wDNew, wDIx, wDGet, wDPut, wKeys, gSorted, dictT, dictLive, tkey, keyT, wIsi, gEqO, wKw, wCallK, wMethK, pick, wC, wBin, wTst, wUn, wNil, wCons, wArg, gTupD, gLstD, gRootD, wAndT, wOrT, wNotT, wAndV, wOrV, wNotV, wIf, wNext, wSeq, wBreak, wCont, wDrop, wRet, wRetN, wIfS, wgName, wgNil, wgCons, wgTup, wAsg, wPar, wPar3, gDict, wLcR, wTru, wDIn, truD, wLc2, lcW2, lcJ, wMaxDef, wListRg, gIn, flatD, flatL, wFroz, wTupI, wRng1, wRng2, wRng3, wEnum, wZip, wFor, wYes, wLc, wipeD, gI, gI0, gB0, gAdd, gCatR, gMul, gNeg, gEqI, gEqB, gEqS, gIsN, isNonD, wCall, wMeth, wMake, wFldS, fldD, wFld, wProp, g1, g2L, gLen, gAbs, gIntC, gStrI, gMax2, gMin2, gInts, gSum, gMaxL, gMinL, gBls, gListOf, gListOfR, gTupOf, gIx, woNo, woSome, wSl, wRev, wRevF, wBM, wBM0, gAppend, gInsert, gReverse, gExtend, gPopAt, gPop, gSetL, wSub, wAug, gIxL, wAugS, wFz, seqD, lisD, frozL, derefL, liveL, cellL, cellF, startD, List.map_cons, List.map_nil, List.length_cons, List.length_nil, List.replicate, List.cons_append, List.nil_append, List.getElem?_cons_zero, List.getElem?_cons_succ, List.getElem?_nil, List.set_cons_zero, List.set_cons_succ, Nat.reduceSub, Nat.reduceAdd, Nat.reduceLT, Nat.reduceLeDiff, if_true, if_false, Bool.false_eq_true, decide_eq_true_eq, Option.isSome_some, id_eq, and_true, true_and, wDisp1, gCatT, gDEm, wItems, itemT, gLenT, wChain, wSlT, gComb, wIsTup, gGcd, gFactorial, gSortTup, gSortDT, gInP, wSortKey, wSortKeyR, wDNewN, wDIxN, wDGetN, wDPutN, wDispN, wKeysN, dictN, dictNL, gDEq, gIsB, List.length_map]
  have fin : ∀ c : Int, CPowW 10 18 ∧ (0 : Int) < 2305843009213693951 ∧ IntMulOk 7368787 (i + 1) ∧ 3 ≤ sizeLine ∧ Q (.root cs.length) (cs ++ [C.lst [.int (if (if c < 0 then -c else c) - 10 ^ Int.toNat 18 > 0 then (if c < 0 then -c else c) - 10 ^ Int.toNat 18 else 0), .int (c % 2305843009213693951 + 7368787 * (i + 1)), .int 0]]) := fun c => by
    refine ⟨powOk 4 (by decide) (by decide) (by decide) (by decide), by decide, mulOk 32 32 (by decide) (by omega) (by decide) (by decide) (by decide), by decide, pool_end h0 h1 k _ ?_⟩
    by_cases hc : (if c < 0 then -c else c) - 10 ^ Int.toNat 18 > 0
    · rw [if_pos hc]; omega
    · rw [if_neg hc]; decide
  by_cases hi : i < (ns.length : Int)
  · obtain ⟨x, e1, e2⟩ := atI_int (xs := ns.map D.int) h0 (by rw [List.length_map]; exact hi)
    rw [List.getElem?_map] at e2
    cases e3 : ns[i.toNat]? with
    | none => rw [e3] at e2; cases e2
    | some c =>
      rw [e3] at e2
      cases e2
      simp only [if_pos hi, e1]
      exact fin c
  · simp only [if_neg hi]
    exact fin 0

def S_law_letters : SD := fun ds cs Q _ => ∃ (j N : Nat) (l g : Int), ds = [.root j, .int l, .int g] ∧ Pl N cs j ∧ N ≤ 999000 ∧ 0 ≤ l ∧ l ≤ 100 ∧ 0 ≤ g ∧ g ≤ 2 ^ 60 ∧
  ∀ (w : List Int) cs', (w.length : Int) ≤ l → (∀ x ∈ w, 0 ≤ x ∧ x ≤ max 1 g) → Fr j cs cs' → cs'.length = cs.length → Pl (N + 300) cs' j → Q (wordD w) cs'
theorem len_law_letters : ∀ ds cs Q X', S_law_letters ds cs Q X' → ds.length = 3 := by
  rintro ds cs Q X' ⟨j, N, l, g, rfl, _⟩
  rfl
def m_law_letters : WS :=
  (wRet (wLc (wRng1 (wCons (wCall S_law_draw (wCons (wVar 0) (wCons (wBin gAdd (wVar 1) (wC (.int 1))) wNil))) wNil)) (wgName 3) wYes (wBin gIx (wArg gLstD (wCons (wC (.int 0)) (wCons (wC (.int 1)) (wCons (wCall S_law_draw (wCons (wVar 0) (wCons (wBin gAdd (wVar 2) (wC (.int 1))) wNil))) wNil)))) (wCall S_law_draw (wCons (wVar 0) (wCons (wC (.int 3)) wNil)))) [3]))
theorem body_law_letters : Body S_law_letters m_law_letters 4 := by
  rintro ds cs Q X' ⟨j, N, l, g, rfl, hp, hM, l0, l1, g0, g1, k⟩
  simp only [m_law_letters, wVar, wDNew, wDIx, wDGet, wDPut, wKeys, gSorted, dictT, dictLive, tkey, keyT, wIsi, gEqO, wKw, wCallK, wMethK, pick, wC, wBin, wTst, wUn, wNil, wCons, wArg, gTupD, gLstD, gRootD, wAndT, wOrT, wNotT, wAndV, wOrV, wNotV, wIf, wNext, wSeq, wBreak, wCont, wDrop, wRet, wRetN, wIfS, wgName, wgNil, wgCons, wgTup, wAsg, wPar, wPar3, gDict, wLcR, wTru, wDIn, truD, wLc2, lcW2, lcJ, wMaxDef, wListRg, gIn, flatD, flatL, wFroz, wTupI, wRng1, wRng2, wRng3, wEnum, wZip, wFor, wYes, wLc, wipeD, gI, gI0, gB0, gAdd, gCatR, gMul, gNeg, gEqI, gEqB, gEqS, gIsN, isNonD, wCall, wMeth, wMake, wFldS, fldD, wFld, wProp, g1, g2L, gLen, gAbs, gIntC, gStrI, gMax2, gMin2, gInts, gSum, gMaxL, gMinL, gBls, gListOf, gListOfR, gTupOf, gIx, woNo, woSome, wSl, wRev, wRevF, wBM, wBM0, gAppend, gInsert, gReverse, gExtend, gPopAt, gPop, gSetL, wSub, wAug, gIxL, wAugS, wFz, seqD, lisD, frozL, derefL, liveL, cellL, cellF, startD, List.map_cons, List.map_nil, List.length_cons, List.length_nil, List.replicate, List.cons_append, List.nil_append, List.getElem?_cons_zero, List.getElem?_cons_succ, List.getElem?_nil, List.set_cons_zero, List.set_cons_succ, Nat.reduceSub, Nat.reduceAdd, Nat.reduceLT, Nat.reduceLeDiff, if_true, if_false, Bool.false_eq_true, decide_eq_true_eq, Option.isSome_some, id_eq, and_true, true_and, wDisp1, gCatT, gDEm, wItems, itemT, gLenT, wChain, wSlT, gComb, wIsTup, gGcd, gFactorial, gSortTup, gSortDT, gInP, wSortKey, wSortKeyR, wDNewN, wDIxN, wDGetN, wDPutN, wDispN, wKeysN, dictN, dictNL, gDEq, gIsB]
  refine ⟨j, N, l + 1, rfl, hp, by omega, by omega, by omega, fun n cs1 n0 n1 f1 e1 p1 => ⟨by omega, ?_⟩⟩
  rw [ints_len]
  refine ⟨szl (by omega), ?_⟩
  refine lc_by (fun i acc cs2 => ∃ w : List Int, acc = w.map D.int ∧ w.length = i ∧ (∀ x ∈ w, 0 ≤ x ∧ x ≤ max 1 g) ∧ Fr j cs cs2 ∧ cs2.length = cs.length ∧ Pl (N + 1 + 2 * i) cs2 j)
    ⟨[], rfl, rfl, by simp, f1, e1, p1⟩ ?_ ?_
  · rintro i d acc cs2 k1 k0 hd ⟨w, rfl, hw, hx, f2, e2, p2⟩ q1 _
    obtain ⟨rfl, hi⟩ := intsD_at hd
    simp only [wVar, wDNew, wDIx, wDGet, wDPut, wKeys, gSorted, dictT, dictLive, tkey, keyT, wIsi, gEqO, wKw, wCallK, wMethK, pick, wC, wBin, wTst, wUn, wNil, wCons, wArg, gTupD, gLstD, gRootD, wAndT, wOrT, wNotT, wAndV, wOrV, wNotV, wIf, wNext, wSeq, wBreak, wCont, wDrop, wRet, wRetN, wIfS, wgName, wgNil, wgCons, wgTup, wAsg, wPar, wPar3, gDict, wLcR, wTru, wDIn, truD, wLc2, lcW2, lcJ, wMaxDef, wListRg, gIn, flatD, flatL, wFroz, wTupI, wRng1, wRng2, wRng3, wEnum, wZip, wFor, wYes, wLc, wipeD, gI, gI0, gB0, gAdd, gCatR, gMul, gNeg, gEqI, gEqB, gEqS, gIsN, isNonD, wCall, wMeth, wMake, wFldS, fldD, wFld, wProp, g1, g2L, gLen, gAbs, gIntC, gStrI, gMax2, gMin2, gInts, gSum, gMaxL, gMinL, gBls, gListOf, gListOfR, gTupOf, gIx, woNo, woSome, wSl, wRev, wRevF, wBM, wBM0, gAppend, gInsert, gReverse, gExtend, gPopAt, gPop, gSetL, wSub, wAug, gIxL, wAugS, wFz, seqD, lisD, frozL, derefL, liveL, cellL, cellF, startD, List.map_cons, List.map_nil, List.length_cons, List.length_nil, List.replicate, List.cons_append, List.nil_append, List.getElem?_cons_zero, List.getElem?_cons_succ, List.getElem?_nil, List.set_cons_zero, List.set_cons_succ, Nat.reduceSub, Nat.reduceAdd, Nat.reduceLT, Nat.reduceLeDiff, if_true, if_false, Bool.false_eq_true, decide_eq_true_eq, Option.isSome_some, id_eq, and_true, true_and, wDisp1, gCatT, gDEm, wItems, itemT, gLenT, wChain, wSlT, gComb, wIsTup, gGcd, gFactorial, gSortTup, gSortDT, gInP, wSortKey, wSortKeyR, wDNewN, wDIxN, wDGetN, wDPutN, wDispN, wKeysN, dictN, dictNL, gDEq, gIsB]
    refine ⟨j, _, g + 1, rfl, p2, by omega, by omega, by omega, fun x cs3 x0 x1 f3 e3 p3 => ⟨szl (by decide), ?_⟩⟩
    refine ⟨j, _, 3, rfl, p3, by omega, by omega, by omega, fun y cs4 y0 y1 f4 e4 p4 => ?_⟩
    have fin : ∀ z : Int, 0 ≤ z → z ≤ max 1 g → k1 (.int z) cs4 := fun z z0 z1 => q1 _ _ ⟨w ++ [z], by simp, by simp [hw], fun x hx' => by
      rcases List.mem_append.mp hx' with h | h
      · exact hx x h
      · rw [List.mem_singleton.mp h]; exact ⟨z0, z1⟩, (f2.trans f3).trans f4, by omega, p4.mono (by omega)⟩
    have : y = 0 ∨ y = 1 ∨ y = 2 := by omega
    rcases this with rfl | rfl | rfl
    · simp only [atI0]; exact fin 0 (by omega) (by omega)
    · simp only [atI1]; exact fin 1 (by omega) (by omega)
    · simp only [atI2]; exact fin x x0 (by omega)
  · rintro acc cs2 ⟨w, rfl, hw, hx, f2, e2, p2⟩
    rw [ints_len] at hw p2
    exact k w cs2 (by omega) hx f2 e2 (p2.mono (by omega))

/-! ### words, rows, formulas -/
def ws : List Int → List Int → Int
  | [], _ => 1
  | _ :: _, [] => 0
  | l :: ls, x :: xs => x ^ l.toNat * ws ls xs + ws (l :: ls) xs
theorem ws_nil (r : List Int) : ws [] r = 1 := by cases r <;> rfl
theorem ws_nil_right : ∀ {w : List Int}, w ≠ [] → ws w [] = 0
  | [], h => absurd rfl h
  | _ :: _, _ => rfl
theorem ws_snoc : ∀ (r : List Int) (w : List Int) (l v : Int), ws (w ++ [l]) (r ++ [v]) = ws (w ++ [l]) r + ws w r * v ^ l.toNat
  | [], [], l, v => by simp [ws]
  | [], k :: w, l, v => by
    have h : w ++ [l] ≠ [] := by simp
    show v ^ k.toNat * ws (w ++ [l]) [] + ws (k :: (w ++ [l])) [] = 0 + ws (k :: w) [] * v ^ l.toNat
    rw [ws_nil_right h]
    simp [ws]
  | x :: r, [], l, v => by
    have ih := ws_snoc r [] l v
    simp only [List.nil_append, ws_nil] at ih
    show x ^ l.toNat * ws [] (r ++ [v]) + ws [l] (r ++ [v]) = x ^ l.toNat * ws [] r + ws [l] r + 1 * v ^ l.toNat
    rw [ih, ws_nil, ws_nil]
    omega
  | x :: r, k :: w, l, v => by
    have h1 := ws_snoc r w l v
    have h2 := ws_snoc r (k :: w) l v
    show x ^ k.toNat * ws (w ++ [l]) (r ++ [v]) + ws (k :: w ++ [l]) (r ++ [v]) = x ^ k.toNat * ws (w ++ [l]) r + ws (k :: w ++ [l]) r + (x ^ k.toNat * ws w r + ws (k :: w) r) * v ^ l.toNat
    rw [h1, h2, Int.mul_add, Int.add_mul, Int.mul_assoc]
    omega
/-- within the bounds of what is reckoned here -/
def RowOk (r : List Int) : Prop := r.length ≤ 1000 ∧ ∀ x ∈ r, x.natAbs < 2 ^ 128
def WordOk (w : List Int) : Prop := w.length ≤ 16 ∧ ∀ l ∈ w, 0 ≤ l ∧ l ≤ 16
theorem natAbs_pow (x : Int) (n : Nat) : (x ^ n).natAbs = x.natAbs ^ n := Int.natAbs_pow x n
theorem pow_lt {x : Int} {a n m : Nat} (h : x.natAbs < 2 ^ a) (hn : n ≤ m) : (x ^ n).natAbs ≤ 2 ^ (a * m) := by
  rw [natAbs_pow, Nat.pow_mul]
  calc x.natAbs ^ n ≤ (2 ^ a) ^ n := Nat.pow_le_pow_left (Nat.le_of_lt h) n
    _ ≤ (2 ^ a) ^ m := Nat.pow_le_pow_right (Nat.pow_pos (by decide)) hn
theorem ws_le : ∀ (w : List Int) (r : List Int), (∀ l ∈ w, l.toNat ≤ 16) → (∀ x ∈ r, x.natAbs < 2 ^ 128) → (ws w r).natAbs ≤ (r.length * 2 ^ 2048) ^ w.length
  | [], r, _, _ => by rw [ws_nil]; exact Nat.le_refl _
  | l :: ls, [], _, _ => by show (0 : Int).natAbs ≤ _; exact Nat.zero_le _
  | l :: ls, x :: r, hl, hx => by
    have h1 := ws_le ls r (fun k hk => hl k (List.mem_cons_of_mem _ hk)) fun y hy => hx y (List.mem_cons_of_mem _ hy)
    have h2 := ws_le (l :: ls) r hl fun y hy => hx y (List.mem_cons_of_mem _ hy)
    have h3 : (x ^ l.toNat).natAbs ≤ 2 ^ 2048 := pow_lt (m := 16) (hx x List.mem_cons_self) (hl l List.mem_cons_self)
    show (x ^ l.toNat * ws ls r + ws (l :: ls) r).natAbs ≤ _
    have h4 : (x ^ l.toNat * ws ls r).natAbs ≤ 2 ^ 2048 * (r.length * 2 ^ 2048) ^ ls.length := by
      rw [Int.natAbs_mul]; exact Nat.mul_le_mul h3 h1
    refine Nat.le_trans (Int.natAbs_add_le _ _) ?_
    refine Nat.le_trans (Nat.add_le_add h4 h2) ?_
    show 2 ^ 2048 * (r.length * 2 ^ 2048) ^ ls.length + (r.length * 2 ^ 2048) ^ (ls.length + 1) ≤ ((r.length + 1) * 2 ^ 2048) ^ (ls.length + 1)
    generalize 2 ^ 2048 = M
    rw [Nat.pow_succ, Nat.pow_succ]
    have h5 : (r.length * M) ^ ls.length ≤ ((r.length + 1) * M) ^ ls.length := Nat.pow_le_pow_left (Nat.mul_le_mul_right _ (Nat.le_succ _)) _
    calc M * (r.length * M) ^ ls.length + (r.length * M) ^ ls.length * (r.length * M) = (r.length * M) ^ ls.length * ((r.length + 1) * M) := by
          rw [Nat.mul_comm M, ← Nat.mul_add, Nat.add_mul, Nat.one_mul, Nat.add_comm]
      _ ≤ ((r.length + 1) * M) ^ ls.length * ((r.length + 1) * M) := Nat.mul_le_mul_right _ h5
theorem ws_bits {w r : List Int} (hw : w.length ≤ 16) (hl : ∀ l ∈ w, l.toNat ≤ 16) (hr : r.length ≤ 1000) (hx : ∀ x ∈ r, x.natAbs < 2 ^ 128) : (ws w r).natAbs < 2 ^ 33000 := by
  refine Nat.lt_of_le_of_lt (ws_le w r hl hx) ?_
  have h1 : r.length * 2 ^ 2048 ≤ 2 ^ 2058 := by
    rw [show (2058 : Nat) = 10 + 2048 by rfl, Nat.pow_add]
    exact Nat.mul_le_mul_right _ (Nat.le_trans hr (by decide))
  calc (r.length * 2 ^ 2048) ^ w.length ≤ (2 ^ 2058) ^ w.length := Nat.pow_le_pow_left h1 _
    _ ≤ (2 ^ 2058) ^ 16 := Nat.pow_le_pow_right (Nat.pow_pos (by decide)) hw
    _ = 2 ^ (2058 * 16) := (Nat.pow_mul 2 2058 16).symm
    _ < 2 ^ 33000 := Nat.pow_lt_pow_right (by decide) (by decide)
/-- a formula's terms, as data -/
abbrev Lot := List (Int × List Int)
def termD (t : Int × List Int) : D := .tup [.int t.1, wordD t.2]
def lotD (ts : Lot) : D := .lst (ts.map termD)
def frmD (ts : Lot) : D := .ins 0 [lotD ts]
def val (ts : Lot) (r : List Int) : Int := (ts.map fun t => t.1 * ws t.2 r).sum
/-- all cells stay -/
structure Ke (cs cs' : Cells) : Prop where
  le : cs.length ≤ cs'.length
  at_ : ∀ i, i < cs.length → cs'[i]? = cs[i]?
theorem Ke.refl {cs : Cells} : Ke cs cs := ⟨Nat.le_refl _, fun _ _ => rfl⟩
theorem Ke.trans {a b c : Cells} (x : Ke a b) (y : Ke b c) : Ke a c := ⟨Nat.le_trans x.le y.le, fun i h => (y.at_ i (Nat.lt_of_lt_of_le h x.le)).trans (x.at_ i h)⟩
theorem Ke.push {cs ds : Cells} : Ke cs (cs ++ ds) := ⟨by simp, fun i h => List.getElem?_append_left h⟩
theorem Ke.fr {cs cs' : Cells} (h : Ke cs cs') {j : Nat} : Fr j cs cs' := ⟨h.le, fun i _ hi => h.at_ i hi⟩
theorem Ke.pl {cs cs' : Cells} (h : Ke cs cs') {j N : Nat} (p : Pl N cs j) : Pl N cs' j := by
  obtain ⟨a, b, c, h1, r⟩ := id p
  exact ⟨a, b, c, by rw [h.at_ j p.lt]; exact h1, r⟩
def FL : Nat → List Str := fun n => match n with
  | 0 => ["_terms"]
  | 1 => ["_places", "_longest", "_last_letters", "_letters", "_cuts", "_inner_cuts"]
  | _ => []
def TBof (a : Nat → Addr) : Tb := ⟨a, FL, fun n => a (100 + n), none⟩
theorem eqd_word : EqD wordD 1 := eqd_int.list
theorem eqd_term : EqD termD 2 := (eqd_int.mono (Nat.zero_le 1)).pair eqd_word
theorem eqd_lot : EqD lotD 3 := eqd_term.list

theorem sz1 : (1 ≤ sizeLine) = True := eq_true (szl (by decide))
theorem sz2 : (2 ≤ sizeLine) = True := eq_true (szl (by decide))
theorem sz3 : (3 ≤ sizeLine) = True := eq_true (szl (by decide))
theorem sz4 : (4 ≤ sizeLine) = True := eq_true (szl (by decide))
theorem sz5 : (5 ≤ sizeLine) = True := eq_true (szl (by decide))
theorem sz0 : (0 ≤ sizeLine) = True := eq_true (Nat.zero_le _)
theorem sl1 : (1 < sizeLine) = True := eq_true (szlt (by decide))
theorem sl2 : (2 < sizeLine) = True := eq_true (szlt (by decide))
theorem sl3 : (3 < sizeLine) = True := eq_true (szlt (by decide))
theorem sl4 : (4 < sizeLine) = True := eq_true (szlt (by decide))
theorem app_get (cs : Cells) (c : C) : (cs ++ [c])[cs.length]? = some c := by simp
theorem app_set (cs : Cells) (c d : C) : (cs ++ [c]).set cs.length d = cs ++ [d] := by simp
theorem val_one (w r : List Int) : val [(1, w)] r = ws w r := by unfold val; simp
theorem lit106 : (10 : Int) ^ Int.toNat 6 = 1000000 := by decide
theorem rowOk_of {r : List Int} (h : r.length ≤ 1000) (hx : ∀ x ∈ r, -1000000 ≤ x ∧ x ≤ 1000000) : RowOk r := ⟨h, fun x q => by
  have := hx x q
  have p : (2 : Nat) ^ 128 = 340282366920938463463374607431768211456 := by decide
  omega⟩
theorem RowOk.app {a b : List Int} (h : RowOk a) (g : RowOk b) (hl : a.length + b.length ≤ 1000) : RowOk (a ++ b) := ⟨by rw [List.length_append]; exact hl, fun x hx => (List.mem_append.mp hx).elim (h.2 x) (g.2 x)⟩
theorem RowOk.nil : RowOk [] := ⟨Nat.zero_le _, fun _ h => nomatch h⟩
theorem inn {p q : Prop} (a : p) (b : q) : p ∧ q := ⟨a, b⟩

def S_has_negative : SD := fun ds cs Q _ => ∃ w : List Int, ds = [wordD w] ∧ w.length ≤ 16000000 ∧ Q (.bl (w.any fun l => decide (l < 0))) cs
theorem len_has_negative : ∀ ds cs Q X', S_has_negative ds cs Q X' → ds.length = 1 := by
  rintro ds cs Q X' ⟨w, rfl, _⟩
  rfl
def m_has_negative : WS :=
  (wRet (wArg (gBls fun bs => bs.any id) (wCons (wLc (wFroz (wVar 0)) (wgName 1) wYes (wBin (gB0 fun i j => decide (i < j)) (wVar 1) (wC (.int 0))) [1]) wNil)))
theorem body_has_negative : Body S_has_negative m_has_negative 2 := by
  rintro ds cs Q X' ⟨w, rfl, hz, k⟩
  simp only [m_has_negative, wVar, wDNew, wDIx, wDGet, wDPut, wKeys, gSorted, dictT, dictLive, tkey, keyT, wIsi, gEqO, wKw, wCallK, wMethK, pick, wC, wBin, wTst, wUn, wNil, wCons, wArg, gTupD, gLstD, gRootD, wAndT, wOrT, wNotT, wAndV, wOrV, wNotV, wIf, wNext, wSeq, wBreak, wCont, wDrop, wRet, wRetN, wIfS, wgName, wgNil, wgCons, wgTup, wAsg, wPar, wPar3, gDict, wLcR, wTru, wDIn, truD, wLc2, lcW2, lcJ, wMaxDef, wListRg, gIn, flatD, flatL, wFroz, wTupI, wRng1, wRng2, wRng3, wEnum, wZip, wFor, wYes, wLc, wipeD, gI, gI0, gB0, gAdd, gCatR, gMul, gNeg, gEqI, gEqB, gEqS, gIsN, isNonD, wCall, wMeth, wMake, wFldS, fldD, wFld, wProp, g1, g2L, gLen, gAbs, gIntC, gStrI, gMax2, gMin2, gInts, gSum, gMaxL, gMinL, gBls, gListOf, gListOfR, gTupOf, gIx, woNo, woSome, wSl, wRev, wRevF, wBM, wBM0, gAppend, gInsert, gReverse, gExtend, gPopAt, gPop, gSetL, wSub, wAug, gIxL, wAugS, wFz, seqD, lisD, frozL, derefL, liveL, cellL, cellF, startD, List.map_cons, List.map_nil, List.length_cons, List.length_nil, List.replicate, List.cons_append, List.nil_append, List.getElem?_cons_zero, List.getElem?_cons_succ, List.getElem?_nil, List.set_cons_zero, List.set_cons_succ, Nat.reduceSub, Nat.reduceAdd, Nat.reduceLT, Nat.reduceLeDiff, if_true, if_false, Bool.false_eq_true, decide_eq_true_eq, Option.isSome_some, id_eq, and_true, true_and, wDisp1, gCatT, gDEm, wItems, itemT, gLenT, wChain, wSlT, gComb, wIsTup, gGcd, gFactorial, gSortTup, gSortDT, gInP, wSortKey, wSortKeyR, wDNewN, wDIxN, wDGetN, wDPutN, wDispN, wKeysN, dictN, dictNL, gDEq, gIsB, wordD]
  refine ⟨by rw [List.length_map]; exact szl hz, lc_map D.int (fun x => .bl (decide (x < 0))) w (fun x _ k h => ?_) ?_⟩
  · simp only [wVar, wDNew, wDIx, wDGet, wDPut, wKeys, gSorted, dictT, dictLive, tkey, keyT, wIsi, gEqO, wKw, wCallK, wMethK, pick, wC, wBin, wTst, wUn, wNil, wCons, wArg, gTupD, gLstD, gRootD, wAndT, wOrT, wNotT, wAndV, wOrV, wNotV, wIf, wNext, wSeq, wBreak, wCont, wDrop, wRet, wRetN, wIfS, wgName, wgNil, wgCons, wgTup, wAsg, wPar, wPar3, gDict, wLcR, wTru, wDIn, truD, wLc2, lcW2, lcJ, wMaxDef, wListRg, gIn, flatD, flatL, wFroz, wTupI, wRng1, wRng2, wRng3, wEnum, wZip, wFor, wYes, wLc, wipeD, gI, gI0, gB0, gAdd, gCatR, gMul, gNeg, gEqI, gEqB, gEqS, gIsN, isNonD, wCall, wMeth, wMake, wFldS, fldD, wFld, wProp, g1, g2L, gLen, gAbs, gIntC, gStrI, gMax2, gMin2, gInts, gSum, gMaxL, gMinL, gBls, gListOf, gListOfR, gTupOf, gIx, woNo, woSome, wSl, wRev, wRevF, wBM, wBM0, gAppend, gInsert, gReverse, gExtend, gPopAt, gPop, gSetL, wSub, wAug, gIxL, wAugS, wFz, seqD, lisD, frozL, derefL, liveL, cellL, cellF, startD, List.map_cons, List.map_nil, List.length_cons, List.length_nil, List.replicate, List.cons_append, List.nil_append, List.getElem?_cons_zero, List.getElem?_cons_succ, List.getElem?_nil, List.set_cons_zero, List.set_cons_succ, Nat.reduceSub, Nat.reduceAdd, Nat.reduceLT, Nat.reduceLeDiff, if_true, if_false, Bool.false_eq_true, decide_eq_true_eq, Option.isSome_some, id_eq, and_true, true_and, wDisp1, gCatT, gDEm, wItems, itemT, gLenT, wChain, wSlT, gComb, wIsTup, gGcd, gFactorial, gSortTup, gSortDT, gInP, wSortKey, wSortKeyR, wDNewN, wDIxN, wDGetN, wDPutN, wDispN, wKeysN, dictN, dictNL, gDEq, gIsB]
    exact h
  · have e : w.map (fun x => D.bl (decide (x < 0))) = (w.map fun x => decide (x < 0)).map D.bl := by rw [List.map_map]; rfl
    simp only [e, asBls_map]
    have e2 : (w.map fun x => decide (x < 0)).any id = w.any fun l => decide (l < 0) := by rw [List.any_map]; rfl
    rw [e2]
    exact k
def S_check_words : SD := fun ds cs Q _ => ∃ ts : Lot, ds = [lotD ts] ∧ ts.length ≤ 1000000 ∧ (∀ t ∈ ts, t.2.length ≤ 1000000 ∧ ∀ l ∈ t.2, 0 ≤ l) ∧ Q .non cs
theorem len_check_words : ∀ ds cs Q X', S_check_words ds cs Q X' → ds.length = 1 := by
  rintro ds cs Q X' ⟨w, rfl, _⟩
  rfl
def m_check_words : WS :=
  (wFor (wEnum (wCons (wVar 0) wNil)) (wgTup 2 (wgCons (wgName 1) (wgCons (wgTup 2 (wgCons (wgName 2) (wgCons (wgName 3) wgNil))) wgNil))) (wIfS (wTst (wCall S_has_negative (wCons (wVar 3) wNil))) wNever wNext))
theorem enumD_at : ∀ (k : Nat) (ds : List D) (i : Nat) (e : D), (enumD k ds)[i]? = some e → ∃ d, ds[i]? = some d ∧ e = .tup [.int ((k + i : Nat) : Int), d] := by
  intro k ds i e h
  have hi : i < ds.length := by
    have := (List.getElem?_eq_some_iff.mp h).1
    rwa [enumD_len] at this
  have q := enumD_get k ds i ds[i] (List.getElem?_eq_getElem hi)
  rw [h] at q
  exact ⟨_, List.getElem?_eq_getElem hi, Option.some.inj q⟩
theorem no_neg {w : List Int} (h : ∀ l ∈ w, 0 ≤ l) : (w.any fun l => decide (l < 0)) = false := by
  rw [List.any_eq_false]
  intro x hx
  simpa using h x hx
theorem body_check_words : Body S_check_words m_check_words 4 := by
  rintro ds cs Q X' ⟨ts, rfl, hz, hl, k⟩
  simp only [m_check_words, wVar, wDNew, wDIx, wDGet, wDPut, wKeys, gSorted, dictT, dictLive, tkey, keyT, wIsi, gEqO, wKw, wCallK, wMethK, pick, wC, wBin, wTst, wUn, wNil, wCons, wArg, gTupD, gLstD, gRootD, wAndT, wOrT, wNotT, wAndV, wOrV, wNotV, wIf, wNext, wSeq, wBreak, wCont, wDrop, wRet, wRetN, wIfS, wgName, wgNil, wgCons, wgTup, wAsg, wPar, wPar3, gDict, wLcR, wTru, wDIn, truD, wLc2, lcW2, lcJ, wMaxDef, wListRg, gIn, flatD, flatL, wFroz, wTupI, wRng1, wRng2, wRng3, wEnum, wZip, wFor, wYes, wLc, wipeD, gI, gI0, gB0, gAdd, gCatR, gMul, gNeg, gEqI, gEqB, gEqS, gIsN, isNonD, wCall, wMeth, wMake, wFldS, fldD, wFld, wProp, g1, g2L, gLen, gAbs, gIntC, gStrI, gMax2, gMin2, gInts, gSum, gMaxL, gMinL, gBls, gListOf, gListOfR, gTupOf, gIx, woNo, woSome, wSl, wRev, wRevF, wBM, wBM0, gAppend, gInsert, gReverse, gExtend, gPopAt, gPop, gSetL, wSub, wAug, gIxL, wAugS, wFz, seqD, lisD, frozL, derefL, liveL, cellL, cellF, startD, List.map_cons, List.map_nil, List.length_cons, List.length_nil, List.replicate, List.cons_append, List.nil_append, List.getElem?_cons_zero, List.getElem?_cons_succ, List.getElem?_nil, List.set_cons_zero, List.set_cons_succ, Nat.reduceSub, Nat.reduceAdd, Nat.reduceLT, Nat.reduceLeDiff, if_true, if_false, Bool.false_eq_true, decide_eq_true_eq, Option.isSome_some, id_eq, and_true, true_and, wDisp1, gCatT, gDEm, wItems, itemT, gLenT, wChain, wSlT, gComb, wIsTup, gGcd, gFactorial, gSortTup, gSortDT, gInP, wSortKey, wSortKeyR, wDNewN, wDIxN, wDGetN, wDPutN, wDispN, wKeysN, dictN, dictNL, gDEq, gIsB, lotD]
  refine for_by (fun i sl cs' => (∃ a b c, sl = [some (lotD ts), a, b, c]) ∧ cs' = cs) ⟨⟨none, none, none, rfl⟩, rfl⟩ ?_ ?_
  · rintro i d sl cs' k1 hd ⟨⟨a, b, c, rfl⟩, rfl⟩ q
    obtain ⟨e, he, rfl⟩ := enumD_at _ _ _ _ hd
    rw [List.getElem?_map] at he
    cases ht : ts[i]? with
    | none => rw [ht] at he; cases he
    | some t =>
      rw [ht] at he
      cases he
      obtain ⟨h1, h2⟩ := hl t (List.mem_of_getElem? ht)
      simp only [wVar, wDNew, wDIx, wDGet, wDPut, wKeys, gSorted, dictT, dictLive, tkey, keyT, wIsi, gEqO, wKw, wCallK, wMethK, pick, wC, wBin, wTst, wUn, wNil, wCons, wArg, gTupD, gLstD, gRootD, wAndT, wOrT, wNotT, wAndV, wOrV, wNotV, wIf, wNext, wSeq, wBreak, wCont, wDrop, wRet, wRetN, wIfS, wgName, wgNil, wgCons, wgTup, wAsg, wPar, wPar3, gDict, wLcR, wTru, wDIn, truD, wLc2, lcW2, lcJ, wMaxDef, wListRg, gIn, flatD, flatL, wFroz, wTupI, wRng1, wRng2, wRng3, wEnum, wZip, wFor, wYes, wLc, wipeD, gI, gI0, gB0, gAdd, gCatR, gMul, gNeg, gEqI, gEqB, gEqS, gIsN, isNonD, wCall, wMeth, wMake, wFldS, fldD, wFld, wProp, g1, g2L, gLen, gAbs, gIntC, gStrI, gMax2, gMin2, gInts, gSum, gMaxL, gMinL, gBls, gListOf, gListOfR, gTupOf, gIx, woNo, woSome, wSl, wRev, wRevF, wBM, wBM0, gAppend, gInsert, gReverse, gExtend, gPopAt, gPop, gSetL, wSub, wAug, gIxL, wAugS, wFz, seqD, lisD, frozL, derefL, liveL, cellL, cellF, startD, List.map_cons, List.map_nil, List.length_cons, List.length_nil, List.replicate, List.cons_append, List.nil_append, List.getElem?_cons_zero, List.getElem?_cons_succ, List.getElem?_nil, List.set_cons_zero, List.set_cons_succ, Nat.reduceSub, Nat.reduceAdd, Nat.reduceLT, Nat.reduceLeDiff, if_true, if_false, Bool.false_eq_true, decide_eq_true_eq, Option.isSome_some, id_eq, and_true, true_and, wDisp1, gCatT, gDEm, wItems, itemT, gLenT, wChain, wSlT, gComb, wIsTup, gGcd, gFactorial, gSortTup, gSortDT, gInP, wSortKey, wSortKeyR, wDNewN, wDIxN, wDGetN, wDPutN, wDispN, wKeysN, dictN, dictNL, gDEq, gIsB, termD]
      refine ⟨t.2, rfl, by omega, ?_⟩
      rw [no_neg h2]
      simp only [wVar, wDNew, wDIx, wDGet, wDPut, wKeys, gSorted, dictT, dictLive, tkey, keyT, wIsi, gEqO, wKw, wCallK, wMethK, pick, wC, wBin, wTst, wUn, wNil, wCons, wArg, gTupD, gLstD, gRootD, wAndT, wOrT, wNotT, wAndV, wOrV, wNotV, wIf, wNext, wSeq, wBreak, wCont, wDrop, wRet, wRetN, wIfS, wgName, wgNil, wgCons, wgTup, wAsg, wPar, wPar3, gDict, wLcR, wTru, wDIn, truD, wLc2, lcW2, lcJ, wMaxDef, wListRg, gIn, flatD, flatL, wFroz, wTupI, wRng1, wRng2, wRng3, wEnum, wZip, wFor, wYes, wLc, wipeD, gI, gI0, gB0, gAdd, gCatR, gMul, gNeg, gEqI, gEqB, gEqS, gIsN, isNonD, wCall, wMeth, wMake, wFldS, fldD, wFld, wProp, g1, g2L, gLen, gAbs, gIntC, gStrI, gMax2, gMin2, gInts, gSum, gMaxL, gMinL, gBls, gListOf, gListOfR, gTupOf, gIx, woNo, woSome, wSl, wRev, wRevF, wBM, wBM0, gAppend, gInsert, gReverse, gExtend, gPopAt, gPop, gSetL, wSub, wAug, gIxL, wAugS, wFz, seqD, lisD, frozL, derefL, liveL, cellL, cellF, startD, List.map_cons, List.map_nil, List.length_cons, List.length_nil, List.replicate, List.cons_append, List.nil_append, List.getElem?_cons_zero, List.getElem?_cons_succ, List.getElem?_nil, List.set_cons_zero, List.set_cons_succ, Nat.reduceSub, Nat.reduceAdd, Nat.reduceLT, Nat.reduceLeDiff, if_true, if_false, Bool.false_eq_true, decide_eq_true_eq, Option.isSome_some, id_eq, and_true, true_and, wDisp1, gCatT, gDEm, wItems, itemT, gLenT, wChain, wSlT, gComb, wIsTup, gGcd, gFactorial, gSortTup, gSortDT, gInP, wSortKey, wSortKeyR, wDNewN, wDIxN, wDGetN, wDPutN, wDispN, wKeysN, dictN, dictNL, gDEq, gIsB]
      exact q _ _ ⟨⟨_, _, _, rfl⟩, rfl⟩
  · rintro sl cs' ⟨_, rfl⟩
    exact k
def S_copied : SD := fun ds cs Q _ => ∃ ts : Lot, ds = [lotD ts] ∧ ts.length ≤ 1000000 ∧ Q (lotD ts) cs
theorem len_copied : ∀ ds cs Q X', S_copied ds cs Q X' → ds.length = 1 := by
  rintro ds cs Q X' ⟨w, rfl, _⟩
  rfl
def m_copied : WS :=
  (wRet (wLc (wFroz (wVar 0)) (wgTup 2 (wgCons (wgName 1) (wgCons (wgName 2) wgNil))) wYes (wArg gTupD (wCons (wVar 1) (wCons (wArg gListOf (wCons (wVar 2) wNil)) wNil))) [1, 2]))
theorem body_copied : Body S_copied m_copied 3 := by
  rintro ds cs Q X' ⟨ts, rfl, hz, k⟩
  simp only [m_copied, wVar, wDNew, wDIx, wDGet, wDPut, wKeys, gSorted, dictT, dictLive, tkey, keyT, wIsi, gEqO, wKw, wCallK, wMethK, pick, wC, wBin, wTst, wUn, wNil, wCons, wArg, gTupD, gLstD, gRootD, wAndT, wOrT, wNotT, wAndV, wOrV, wNotV, wIf, wNext, wSeq, wBreak, wCont, wDrop, wRet, wRetN, wIfS, wgName, wgNil, wgCons, wgTup, wAsg, wPar, wPar3, gDict, wLcR, wTru, wDIn, truD, wLc2, lcW2, lcJ, wMaxDef, wListRg, gIn, flatD, flatL, wFroz, wTupI, wRng1, wRng2, wRng3, wEnum, wZip, wFor, wYes, wLc, wipeD, gI, gI0, gB0, gAdd, gCatR, gMul, gNeg, gEqI, gEqB, gEqS, gIsN, isNonD, wCall, wMeth, wMake, wFldS, fldD, wFld, wProp, g1, g2L, gLen, gAbs, gIntC, gStrI, gMax2, gMin2, gInts, gSum, gMaxL, gMinL, gBls, gListOf, gListOfR, gTupOf, gIx, woNo, woSome, wSl, wRev, wRevF, wBM, wBM0, gAppend, gInsert, gReverse, gExtend, gPopAt, gPop, gSetL, wSub, wAug, gIxL, wAugS, wFz, seqD, lisD, frozL, derefL, liveL, cellL, cellF, startD, List.map_cons, List.map_nil, List.length_cons, List.length_nil, List.replicate, List.cons_append, List.nil_append, List.getElem?_cons_zero, List.getElem?_cons_succ, List.getElem?_nil, List.set_cons_zero, List.set_cons_succ, Nat.reduceSub, Nat.reduceAdd, Nat.reduceLT, Nat.reduceLeDiff, if_true, if_false, Bool.false_eq_true, decide_eq_true_eq, Option.isSome_some, id_eq, and_true, true_and, wDisp1, gCatT, gDEm, wItems, itemT, gLenT, wChain, wSlT, gComb, wIsTup, gGcd, gFactorial, gSortTup, gSortDT, gInP, wSortKey, wSortKeyR, wDNewN, wDIxN, wDGetN, wDPutN, wDispN, wKeysN, dictN, dictNL, gDEq, gIsB, lotD]
  refine ⟨by rw [List.length_map]; exact szl (by omega), lc_map termD termD ts (fun x _ k h => ?_) k⟩
  simp only [termD, wVar, wDNew, wDIx, wDGet, wDPut, wKeys, gSorted, dictT, dictLive, tkey, keyT, wIsi, gEqO, wKw, wCallK, wMethK, pick, wC, wBin, wTst, wUn, wNil, wCons, wArg, gTupD, gLstD, gRootD, wAndT, wOrT, wNotT, wAndV, wOrV, wNotV, wIf, wNext, wSeq, wBreak, wCont, wDrop, wRet, wRetN, wIfS, wgName, wgNil, wgCons, wgTup, wAsg, wPar, wPar3, gDict, wLcR, wTru, wDIn, truD, wLc2, lcW2, lcJ, wMaxDef, wListRg, gIn, flatD, flatL, wFroz, wTupI, wRng1, wRng2, wRng3, wEnum, wZip, wFor, wYes, wLc, wipeD, gI, gI0, gB0, gAdd, gCatR, gMul, gNeg, gEqI, gEqB, gEqS, gIsN, isNonD, wCall, wMeth, wMake, wFldS, fldD, wFld, wProp, g1, g2L, gLen, gAbs, gIntC, gStrI, gMax2, gMin2, gInts, gSum, gMaxL, gMinL, gBls, gListOf, gListOfR, gTupOf, gIx, woNo, woSome, wSl, wRev, wRevF, wBM, wBM0, gAppend, gInsert, gReverse, gExtend, gPopAt, gPop, gSetL, wSub, wAug, gIxL, wAugS, wFz, seqD, lisD, frozL, derefL, liveL, cellL, cellF, startD, List.map_cons, List.map_nil, List.length_cons, List.length_nil, List.replicate, List.cons_append, List.nil_append, List.getElem?_cons_zero, List.getElem?_cons_succ, List.getElem?_nil, List.set_cons_zero, List.set_cons_succ, Nat.reduceSub, Nat.reduceAdd, Nat.reduceLT, Nat.reduceLeDiff, if_true, if_false, Bool.false_eq_true, decide_eq_true_eq, Option.isSome_some, id_eq, and_true, true_and, wDisp1, gCatT, gDEm, wItems, itemT, gLenT, wChain, wSlT, gComb, wIsTup, gGcd, gFactorial, gSortTup, gSortDT, gInP, wSortKey, wSortKeyR, wDNewN, wDIxN, wDGetN, wDPutN, wDispN, wKeysN, dictN, dictNL, gDEq, gIsB, wordD]
  exact ⟨by decide, h⟩
def S_Formula___init : SD := fun ds cs Q _ => ∃ (j : Nat) (ts : Lot), ds = [.root j, lotD ts] ∧ cs[j]? = some (.ins 0 []) ∧ ts.length ≤ 1000000 ∧ (∀ t ∈ ts, t.2.length ≤ 1000000 ∧ ∀ l ∈ t.2, 0 ≤ l) ∧ Q .non (cs.set j (.ins 0 [("_terms", lotD ts)]))
theorem len_Formula___init : ∀ ds cs Q X', S_Formula___init ds cs Q X' → ds.length = 2 := by
  rintro ds cs Q X' ⟨j, w, rfl, _⟩
  rfl
def m_Formula___init : WS :=
  (wSeq (wDrop (wCall S_check_words (wCons (wVar 1) wNil)))
    (wFldS 0 "_terms" (wVar 0) (wCall S_copied (wCons (wVar 1) wNil))))
theorem body_Formula___init : Body S_Formula___init m_Formula___init 2 := by
  rintro ds cs Q X' ⟨j, ts, rfl, hc, hz, hl, k⟩
  simp only [m_Formula___init, wVar, wDNew, wDIx, wDGet, wDPut, wKeys, gSorted, dictT, dictLive, tkey, keyT, wIsi, gEqO, wKw, wCallK, wMethK, pick, wC, wBin, wTst, wUn, wNil, wCons, wArg, gTupD, gLstD, gRootD, wAndT, wOrT, wNotT, wAndV, wOrV, wNotV, wIf, wNext, wSeq, wBreak, wCont, wDrop, wRet, wRetN, wIfS, wgName, wgNil, wgCons, wgTup, wAsg, wPar, wPar3, gDict, wLcR, wTru, wDIn, truD, wLc2, lcW2, lcJ, wMaxDef, wListRg, gIn, flatD, flatL, wFroz, wTupI, wRng1, wRng2, wRng3, wEnum, wZip, wFor, wYes, wLc, wipeD, gI, gI0, gB0, gAdd, gCatR, gMul, gNeg, gEqI, gEqB, gEqS, gIsN, isNonD, wCall, wMeth, wMake, wFldS, fldD, wFld, wProp, g1, g2L, gLen, gAbs, gIntC, gStrI, gMax2, gMin2, gInts, gSum, gMaxL, gMinL, gBls, gListOf, gListOfR, gTupOf, gIx, woNo, woSome, wSl, wRev, wRevF, wBM, wBM0, gAppend, gInsert, gReverse, gExtend, gPopAt, gPop, gSetL, wSub, wAug, gIxL, wAugS, wFz, seqD, lisD, frozL, derefL, liveL, cellL, cellF, startD, List.map_cons, List.map_nil, List.length_cons, List.length_nil, List.replicate, List.cons_append, List.nil_append, List.getElem?_cons_zero, List.getElem?_cons_succ, List.getElem?_nil, List.set_cons_zero, List.set_cons_succ, Nat.reduceSub, Nat.reduceAdd, Nat.reduceLT, Nat.reduceLeDiff, if_true, if_false, Bool.false_eq_true, decide_eq_true_eq, Option.isSome_some, id_eq, and_true, true_and, wDisp1, gCatT, gDEm, wItems, itemT, gLenT, wChain, wSlT, gComb, wIsTup, gGcd, gFactorial, gSortTup, gSortDT, gInP, wSortKey, wSortKeyR, wDNewN, wDIxN, wDGetN, wDPutN, wDispN, wKeysN, dictN, dictNL, gDEq, gIsB]
  refine ⟨ts, rfl, hz, hl, ts, rfl, hz, ?_⟩
  simp only [hc, wVar, wDNew, wDIx, wDGet, wDPut, wKeys, gSorted, dictT, dictLive, tkey, keyT, wIsi, gEqO, wKw, wCallK, wMethK, pick, wC, wBin, wTst, wUn, wNil, wCons, wArg, gTupD, gLstD, gRootD, wAndT, wOrT, wNotT, wAndV, wOrV, wNotV, wIf, wNext, wSeq, wBreak, wCont, wDrop, wRet, wRetN, wIfS, wgName, wgNil, wgCons, wgTup, wAsg, wPar, wPar3, gDict, wLcR, wTru, wDIn, truD, wLc2, lcW2, lcJ, wMaxDef, wListRg, gIn, flatD, flatL, wFroz, wTupI, wRng1, wRng2, wRng3, wEnum, wZip, wFor, wYes, wLc, wipeD, gI, gI0, gB0, gAdd, gCatR, gMul, gNeg, gEqI, gEqB, gEqS, gIsN, isNonD, wCall, wMeth, wMake, wFldS, fldD, wFld, wProp, g1, g2L, gLen, gAbs, gIntC, gStrI, gMax2, gMin2, gInts, gSum, gMaxL, gMinL, gBls, gListOf, gListOfR, gTupOf, gIx, woNo, woSome, wSl, wRev, wRevF, wBM, wBM0, gAppend, gInsert, gReverse, gExtend, gPopAt, gPop, gSetL, wSub, wAug, gIxL, wAugS, wFz, seqD, lisD, frozL, derefL, liveL, cellL, cellF, startD, List.map_cons, List.map_nil, List.length_cons, List.length_nil, List.replicate, List.cons_append, List.nil_append, List.getElem?_cons_zero, List.getElem?_cons_succ, List.getElem?_nil, List.set_cons_zero, List.set_cons_succ, Nat.reduceSub, Nat.reduceAdd, Nat.reduceLT, Nat.reduceLeDiff, if_true, if_false, Bool.false_eq_true, decide_eq_true_eq, Option.isSome_some, id_eq, and_true, true_and, wDisp1, gCatT, gDEm, wItems, itemT, gLenT, wChain, wSlT, gComb, wIsTup, gGcd, gFactorial, gSortTup, gSortDT, gInP, wSortKey, wSortKeyR, wDNewN, wDIxN, wDGetN, wDPutN, wDispN, wKeysN, dictN, dictNL, gDEq, gIsB, putFD]
  exact k
/-- what making a formula comes to -/
theorem make_frm {cs : Cells} {Q : WQ} {X' : XQ} {ts : Lot} (hz : ts.length ≤ 1000000) (hl : ∀ t ∈ ts, t.2.length ≤ 1000000 ∧ ∀ l ∈ t.2, 0 ≤ l) (k : ∀ cs', Ke cs cs' → Q (frmD ts) cs') :
    S_Formula___init [.root cs.length, lotD ts] (cs ++ [.ins 0 []]) (mkPost FL 0 cs.length Q) X' := by
  refine ⟨cs.length, ts, rfl, by simp, hz, hl, rfl, [("_terms", lotD ts)], ?_, rfl, k _ ⟨by simp, fun i hi => ?_⟩⟩
  · exact List.getElem?_set_self (by simp)
  · rw [List.getElem?_set_ne (by omega), List.getElem?_set_ne (by omega), List.getElem?_append_left hi]
/-- the sums of a word's beginnings on a row -/
def sumsL (w r : List Int) : List D := (List.range (w.length + 1)).map fun p => .int (ws (w.take p) r)
/-- .. the row with one more number, of the beginnings longer than n; on the row itself of the others -/
def sumsM (w r : List Int) (x : Int) (n : Nat) : List D := (List.range (w.length + 1)).map fun p => if n < p then .int (ws (w.take p) (r ++ [x])) else .int (ws (w.take p) r)
theorem sumsM_top (w r : List Int) (x : Int) : sumsM w r x w.length = sumsL w r := by
  unfold sumsM sumsL
  refine List.map_congr_left fun p hp => ?_
  rw [if_neg (by have := List.mem_range.mp hp; omega)]
theorem sumsM_bot (w r : List Int) (x : Int) : sumsM w r x 0 = sumsL w (r ++ [x]) := by
  unfold sumsM sumsL
  refine List.map_congr_left fun p hp => ?_
  by_cases h : 0 < p
  · rw [if_pos h]
  · have : p = 0 := by omega
    subst this
    rw [if_neg (by omega), List.take_zero, ws_nil, ws_nil]
theorem sumsM_get (w r : List Int) (x : Int) (n p : Nat) (h : p ≤ w.length) : (sumsM w r x n)[p]? = some (if n < p then .int (ws (w.take p) (r ++ [x])) else .int (ws (w.take p) r)) := by
  unfold sumsM
  rw [List.getElem?_map, List.getElem?_range (by omega)]
  rfl
theorem sumsM_len (w r : List Int) (x : Int) (n : Nat) : (sumsM w r x n).length = w.length + 1 := by unfold sumsM; simp
theorem sumsM_set (w r : List Int) (x : Int) (n : Nat) (h : n < w.length) : (sumsM w r x (n + 1)).set (n + 1) (.int (ws (w.take (n + 1)) (r ++ [x]))) = sumsM w r x n := by
  refine List.ext_getElem? fun i => ?_
  by_cases hi : i ≤ w.length
  · by_cases e : n + 1 = i
    · subst e
      rw [List.getElem?_set_self (by rw [sumsM_len]; omega), sumsM_get _ _ _ _ _ hi, if_pos (by omega)]
    · rw [List.getElem?_set_ne e, sumsM_get _ _ _ _ _ hi, sumsM_get _ _ _ _ _ hi]
      by_cases h1 : n + 1 < i
      · rw [if_pos h1, if_pos (by omega)]
      · rw [if_neg h1, if_neg (by omega)]
  · rw [List.getElem?_eq_none (by rw [List.length_set, sumsM_len]; omega), List.getElem?_eq_none (by rw [sumsM_len]; omega)]
theorem take_next {w : List Int} {n : Nat} {l : Int} (h : w[n]? = some l) : w.take (n + 1) = w.take n ++ [l] := by
  rw [List.take_add_one, h]; rfl
theorem ixN_nat {n j : Nat} (h : j < n) : ixN n (j : Int) = some j := by
  unfold ixN
  rw [if_pos (by omega), if_pos (by omega)]
  rfl
theorem sumsL_start (w : List Int) : [D.int 1] ++ (List.replicate w.length [D.int 0]).flatten = sumsL w [] := by
  have h : (List.replicate w.length [D.int 0]).flatten = List.replicate w.length (D.int 0) := by simp [List.flatten_replicate_singleton]
  rw [h]
  unfold sumsL
  refine List.ext_getElem? fun i => ?_
  cases i with
  | zero => simp [ws]
  | succ i =>
    by_cases hi : i < w.length
    · rw [List.getElem?_map, List.getElem?_range (by omega)]
      have hne : w.take (i + 1) ≠ [] := by
        cases w with
        | nil => simp at hi
        | cons a r => simp
      simp [hi, ws_nil_right hne]
    · simp [hi]
theorem rgc_down (n : Nat) (h : n ≤ 1000) : RgC (n : Int) 0 (-1) n := by
  have q := RgC.neg (i := (n : Int)) (j := 0) (by omega) (by omega) (by omega) (by omega)
  simpa using q
theorem sumsL_last (w r : List Int) : atI (sumsL w r) (-1) = some (.int (ws w r)) := by
  have e : sumsL w r = ((List.range w.length).map fun p => .int (ws (w.take p) r)) ++ [.int (ws w r)] := by
    unfold sumsL
    rw [List.range_succ, List.map_append, List.map_singleton, List.take_length]
  rw [e]
  exact atI_last _ _
theorem sum_ints (l : List Int) : asInts (l.map D.int) = some l := asInts_map l
def LotOk (ts : Lot) : Prop := ts.length ≤ 1000000 ∧ ∀ t ∈ ts, t.1.natAbs < 2 ^ 500000 ∧ WordOk t.2
def S_law_factor : SD := fun ds cs Q _ => ∃ (j N : Nat), ds = [.root j] ∧ Pl N cs j ∧ N ≤ 999000 ∧
  ∀ (c : Int) cs', c ≠ 0 → c.natAbs ≤ 99 → Fr j cs cs' → cs'.length = cs.length → Pl (N + 4) cs' j → Q (.int c) cs'
theorem len_law_factor : ∀ ds cs Q X', S_law_factor ds cs Q X' → ds.length = 1 := by
  rintro ds cs Q X' ⟨j, N, rfl, _⟩
  rfl
theorem atI3 {α : Type} (x y z u : α) (xs : List α) : atI (x :: y :: z :: u :: xs) 3 = some u := atI_nat (j := 3) rfl
def m_law_factor : WS :=
  (wSeq (wPar 1 2 (wCons (wBin gAdd (wC (.int 1)) (wCall S_law_draw (wCons (wVar 0) (wCons (wC (.int 4)) wNil)))) (wCons (wBin gAdd (wC (.int 1)) (wCall S_law_draw (wCons (wVar 0) (wCons (wC (.int 99)) wNil)))) wNil)))
    (wRet (wBin gMul (wBin gIx (wArg gLstD (wCons (wC (.int 1)) (wCons (wC (.int 1)) (wCons (wVar 1) (wCons (wVar 2) wNil))))) (wCall S_law_draw (wCons (wVar 0) (wCons (wC (.int 4)) wNil)))) (wBin (gI0 fun i j => i - j) (wC (.int 1)) (wBin gMul (wC (.int 2)) (wCall S_law_draw (wCons (wVar 0) (wCons (wC (.int 2)) wNil))))))))
theorem body_law_factor : Body S_law_factor m_law_factor 3 := by
  rintro ds cs Q X' ⟨j, N, rfl, hp, hM, k⟩
  simp only [m_law_factor, wVar, wDNew, wDIx, wDGet, wDPut, wKeys, gSorted, dictT, dictLive, tkey, keyT, wIsi, gEqO, wKw, wCallK, wMethK, pick, wC, wBin, wTst, wUn, wNil, wCons, wArg, gTupD, gLstD, gRootD, wAndT, wOrT, wNotT, wAndV, wOrV, wNotV, wIf, wNext, wSeq, wBreak, wCont, wDrop, wRet, wRetN, wIfS, wgName, wgNil, wgCons, wgTup, wAsg, wPar, wPar3, gDict, wLcR, wTru, wDIn, truD, wLc2, lcW2, lcJ, wMaxDef, wListRg, gIn, flatD, flatL, wFroz, wTupI, wRng1, wRng2, wRng3, wEnum, wZip, wFor, wYes, wLc, wipeD, gI, gI0, gB0, gAdd, gCatR, gMul, gNeg, gEqI, gEqB, gEqS, gIsN, isNonD, wCall, wMeth, wMake, wFldS, fldD, wFld, wProp, g1, g2L, gLen, gAbs, gIntC, gStrI, gMax2, gMin2, gInts, gSum, gMaxL, gMinL, gBls, gListOf, gListOfR, gTupOf, gIx, woNo, woSome, wSl, wRev, wRevF, wBM, wBM0, gAppend, gInsert, gReverse, gExtend, gPopAt, gPop, gSetL, wSub, wAug, gIxL, wAugS, wFz, seqD, lisD, frozL, derefL, liveL, cellL, cellF, startD, List.map_cons, List.map_nil, List.length_cons, List.length_nil, List.replicate, List.cons_append, List.nil_append, List.getElem?_cons_zero, List.getElem?_cons_succ, List.getElem?_nil, List.set_cons_zero, List.set_cons_succ, Nat.reduceSub, Nat.reduceAdd, Nat.reduceLT, Nat.reduceLeDiff, if_true, if_false, Bool.false_eq_true, decide_eq_true_eq, Option.isSome_some, id_eq, and_true, true_and, wDisp1, gCatT, gDEm, wItems, itemT, gLenT, wChain, wSlT, gComb, wIsTup, gGcd, gFactorial, gSortTup, gSortDT, gInP, wSortKey, wSortKeyR, wDNewN, wDIxN, wDGetN, wDPutN, wDispN, wKeysN, dictN, dictNL, gDEq, gIsB]
  refine ⟨j, _, 4, rfl, hp, by omega, by omega, by omega, fun x cs1 x0 x1 f1 e1 p1 => ?_⟩
  refine ⟨j, _, 99, rfl, p1, by omega, by omega, by omega, fun y cs2 y0 y1 f2 e2 p2 => ⟨szl (by decide), ?_⟩⟩
  refine ⟨j, _, 4, rfl, p2, by omega, by omega, by omega, fun z cs3 z0 z1 f3 e3 p3 => ?_⟩
  have fin : ∀ u : Int, 1 ≤ u → u ≤ 99 → (wBin gMul (wC (.int u)) (wBin (gI0 fun i j => i - j) (wC (.int 1)) (wBin gMul (wC (.int 2)) (wCall S_law_draw (wCons (wVar 0) (wCons (wC (.int 2)) wNil)))))) [some (.root j), some (.int (1 + x)), some (.int (1 + y))] cs3 Q (fun _ _ _ => False) := fun u u0 u1 => by
    simp only [wVar, wDNew, wDIx, wDGet, wDPut, wKeys, gSorted, dictT, dictLive, tkey, keyT, wIsi, gEqO, wKw, wCallK, wMethK, pick, wC, wBin, wTst, wUn, wNil, wCons, wArg, gTupD, gLstD, gRootD, wAndT, wOrT, wNotT, wAndV, wOrV, wNotV, wIf, wNext, wSeq, wBreak, wCont, wDrop, wRet, wRetN, wIfS, wgName, wgNil, wgCons, wgTup, wAsg, wPar, wPar3, gDict, wLcR, wTru, wDIn, truD, wLc2, lcW2, lcJ, wMaxDef, wListRg, gIn, flatD, flatL, wFroz, wTupI, wRng1, wRng2, wRng3, wEnum, wZip, wFor, wYes, wLc, wipeD, gI, gI0, gB0, gAdd, gCatR, gMul, gNeg, gEqI, gEqB, gEqS, gIsN, isNonD, wCall, wMeth, wMake, wFldS, fldD, wFld, wProp, g1, g2L, gLen, gAbs, gIntC, gStrI, gMax2, gMin2, gInts, gSum, gMaxL, gMinL, gBls, gListOf, gListOfR, gTupOf, gIx, woNo, woSome, wSl, wRev, wRevF, wBM, wBM0, gAppend, gInsert, gReverse, gExtend, gPopAt, gPop, gSetL, wSub, wAug, gIxL, wAugS, wFz, seqD, lisD, frozL, derefL, liveL, cellL, cellF, startD, List.map_cons, List.map_nil, List.length_cons, List.length_nil, List.replicate, List.cons_append, List.nil_append, List.getElem?_cons_zero, List.getElem?_cons_succ, List.getElem?_nil, List.set_cons_zero, List.set_cons_succ, Nat.reduceSub, Nat.reduceAdd, Nat.reduceLT, Nat.reduceLeDiff, if_true, if_false, Bool.false_eq_true, decide_eq_true_eq, Option.isSome_some, id_eq, and_true, true_and, wDisp1, gCatT, gDEm, wItems, itemT, gLenT, wChain, wSlT, gComb, wIsTup, gGcd, gFactorial, gSortTup, gSortDT, gInP, wSortKey, wSortKeyR, wDNewN, wDIxN, wDGetN, wDPutN, wDispN, wKeysN, dictN, dictNL, gDEq, gIsB]
    refine ⟨j, _, 2, rfl, p3, by omega, by omega, by omega, fun s cs4 s0 s1 f4 e4 p4 => ?_⟩
    have : s = 0 ∨ s = 1 := by omega
    rcases this with rfl | rfl
    · exact ⟨mulOk 3 3 (by decide) (by decide) (by decide) (by decide) (by decide), mulOk 60 60 (by omega) (by decide) (by decide) (by decide) (by decide), k _ _ (by omega) (by omega) (((f1.trans f2).trans f3).trans f4) (by omega) p4⟩
    · exact ⟨mulOk 3 3 (by decide) (by decide) (by decide) (by decide) (by decide), mulOk 60 60 (by omega) (by decide) (by decide) (by decide) (by decide), k _ _ (by omega) (by omega) (((f1.trans f2).trans f3).trans f4) (by omega) p4⟩
  simp only [wVar, wDNew, wDIx, wDGet, wDPut, wKeys, gSorted, dictT, dictLive, tkey, keyT, wIsi, gEqO, wKw, wCallK, wMethK, pick, wC, wBin, wTst, wUn, wNil, wCons, wArg, gTupD, gLstD, gRootD, wAndT, wOrT, wNotT, wAndV, wOrV, wNotV, wIf, wNext, wSeq, wBreak, wCont, wDrop, wRet, wRetN, wIfS, wgName, wgNil, wgCons, wgTup, wAsg, wPar, wPar3, gDict, wLcR, wTru, wDIn, truD, wLc2, lcW2, lcJ, wMaxDef, wListRg, gIn, flatD, flatL, wFroz, wTupI, wRng1, wRng2, wRng3, wEnum, wZip, wFor, wYes, wLc, wipeD, gI, gI0, gB0, gAdd, gCatR, gMul, gNeg, gEqI, gEqB, gEqS, gIsN, isNonD, wCall, wMeth, wMake, wFldS, fldD, wFld, wProp, g1, g2L, gLen, gAbs, gIntC, gStrI, gMax2, gMin2, gInts, gSum, gMaxL, gMinL, gBls, gListOf, gListOfR, gTupOf, gIx, woNo, woSome, wSl, wRev, wRevF, wBM, wBM0, gAppend, gInsert, gReverse, gExtend, gPopAt, gPop, gSetL, wSub, wAug, gIxL, wAugS, wFz, seqD, lisD, frozL, derefL, liveL, cellL, cellF, startD, List.map_cons, List.map_nil, List.length_cons, List.length_nil, List.replicate, List.cons_append, List.nil_append, List.getElem?_cons_zero, List.getElem?_cons_succ, List.getElem?_nil, List.set_cons_zero, List.set_cons_succ, Nat.reduceSub, Nat.reduceAdd, Nat.reduceLT, Nat.reduceLeDiff, if_true, if_false, Bool.false_eq_true, decide_eq_true_eq, Option.isSome_some, id_eq, and_true, true_and, wDisp1, gCatT, gDEm, wItems, itemT, gLenT, wChain, wSlT, gComb, wIsTup, gGcd, gFactorial, gSortTup, gSortDT, gInP, wSortKey, wSortKeyR, wDNewN, wDIxN, wDGetN, wDPutN, wDispN, wKeysN, dictN, dictNL, gDEq, gIsB] at fin
  have : z = 0 ∨ z = 1 ∨ z = 2 ∨ z = 3 := by omega
  rcases this with rfl | rfl | rfl | rfl
  · simp only [wVar, wDNew, wDIx, wDGet, wDPut, wKeys, gSorted, dictT, dictLive, tkey, keyT, wIsi, gEqO, wKw, wCallK, wMethK, pick, wC, wBin, wTst, wUn, wNil, wCons, wArg, gTupD, gLstD, gRootD, wAndT, wOrT, wNotT, wAndV, wOrV, wNotV, wIf, wNext, wSeq, wBreak, wCont, wDrop, wRet, wRetN, wIfS, wgName, wgNil, wgCons, wgTup, wAsg, wPar, wPar3, gDict, wLcR, wTru, wDIn, truD, wLc2, lcW2, lcJ, wMaxDef, wListRg, gIn, flatD, flatL, wFroz, wTupI, wRng1, wRng2, wRng3, wEnum, wZip, wFor, wYes, wLc, wipeD, gI, gI0, gB0, gAdd, gCatR, gMul, gNeg, gEqI, gEqB, gEqS, gIsN, isNonD, wCall, wMeth, wMake, wFldS, fldD, wFld, wProp, g1, g2L, gLen, gAbs, gIntC, gStrI, gMax2, gMin2, gInts, gSum, gMaxL, gMinL, gBls, gListOf, gListOfR, gTupOf, gIx, woNo, woSome, wSl, wRev, wRevF, wBM, wBM0, gAppend, gInsert, gReverse, gExtend, gPopAt, gPop, gSetL, wSub, wAug, gIxL, wAugS, wFz, seqD, lisD, frozL, derefL, liveL, cellL, cellF, startD, List.map_cons, List.map_nil, List.length_cons, List.length_nil, List.replicate, List.cons_append, List.nil_append, List.getElem?_cons_zero, List.getElem?_cons_succ, List.getElem?_nil, List.set_cons_zero, List.set_cons_succ, Nat.reduceSub, Nat.reduceAdd, Nat.reduceLT, Nat.reduceLeDiff, if_true, if_false, Bool.false_eq_true, decide_eq_true_eq, Option.isSome_some, id_eq, and_true, true_and, wDisp1, gCatT, gDEm, wItems, itemT, gLenT, wChain, wSlT, gComb, wIsTup, gGcd, gFactorial, gSortTup, gSortDT, gInP, wSortKey, wSortKeyR, wDNewN, wDIxN, wDGetN, wDPutN, wDispN, wKeysN, dictN, dictNL, gDEq, gIsB, atI0]; exact fin 1 (by omega) (by omega)
  · simp only [wVar, wDNew, wDIx, wDGet, wDPut, wKeys, gSorted, dictT, dictLive, tkey, keyT, wIsi, gEqO, wKw, wCallK, wMethK, pick, wC, wBin, wTst, wUn, wNil, wCons, wArg, gTupD, gLstD, gRootD, wAndT, wOrT, wNotT, wAndV, wOrV, wNotV, wIf, wNext, wSeq, wBreak, wCont, wDrop, wRet, wRetN, wIfS, wgName, wgNil, wgCons, wgTup, wAsg, wPar, wPar3, gDict, wLcR, wTru, wDIn, truD, wLc2, lcW2, lcJ, wMaxDef, wListRg, gIn, flatD, flatL, wFroz, wTupI, wRng1, wRng2, wRng3, wEnum, wZip, wFor, wYes, wLc, wipeD, gI, gI0, gB0, gAdd, gCatR, gMul, gNeg, gEqI, gEqB, gEqS, gIsN, isNonD, wCall, wMeth, wMake, wFldS, fldD, wFld, wProp, g1, g2L, gLen, gAbs, gIntC, gStrI, gMax2, gMin2, gInts, gSum, gMaxL, gMinL, gBls, gListOf, gListOfR, gTupOf, gIx, woNo, woSome, wSl, wRev, wRevF, wBM, wBM0, gAppend, gInsert, gReverse, gExtend, gPopAt, gPop, gSetL, wSub, wAug, gIxL, wAugS, wFz, seqD, lisD, frozL, derefL, liveL, cellL, cellF, startD, List.map_cons, List.map_nil, List.length_cons, List.length_nil, List.replicate, List.cons_append, List.nil_append, List.getElem?_cons_zero, List.getElem?_cons_succ, List.getElem?_nil, List.set_cons_zero, List.set_cons_succ, Nat.reduceSub, Nat.reduceAdd, Nat.reduceLT, Nat.reduceLeDiff, if_true, if_false, Bool.false_eq_true, decide_eq_true_eq, Option.isSome_some, id_eq, and_true, true_and, wDisp1, gCatT, gDEm, wItems, itemT, gLenT, wChain, wSlT, gComb, wIsTup, gGcd, gFactorial, gSortTup, gSortDT, gInP, wSortKey, wSortKeyR, wDNewN, wDIxN, wDGetN, wDPutN, wDispN, wKeysN, dictN, dictNL, gDEq, gIsB, atI1]; exact fin 1 (by omega) (by omega)
  · simp only [wVar, wDNew, wDIx, wDGet, wDPut, wKeys, gSorted, dictT, dictLive, tkey, keyT, wIsi, gEqO, wKw, wCallK, wMethK, pick, wC, wBin, wTst, wUn, wNil, wCons, wArg, gTupD, gLstD, gRootD, wAndT, wOrT, wNotT, wAndV, wOrV, wNotV, wIf, wNext, wSeq, wBreak, wCont, wDrop, wRet, wRetN, wIfS, wgName, wgNil, wgCons, wgTup, wAsg, wPar, wPar3, gDict, wLcR, wTru, wDIn, truD, wLc2, lcW2, lcJ, wMaxDef, wListRg, gIn, flatD, flatL, wFroz, wTupI, wRng1, wRng2, wRng3, wEnum, wZip, wFor, wYes, wLc, wipeD, gI, gI0, gB0, gAdd, gCatR, gMul, gNeg, gEqI, gEqB, gEqS, gIsN, isNonD, wCall, wMeth, wMake, wFldS, fldD, wFld, wProp, g1, g2L, gLen, gAbs, gIntC, gStrI, gMax2, gMin2, gInts, gSum, gMaxL, gMinL, gBls, gListOf, gListOfR, gTupOf, gIx, woNo, woSome, wSl, wRev, wRevF, wBM, wBM0, gAppend, gInsert, gReverse, gExtend, gPopAt, gPop, gSetL, wSub, wAug, gIxL, wAugS, wFz, seqD, lisD, frozL, derefL, liveL, cellL, cellF, startD, List.map_cons, List.map_nil, List.length_cons, List.length_nil, List.replicate, List.cons_append, List.nil_append, List.getElem?_cons_zero, List.getElem?_cons_succ, List.getElem?_nil, List.set_cons_zero, List.set_cons_succ, Nat.reduceSub, Nat.reduceAdd, Nat.reduceLT, Nat.reduceLeDiff, if_true, if_false, Bool.false_eq_true, decide_eq_true_eq, Option.isSome_some, id_eq, and_true, true_and, wDisp1, gCatT, gDEm, wItems, itemT, gLenT, wChain, wSlT, gComb, wIsTup, gGcd, gFactorial, gSortTup, gSortDT, gInP, wSortKey, wSortKeyR, wDNewN, wDIxN, wDGetN, wDPutN, wDispN, wKeysN, dictN, dictNL, gDEq, gIsB, atI2]; exact fin _ (by omega) (by omega)
  · simp only [wVar, wDNew, wDIx, wDGet, wDPut, wKeys, gSorted, dictT, dictLive, tkey, keyT, wIsi, gEqO, wKw, wCallK, wMethK, pick, wC, wBin, wTst, wUn, wNil, wCons, wArg, gTupD, gLstD, gRootD, wAndT, wOrT, wNotT, wAndV, wOrV, wNotV, wIf, wNext, wSeq, wBreak, wCont, wDrop, wRet, wRetN, wIfS, wgName, wgNil, wgCons, wgTup, wAsg, wPar, wPar3, gDict, wLcR, wTru, wDIn, truD, wLc2, lcW2, lcJ, wMaxDef, wListRg, gIn, flatD, flatL, wFroz, wTupI, wRng1, wRng2, wRng3, wEnum, wZip, wFor, wYes, wLc, wipeD, gI, gI0, gB0, gAdd, gCatR, gMul, gNeg, gEqI, gEqB, gEqS, gIsN, isNonD, wCall, wMeth, wMake, wFldS, fldD, wFld, wProp, g1, g2L, gLen, gAbs, gIntC, gStrI, gMax2, gMin2, gInts, gSum, gMaxL, gMinL, gBls, gListOf, gListOfR, gTupOf, gIx, woNo, woSome, wSl, wRev, wRevF, wBM, wBM0, gAppend, gInsert, gReverse, gExtend, gPopAt, gPop, gSetL, wSub, wAug, gIxL, wAugS, wFz, seqD, lisD, frozL, derefL, liveL, cellL, cellF, startD, List.map_cons, List.map_nil, List.length_cons, List.length_nil, List.replicate, List.cons_append, List.nil_append, List.getElem?_cons_zero, List.getElem?_cons_succ, List.getElem?_nil, List.set_cons_zero, List.set_cons_succ, Nat.reduceSub, Nat.reduceAdd, Nat.reduceLT, Nat.reduceLeDiff, if_true, if_false, Bool.false_eq_true, decide_eq_true_eq, Option.isSome_some, id_eq, and_true, true_and, wDisp1, gCatT, gDEm, wItems, itemT, gLenT, wChain, wSlT, gComb, wIsTup, gGcd, gFactorial, gSortTup, gSortDT, gInP, wSortKey, wSortKeyR, wDNewN, wDIxN, wDGetN, wDPutN, wDispN, wKeysN, dictN, dictNL, gDEq, gIsB, atI3]; exact fin _ (by omega) (by omega)

theorem nil_term : D.lst [] = .lst (([] : Lot).map termD) := rfl
/-- a drawn lot: what its terms keep -/
def LotIn (l g : Int) (ts : Lot) : Prop := ∀ t ∈ ts, t.1.natAbs ≤ 99 ∧ (t.2.length : Int) ≤ l ∧ ∀ x ∈ t.2, 0 ≤ x ∧ x ≤ max 1 g
theorem LotIn.snoc {l g : Int} {ts : Lot} {c : Int} {w : List Int} (h : LotIn l g ts) (h1 : c.natAbs ≤ 99) (h2 : (w.length : Int) ≤ l) (h3 : ∀ x ∈ w, 0 ≤ x ∧ x ≤ max 1 g) : LotIn l g (ts ++ [(c, w)]) := fun t ht => by
  rcases List.mem_append.mp ht with q | q
  · exact h t q
  · rw [List.mem_singleton.mp q]; exact ⟨h1, h2, h3⟩
def S_law_lot : SD := fun ds cs Q _ => ∃ (j N : Nat) (m l g : Int), ds = [.root j, .int m, .int l, .int g] ∧ Pl N cs j ∧ N ≤ 900000 ∧ 0 ≤ m ∧ m ≤ 20 ∧ 0 ≤ l ∧ l ≤ 100 ∧ 0 ≤ g ∧ g ≤ 2 ^ 60 ∧
  ∀ (ts : Lot) cs', (ts.length : Int) ≤ m → LotIn l g ts → Fr j cs cs' → Pl (N + 10000) cs' j → Q (lotD ts) cs'
theorem len_law_lot : ∀ ds cs Q X', S_law_lot ds cs Q X' → ds.length = 4 := by
  rintro ds cs Q X' ⟨j, N, m, l, g, rfl, _⟩
  rfl
def m_law_lot_b1_4 : WS :=
  (wDrop (wBM gAppend (wVar 4) (wCons (wArg gTupD (wCons (wVar 7) (wCons (wVar 6) wNil))) wNil)))
def m_law_lot_b1_3 : WS :=
  wSeq (wIfS (wAndT (wTst (wBin (gEqD not) (wVar 4) (wArg gLstD wNil))) (wTst (wBin (gEqD id) (wCall S_law_draw (wCons (wVar 0) (wCons (wC (.int 8)) wNil))) (wC (.int 0))))) (wAsg (wBin gIx (wArg gLstD (wCons (wC (.int 0)) (wCons (wBin (gI0 fun i j => i - j) (wC (.int 0)) (wBin gIx (wBin gIx (wVar 4) (wC (.int 0))) (wC (.int 0)))) wNil))) (wCall S_law_draw (wCons (wVar 0) (wCons (wC (.int 2)) wNil)))) (wgName 7)) wNext)
    m_law_lot_b1_4
def m_law_lot_b1_2 : WS :=
  wSeq (wIfS (wAndT (wTst (wBin (gEqD not) (wVar 4) (wArg gLstD wNil))) (wTst (wBin (gEqD id) (wCall S_law_draw (wCons (wVar 0) (wCons (wC (.int 5)) wNil))) (wC (.int 0))))) (wAsg (wArg gListOf (wCons (wBin gIx (wBin gIx (wVar 4) (wC (.int 0))) (wC (.int 1))) wNil)) (wgName 6)) wNext)
    m_law_lot_b1_3
def m_law_lot_b1 : WS :=
  wSeq (wPar 6 7 (wCons (wCall S_law_letters (wCons (wVar 0) (wCons (wVar 2) (wCons (wVar 3) wNil)))) (wCons (wCall S_law_factor (wCons (wVar 0) wNil)) wNil)))
    m_law_lot_b1_2
def m_law_lot : WS :=
  (wSeq (wAsg (wArg gRootD wNil) (wgName 4))
    (wSeq (wFor (wRng1 (wCons (wCall S_law_draw (wCons (wVar 0) (wCons (wBin gAdd (wVar 1) (wC (.int 1))) wNil))) wNil)) (wgName 5) m_law_lot_b1)
    (wRet (wFz 4))))
theorem body_law_lot : Body S_law_lot m_law_lot 8 := by
  rintro ds cs Q X' ⟨j, N, m, l, g, rfl, hp, hM, m0, m1, l0, l1, g0, g1, k⟩
  have hj := hp.lt
  simp only [m_law_lot, wVar, wDNew, wDIx, wDGet, wDPut, wKeys, gSorted, dictT, dictLive, tkey, keyT, wIsi, gEqO, wKw, wCallK, wMethK, pick, wC, wBin, wTst, wUn, wNil, wCons, wArg, gTupD, gLstD, gRootD, wAndT, wOrT, wNotT, wAndV, wOrV, wNotV, wIf, wNext, wSeq, wBreak, wCont, wDrop, wRet, wRetN, wIfS, wgName, wgNil, wgCons, wgTup, wAsg, wPar, wPar3, gDict, wLcR, wTru, wDIn, truD, wLc2, lcW2, lcJ, wMaxDef, wListRg, gIn, flatD, flatL, wFroz, wTupI, wRng1, wRng2, wRng3, wEnum, wZip, wFor, wYes, wLc, wipeD, gI, gI0, gB0, gAdd, gCatR, gMul, gNeg, gEqI, gEqB, gEqS, gIsN, isNonD, wCall, wMeth, wMake, wFldS, fldD, wFld, wProp, g1, g2L, gLen, gAbs, gIntC, gStrI, gMax2, gMin2, gInts, gSum, gMaxL, gMinL, gBls, gListOf, gListOfR, gTupOf, gIx, woNo, woSome, wSl, wRev, wRevF, wBM, wBM0, gAppend, gInsert, gReverse, gExtend, gPopAt, gPop, gSetL, wSub, wAug, gIxL, wAugS, wFz, seqD, lisD, frozL, derefL, liveL, cellL, cellF, startD, List.map_cons, List.map_nil, List.length_cons, List.length_nil, List.replicate, List.cons_append, List.nil_append, List.getElem?_cons_zero, List.getElem?_cons_succ, List.getElem?_nil, List.set_cons_zero, List.set_cons_succ, Nat.reduceSub, Nat.reduceAdd, Nat.reduceLT, Nat.reduceLeDiff, if_true, if_false, Bool.false_eq_true, decide_eq_true_eq, Option.isSome_some, id_eq, and_true, true_and, wDisp1, gCatT, gDEm, wItems, itemT, gLenT, wChain, wSlT, gComb, wIsTup, gGcd, gFactorial, gSortTup, gSortDT, gInP, wSortKey, wSortKeyR, wDNewN, wDIxN, wDGetN, wDPutN, wDispN, wKeysN, dictN, dictNL, gDEq, gIsB]
  refine ⟨by decide, j, N, m + 1, rfl, Ke.push.pl hp, by omega, by omega, by omega, fun n cs1 n0 n1 f1 e1 p1 => ⟨by omega, ?_⟩⟩
  have hc1 : cs1[cs.length]? = some (.lst []) := by rw [f1.at_ _ (by omega) (by simp)]; simp
  refine for_by (fun i sl cs2 => (∃ a b c, sl = [some (.root j), some (.int m), some (.int l), some (.int g), some (.root cs.length), a, b, c]) ∧ ∃ ts : Lot, cs2[cs.length]? = some (.lst (ts.map termD)) ∧ ts.length = i ∧
      LotIn l g ts ∧ Fr j cs cs2 ∧ Pl (N + 1 + 400 * i) cs2 j) ⟨⟨none, none, none, rfl⟩, [], hc1, rfl, (fun t ht => nomatch ht), Fr.push.trans f1, p1⟩ ?_ ?_
  · rintro i d sl cs2 k1 hd ⟨⟨a, b, c, rfl⟩, ts, hc, hr, hx, f2, p2⟩ q1
    obtain ⟨rfl, hi⟩ := intsD_at hd
    have hlt2 : cs.length < cs2.length := (List.getElem?_eq_some_iff.mp hc).1
    simp only [m_law_lot_b1, wVar, wDNew, wDIx, wDGet, wDPut, wKeys, gSorted, dictT, dictLive, tkey, keyT, wIsi, gEqO, wKw, wCallK, wMethK, pick, wC, wBin, wTst, wUn, wNil, wCons, wArg, gTupD, gLstD, gRootD, wAndT, wOrT, wNotT, wAndV, wOrV, wNotV, wIf, wNext, wSeq, wBreak, wCont, wDrop, wRet, wRetN, wIfS, wgName, wgNil, wgCons, wgTup, wAsg, wPar, wPar3, gDict, wLcR, wTru, wDIn, truD, wLc2, lcW2, lcJ, wMaxDef, wListRg, gIn, flatD, flatL, wFroz, wTupI, wRng1, wRng2, wRng3, wEnum, wZip, wFor, wYes, wLc, wipeD, gI, gI0, gB0, gAdd, gCatR, gMul, gNeg, gEqI, gEqB, gEqS, gIsN, isNonD, wCall, wMeth, wMake, wFldS, fldD, wFld, wProp, g1, g2L, gLen, gAbs, gIntC, gStrI, gMax2, gMin2, gInts, gSum, gMaxL, gMinL, gBls, gListOf, gListOfR, gTupOf, gIx, woNo, woSome, wSl, wRev, wRevF, wBM, wBM0, gAppend, gInsert, gReverse, gExtend, gPopAt, gPop, gSetL, wSub, wAug, gIxL, wAugS, wFz, seqD, lisD, frozL, derefL, liveL, cellL, cellF, startD, List.map_cons, List.map_nil, List.length_cons, List.length_nil, List.replicate, List.cons_append, List.nil_append, List.getElem?_cons_zero, List.getElem?_cons_succ, List.getElem?_nil, List.set_cons_zero, List.set_cons_succ, Nat.reduceSub, Nat.reduceAdd, Nat.reduceLT, Nat.reduceLeDiff, if_true, if_false, Bool.false_eq_true, decide_eq_true_eq, Option.isSome_some, id_eq, and_true, true_and, wDisp1, gCatT, gDEm, wItems, itemT, gLenT, wChain, wSlT, gComb, wIsTup, gGcd, gFactorial, gSortTup, gSortDT, gInP, wSortKey, wSortKeyR, wDNewN, wDIxN, wDGetN, wDPutN, wDispN, wKeysN, dictN, dictNL, gDEq, gIsB]
    refine ⟨j, _, l, g, rfl, p2, by omega, by omega, by omega, by omega, by omega, fun w cs3 w0 w1 f3 e3 p3 => ?_⟩
    refine ⟨j, _, rfl, p3, by omega, fun c cs4 c0 c1 f4 e4 p4 => ?_⟩
    -- the term is appended
    have app : ∀ (bk : Sl → Cells → Prop) (w : List Int) (c : Int) (cs5 : Cells) (M : Nat), (w.length : Int) ≤ l → (∀ x ∈ w, 0 ≤ x ∧ x ≤ max 1 g) → c.natAbs ≤ 99 → Fr j cs2 cs5 → Pl M cs5 j → M ≤ N + 1 + 400 * i + 320 →
        m_law_lot_b1_4 { nx := k1, rt := Q, xq := fun _ _ _ => False, bk := bk, ct := k1 } [some (.root j), some (.int m), some (.int l), some (.int g), some (.root cs.length), some (.int (0 + (i : Nat))), some (wordD w), some (.int c)] cs5 := by
      intro bk w c cs5 M w0 w1 c1 f5 p5 hM5
      have hc5 : cs5[cs.length]? = some (.lst (ts.map termD)) := (f5.at_ _ (by omega) hlt2).trans hc
      have hlt5 : cs.length < cs5.length := (List.getElem?_eq_some_iff.mp hc5).1
      simp only [m_law_lot_b1_4, wVar, wDNew, wDIx, wDGet, wDPut, wKeys, gSorted, dictT, dictLive, tkey, keyT, wIsi, gEqO, wKw, wCallK, wMethK, pick, wC, wBin, wTst, wUn, wNil, wCons, wArg, gTupD, gLstD, gRootD, wAndT, wOrT, wNotT, wAndV, wOrV, wNotV, wIf, wNext, wSeq, wBreak, wCont, wDrop, wRet, wRetN, wIfS, wgName, wgNil, wgCons, wgTup, wAsg, wPar, wPar3, gDict, wLcR, wTru, wDIn, truD, wLc2, lcW2, lcJ, wMaxDef, wListRg, gIn, flatD, flatL, wFroz, wTupI, wRng1, wRng2, wRng3, wEnum, wZip, wFor, wYes, wLc, wipeD, gI, gI0, gB0, gAdd, gCatR, gMul, gNeg, gEqI, gEqB, gEqS, gIsN, isNonD, wCall, wMeth, wMake, wFldS, fldD, wFld, wProp, g1, g2L, gLen, gAbs, gIntC, gStrI, gMax2, gMin2, gInts, gSum, gMaxL, gMinL, gBls, gListOf, gListOfR, gTupOf, gIx, woNo, woSome, wSl, wRev, wRevF, wBM, wBM0, gAppend, gInsert, gReverse, gExtend, gPopAt, gPop, gSetL, wSub, wAug, gIxL, wAugS, wFz, seqD, lisD, frozL, derefL, liveL, cellL, cellF, startD, List.map_cons, List.map_nil, List.length_cons, List.length_nil, List.replicate, List.cons_append, List.nil_append, List.getElem?_cons_zero, List.getElem?_cons_succ, List.getElem?_nil, List.set_cons_zero, List.set_cons_succ, Nat.reduceSub, Nat.reduceAdd, Nat.reduceLT, Nat.reduceLeDiff, if_true, if_false, Bool.false_eq_true, decide_eq_true_eq, Option.isSome_some, id_eq, and_true, true_and, wDisp1, gCatT, gDEm, wItems, itemT, gLenT, wChain, wSlT, gComb, wIsTup, gGcd, gFactorial, gSortTup, gSortDT, gInP, wSortKey, wSortKeyR, wDNewN, wDIxN, wDGetN, wDPutN, wDispN, wKeysN, dictN, dictNL, gDEq, gIsB, hc5]
      refine ⟨szl (by decide), szlt (by rw [List.length_map]; omega), ?_⟩
      refine q1 _ _ ⟨⟨_, _, _, rfl⟩, ts ++ [(c, w)], by rw [List.getElem?_set_self hlt5]; simp [termD], by simp [hr], hx.snoc c1 w0 w1, (f2.trans f5).set_new (Nat.le_refl _), (p5.set_ne (by omega)).mono (by omega)⟩
    -- the sign, or 0, instead of the share
    have sgn : ∀ (bk : Sl → Cells → Prop) (w : List Int) (cs5 : Cells) (M : Nat), (w.length : Int) ≤ l → (∀ x ∈ w, 0 ≤ x ∧ x ≤ max 1 g) → Fr j cs2 cs5 → Pl M cs5 j → M ≤ N + 1 + 400 * i + 310 →
        m_law_lot_b1_3 { nx := k1, rt := Q, xq := fun _ _ _ => False, bk := bk, ct := k1 } [some (.root j), some (.int m), some (.int l), some (.int g), some (.root cs.length), some (.int (0 + (i : Nat))), some (wordD w), some (.int c)] cs5 := by
      intro bk w cs5 M w0 w1 f5 p5 hM5
      have hc5 : cs5[cs.length]? = some (.lst (ts.map termD)) := (f5.at_ _ (by omega) hlt2).trans hc
      simp only [m_law_lot_b1_3, wVar, wDNew, wDIx, wDGet, wDPut, wKeys, gSorted, dictT, dictLive, tkey, keyT, wIsi, gEqO, wKw, wCallK, wMethK, pick, wC, wBin, wTst, wUn, wNil, wCons, wArg, gTupD, gLstD, gRootD, wAndT, wOrT, wNotT, wAndV, wOrV, wNotV, wIf, wNext, wSeq, wBreak, wCont, wDrop, wRet, wRetN, wIfS, wgName, wgNil, wgCons, wgTup, wAsg, wPar, wPar3, gDict, wLcR, wTru, wDIn, truD, wLc2, lcW2, lcJ, wMaxDef, wListRg, gIn, flatD, flatL, wFroz, wTupI, wRng1, wRng2, wRng3, wEnum, wZip, wFor, wYes, wLc, wipeD, gI, gI0, gB0, gAdd, gCatR, gMul, gNeg, gEqI, gEqB, gEqS, gIsN, isNonD, wCall, wMeth, wMake, wFldS, fldD, wFld, wProp, g1, g2L, gLen, gAbs, gIntC, gStrI, gMax2, gMin2, gInts, gSum, gMaxL, gMinL, gBls, gListOf, gListOfR, gTupOf, gIx, woNo, woSome, wSl, wRev, wRevF, wBM, wBM0, gAppend, gInsert, gReverse, gExtend, gPopAt, gPop, gSetL, wSub, wAug, gIxL, wAugS, wFz, seqD, lisD, frozL, derefL, liveL, cellL, cellF, startD, List.map_cons, List.map_nil, List.length_cons, List.length_nil, List.replicate, List.cons_append, List.nil_append, List.getElem?_cons_zero, List.getElem?_cons_succ, List.getElem?_nil, List.set_cons_zero, List.set_cons_succ, Nat.reduceSub, Nat.reduceAdd, Nat.reduceLT, Nat.reduceLeDiff, if_true, if_false, Bool.false_eq_true, decide_eq_true_eq, Option.isSome_some, id_eq, and_true, true_and, wDisp1, gCatT, gDEm, wItems, itemT, gLenT, wChain, wSlT, gComb, wIsTup, gGcd, gFactorial, gSortTup, gSortDT, gInP, wSortKey, wSortKeyR, wDNewN, wDIxN, wDGetN, wDPutN, wDispN, wKeysN, dictN, dictNL, gDEq, gIsB]
      refine ⟨szl (by decide), ?_⟩
      refine gEq_empty eqd_term hc5 ?_
      by_cases ht : ts = []
      · subst ht
        simp only [wVar, wDNew, wDIx, wDGet, wDPut, wKeys, gSorted, dictT, dictLive, tkey, keyT, wIsi, gEqO, wKw, wCallK, wMethK, pick, wC, wBin, wTst, wUn, wNil, wCons, wArg, gTupD, gLstD, gRootD, wAndT, wOrT, wNotT, wAndV, wOrV, wNotV, wIf, wNext, wSeq, wBreak, wCont, wDrop, wRet, wRetN, wIfS, wgName, wgNil, wgCons, wgTup, wAsg, wPar, wPar3, gDict, wLcR, wTru, wDIn, truD, wLc2, lcW2, lcJ, wMaxDef, wListRg, gIn, flatD, flatL, wFroz, wTupI, wRng1, wRng2, wRng3, wEnum, wZip, wFor, wYes, wLc, wipeD, gI, gI0, gB0, gAdd, gCatR, gMul, gNeg, gEqI, gEqB, gEqS, gIsN, isNonD, wCall, wMeth, wMake, wFldS, fldD, wFld, wProp, g1, g2L, gLen, gAbs, gIntC, gStrI, gMax2, gMin2, gInts, gSum, gMaxL, gMinL, gBls, gListOf, gListOfR, gTupOf, gIx, woNo, woSome, wSl, wRev, wRevF, wBM, wBM0, gAppend, gInsert, gReverse, gExtend, gPopAt, gPop, gSetL, wSub, wAug, gIxL, wAugS, wFz, seqD, lisD, frozL, derefL, liveL, cellL, cellF, startD, List.map_cons, List.map_nil, List.length_cons, List.length_nil, List.replicate, List.cons_append, List.nil_append, List.getElem?_cons_zero, List.getElem?_cons_succ, List.getElem?_nil, List.set_cons_zero, List.set_cons_succ, Nat.reduceSub, Nat.reduceAdd, Nat.reduceLT, Nat.reduceLeDiff, if_true, if_false, Bool.false_eq_true, decide_eq_true_eq, Option.isSome_some, id_eq, and_true, true_and, wDisp1, gCatT, gDEm, wItems, itemT, gLenT, wChain, wSlT, gComb, wIsTup, gGcd, gFactorial, gSortTup, gSortDT, gInP, wSortKey, wSortKeyR, wDNewN, wDIxN, wDGetN, wDPutN, wDispN, wKeysN, dictN, dictNL, gDEq, gIsB, decide_true, Bool.not_true]
        exact app bk w c cs5 M w0 w1 c1 f5 p5 (by omega)
      · simp only [wVar, wDNew, wDIx, wDGet, wDPut, wKeys, gSorted, dictT, dictLive, tkey, keyT, wIsi, gEqO, wKw, wCallK, wMethK, pick, wC, wBin, wTst, wUn, wNil, wCons, wArg, gTupD, gLstD, gRootD, wAndT, wOrT, wNotT, wAndV, wOrV, wNotV, wIf, wNext, wSeq, wBreak, wCont, wDrop, wRet, wRetN, wIfS, wgName, wgNil, wgCons, wgTup, wAsg, wPar, wPar3, gDict, wLcR, wTru, wDIn, truD, wLc2, lcW2, lcJ, wMaxDef, wListRg, gIn, flatD, flatL, wFroz, wTupI, wRng1, wRng2, wRng3, wEnum, wZip, wFor, wYes, wLc, wipeD, gI, gI0, gB0, gAdd, gCatR, gMul, gNeg, gEqI, gEqB, gEqS, gIsN, isNonD, wCall, wMeth, wMake, wFldS, fldD, wFld, wProp, g1, g2L, gLen, gAbs, gIntC, gStrI, gMax2, gMin2, gInts, gSum, gMaxL, gMinL, gBls, gListOf, gListOfR, gTupOf, gIx, woNo, woSome, wSl, wRev, wRevF, wBM, wBM0, gAppend, gInsert, gReverse, gExtend, gPopAt, gPop, gSetL, wSub, wAug, gIxL, wAugS, wFz, seqD, lisD, frozL, derefL, liveL, cellL, cellF, startD, List.map_cons, List.map_nil, List.length_cons, List.length_nil, List.replicate, List.cons_append, List.nil_append, List.getElem?_cons_zero, List.getElem?_cons_succ, List.getElem?_nil, List.set_cons_zero, List.set_cons_succ, Nat.reduceSub, Nat.reduceAdd, Nat.reduceLT, Nat.reduceLeDiff, if_true, if_false, Bool.false_eq_true, decide_eq_true_eq, Option.isSome_some, id_eq, and_true, true_and, wDisp1, gCatT, gDEm, wItems, itemT, gLenT, wChain, wSlT, gComb, wIsTup, gGcd, gFactorial, gSortTup, gSortDT, gInP, wSortKey, wSortKeyR, wDNewN, wDIxN, wDGetN, wDPutN, wDispN, wKeysN, dictN, dictNL, gDEq, gIsB, decide_eq_false ht, Bool.not_false]
        refine ⟨j, _, 8, rfl, p5, by omega, by omega, by omega, fun x cs6 x0 x1 f6 e6 p6 => ?_⟩
        obtain ⟨t, us, rfl⟩ := List.exists_cons_of_ne_nil ht
        have hc6 : cs6[cs.length]? = some (.lst ((t :: us).map termD)) := (f6.at_ _ (by omega) (List.getElem?_eq_some_iff.mp hc5).1).trans hc5
        have ht1 := (hx t List.mem_cons_self).1
        by_cases h0 : x = 0
        · simp only [wVar, wDNew, wDIx, wDGet, wDPut, wKeys, gSorted, dictT, dictLive, tkey, keyT, wIsi, gEqO, wKw, wCallK, wMethK, pick, wC, wBin, wTst, wUn, wNil, wCons, wArg, gTupD, gLstD, gRootD, wAndT, wOrT, wNotT, wAndV, wOrV, wNotV, wIf, wNext, wSeq, wBreak, wCont, wDrop, wRet, wRetN, wIfS, wgName, wgNil, wgCons, wgTup, wAsg, wPar, wPar3, gDict, wLcR, wTru, wDIn, truD, wLc2, lcW2, lcJ, wMaxDef, wListRg, gIn, flatD, flatL, wFroz, wTupI, wRng1, wRng2, wRng3, wEnum, wZip, wFor, wYes, wLc, wipeD, gI, gI0, gB0, gAdd, gCatR, gMul, gNeg, gEqI, gEqB, gEqS, gIsN, isNonD, wCall, wMeth, wMake, wFldS, fldD, wFld, wProp, g1, g2L, gLen, gAbs, gIntC, gStrI, gMax2, gMin2, gInts, gSum, gMaxL, gMinL, gBls, gListOf, gListOfR, gTupOf, gIx, woNo, woSome, wSl, wRev, wRevF, wBM, wBM0, gAppend, gInsert, gReverse, gExtend, gPopAt, gPop, gSetL, wSub, wAug, gIxL, wAugS, wFz, seqD, lisD, frozL, derefL, liveL, cellL, cellF, startD, List.map_cons, List.map_nil, List.length_cons, List.length_nil, List.replicate, List.cons_append, List.nil_append, List.getElem?_cons_zero, List.getElem?_cons_succ, List.getElem?_nil, List.set_cons_zero, List.set_cons_succ, Nat.reduceSub, Nat.reduceAdd, Nat.reduceLT, Nat.reduceLeDiff, if_true, if_false, Bool.false_eq_true, decide_eq_true_eq, Option.isSome_some, id_eq, and_true, true_and, wDisp1, gCatT, gDEm, wItems, itemT, gLenT, wChain, wSlT, gComb, wIsTup, gGcd, gFactorial, gSortTup, gSortDT, gInP, wSortKey, wSortKeyR, wDNewN, wDIxN, wDGetN, wDPutN, wDispN, wKeysN, dictN, dictNL, gDEq, gIsB, h0, decide_true, hc6, atI0, termD]
          refine ⟨szl (by decide), j, _, 2, rfl, p6, by omega, by omega, by omega, fun y cs7 y0 y1 f7 e7 p7 => ?_⟩
          have : y = 0 ∨ y = 1 := by omega
          rcases this with rfl | rfl
          · simp only [atI0]
            exact app bk w 0 cs7 _ w0 w1 (by decide) ((f5.trans f6).trans f7) p7 (by omega)
          · simp only [atI1]
            exact app bk w (0 - t.1) cs7 _ w0 w1 (by omega) ((f5.trans f6).trans f7) p7 (by omega)
        · simp only [wVar, wDNew, wDIx, wDGet, wDPut, wKeys, gSorted, dictT, dictLive, tkey, keyT, wIsi, gEqO, wKw, wCallK, wMethK, pick, wC, wBin, wTst, wUn, wNil, wCons, wArg, gTupD, gLstD, gRootD, wAndT, wOrT, wNotT, wAndV, wOrV, wNotV, wIf, wNext, wSeq, wBreak, wCont, wDrop, wRet, wRetN, wIfS, wgName, wgNil, wgCons, wgTup, wAsg, wPar, wPar3, gDict, wLcR, wTru, wDIn, truD, wLc2, lcW2, lcJ, wMaxDef, wListRg, gIn, flatD, flatL, wFroz, wTupI, wRng1, wRng2, wRng3, wEnum, wZip, wFor, wYes, wLc, wipeD, gI, gI0, gB0, gAdd, gCatR, gMul, gNeg, gEqI, gEqB, gEqS, gIsN, isNonD, wCall, wMeth, wMake, wFldS, fldD, wFld, wProp, g1, g2L, gLen, gAbs, gIntC, gStrI, gMax2, gMin2, gInts, gSum, gMaxL, gMinL, gBls, gListOf, gListOfR, gTupOf, gIx, woNo, woSome, wSl, wRev, wRevF, wBM, wBM0, gAppend, gInsert, gReverse, gExtend, gPopAt, gPop, gSetL, wSub, wAug, gIxL, wAugS, wFz, seqD, lisD, frozL, derefL, liveL, cellL, cellF, startD, List.map_cons, List.map_nil, List.length_cons, List.length_nil, List.replicate, List.cons_append, List.nil_append, List.getElem?_cons_zero, List.getElem?_cons_succ, List.getElem?_nil, List.set_cons_zero, List.set_cons_succ, Nat.reduceSub, Nat.reduceAdd, Nat.reduceLT, Nat.reduceLeDiff, if_true, if_false, Bool.false_eq_true, decide_eq_true_eq, Option.isSome_some, id_eq, and_true, true_and, wDisp1, gCatT, gDEm, wItems, itemT, gLenT, wChain, wSlT, gComb, wIsTup, gGcd, gFactorial, gSortTup, gSortDT, gInP, wSortKey, wSortKeyR, wDNewN, wDIxN, wDGetN, wDPutN, wDispN, wKeysN, dictN, dictNL, gDEq, gIsB, decide_eq_false h0]
          exact app bk w c cs6 _ w0 w1 c1 (f5.trans f6) p6 (by omega)
    simp only [m_law_lot_b1_2, wVar, wDNew, wDIx, wDGet, wDPut, wKeys, gSorted, dictT, dictLive, tkey, keyT, wIsi, gEqO, wKw, wCallK, wMethK, pick, wC, wBin, wTst, wUn, wNil, wCons, wArg, gTupD, gLstD, gRootD, wAndT, wOrT, wNotT, wAndV, wOrV, wNotV, wIf, wNext, wSeq, wBreak, wCont, wDrop, wRet, wRetN, wIfS, wgName, wgNil, wgCons, wgTup, wAsg, wPar, wPar3, gDict, wLcR, wTru, wDIn, truD, wLc2, lcW2, lcJ, wMaxDef, wListRg, gIn, flatD, flatL, wFroz, wTupI, wRng1, wRng2, wRng3, wEnum, wZip, wFor, wYes, wLc, wipeD, gI, gI0, gB0, gAdd, gCatR, gMul, gNeg, gEqI, gEqB, gEqS, gIsN, isNonD, wCall, wMeth, wMake, wFldS, fldD, wFld, wProp, g1, g2L, gLen, gAbs, gIntC, gStrI, gMax2, gMin2, gInts, gSum, gMaxL, gMinL, gBls, gListOf, gListOfR, gTupOf, gIx, woNo, woSome, wSl, wRev, wRevF, wBM, wBM0, gAppend, gInsert, gReverse, gExtend, gPopAt, gPop, gSetL, wSub, wAug, gIxL, wAugS, wFz, seqD, lisD, frozL, derefL, liveL, cellL, cellF, startD, List.map_cons, List.map_nil, List.length_cons, List.length_nil, List.replicate, List.cons_append, List.nil_append, List.getElem?_cons_zero, List.getElem?_cons_succ, List.getElem?_nil, List.set_cons_zero, List.set_cons_succ, Nat.reduceSub, Nat.reduceAdd, Nat.reduceLT, Nat.reduceLeDiff, if_true, if_false, Bool.false_eq_true, decide_eq_true_eq, Option.isSome_some, id_eq, and_true, true_and, wDisp1, gCatT, gDEm, wItems, itemT, gLenT, wChain, wSlT, gComb, wIsTup, gGcd, gFactorial, gSortTup, gSortDT, gInP, wSortKey, wSortKeyR, wDNewN, wDIxN, wDGetN, wDPutN, wDispN, wKeysN, dictN, dictNL, gDEq, gIsB]
    refine ⟨szl (by decide), gEq_empty eqd_term (((f3.trans f4).at_ _ (by omega) hlt2).trans hc) ?_⟩
    by_cases ht : ts = []
    · subst ht
      simp only [wVar, wDNew, wDIx, wDGet, wDPut, wKeys, gSorted, dictT, dictLive, tkey, keyT, wIsi, gEqO, wKw, wCallK, wMethK, pick, wC, wBin, wTst, wUn, wNil, wCons, wArg, gTupD, gLstD, gRootD, wAndT, wOrT, wNotT, wAndV, wOrV, wNotV, wIf, wNext, wSeq, wBreak, wCont, wDrop, wRet, wRetN, wIfS, wgName, wgNil, wgCons, wgTup, wAsg, wPar, wPar3, gDict, wLcR, wTru, wDIn, truD, wLc2, lcW2, lcJ, wMaxDef, wListRg, gIn, flatD, flatL, wFroz, wTupI, wRng1, wRng2, wRng3, wEnum, wZip, wFor, wYes, wLc, wipeD, gI, gI0, gB0, gAdd, gCatR, gMul, gNeg, gEqI, gEqB, gEqS, gIsN, isNonD, wCall, wMeth, wMake, wFldS, fldD, wFld, wProp, g1, g2L, gLen, gAbs, gIntC, gStrI, gMax2, gMin2, gInts, gSum, gMaxL, gMinL, gBls, gListOf, gListOfR, gTupOf, gIx, woNo, woSome, wSl, wRev, wRevF, wBM, wBM0, gAppend, gInsert, gReverse, gExtend, gPopAt, gPop, gSetL, wSub, wAug, gIxL, wAugS, wFz, seqD, lisD, frozL, derefL, liveL, cellL, cellF, startD, List.map_cons, List.map_nil, List.length_cons, List.length_nil, List.replicate, List.cons_append, List.nil_append, List.getElem?_cons_zero, List.getElem?_cons_succ, List.getElem?_nil, List.set_cons_zero, List.set_cons_succ, Nat.reduceSub, Nat.reduceAdd, Nat.reduceLT, Nat.reduceLeDiff, if_true, if_false, Bool.false_eq_true, decide_eq_true_eq, Option.isSome_some, id_eq, and_true, true_and, wDisp1, gCatT, gDEm, wItems, itemT, gLenT, wChain, wSlT, gComb, wIsTup, gGcd, gFactorial, gSortTup, gSortDT, gInP, wSortKey, wSortKeyR, wDNewN, wDIxN, wDGetN, wDPutN, wDispN, wKeysN, dictN, dictNL, gDEq, gIsB, decide_true, Bool.not_true]
      exact sgn _ w cs4 _ w0 w1 (f3.trans f4) p4 (by omega)
    · simp only [wVar, wDNew, wDIx, wDGet, wDPut, wKeys, gSorted, dictT, dictLive, tkey, keyT, wIsi, gEqO, wKw, wCallK, wMethK, pick, wC, wBin, wTst, wUn, wNil, wCons, wArg, gTupD, gLstD, gRootD, wAndT, wOrT, wNotT, wAndV, wOrV, wNotV, wIf, wNext, wSeq, wBreak, wCont, wDrop, wRet, wRetN, wIfS, wgName, wgNil, wgCons, wgTup, wAsg, wPar, wPar3, gDict, wLcR, wTru, wDIn, truD, wLc2, lcW2, lcJ, wMaxDef, wListRg, gIn, flatD, flatL, wFroz, wTupI, wRng1, wRng2, wRng3, wEnum, wZip, wFor, wYes, wLc, wipeD, gI, gI0, gB0, gAdd, gCatR, gMul, gNeg, gEqI, gEqB, gEqS, gIsN, isNonD, wCall, wMeth, wMake, wFldS, fldD, wFld, wProp, g1, g2L, gLen, gAbs, gIntC, gStrI, gMax2, gMin2, gInts, gSum, gMaxL, gMinL, gBls, gListOf, gListOfR, gTupOf, gIx, woNo, woSome, wSl, wRev, wRevF, wBM, wBM0, gAppend, gInsert, gReverse, gExtend, gPopAt, gPop, gSetL, wSub, wAug, gIxL, wAugS, wFz, seqD, lisD, frozL, derefL, liveL, cellL, cellF, startD, List.map_cons, List.map_nil, List.length_cons, List.length_nil, List.replicate, List.cons_append, List.nil_append, List.getElem?_cons_zero, List.getElem?_cons_succ, List.getElem?_nil, List.set_cons_zero, List.set_cons_succ, Nat.reduceSub, Nat.reduceAdd, Nat.reduceLT, Nat.reduceLeDiff, if_true, if_false, Bool.false_eq_true, decide_eq_true_eq, Option.isSome_some, id_eq, and_true, true_and, wDisp1, gCatT, gDEm, wItems, itemT, gLenT, wChain, wSlT, gComb, wIsTup, gGcd, gFactorial, gSortTup, gSortDT, gInP, wSortKey, wSortKeyR, wDNewN, wDIxN, wDGetN, wDPutN, wDispN, wKeysN, dictN, dictNL, gDEq, gIsB, decide_eq_false ht, Bool.not_false]
      refine ⟨j, _, 5, rfl, p4, by omega, by omega, by omega, fun x cs6 x0 x1 f6 e6 p6 => ?_⟩
      obtain ⟨t, us, rfl⟩ := List.exists_cons_of_ne_nil ht
      have hc6 : cs6[cs.length]? = some (.lst ((t :: us).map termD)) := (((f3.trans f4).trans f6).at_ _ (by omega) hlt2).trans hc
      obtain ⟨_, t2, t3⟩ := hx t List.mem_cons_self
      by_cases h0 : x = 0
      · simp only [wVar, wDNew, wDIx, wDGet, wDPut, wKeys, gSorted, dictT, dictLive, tkey, keyT, wIsi, gEqO, wKw, wCallK, wMethK, pick, wC, wBin, wTst, wUn, wNil, wCons, wArg, gTupD, gLstD, gRootD, wAndT, wOrT, wNotT, wAndV, wOrV, wNotV, wIf, wNext, wSeq, wBreak, wCont, wDrop, wRet, wRetN, wIfS, wgName, wgNil, wgCons, wgTup, wAsg, wPar, wPar3, gDict, wLcR, wTru, wDIn, truD, wLc2, lcW2, lcJ, wMaxDef, wListRg, gIn, flatD, flatL, wFroz, wTupI, wRng1, wRng2, wRng3, wEnum, wZip, wFor, wYes, wLc, wipeD, gI, gI0, gB0, gAdd, gCatR, gMul, gNeg, gEqI, gEqB, gEqS, gIsN, isNonD, wCall, wMeth, wMake, wFldS, fldD, wFld, wProp, g1, g2L, gLen, gAbs, gIntC, gStrI, gMax2, gMin2, gInts, gSum, gMaxL, gMinL, gBls, gListOf, gListOfR, gTupOf, gIx, woNo, woSome, wSl, wRev, wRevF, wBM, wBM0, gAppend, gInsert, gReverse, gExtend, gPopAt, gPop, gSetL, wSub, wAug, gIxL, wAugS, wFz, seqD, lisD, frozL, derefL, liveL, cellL, cellF, startD, List.map_cons, List.map_nil, List.length_cons, List.length_nil, List.replicate, List.cons_append, List.nil_append, List.getElem?_cons_zero, List.getElem?_cons_succ, List.getElem?_nil, List.set_cons_zero, List.set_cons_succ, Nat.reduceSub, Nat.reduceAdd, Nat.reduceLT, Nat.reduceLeDiff, if_true, if_false, Bool.false_eq_true, decide_eq_true_eq, Option.isSome_some, id_eq, and_true, true_and, wDisp1, gCatT, gDEm, wItems, itemT, gLenT, wChain, wSlT, gComb, wIsTup, gGcd, gFactorial, gSortTup, gSortDT, gInP, wSortKey, wSortKeyR, wDNewN, wDIxN, wDGetN, wDPutN, wDispN, wKeysN, dictN, dictNL, gDEq, gIsB, h0, decide_true, hc6, atI0, atI1, termD, wordD, List.length_map]
        exact sgn _ t.2 cs6 _ t2 t3 ((f3.trans f4).trans f6) p6 (by omega)
      · simp only [wVar, wDNew, wDIx, wDGet, wDPut, wKeys, gSorted, dictT, dictLive, tkey, keyT, wIsi, gEqO, wKw, wCallK, wMethK, pick, wC, wBin, wTst, wUn, wNil, wCons, wArg, gTupD, gLstD, gRootD, wAndT, wOrT, wNotT, wAndV, wOrV, wNotV, wIf, wNext, wSeq, wBreak, wCont, wDrop, wRet, wRetN, wIfS, wgName, wgNil, wgCons, wgTup, wAsg, wPar, wPar3, gDict, wLcR, wTru, wDIn, truD, wLc2, lcW2, lcJ, wMaxDef, wListRg, gIn, flatD, flatL, wFroz, wTupI, wRng1, wRng2, wRng3, wEnum, wZip, wFor, wYes, wLc, wipeD, gI, gI0, gB0, gAdd, gCatR, gMul, gNeg, gEqI, gEqB, gEqS, gIsN, isNonD, wCall, wMeth, wMake, wFldS, fldD, wFld, wProp, g1, g2L, gLen, gAbs, gIntC, gStrI, gMax2, gMin2, gInts, gSum, gMaxL, gMinL, gBls, gListOf, gListOfR, gTupOf, gIx, woNo, woSome, wSl, wRev, wRevF, wBM, wBM0, gAppend, gInsert, gReverse, gExtend, gPopAt, gPop, gSetL, wSub, wAug, gIxL, wAugS, wFz, seqD, lisD, frozL, derefL, liveL, cellL, cellF, startD, List.map_cons, List.map_nil, List.length_cons, List.length_nil, List.replicate, List.cons_append, List.nil_append, List.getElem?_cons_zero, List.getElem?_cons_succ, List.getElem?_nil, List.set_cons_zero, List.set_cons_succ, Nat.reduceSub, Nat.reduceAdd, Nat.reduceLT, Nat.reduceLeDiff, if_true, if_false, Bool.false_eq_true, decide_eq_true_eq, Option.isSome_some, id_eq, and_true, true_and, wDisp1, gCatT, gDEm, wItems, itemT, gLenT, wChain, wSlT, gComb, wIsTup, gGcd, gFactorial, gSortTup, gSortDT, gInP, wSortKey, wSortKeyR, wDNewN, wDIxN, wDGetN, wDPutN, wDispN, wKeysN, dictN, dictNL, gDEq, gIsB, decide_eq_false h0]
        exact sgn _ w cs6 _ w0 w1 ((f3.trans f4).trans f6) p6 (by omega)
  · rintro sl cs2 ⟨⟨a, b, c, rfl⟩, ts, hc, hr, hx, f2, p2⟩
    rw [ints_len] at hr p2
    simp only [wVar, wDNew, wDIx, wDGet, wDPut, wKeys, gSorted, dictT, dictLive, tkey, keyT, wIsi, gEqO, wKw, wCallK, wMethK, pick, wC, wBin, wTst, wUn, wNil, wCons, wArg, gTupD, gLstD, gRootD, wAndT, wOrT, wNotT, wAndV, wOrV, wNotV, wIf, wNext, wSeq, wBreak, wCont, wDrop, wRet, wRetN, wIfS, wgName, wgNil, wgCons, wgTup, wAsg, wPar, wPar3, gDict, wLcR, wTru, wDIn, truD, wLc2, lcW2, lcJ, wMaxDef, wListRg, gIn, flatD, flatL, wFroz, wTupI, wRng1, wRng2, wRng3, wEnum, wZip, wFor, wYes, wLc, wipeD, gI, gI0, gB0, gAdd, gCatR, gMul, gNeg, gEqI, gEqB, gEqS, gIsN, isNonD, wCall, wMeth, wMake, wFldS, fldD, wFld, wProp, g1, g2L, gLen, gAbs, gIntC, gStrI, gMax2, gMin2, gInts, gSum, gMaxL, gMinL, gBls, gListOf, gListOfR, gTupOf, gIx, woNo, woSome, wSl, wRev, wRevF, wBM, wBM0, gAppend, gInsert, gReverse, gExtend, gPopAt, gPop, gSetL, wSub, wAug, gIxL, wAugS, wFz, seqD, lisD, frozL, derefL, liveL, cellL, cellF, startD, List.map_cons, List.map_nil, List.length_cons, List.length_nil, List.replicate, List.cons_append, List.nil_append, List.getElem?_cons_zero, List.getElem?_cons_succ, List.getElem?_nil, List.set_cons_zero, List.set_cons_succ, Nat.reduceSub, Nat.reduceAdd, Nat.reduceLT, Nat.reduceLeDiff, if_true, if_false, Bool.false_eq_true, decide_eq_true_eq, Option.isSome_some, id_eq, and_true, true_and, wDisp1, gCatT, gDEm, wItems, itemT, gLenT, wChain, wSlT, gComb, wIsTup, gGcd, gFactorial, gSortTup, gSortDT, gInP, wSortKey, wSortKeyR, wDNewN, wDIxN, wDGetN, wDPutN, wDispN, wKeysN, dictN, dictNL, gDEq, gIsB, hc]
    exact k ts _ (by omega) hx (f2.set_new (Nat.le_refl _)) ((p2.set_ne (by omega)).mono (by omega))

def S_law_made : SD := fun ds cs Q _ => ∃ ts : Lot, ds = [lotD ts] ∧ ts.length ≤ 1000000 ∧ (∀ t ∈ ts, t.2.length ≤ 1000000 ∧ ∀ l ∈ t.2, 0 ≤ l) ∧ ∀ cs', Ke cs cs' → Q (frmD ts) cs'
theorem len_law_made : ∀ ds cs Q X', S_law_made ds cs Q X' → ds.length = 1 := by
  rintro ds cs Q X' ⟨w, rfl, _⟩
  rfl
def m_law_made : WS :=
  (wRet (wMake FL 0 S_Formula___init (wCons (wLc (wFroz (wVar 0)) (wgTup 2 (wgCons (wgName 1) (wgCons (wgName 2) wgNil))) wYes (wArg gTupD (wCons (wVar 1) (wCons (wArg gListOf (wCons (wVar 2) wNil)) wNil))) [1, 2]) wNil)))
theorem body_law_made : Body S_law_made m_law_made 3 := by
  rintro ds cs Q X' ⟨ts, rfl, hz, hl, k⟩
  simp only [m_law_made, wVar, wDNew, wDIx, wDGet, wDPut, wKeys, gSorted, dictT, dictLive, tkey, keyT, wIsi, gEqO, wKw, wCallK, wMethK, pick, wC, wBin, wTst, wUn, wNil, wCons, wArg, gTupD, gLstD, gRootD, wAndT, wOrT, wNotT, wAndV, wOrV, wNotV, wIf, wNext, wSeq, wBreak, wCont, wDrop, wRet, wRetN, wIfS, wgName, wgNil, wgCons, wgTup, wAsg, wPar, wPar3, gDict, wLcR, wTru, wDIn, truD, wLc2, lcW2, lcJ, wMaxDef, wListRg, gIn, flatD, flatL, wFroz, wTupI, wRng1, wRng2, wRng3, wEnum, wZip, wFor, wYes, wLc, wipeD, gI, gI0, gB0, gAdd, gCatR, gMul, gNeg, gEqI, gEqB, gEqS, gIsN, isNonD, wCall, wMeth, wMake, wFldS, fldD, wFld, wProp, g1, g2L, gLen, gAbs, gIntC, gStrI, gMax2, gMin2, gInts, gSum, gMaxL, gMinL, gBls, gListOf, gListOfR, gTupOf, gIx, woNo, woSome, wSl, wRev, wRevF, wBM, wBM0, gAppend, gInsert, gReverse, gExtend, gPopAt, gPop, gSetL, wSub, wAug, gIxL, wAugS, wFz, seqD, lisD, frozL, derefL, liveL, cellL, cellF, startD, List.map_cons, List.map_nil, List.length_cons, List.length_nil, List.replicate, List.cons_append, List.nil_append, List.getElem?_cons_zero, List.getElem?_cons_succ, List.getElem?_nil, List.set_cons_zero, List.set_cons_succ, Nat.reduceSub, Nat.reduceAdd, Nat.reduceLT, Nat.reduceLeDiff, if_true, if_false, Bool.false_eq_true, decide_eq_true_eq, Option.isSome_some, id_eq, and_true, true_and, wDisp1, gCatT, gDEm, wItems, itemT, gLenT, wChain, wSlT, gComb, wIsTup, gGcd, gFactorial, gSortTup, gSortDT, gInP, wSortKey, wSortKeyR, wDNewN, wDIxN, wDGetN, wDPutN, wDispN, wKeysN, dictN, dictNL, gDEq, gIsB, lotD]
  refine ⟨by rw [List.length_map]; exact szl (by omega), lc_map termD termD ts (fun x _ k h => ?_) (make_frm hz hl k)⟩
  simp only [termD, wVar, wDNew, wDIx, wDGet, wDPut, wKeys, gSorted, dictT, dictLive, tkey, keyT, wIsi, gEqO, wKw, wCallK, wMethK, pick, wC, wBin, wTst, wUn, wNil, wCons, wArg, gTupD, gLstD, gRootD, wAndT, wOrT, wNotT, wAndV, wOrV, wNotV, wIf, wNext, wSeq, wBreak, wCont, wDrop, wRet, wRetN, wIfS, wgName, wgNil, wgCons, wgTup, wAsg, wPar, wPar3, gDict, wLcR, wTru, wDIn, truD, wLc2, lcW2, lcJ, wMaxDef, wListRg, gIn, flatD, flatL, wFroz, wTupI, wRng1, wRng2, wRng3, wEnum, wZip, wFor, wYes, wLc, wipeD, gI, gI0, gB0, gAdd, gCatR, gMul, gNeg, gEqI, gEqB, gEqS, gIsN, isNonD, wCall, wMeth, wMake, wFldS, fldD, wFld, wProp, g1, g2L, gLen, gAbs, gIntC, gStrI, gMax2, gMin2, gInts, gSum, gMaxL, gMinL, gBls, gListOf, gListOfR, gTupOf, gIx, woNo, woSome, wSl, wRev, wRevF, wBM, wBM0, gAppend, gInsert, gReverse, gExtend, gPopAt, gPop, gSetL, wSub, wAug, gIxL, wAugS, wFz, seqD, lisD, frozL, derefL, liveL, cellL, cellF, startD, List.map_cons, List.map_nil, List.length_cons, List.length_nil, List.replicate, List.cons_append, List.nil_append, List.getElem?_cons_zero, List.getElem?_cons_succ, List.getElem?_nil, List.set_cons_zero, List.set_cons_succ, Nat.reduceSub, Nat.reduceAdd, Nat.reduceLT, Nat.reduceLeDiff, if_true, if_false, Bool.false_eq_true, decide_eq_true_eq, Option.isSome_some, id_eq, and_true, true_and, wDisp1, gCatT, gDEm, wItems, itemT, gLenT, wChain, wSlT, gComb, wIsTup, gGcd, gFactorial, gSortTup, gSortDT, gInP, wSortKey, wSortKeyR, wDNewN, wDIxN, wDGetN, wDPutN, wDispN, wKeysN, dictN, dictNL, gDEq, gIsB, wordD]
  exact ⟨szl (by decide), h⟩

def S_Formula___eq : SD := fun ds cs Q _ => ∃ ts us : Lot, ds = [frmD ts, frmD us] ∧ Q (.bl (decide (ts = us))) cs
theorem len_Formula___eq : ∀ ds cs Q X', S_Formula___eq ds cs Q X' → ds.length = 2 := by
  rintro ds cs Q X' ⟨w, r, rfl, _⟩
  rfl
def m_Formula___eq : WS :=
  (wRet (wAndV (wIsi 0 (wVar 1)) (wBin (gEqD id) (wFld FL 0 "_terms" (wVar 0)) (wFld FL 0 "_terms" (wVar 1)))))
theorem body_Formula___eq : Body S_Formula___eq m_Formula___eq 2 := by
  rintro ds cs Q X' ⟨ts, us, rfl, k⟩
  have hf : ∀ vs : Lot, ((["_terms"] : List Str).zip [lotD vs]).lookup ("_terms" : Str) = some (lotD vs) := fun _ => rfl
  simp only [m_Formula___eq, wVar, wDNew, wDIx, wDGet, wDPut, wKeys, gSorted, dictT, dictLive, tkey, keyT, wIsi, gEqO, wKw, wCallK, wMethK, pick, wC, wBin, wTst, wUn, wNil, wCons, wArg, gTupD, gLstD, gRootD, wAndT, wOrT, wNotT, wAndV, wOrV, wNotV, wIf, wNext, wSeq, wBreak, wCont, wDrop, wRet, wRetN, wIfS, wgName, wgNil, wgCons, wgTup, wAsg, wPar, wPar3, gDict, wLcR, wTru, wDIn, truD, wLc2, lcW2, lcJ, wMaxDef, wListRg, gIn, flatD, flatL, wFroz, wTupI, wRng1, wRng2, wRng3, wEnum, wZip, wFor, wYes, wLc, wipeD, gI, gI0, gB0, gAdd, gCatR, gMul, gNeg, gEqI, gEqB, gEqS, gIsN, isNonD, wCall, wMeth, wMake, wFldS, fldD, wFld, wProp, g1, g2L, gLen, gAbs, gIntC, gStrI, gMax2, gMin2, gInts, gSum, gMaxL, gMinL, gBls, gListOf, gListOfR, gTupOf, gIx, woNo, woSome, wSl, wRev, wRevF, wBM, wBM0, gAppend, gInsert, gReverse, gExtend, gPopAt, gPop, gSetL, wSub, wAug, gIxL, wAugS, wFz, seqD, lisD, frozL, derefL, liveL, cellL, cellF, startD, List.map_cons, List.map_nil, List.length_cons, List.length_nil, List.replicate, List.cons_append, List.nil_append, List.getElem?_cons_zero, List.getElem?_cons_succ, List.getElem?_nil, List.set_cons_zero, List.set_cons_succ, Nat.reduceSub, Nat.reduceAdd, Nat.reduceLT, Nat.reduceLeDiff, if_true, if_false, Bool.false_eq_true, decide_eq_true_eq, Option.isSome_some, id_eq, and_true, true_and, wDisp1, gCatT, gDEm, wItems, itemT, gLenT, wChain, wSlT, gComb, wIsTup, gGcd, gFactorial, gSortTup, gSortDT, gInP, wSortKey, wSortKeyR, wDNewN, wDIxN, wDGetN, wDPutN, wDispN, wKeysN, dictN, dictNL, gDEq, gIsB, frmD, FL, hf]
  exact gEq_of eqd_lot k

/-! ### coefficients by words, plain forms -/
def coef (ts : Lot) (w : List Int) : Int := (ts.map fun t => if t.2 = w then t.1 else 0).sum
theorem coef_snoc (ts : Lot) (t : Int × List Int) (w : List Int) : coef (ts ++ [t]) w = coef ts w + if t.2 = w then t.1 else 0 := by
  unfold coef
  rw [List.map_append, List.map_singleton, List.sum_append]
  simp
theorem coef_mem {ts : Lot} {w : List Int} (h : coef ts w ≠ 0) : ∃ t ∈ ts, t.2 = w := by
  induction ts with
  | nil => exact absurd rfl h
  | cons t ts ih =>
    by_cases e : t.2 = w
    · exact ⟨t, List.mem_cons_self, e⟩
    · have : coef ts w ≠ 0 := fun z => h (by
        unfold coef at z ⊢
        rw [List.map_cons, List.sum_cons, if_neg e, z]
        rfl)
      obtain ⟨u, h1, h2⟩ := ih this
      exact ⟨u, List.mem_cons_of_mem _ h1, h2⟩
abbrev Tal := List (List Int × Int)
def talGet (m : Tal) (w : List Int) : Option Int := (m.find? fun p => decide (p.1 = w)).map (·.2)
def talPut (m : Tal) (w : List Int) (c : Int) : Tal := if (m.any fun p => decide (p.1 = w)) = true then m.map (fun p => if p.1 = w then (p.1, c) else p) else m ++ [(w, c)]
def wkey (w : List Int) : List Key := w.map Sum.inl
theorem wkey_inj {a b : List Int} (h : wkey a = wkey b) : a = b := by
  have : ∀ {a b : List Int}, wkey a = wkey b → a = b := fun {a} => by
    induction a with
    | nil => intro b h; cases b with
      | nil => rfl
      | cons _ _ => cases h
    | cons x a ih => intro b h; cases b with
      | nil => cases h
      | cons y b =>
        have h : Sum.inl x :: wkey a = Sum.inl y :: wkey b := h
        injection h with h1 h2
        injection h1 with h1
        rw [h1, ih h2]
  exact this h
def talD (m : Tal) : KD := m.map fun p => (wkey p.1, D.int p.2)
theorem dec_key (a b : List Int) : decide (wkey a = wkey b) = decide (a = b) := by
  rw [Bool.eq_iff_iff, decide_eq_true_iff, decide_eq_true_iff]
  exact ⟨wkey_inj, fun h => by rw [h]⟩
theorem valD_tal (w : List Int) : ∀ m : Tal, valD (talD m) (wkey w) = (talGet m w).map D.int
  | [] => rfl
  | p :: m => by
    have ih := valD_tal w m
    unfold valD talGet talD at ih ⊢
    simp only [List.map_cons, List.find?_cons, dec_key]
    by_cases h : p.1 = w
    · simp only [h, decide_true, Option.map_some]
    · simp only [decide_eq_false h]
      exact ih
theorem any_tal (w : List Int) : ∀ m : Tal, (talD m).any (fun kv => decide (kv.1 = wkey w)) = m.any fun p => decide (p.1 = w)
  | [] => rfl
  | p :: m => by
    have ih := any_tal w m
    unfold talD at ih ⊢
    simp only [List.map_cons, List.any_cons, dec_key, ih]
theorem putD_tal (w : List Int) (c : Int) (m : Tal) : putD (talD m) (wkey w) (.int c) = talD (talPut m w c) := by
  unfold putD talPut
  rw [any_tal]
  by_cases h : (m.any fun p => decide (p.1 = w)) = true
  · rw [if_pos h, if_pos h]
    unfold talD
    rw [List.map_map, List.map_map]
    refine List.map_congr_left fun p _ => ?_
    by_cases e : p.1 = w
    · simp [Function.comp, e]
    · simp only [Function.comp, if_neg e]
      rw [if_neg fun z => e (wkey_inj z)]
  · rw [if_neg h, if_neg h]
    unfold talD
    rw [List.map_append, List.map_singleton]
theorem talGet_put (m : Tal) (w v : List Int) (c : Int) : talGet (talPut m w c) v = if v = w then some c else talGet m v := by
  unfold talPut
  by_cases h : (m.any fun p => decide (p.1 = w)) = true
  · rw [if_pos h]
    induction m with
    | nil => cases h
    | cons p m ih =>
      by_cases e : p.1 = w
      · by_cases hv : v = w
        · subst hv
          simp [talGet, e]
        · have ne : ¬ p.1 = v := fun z => hv (by rw [← z, e])
          have ne' : ¬ w = v := fun z => hv z.symm
          by_cases h2 : (m.any fun p => decide (p.1 = w)) = true
          · have := ih h2
            rw [if_neg hv] at this ⊢
            simp only [talGet, List.map_cons, if_pos e, List.find?_cons, decide_eq_false ne] at this ⊢
            exact this
          · rw [if_neg hv]
            have e3 : m.map (fun p => if p.1 = w then (p.1, c) else p) = m := by
              refine (List.map_congr_left fun q hq => ?_).trans (List.map_id m)
              rw [if_neg fun z => h2 (List.any_eq_true.mpr ⟨q, hq, by simpa using z⟩)]
              rfl
            simp only [talGet, List.map_cons, if_pos e, List.find?_cons, decide_eq_false ne, e3]
      · have h2 : (m.any fun p => decide (p.1 = w)) = true := by simpa [e] using h
        have := ih h2
        by_cases hv : p.1 = v
        · have : ¬ v = w := fun z => e (by rw [hv, z])
          rw [if_neg this]
          simp only [talGet, List.map_cons, hv, if_neg this, List.find?_cons, decide_true, Option.map_some]
        · simp only [talGet, List.map_cons, if_neg e, List.find?_cons, decide_eq_false hv] at this ⊢
          exact this
  · rw [if_neg h]
    have hn : ∀ p ∈ m, ¬ p.1 = w := fun p hp z => h (List.any_eq_true.mpr ⟨p, hp, by simpa using z⟩)
    by_cases hv : v = w
    · subst hv
      rw [if_pos rfl]
      have : m.find? (fun p => decide (p.1 = v)) = none := by
        rw [List.find?_eq_none]
        intro p hp
        simpa using hn p hp
      simp [talGet, List.find?_append, this]
    · rw [if_neg hv]
      have ne : ¬ w = v := fun z => hv z.symm
      unfold talGet
      rw [List.find?_append]
      cases q : m.find? (fun p => decide (p.1 = v)) with
      | some p => rfl
      | none => simp [ne]
theorem keys_put (m : Tal) (w : List Int) (c : Int) : (talPut m w c).map (·.1) = if w ∈ m.map (·.1) then m.map (·.1) else m.map (·.1) ++ [w] := by
  unfold talPut
  by_cases h : (m.any fun p => decide (p.1 = w)) = true
  · have h' : w ∈ m.map (·.1) := by
      obtain ⟨p, h1, h2⟩ := List.any_eq_true.mp h
      exact List.mem_map.mpr ⟨p, h1, by simpa using h2⟩
    rw [if_pos h, if_pos h', List.map_map]
    refine List.map_congr_left fun p _ => ?_
    by_cases e : p.1 = w
    · simp [Function.comp, e]
    · simp [Function.comp, e]
  · have h' : ¬ w ∈ m.map (·.1) := fun z => h (by
      obtain ⟨p, h1, h2⟩ := List.mem_map.mp z
      exact List.any_eq_true.mpr ⟨p, h1, by simpa using h2⟩)
    rw [if_neg h, if_neg h', List.map_append, List.map_singleton]
/-- what stands in the dict behind the terms ts -/
structure Tally (ts : Lot) (m : Tal) : Prop where
  nd : (m.map (·.1)).Nodup
  get : ∀ w, (talGet m w).getD 0 = coef ts w
  key : ∀ w, w ∈ m.map (·.1) → ∃ t ∈ ts, t.2 = w
  has : ∀ w, w ∈ m.map (·.1) → (talGet m w).isSome = true
  len : m.length ≤ ts.length
theorem Tally.nil : Tally [] [] := ⟨List.nodup_nil, fun _ => rfl, fun _ h => (by cases h), fun _ h => (by cases h), Nat.le_refl _⟩
theorem has_key {m : Tal} {w : List Int} (h : w ∈ m.map (·.1)) : (talGet m w).isSome = true := by
  obtain ⟨p, h1, h2⟩ := List.mem_map.mp h
  unfold talGet
  rw [Option.isSome_map, List.find?_isSome]
  exact ⟨p, h1, by simpa using h2⟩
theorem Tally.put {ts : Lot} {m : Tal} (h : Tally ts m) (t : Int × List Int) : Tally (ts ++ [t]) (talPut m t.2 ((talGet m t.2).getD 0 + t.1)) := by
  refine ⟨?_, fun w => ?_, fun w hw => ?_, fun w hw => has_key hw, ?_⟩
  · rw [keys_put]
    split
    · exact h.nd
    · rename_i n
      rw [List.nodup_append]
      exact ⟨h.nd, by simp, fun a ha b hb z => n (by rw [List.mem_singleton] at hb; rw [← hb, ← z]; exact ha)⟩
  · rw [talGet_put, coef_snoc]
    by_cases e : w = t.2
    · subst e
      rw [if_pos rfl, if_pos rfl]
      show (talGet m t.2).getD 0 + t.1 = _
      rw [h.get]
    · rw [if_neg e, if_neg fun z => e z.symm, h.get]
      omega
  · rw [keys_put] at hw
    have old : w ∈ m.map (·.1) → ∃ u ∈ ts ++ [t], u.2 = w := fun q => by
      obtain ⟨u, h1, h2⟩ := h.key w q
      exact ⟨u, List.mem_append_left _ h1, h2⟩
    split at hw
    · exact old hw
    · rcases List.mem_append.mp hw with q | q
      · exact old q
      · exact ⟨t, by simp, (List.mem_singleton.mp q).symm⟩
  · have e : (talPut m t.2 ((talGet m t.2).getD 0 + t.1)).length = ((talPut m t.2 ((talGet m t.2).getD 0 + t.1)).map (·.1)).length := (List.length_map ..).symm
    rw [e, keys_put]
    have := h.len
    split <;> simp <;> omega
/-! ### the order of words in plain formulas -/
def wEnc (w : List Int) : PyData := .tuple [.int w.length, .tuple (w.map PyData.int)]
def wle (a b : List Int) : Bool := PySem.W.dataLe false wEnc a b
theorem wle_total : PySem.W.TotalLe wle := by
  show PySem.W.TotalLe (PySem.W.dataLe false wEnc)
  unfold PySem.W.dataLe
  exact PySem.W.sortLe_total _ _ _
theorem wle_anti {a b : List Int} (h1 : wle a b = true) (h2 : wle b a = true) : a = b := by
  have key : ∀ x y : List Int, wle x y = true → (x.length : Int) ≤ y.length ∧ (x.length = y.length → x ≤ y) := fun x y h => by
    unfold wle at h
    rw [PySem.W.dataLe_eq] at h
    simp only [cond_false, wEnc] at h
    rw [PySem.W.dataLt_pair (by simp [PySem.W.alike]) (by simp only [PySem.W.alike]; exact PySem.W.alike_ints _ _), PySem.W.dataLt_int, PySem.W.dataLt_tuple] at h
    have hr := PySem.W.dataLt_ints y x
    unfold PySem.W.rowLt at hr
    rw [hr] at h
    have he : ∀ l m : List Int, PyData.eqvAll (l.map PyData.int) (m.map PyData.int) = decide (l = m) := eqvl_map fun x y => by simp only [PyData.eqv]; rw [Bool.eq_iff_iff]; simp
    have e1 : PyData.eqv (.int (y.length : Int)) (.int (x.length : Int)) = decide ((y.length : Int) = x.length) := by simp only [PyData.eqv]; rw [Bool.eq_iff_iff]; simp
    have e2 : PyData.eqv (.tuple (y.map PyData.int)) (.tuple (x.map PyData.int)) = decide (y = x) := by simp only [PyData.eqv]; exact he y x
    rw [e1, e2] at h
    simp only [decide_eq_true_eq] at h
    by_cases e : (y.length : Int) = x.length
    · rw [if_pos e] at h
      refine ⟨by omega, fun _ => ?_⟩
      by_cases q : y = x
      · rw [q]; exact List.le_refl _
      · rw [if_neg q] at h
        exact List.not_lt.mp (by simpa using h)
    · rw [if_neg e] at h
      have : ¬ (y.length : Int) < x.length := by simpa using h
      exact ⟨by omega, fun z => absurd (by omega) e⟩
  obtain ⟨a1, a2⟩ := key a b h1
  obtain ⟨b1, b2⟩ := key b a h2
  have e : a.length = b.length := by omega
  exact List.le_antisymm (a2 e) (b2 e.symm)
/-- us is the plain form of ts -/
def IsPlain (ts us : Lot) : Prop := ∃ S : List (List Int), S.Nodup ∧ (∀ w, w ∈ S ↔ coef ts w ≠ 0) ∧ S.Pairwise (fun a b => wle a b = true) ∧ us = S.map fun w => (coef ts w, w)
theorem coef_listed {f : List Int → Int} (w : List Int) : ∀ {S : List (List Int)}, S.Nodup → coef (S.map fun v => (f v, v)) w = if w ∈ S then f w else 0
  | [], _ => rfl
  | v :: S, h => by
    have h := List.nodup_cons.mp h
    have ih := coef_listed (f := f) w h.2
    have e : coef ((v :: S).map fun v => (f v, v)) w = (if v = w then f v else 0) + coef (S.map fun v => (f v, v)) w := by
      unfold coef
      rw [List.map_cons, List.map_cons, List.sum_cons]
    rw [e, ih]
    by_cases q : v = w
    · subst q
      rw [if_pos rfl, if_neg h.1, if_pos List.mem_cons_self]
      omega
    · rw [if_neg q]
      by_cases m : w ∈ S
      · rw [if_pos m, if_pos (List.mem_cons_of_mem _ m)]; omega
      · rw [if_neg m, if_neg fun z => (List.mem_cons.mp z).elim (fun z => q z.symm) m]; rfl
theorem IsPlain.coef {ts us : Lot} (h : IsPlain ts us) (w : List Int) : coef us w = DL.coef ts w := by
  obtain ⟨S, h1, h2, h3, rfl⟩ := h
  rw [coef_listed w h1]
  by_cases m : w ∈ S
  · rw [if_pos m]
  · rw [if_neg m]
    by_cases z : DL.coef ts w = 0
    · exact z.symm
    · exact absurd ((h2 w).mpr z) m
theorem IsPlain.uniq {ts us ts' us' : Lot} (h : IsPlain ts us) (h' : IsPlain ts' us') (e : ∀ w, DL.coef ts w = DL.coef ts' w) : us = us' := by
  obtain ⟨S, h1, h2, h3, rfl⟩ := h
  obtain ⟨S', h1', h2', h3', rfl⟩ := h'
  have p : S.Perm S' := (List.perm_ext_iff_of_nodup h1 h1').mpr fun w => by rw [h2, h2', e]
  have : S = S' := List.Perm.eq_of_pairwise (fun a b _ _ x y => wle_anti x y) h3 h3' p
  rw [this]
  exact List.map_congr_left fun w _ => by rw [e]
/-- two plain forms are one exactly if all coefficients are -/
theorem IsPlain.iff {ts us ts' us' : Lot} (h : IsPlain ts us) (h' : IsPlain ts' us') : us = us' ↔ ∀ w, DL.coef ts w = DL.coef ts' w :=
  ⟨fun z w => by rw [← h.coef, ← h'.coef, z], h.uniq h'⟩
/-- what the dict comes to -/
def talWords (m : Tal) : List (List Int) := m.filterMap fun p => if p.2 ≠ 0 then some p.1 else none
theorem talGet_mem {m : Tal} (hn : (m.map (·.1)).Nodup) {p : List Int × Int} (h : p ∈ m) : talGet m p.1 = some p.2 := by
  induction m with
  | nil => cases h
  | cons q m ih =>
    rw [List.map_cons, List.nodup_cons] at hn
    unfold talGet
    rw [List.find?_cons]
    rcases List.mem_cons.mp h with e | h
    · rw [e]; simp
    · have : ¬ q.1 = p.1 := fun z => hn.1 (by rw [z]; exact List.mem_map.mpr ⟨p, h, rfl⟩)
      rw [decide_eq_false this]
      exact ih hn.2 h
theorem Tally.plain {ts : Lot} {m : Tal} (h : Tally ts m) : IsPlain ts (((talWords m).mergeSort wle).map fun w => ((talGet m w).getD 0, w)) := by
  have mem : ∀ w, w ∈ talWords m ↔ DL.coef ts w ≠ 0 := fun w => by
    unfold talWords
    rw [List.mem_filterMap]
    constructor
    · rintro ⟨p, h1, h2⟩
      split at h2
      · cases h2
        rename_i q
        rw [← h.get, talGet_mem h.nd h1]
        exact q
      · cases h2
    · intro q
      have hw : w ∈ m.map (·.1) := by
        rw [← h.get] at q
        unfold talGet at q
        cases e : m.find? (fun p => decide (p.1 = w)) with
        | none => rw [e] at q; exact absurd rfl q
        | some p =>
          have h1 := List.mem_of_find?_eq_some e
          have h2 := List.find?_some e
          exact List.mem_map.mpr ⟨p, h1, by simpa using h2⟩
      obtain ⟨p, h1, h2⟩ := List.mem_map.mp hw
      subst h2
      refine ⟨p, h1, ?_⟩
      rw [← h.get, talGet_mem h.nd h1] at q
      exact if_pos q
  have nd : (talWords m).Nodup := by
    have : talWords m = (m.filter fun p => decide (p.2 ≠ 0)).map (·.1) := by
      unfold talWords
      clear mem h
      induction m with
      | nil => rfl
      | cons p m ih =>
        rw [List.filterMap_cons, List.filter_cons]
        by_cases q : p.2 ≠ 0
        · simp only [if_pos q, decide_eq_true q, if_true, List.map_cons, ih]
        · simp only [if_neg q, decide_eq_false q, ih]
          rfl
    rw [this]
    exact h.nd.sublist (List.filter_sublist.map _)
  refine ⟨(talWords m).mergeSort wle, (List.mergeSort_perm _ _).nodup_iff.mpr nd, fun w => ((List.mergeSort_perm _ _).mem_iff).trans (mem w), PySem.W.sort_pairwise wle_total _, ?_⟩
  exact List.map_congr_left fun w _ => by rw [h.get]

def S_Formula_terms : SD := fun ds cs Q _ => ∃ ts : Lot, ds = [frmD ts] ∧ ts.length ≤ 1000000 ∧ Q (lotD ts) cs
theorem len_Formula_terms : ∀ ds cs Q X', S_Formula_terms ds cs Q X' → ds.length = 1 := by
  rintro ds cs Q X' ⟨w, rfl, _⟩
  rfl
def m_Formula_terms : WS :=
  (wRet (wCall S_copied (wCons (wFld FL 0 "_terms" (wVar 0)) wNil)))
theorem terms_at (vs : Lot) : ((["_terms"] : List Str).zip [lotD vs]).lookup ("_terms" : Str) = some (lotD vs) := rfl
theorem body_Formula_terms : Body S_Formula_terms m_Formula_terms 1 := by
  rintro ds cs Q X' ⟨ts, rfl, hz, k⟩
  simp only [m_Formula_terms, wVar, wDNew, wDIx, wDGet, wDPut, wKeys, gSorted, dictT, dictLive, tkey, keyT, wIsi, gEqO, wKw, wCallK, wMethK, pick, wC, wBin, wTst, wUn, wNil, wCons, wArg, gTupD, gLstD, gRootD, wAndT, wOrT, wNotT, wAndV, wOrV, wNotV, wIf, wNext, wSeq, wBreak, wCont, wDrop, wRet, wRetN, wIfS, wgName, wgNil, wgCons, wgTup, wAsg, wPar, wPar3, gDict, wLcR, wTru, wDIn, truD, wLc2, lcW2, lcJ, wMaxDef, wListRg, gIn, flatD, flatL, wFroz, wTupI, wRng1, wRng2, wRng3, wEnum, wZip, wFor, wYes, wLc, wipeD, gI, gI0, gB0, gAdd, gCatR, gMul, gNeg, gEqI, gEqB, gEqS, gIsN, isNonD, wCall, wMeth, wMake, wFldS, fldD, wFld, wProp, g1, g2L, gLen, gAbs, gIntC, gStrI, gMax2, gMin2, gInts, gSum, gMaxL, gMinL, gBls, gListOf, gListOfR, gTupOf, gIx, woNo, woSome, wSl, wRev, wRevF, wBM, wBM0, gAppend, gInsert, gReverse, gExtend, gPopAt, gPop, gSetL, wSub, wAug, gIxL, wAugS, wFz, seqD, lisD, frozL, derefL, liveL, cellL, cellF, startD, List.map_cons, List.map_nil, List.length_cons, List.length_nil, List.replicate, List.cons_append, List.nil_append, List.getElem?_cons_zero, List.getElem?_cons_succ, List.getElem?_nil, List.set_cons_zero, List.set_cons_succ, Nat.reduceSub, Nat.reduceAdd, Nat.reduceLT, Nat.reduceLeDiff, if_true, if_false, Bool.false_eq_true, decide_eq_true_eq, Option.isSome_some, id_eq, and_true, true_and, wDisp1, gCatT, gDEm, wItems, itemT, gLenT, wChain, wSlT, gComb, wIsTup, gGcd, gFactorial, gSortTup, gSortDT, gInP, wSortKey, wSortKeyR, wDNewN, wDIxN, wDGetN, wDPutN, wDispN, wKeysN, dictN, dictNL, gDEq, gIsB, frmD, FL, terms_at]
  exact ⟨ts, rfl, hz, k⟩
def S_plain : SD := fun ds cs Q _ => ∃ ts : Lot, ds = [frmD ts] ∧ ts.length ≤ 1000000 ∧ (∀ t ∈ ts, t.2.length ≤ 1000000 ∧ ∀ l ∈ t.2, 0 ≤ l) ∧ ∀ us cs', IsPlain ts us → Ke cs cs' → Q (frmD us) cs'
theorem len_plain : ∀ ds cs Q X', S_plain ds cs Q X' → ds.length = 1 := by
  rintro ds cs Q X' ⟨w, rfl, _⟩
  rfl
/-- a word as a tuple, and with its length ahead -/
def tupD (w : List Int) : D := .tup (w.map D.int)
def sizD (w : List Int) : D := .tup [.int w.length, tupD w]
theorem unkeys_ints : ∀ w : List Int, unkeys (w.map D.int) = some (wkey w)
  | [] => rfl
  | x :: w => by simp only [List.map_cons, unkeys, unkey, unkeys_ints w]; rfl
theorem keyT_tal (m : Tal) : (talD m).map (fun kv => D.tup (kv.1.map keyD)) = (m.map (·.1)).map tupD := by
  unfold talD
  rw [List.map_map, List.map_map]
  refine List.map_congr_left fun p _ => ?_
  show D.tup ((wkey p.1).map keyD) = .tup (p.1.map D.int)
  unfold wkey
  rw [List.map_map]
  rfl
theorem pyAll_siz (cs : Cells) (ws : List (List Int)) : pyAll cs (ws.map sizD) = some (ws.map wEnc) := by
  unfold pyAll
  refine pyl_map (fun f w => ?_) _ ws
  unfold sizD tupD wEnc
  simp only [pyW, pyWL, pyl_map (e := D.int) (p := PyData.int) (fun f x => by simp only [pyW]), Option.map_some]
theorem sorted_siz (ws : List (List Int)) : (((ws.map sizD).zip (ws.map wEnc)).mergeSort (PySem.W.dataLe false (·.2))).map (·.1) = (ws.mergeSort wle).map sizD := by
  have e1 : (ws.map sizD).zip (ws.map wEnc) = ws.map fun w => ((sizD w, wEnc w) : D × PyData) := by
    induction ws with
    | nil => rfl
    | cons w ws ih => simp only [List.map_cons, List.zip_cons_cons, ih]
  have e2 : (ws.map fun w => ((sizD w, wEnc w) : D × PyData)).mergeSort (PySem.W.dataLe false (·.2)) = (ws.mergeSort wle).map fun w => (sizD w, wEnc w) :=
    (PySem.W.sort_maps (r := wle) (s := PySem.W.dataLe false fun b : D × PyData => b.2) (fun w => (sizD w, wEnc w)) (l := ws) fun _ _ _ _ => rfl).symm
  rw [e1, e2, List.map_map]
  rfl
theorem siz_alike (ws : List (List Int)) : PySem.W.AllAlike (ws.map wEnc) ∧ PySem.W.Sortable (ws.map wEnc) ∧ ∀ p ∈ ws.map wEnc, p.depth ≤ 60 := by
  refine ⟨.of fun a b => ?_, .tuples fun b => ⟨_, _, rfl⟩, fun p hp => ?_⟩
  · unfold wEnc
    simp only [PySem.W.alike, PySem.W.alikeAll, PySem.W.alike_ints, Bool.and_true]
  · obtain ⟨w, _, rfl⟩ := List.mem_map.mp hp
    unfold wEnc
    have := depl_map (p := PyData.int) (k := 0) (fun x => by simp only [PyData.depth]; exact Nat.le_refl _) w
    simp only [PyData.depth, PyData.depthAll]
    omega
def m_plain_4 : WS :=
  (wRet (wMake FL 0 S_Formula___init (wCons (wLc (wFroz (wVar 5)) (wgTup 2 (wgCons (wgName 7) (wgCons (wgName 6) wgNil))) wYes (wArg gTupD (wCons (wDIx (wVar 1) (wVar 6)) (wCons (wArg gListOf (wCons (wVar 6) wNil)) wNil))) [7, 6]) wNil)))
def m_plain_3 : WS :=
  wSeq (wAsg (wArg gSorted (wCons (wLc (wKeys (wVar 1)) (wgName 6) (wTst (wBin (gEqD not) (wDIx (wVar 1) (wVar 6)) (wC (.int 0)))) (wArg gTupD (wCons (wArg gLen (wCons (wVar 6) wNil)) (wCons (wVar 6) wNil))) [6]) wNil)) (wgName 5))
    m_plain_4
def m_plain_2 : WS :=
  wSeq (wFor (wFroz (wProp 0 S_Formula_terms (wVar 0))) (wgTup 2 (wgCons (wgName 2) (wgCons (wgName 3) wgNil))) (wSeq (wAsg (wArg gTupOf (wCons (wVar 3) wNil)) (wgName 4))
    (wDPut (wVar 1) (wVar 4) (wBin gAdd (wDGet (wVar 1) (wVar 4) (wC (.int 0))) (wVar 2)))))
    m_plain_3
def m_plain : WS :=
  wSeq (wAsg wDNew (wgName 1))
    m_plain_2
theorem body_plain : Body S_plain m_plain 8 := by
  rintro ds cs Q X' ⟨ts, rfl, hz, hl, k⟩
  simp only [m_plain, wVar, wDNew, wDIx, wDGet, wDPut, wKeys, gSorted, dictT, dictLive, tkey, keyT, wIsi, gEqO, wKw, wCallK, wMethK, pick, wC, wBin, wTst, wUn, wNil, wCons, wArg, gTupD, gLstD, gRootD, wAndT, wOrT, wNotT, wAndV, wOrV, wNotV, wIf, wNext, wSeq, wBreak, wCont, wDrop, wRet, wRetN, wIfS, wgName, wgNil, wgCons, wgTup, wAsg, wPar, wPar3, gDict, wLcR, wTru, wDIn, truD, wLc2, lcW2, lcJ, wMaxDef, wListRg, gIn, flatD, flatL, wFroz, wTupI, wRng1, wRng2, wRng3, wEnum, wZip, wFor, wYes, wLc, wipeD, gI, gI0, gB0, gAdd, gCatR, gMul, gNeg, gEqI, gEqB, gEqS, gIsN, isNonD, wCall, wMeth, wMake, wFldS, fldD, wFld, wProp, g1, g2L, gLen, gAbs, gIntC, gStrI, gMax2, gMin2, gInts, gSum, gMaxL, gMinL, gBls, gListOf, gListOfR, gTupOf, gIx, woNo, woSome, wSl, wRev, wRevF, wBM, wBM0, gAppend, gInsert, gReverse, gExtend, gPopAt, gPop, gSetL, wSub, wAug, gIxL, wAugS, wFz, seqD, lisD, frozL, derefL, liveL, cellL, cellF, startD, List.map_cons, List.map_nil, List.length_cons, List.length_nil, List.replicate, List.cons_append, List.nil_append, List.getElem?_cons_zero, List.getElem?_cons_succ, List.getElem?_nil, List.set_cons_zero, List.set_cons_succ, Nat.reduceSub, Nat.reduceAdd, Nat.reduceLT, Nat.reduceLeDiff, if_true, if_false, Bool.false_eq_true, decide_eq_true_eq, Option.isSome_some, id_eq, and_true, true_and, wDisp1, gCatT, gDEm, wItems, itemT, gLenT, wChain, wSlT, gComb, wIsTup, gGcd, gFactorial, gSortTup, gSortDT, gInP, wSortKey, wSortKeyR, wDNewN, wDIxN, wDGetN, wDPutN, wDispN, wKeysN, dictN, dictNL, gDEq, gIsB]
  simp only [m_plain_2, wVar, wDNew, wDIx, wDGet, wDPut, wKeys, gSorted, dictT, dictLive, tkey, keyT, wIsi, gEqO, wKw, wCallK, wMethK, pick, wC, wBin, wTst, wUn, wNil, wCons, wArg, gTupD, gLstD, gRootD, wAndT, wOrT, wNotT, wAndV, wOrV, wNotV, wIf, wNext, wSeq, wBreak, wCont, wDrop, wRet, wRetN, wIfS, wgName, wgNil, wgCons, wgTup, wAsg, wPar, wPar3, gDict, wLcR, wTru, wDIn, truD, wLc2, lcW2, lcJ, wMaxDef, wListRg, gIn, flatD, flatL, wFroz, wTupI, wRng1, wRng2, wRng3, wEnum, wZip, wFor, wYes, wLc, wipeD, gI, gI0, gB0, gAdd, gCatR, gMul, gNeg, gEqI, gEqB, gEqS, gIsN, isNonD, wCall, wMeth, wMake, wFldS, fldD, wFld, wProp, g1, g2L, gLen, gAbs, gIntC, gStrI, gMax2, gMin2, gInts, gSum, gMaxL, gMinL, gBls, gListOf, gListOfR, gTupOf, gIx, woNo, woSome, wSl, wRev, wRevF, wBM, wBM0, gAppend, gInsert, gReverse, gExtend, gPopAt, gPop, gSetL, wSub, wAug, gIxL, wAugS, wFz, seqD, lisD, frozL, derefL, liveL, cellL, cellF, startD, List.map_cons, List.map_nil, List.length_cons, List.length_nil, List.replicate, List.cons_append, List.nil_append, List.getElem?_cons_zero, List.getElem?_cons_succ, List.getElem?_nil, List.set_cons_zero, List.set_cons_succ, Nat.reduceSub, Nat.reduceAdd, Nat.reduceLT, Nat.reduceLeDiff, if_true, if_false, Bool.false_eq_true, decide_eq_true_eq, Option.isSome_some, id_eq, and_true, true_and, wDisp1, gCatT, gDEm, wItems, itemT, gLenT, wChain, wSlT, gComb, wIsTup, gGcd, gFactorial, gSortTup, gSortDT, gInP, wSortKey, wSortKeyR, wDNewN, wDIxN, wDGetN, wDPutN, wDispN, wKeysN, dictN, dictNL, gDEq, gIsB, frmD]
  refine ⟨ts, rfl, hz, ?_⟩
  simp only [lotD, wVar, wDNew, wDIx, wDGet, wDPut, wKeys, gSorted, dictT, dictLive, tkey, keyT, wIsi, gEqO, wKw, wCallK, wMethK, pick, wC, wBin, wTst, wUn, wNil, wCons, wArg, gTupD, gLstD, gRootD, wAndT, wOrT, wNotT, wAndV, wOrV, wNotV, wIf, wNext, wSeq, wBreak, wCont, wDrop, wRet, wRetN, wIfS, wgName, wgNil, wgCons, wgTup, wAsg, wPar, wPar3, gDict, wLcR, wTru, wDIn, truD, wLc2, lcW2, lcJ, wMaxDef, wListRg, gIn, flatD, flatL, wFroz, wTupI, wRng1, wRng2, wRng3, wEnum, wZip, wFor, wYes, wLc, wipeD, gI, gI0, gB0, gAdd, gCatR, gMul, gNeg, gEqI, gEqB, gEqS, gIsN, isNonD, wCall, wMeth, wMake, wFldS, fldD, wFld, wProp, g1, g2L, gLen, gAbs, gIntC, gStrI, gMax2, gMin2, gInts, gSum, gMaxL, gMinL, gBls, gListOf, gListOfR, gTupOf, gIx, woNo, woSome, wSl, wRev, wRevF, wBM, wBM0, gAppend, gInsert, gReverse, gExtend, gPopAt, gPop, gSetL, wSub, wAug, gIxL, wAugS, wFz, seqD, lisD, frozL, derefL, liveL, cellL, cellF, startD, List.map_cons, List.map_nil, List.length_cons, List.length_nil, List.replicate, List.cons_append, List.nil_append, List.getElem?_cons_zero, List.getElem?_cons_succ, List.getElem?_nil, List.set_cons_zero, List.set_cons_succ, Nat.reduceSub, Nat.reduceAdd, Nat.reduceLT, Nat.reduceLeDiff, if_true, if_false, Bool.false_eq_true, decide_eq_true_eq, Option.isSome_some, id_eq, and_true, true_and, wDisp1, gCatT, gDEm, wItems, itemT, gLenT, wChain, wSlT, gComb, wIsTup, gGcd, gFactorial, gSortTup, gSortDT, gInP, wSortKey, wSortKeyR, wDNewN, wDIxN, wDGetN, wDPutN, wDispN, wKeysN, dictN, dictNL, gDEq, gIsB]
  refine for_by (fun i sl cs' => (∃ a b c, sl = [some (frmD ts), some (.root cs.length), a, b, c, none, none, none]) ∧ ∃ m : Tal, Tally (ts.take i) m ∧ cs' = cs ++ [.dT (talD m)]) ⟨⟨none, none, none, rfl⟩, [], .nil, rfl⟩ ?_ ?_
  · rintro i d sl cs' k1 hd ⟨⟨a, b, c, rfl⟩, m, hm, rfl⟩ q
    rw [List.getElem?_map] at hd
    cases e : ts[i]? with
    | none => rw [e] at hd; cases hd
    | some t =>
      rw [e] at hd
      cases hd
      have hi : i < ts.length := (List.getElem?_eq_some_iff.mp e).1
      have hc : (cs ++ [C.dT (talD m)])[cs.length]? = some (.dT (talD m)) := by simp
      simp only [wVar, wDNew, wDIx, wDGet, wDPut, wKeys, gSorted, dictT, dictLive, tkey, keyT, wIsi, gEqO, wKw, wCallK, wMethK, pick, wC, wBin, wTst, wUn, wNil, wCons, wArg, gTupD, gLstD, gRootD, wAndT, wOrT, wNotT, wAndV, wOrV, wNotV, wIf, wNext, wSeq, wBreak, wCont, wDrop, wRet, wRetN, wIfS, wgName, wgNil, wgCons, wgTup, wAsg, wPar, wPar3, gDict, wLcR, wTru, wDIn, truD, wLc2, lcW2, lcJ, wMaxDef, wListRg, gIn, flatD, flatL, wFroz, wTupI, wRng1, wRng2, wRng3, wEnum, wZip, wFor, wYes, wLc, wipeD, gI, gI0, gB0, gAdd, gCatR, gMul, gNeg, gEqI, gEqB, gEqS, gIsN, isNonD, wCall, wMeth, wMake, wFldS, fldD, wFld, wProp, g1, g2L, gLen, gAbs, gIntC, gStrI, gMax2, gMin2, gInts, gSum, gMaxL, gMinL, gBls, gListOf, gListOfR, gTupOf, gIx, woNo, woSome, wSl, wRev, wRevF, wBM, wBM0, gAppend, gInsert, gReverse, gExtend, gPopAt, gPop, gSetL, wSub, wAug, gIxL, wAugS, wFz, seqD, lisD, frozL, derefL, liveL, cellL, cellF, startD, List.map_cons, List.map_nil, List.length_cons, List.length_nil, List.replicate, List.cons_append, List.nil_append, List.getElem?_cons_zero, List.getElem?_cons_succ, List.getElem?_nil, List.set_cons_zero, List.set_cons_succ, Nat.reduceSub, Nat.reduceAdd, Nat.reduceLT, Nat.reduceLeDiff, if_true, if_false, Bool.false_eq_true, decide_eq_true_eq, Option.isSome_some, id_eq, and_true, true_and, wDisp1, gCatT, gDEm, wItems, itemT, gLenT, wChain, wSlT, gComb, wIsTup, gGcd, gFactorial, gSortTup, gSortDT, gInP, wSortKey, wSortKeyR, wDNewN, wDIxN, wDGetN, wDPutN, wDispN, wKeysN, dictN, dictNL, gDEq, gIsB, termD, wordD, hc, unkeys_ints]
      have ev : (valD (talD m) (wkey t.2)).getD (.int 0) = .int ((talGet m t.2).getD 0) := by
        rw [valD_tal]
        cases talGet m t.2 <;> rfl
      simp only [ev, putD_tal]
      have lm := hm.len
      rw [List.length_take] at lm
      refine ⟨szlt (by unfold talD; rw [List.length_map]; omega), q _ _ ⟨⟨_, _, _, rfl⟩, talPut m t.2 ((talGet m t.2).getD 0 + t.1), ?_, by simp⟩⟩
      rw [List.take_add_one, e]
      exact hm.put t
  · rintro sl cs' ⟨⟨a, b, c, rfl⟩, m, hm, rfl⟩
    rw [List.length_map, List.take_length] at hm
    have hc : (cs ++ [C.dT (talD m)])[cs.length]? = some (.dT (talD m)) := by simp
    simp only [m_plain_3, wVar, wDNew, wDIx, wDGet, wDPut, wKeys, gSorted, dictT, dictLive, tkey, keyT, wIsi, gEqO, wKw, wCallK, wMethK, pick, wC, wBin, wTst, wUn, wNil, wCons, wArg, gTupD, gLstD, gRootD, wAndT, wOrT, wNotT, wAndV, wOrV, wNotV, wIf, wNext, wSeq, wBreak, wCont, wDrop, wRet, wRetN, wIfS, wgName, wgNil, wgCons, wgTup, wAsg, wPar, wPar3, gDict, wLcR, wTru, wDIn, truD, wLc2, lcW2, lcJ, wMaxDef, wListRg, gIn, flatD, flatL, wFroz, wTupI, wRng1, wRng2, wRng3, wEnum, wZip, wFor, wYes, wLc, wipeD, gI, gI0, gB0, gAdd, gCatR, gMul, gNeg, gEqI, gEqB, gEqS, gIsN, isNonD, wCall, wMeth, wMake, wFldS, fldD, wFld, wProp, g1, g2L, gLen, gAbs, gIntC, gStrI, gMax2, gMin2, gInts, gSum, gMaxL, gMinL, gBls, gListOf, gListOfR, gTupOf, gIx, woNo, woSome, wSl, wRev, wRevF, wBM, wBM0, gAppend, gInsert, gReverse, gExtend, gPopAt, gPop, gSetL, wSub, wAug, gIxL, wAugS, wFz, seqD, lisD, frozL, derefL, liveL, cellL, cellF, startD, List.map_cons, List.map_nil, List.length_cons, List.length_nil, List.replicate, List.cons_append, List.nil_append, List.getElem?_cons_zero, List.getElem?_cons_succ, List.getElem?_nil, List.set_cons_zero, List.set_cons_succ, Nat.reduceSub, Nat.reduceAdd, Nat.reduceLT, Nat.reduceLeDiff, if_true, if_false, Bool.false_eq_true, decide_eq_true_eq, Option.isSome_some, id_eq, and_true, true_and, wDisp1, gCatT, gDEm, wItems, itemT, gLenT, wChain, wSlT, gComb, wIsTup, gGcd, gFactorial, gSortTup, gSortDT, gInP, wSortKey, wSortKeyR, wDNewN, wDIxN, wDGetN, wDPutN, wDispN, wKeysN, dictN, dictNL, gDEq, gIsB, hc, keyT_tal, List.length_map]
    have lm := hm.len
    have hc2 : ((cs ++ [C.dT (talD m)]).set cs.length (.zT (talD m)))[cs.length]? = some (.zT (talD m)) := List.getElem?_set_self (by simp)
    rw [List.map_map]
    refine ⟨szl (by omega), lc_fm (tupD ∘ fun x => x.1) (fun p => if p.2 ≠ 0 then some (sizD p.1) else none) m [] (fun p hp k1 k0 h1 => ?_) ?_⟩
    · have ev : valD (talD m) (wkey p.1) = some (.int p.2) := by rw [valD_tal, talGet_mem hm.nd hp]; rfl
      simp only [wVar, wDNew, wDIx, wDGet, wDPut, wKeys, gSorted, dictT, dictLive, tkey, keyT, wIsi, gEqO, wKw, wCallK, wMethK, pick, wC, wBin, wTst, wUn, wNil, wCons, wArg, gTupD, gLstD, gRootD, wAndT, wOrT, wNotT, wAndV, wOrV, wNotV, wIf, wNext, wSeq, wBreak, wCont, wDrop, wRet, wRetN, wIfS, wgName, wgNil, wgCons, wgTup, wAsg, wPar, wPar3, gDict, wLcR, wTru, wDIn, truD, wLc2, lcW2, lcJ, wMaxDef, wListRg, gIn, flatD, flatL, wFroz, wTupI, wRng1, wRng2, wRng3, wEnum, wZip, wFor, wYes, wLc, wipeD, gI, gI0, gB0, gAdd, gCatR, gMul, gNeg, gEqI, gEqB, gEqS, gIsN, isNonD, wCall, wMeth, wMake, wFldS, fldD, wFld, wProp, g1, g2L, gLen, gAbs, gIntC, gStrI, gMax2, gMin2, gInts, gSum, gMaxL, gMinL, gBls, gListOf, gListOfR, gTupOf, gIx, woNo, woSome, wSl, wRev, wRevF, wBM, wBM0, gAppend, gInsert, gReverse, gExtend, gPopAt, gPop, gSetL, wSub, wAug, gIxL, wAugS, wFz, seqD, lisD, frozL, derefL, liveL, cellL, cellF, startD, List.map_cons, List.map_nil, List.length_cons, List.length_nil, List.replicate, List.cons_append, List.nil_append, List.getElem?_cons_zero, List.getElem?_cons_succ, List.getElem?_nil, List.set_cons_zero, List.set_cons_succ, Nat.reduceSub, Nat.reduceAdd, Nat.reduceLT, Nat.reduceLeDiff, if_true, if_false, Bool.false_eq_true, decide_eq_true_eq, Option.isSome_some, id_eq, and_true, true_and, wDisp1, gCatT, gDEm, wItems, itemT, gLenT, wChain, wSlT, gComb, wIsTup, gGcd, gFactorial, gSortTup, gSortDT, gInP, wSortKey, wSortKeyR, wDNewN, wDIxN, wDGetN, wDPutN, wDispN, wKeysN, dictN, dictNL, gDEq, gIsB, Function.comp, tupD, hc2, unkeys_ints, ev]
      by_cases h : p.2 = 0
      · rw [if_neg (by simpa using h)] at h1
        simp only [wVar, wDNew, wDIx, wDGet, wDPut, wKeys, gSorted, dictT, dictLive, tkey, keyT, wIsi, gEqO, wKw, wCallK, wMethK, pick, wC, wBin, wTst, wUn, wNil, wCons, wArg, gTupD, gLstD, gRootD, wAndT, wOrT, wNotT, wAndV, wOrV, wNotV, wIf, wNext, wSeq, wBreak, wCont, wDrop, wRet, wRetN, wIfS, wgName, wgNil, wgCons, wgTup, wAsg, wPar, wPar3, gDict, wLcR, wTru, wDIn, truD, wLc2, lcW2, lcJ, wMaxDef, wListRg, gIn, flatD, flatL, wFroz, wTupI, wRng1, wRng2, wRng3, wEnum, wZip, wFor, wYes, wLc, wipeD, gI, gI0, gB0, gAdd, gCatR, gMul, gNeg, gEqI, gEqB, gEqS, gIsN, isNonD, wCall, wMeth, wMake, wFldS, fldD, wFld, wProp, g1, g2L, gLen, gAbs, gIntC, gStrI, gMax2, gMin2, gInts, gSum, gMaxL, gMinL, gBls, gListOf, gListOfR, gTupOf, gIx, woNo, woSome, wSl, wRev, wRevF, wBM, wBM0, gAppend, gInsert, gReverse, gExtend, gPopAt, gPop, gSetL, wSub, wAug, gIxL, wAugS, wFz, seqD, lisD, frozL, derefL, liveL, cellL, cellF, startD, List.map_cons, List.map_nil, List.length_cons, List.length_nil, List.replicate, List.cons_append, List.nil_append, List.getElem?_cons_zero, List.getElem?_cons_succ, List.getElem?_nil, List.set_cons_zero, List.set_cons_succ, Nat.reduceSub, Nat.reduceAdd, Nat.reduceLT, Nat.reduceLeDiff, if_true, if_false, Bool.false_eq_true, decide_eq_true_eq, Option.isSome_some, id_eq, and_true, true_and, wDisp1, gCatT, gDEm, wItems, itemT, gLenT, wChain, wSlT, gComb, wIsTup, gGcd, gFactorial, gSortTup, gSortDT, gInP, wSortKey, wSortKeyR, wDNewN, wDIxN, wDGetN, wDPutN, wDispN, wKeysN, dictN, dictNL, gDEq, gIsB, h, decide_true, Bool.not_true]
        exact h1
      · rw [if_pos h] at h1
        simp only [wVar, wDNew, wDIx, wDGet, wDPut, wKeys, gSorted, dictT, dictLive, tkey, keyT, wIsi, gEqO, wKw, wCallK, wMethK, pick, wC, wBin, wTst, wUn, wNil, wCons, wArg, gTupD, gLstD, gRootD, wAndT, wOrT, wNotT, wAndV, wOrV, wNotV, wIf, wNext, wSeq, wBreak, wCont, wDrop, wRet, wRetN, wIfS, wgName, wgNil, wgCons, wgTup, wAsg, wPar, wPar3, gDict, wLcR, wTru, wDIn, truD, wLc2, lcW2, lcJ, wMaxDef, wListRg, gIn, flatD, flatL, wFroz, wTupI, wRng1, wRng2, wRng3, wEnum, wZip, wFor, wYes, wLc, wipeD, gI, gI0, gB0, gAdd, gCatR, gMul, gNeg, gEqI, gEqB, gEqS, gIsN, isNonD, wCall, wMeth, wMake, wFldS, fldD, wFld, wProp, g1, g2L, gLen, gAbs, gIntC, gStrI, gMax2, gMin2, gInts, gSum, gMaxL, gMinL, gBls, gListOf, gListOfR, gTupOf, gIx, woNo, woSome, wSl, wRev, wRevF, wBM, wBM0, gAppend, gInsert, gReverse, gExtend, gPopAt, gPop, gSetL, wSub, wAug, gIxL, wAugS, wFz, seqD, lisD, frozL, derefL, liveL, cellL, cellF, startD, List.map_cons, List.map_nil, List.length_cons, List.length_nil, List.replicate, List.cons_append, List.nil_append, List.getElem?_cons_zero, List.getElem?_cons_succ, List.getElem?_nil, List.set_cons_zero, List.set_cons_succ, Nat.reduceSub, Nat.reduceAdd, Nat.reduceLT, Nat.reduceLeDiff, if_true, if_false, Bool.false_eq_true, decide_eq_true_eq, Option.isSome_some, id_eq, and_true, true_and, wDisp1, gCatT, gDEm, wItems, itemT, gLenT, wChain, wSlT, gComb, wIsTup, gGcd, gFactorial, gSortTup, gSortDT, gInP, wSortKey, wSortKeyR, wDNewN, wDIxN, wDGetN, wDPutN, wDispN, wKeysN, dictN, dictNL, gDEq, gIsB, decide_eq_false h, Bool.not_false, List.length_map]
        exact ⟨szl (by decide), h1⟩
    · have e1 : m.filterMap (fun p => if p.2 ≠ 0 then some (sizD p.1) else none) = (talWords m).map sizD := by
        unfold talWords
        rw [List.map_filterMap]
        refine congrArg (fun f => List.filterMap f m) (funext fun p => ?_)
        by_cases h : p.2 = 0
        · rw [if_neg (by simpa using h), if_neg (by simpa using h)]; rfl
        · rw [if_pos h, if_pos h]; rfl
      simp only [List.nil_append, e1, pyAll_siz, sorted_siz]
      obtain ⟨s1, s2, s3⟩ := siz_alike (talWords m)
      refine ⟨s1, s2, s3, ?_⟩
      have pl := hm.plain
      have mw : ∀ w ∈ (talWords m).mergeSort wle, ∃ c, (w, c) ∈ m := fun w hw => by
        have := (List.mergeSort_perm _ _).mem_iff.mp hw
        unfold talWords at this
        obtain ⟨p, h1, h2⟩ := List.mem_filterMap.mp this
        split at h2
        · cases h2; exact ⟨p.2, h1⟩
        · cases h2
      simp only [m_plain_4, wVar, wDNew, wDIx, wDGet, wDPut, wKeys, gSorted, dictT, dictLive, tkey, keyT, wIsi, gEqO, wKw, wCallK, wMethK, pick, wC, wBin, wTst, wUn, wNil, wCons, wArg, gTupD, gLstD, gRootD, wAndT, wOrT, wNotT, wAndV, wOrV, wNotV, wIf, wNext, wSeq, wBreak, wCont, wDrop, wRet, wRetN, wIfS, wgName, wgNil, wgCons, wgTup, wAsg, wPar, wPar3, gDict, wLcR, wTru, wDIn, truD, wLc2, lcW2, lcJ, wMaxDef, wListRg, gIn, flatD, flatL, wFroz, wTupI, wRng1, wRng2, wRng3, wEnum, wZip, wFor, wYes, wLc, wipeD, gI, gI0, gB0, gAdd, gCatR, gMul, gNeg, gEqI, gEqB, gEqS, gIsN, isNonD, wCall, wMeth, wMake, wFldS, fldD, wFld, wProp, g1, g2L, gLen, gAbs, gIntC, gStrI, gMax2, gMin2, gInts, gSum, gMaxL, gMinL, gBls, gListOf, gListOfR, gTupOf, gIx, woNo, woSome, wSl, wRev, wRevF, wBM, wBM0, gAppend, gInsert, gReverse, gExtend, gPopAt, gPop, gSetL, wSub, wAug, gIxL, wAugS, wFz, seqD, lisD, frozL, derefL, liveL, cellL, cellF, startD, List.map_cons, List.map_nil, List.length_cons, List.length_nil, List.replicate, List.cons_append, List.nil_append, List.getElem?_cons_zero, List.getElem?_cons_succ, List.getElem?_nil, List.set_cons_zero, List.set_cons_succ, Nat.reduceSub, Nat.reduceAdd, Nat.reduceLT, Nat.reduceLeDiff, if_true, if_false, Bool.false_eq_true, decide_eq_true_eq, Option.isSome_some, id_eq, and_true, true_and, wDisp1, gCatT, gDEm, wItems, itemT, gLenT, wChain, wSlT, gComb, wIsTup, gGcd, gFactorial, gSortTup, gSortDT, gInP, wSortKey, wSortKeyR, wDNewN, wDIxN, wDGetN, wDPutN, wDispN, wKeysN, dictN, dictNL, gDEq, gIsB, List.length_map]
      have lw : ((talWords m).mergeSort wle).length ≤ 1000000 := by
        rw [List.length_mergeSort]
        unfold talWords
        have := List.length_filterMap_le (fun p : List Int × Int => if p.2 ≠ 0 then some p.1 else none) m
        omega
      refine ⟨szl (by omega), lc_map sizD (fun w => termD ((talGet m w).getD 0, w)) ((talWords m).mergeSort wle) (fun w hw k1 h1 => ?_) ?_⟩
      · obtain ⟨c, hc⟩ := mw w hw
        have ev : valD (talD m) (wkey w) = some (.int ((talGet m w).getD 0)) := by rw [valD_tal, talGet_mem hm.nd hc]; rfl
        simp only [wVar, wDNew, wDIx, wDGet, wDPut, wKeys, gSorted, dictT, dictLive, tkey, keyT, wIsi, gEqO, wKw, wCallK, wMethK, pick, wC, wBin, wTst, wUn, wNil, wCons, wArg, gTupD, gLstD, gRootD, wAndT, wOrT, wNotT, wAndV, wOrV, wNotV, wIf, wNext, wSeq, wBreak, wCont, wDrop, wRet, wRetN, wIfS, wgName, wgNil, wgCons, wgTup, wAsg, wPar, wPar3, gDict, wLcR, wTru, wDIn, truD, wLc2, lcW2, lcJ, wMaxDef, wListRg, gIn, flatD, flatL, wFroz, wTupI, wRng1, wRng2, wRng3, wEnum, wZip, wFor, wYes, wLc, wipeD, gI, gI0, gB0, gAdd, gCatR, gMul, gNeg, gEqI, gEqB, gEqS, gIsN, isNonD, wCall, wMeth, wMake, wFldS, fldD, wFld, wProp, g1, g2L, gLen, gAbs, gIntC, gStrI, gMax2, gMin2, gInts, gSum, gMaxL, gMinL, gBls, gListOf, gListOfR, gTupOf, gIx, woNo, woSome, wSl, wRev, wRevF, wBM, wBM0, gAppend, gInsert, gReverse, gExtend, gPopAt, gPop, gSetL, wSub, wAug, gIxL, wAugS, wFz, seqD, lisD, frozL, derefL, liveL, cellL, cellF, startD, List.map_cons, List.map_nil, List.length_cons, List.length_nil, List.replicate, List.cons_append, List.nil_append, List.getElem?_cons_zero, List.getElem?_cons_succ, List.getElem?_nil, List.set_cons_zero, List.set_cons_succ, Nat.reduceSub, Nat.reduceAdd, Nat.reduceLT, Nat.reduceLeDiff, if_true, if_false, Bool.false_eq_true, decide_eq_true_eq, Option.isSome_some, id_eq, and_true, true_and, wDisp1, gCatT, gDEm, wItems, itemT, gLenT, wChain, wSlT, gComb, wIsTup, gGcd, gFactorial, gSortTup, gSortDT, gInP, wSortKey, wSortKeyR, wDNewN, wDIxN, wDGetN, wDPutN, wDispN, wKeysN, dictN, dictNL, gDEq, gIsB, sizD, tupD, hc2, unkeys_ints, ev]
        exact ⟨szl (by decide), h1⟩
      · have e3 : ((talWords m).mergeSort wle).map (fun w => termD ((talGet m w).getD 0, w)) = (((talWords m).mergeSort wle).map fun w => ((talGet m w).getD 0, w)).map termD := by rw [List.map_map]; rfl
        rw [e3]
        refine make_frm (by rw [List.length_map]; exact lw) (fun t ht => ?_) fun cs' h => k _ cs' pl ?_
        · obtain ⟨w, hw, rfl⟩ := List.mem_map.mp ht
          obtain ⟨c, hc⟩ := mw w hw
          obtain ⟨u, h1, h2⟩ := hm.key w (List.mem_map.mpr ⟨_, hc, rfl⟩)
          have := hl u h1
          rw [h2] at this
          exact this
        · refine Ke.trans ⟨?_, fun i hi => ?_⟩ h
          · simp
          · rw [List.getElem?_set_ne (by omega), List.getElem?_append_left hi]

def S_are_alike : SD := fun ds cs Q _ => ∃ ts us : Lot, ds = [frmD ts, frmD us] ∧ (ts.length ≤ 1000000 ∧ ∀ t ∈ ts, t.2.length ≤ 1000000 ∧ ∀ l ∈ t.2, 0 ≤ l) ∧ (us.length ≤ 1000000 ∧ ∀ t ∈ us, t.2.length ≤ 1000000 ∧ ∀ l ∈ t.2, 0 ≤ l) ∧
  ∀ (b : Bool) cs', (b = true ↔ ∀ w, coef ts w = coef us w) → Ke cs cs' → Q (.bl b) cs'
theorem len_are_alike : ∀ ds cs Q X', S_are_alike ds cs Q X' → ds.length = 2 := by
  rintro ds cs Q X' ⟨w, r, rfl, _⟩
  rfl
def m_are_alike : WS :=
  (wRet (wBin (gEqO id 0 S_Formula___eq) (wCall S_plain (wCons (wVar 0) wNil)) (wCall S_plain (wCons (wVar 1) wNil))))
theorem body_are_alike : Body S_are_alike m_are_alike 2 := by
  rintro ds cs Q X' ⟨ts, us, rfl, ⟨t1, t2⟩, ⟨u1, u2⟩, k⟩
  simp only [m_are_alike, wVar, wDNew, wDIx, wDGet, wDPut, wKeys, gSorted, dictT, dictLive, tkey, keyT, wIsi, gEqO, wKw, wCallK, wMethK, pick, wC, wBin, wTst, wUn, wNil, wCons, wArg, gTupD, gLstD, gRootD, wAndT, wOrT, wNotT, wAndV, wOrV, wNotV, wIf, wNext, wSeq, wBreak, wCont, wDrop, wRet, wRetN, wIfS, wgName, wgNil, wgCons, wgTup, wAsg, wPar, wPar3, gDict, wLcR, wTru, wDIn, truD, wLc2, lcW2, lcJ, wMaxDef, wListRg, gIn, flatD, flatL, wFroz, wTupI, wRng1, wRng2, wRng3, wEnum, wZip, wFor, wYes, wLc, wipeD, gI, gI0, gB0, gAdd, gCatR, gMul, gNeg, gEqI, gEqB, gEqS, gIsN, isNonD, wCall, wMeth, wMake, wFldS, fldD, wFld, wProp, g1, g2L, gLen, gAbs, gIntC, gStrI, gMax2, gMin2, gInts, gSum, gMaxL, gMinL, gBls, gListOf, gListOfR, gTupOf, gIx, woNo, woSome, wSl, wRev, wRevF, wBM, wBM0, gAppend, gInsert, gReverse, gExtend, gPopAt, gPop, gSetL, wSub, wAug, gIxL, wAugS, wFz, seqD, lisD, frozL, derefL, liveL, cellL, cellF, startD, List.map_cons, List.map_nil, List.length_cons, List.length_nil, List.replicate, List.cons_append, List.nil_append, List.getElem?_cons_zero, List.getElem?_cons_succ, List.getElem?_nil, List.set_cons_zero, List.set_cons_succ, Nat.reduceSub, Nat.reduceAdd, Nat.reduceLT, Nat.reduceLeDiff, if_true, if_false, Bool.false_eq_true, decide_eq_true_eq, Option.isSome_some, id_eq, and_true, true_and, wDisp1, gCatT, gDEm, wItems, itemT, gLenT, wChain, wSlT, gComb, wIsTup, gGcd, gFactorial, gSortTup, gSortDT, gInP, wSortKey, wSortKeyR, wDNewN, wDIxN, wDGetN, wDPutN, wDispN, wKeysN, dictN, dictNL, gDEq, gIsB, frmD]
  refine ⟨ts, rfl, t1, t2, fun ps cs1 hp h1 => ?_⟩
  simp only [wVar, wDNew, wDIx, wDGet, wDPut, wKeys, gSorted, dictT, dictLive, tkey, keyT, wIsi, gEqO, wKw, wCallK, wMethK, pick, wC, wBin, wTst, wUn, wNil, wCons, wArg, gTupD, gLstD, gRootD, wAndT, wOrT, wNotT, wAndV, wOrV, wNotV, wIf, wNext, wSeq, wBreak, wCont, wDrop, wRet, wRetN, wIfS, wgName, wgNil, wgCons, wgTup, wAsg, wPar, wPar3, gDict, wLcR, wTru, wDIn, truD, wLc2, lcW2, lcJ, wMaxDef, wListRg, gIn, flatD, flatL, wFroz, wTupI, wRng1, wRng2, wRng3, wEnum, wZip, wFor, wYes, wLc, wipeD, gI, gI0, gB0, gAdd, gCatR, gMul, gNeg, gEqI, gEqB, gEqS, gIsN, isNonD, wCall, wMeth, wMake, wFldS, fldD, wFld, wProp, g1, g2L, gLen, gAbs, gIntC, gStrI, gMax2, gMin2, gInts, gSum, gMaxL, gMinL, gBls, gListOf, gListOfR, gTupOf, gIx, woNo, woSome, wSl, wRev, wRevF, wBM, wBM0, gAppend, gInsert, gReverse, gExtend, gPopAt, gPop, gSetL, wSub, wAug, gIxL, wAugS, wFz, seqD, lisD, frozL, derefL, liveL, cellL, cellF, startD, List.map_cons, List.map_nil, List.length_cons, List.length_nil, List.replicate, List.cons_append, List.nil_append, List.getElem?_cons_zero, List.getElem?_cons_succ, List.getElem?_nil, List.set_cons_zero, List.set_cons_succ, Nat.reduceSub, Nat.reduceAdd, Nat.reduceLT, Nat.reduceLeDiff, if_true, if_false, Bool.false_eq_true, decide_eq_true_eq, Option.isSome_some, id_eq, and_true, true_and, wDisp1, gCatT, gDEm, wItems, itemT, gLenT, wChain, wSlT, gComb, wIsTup, gGcd, gFactorial, gSortTup, gSortDT, gInP, wSortKey, wSortKeyR, wDNewN, wDIxN, wDGetN, wDPutN, wDispN, wKeysN, dictN, dictNL, gDEq, gIsB, frmD]
  refine ⟨us, rfl, u1, u2, fun qs cs2 hq h2 => ?_⟩
  simp only [wVar, wDNew, wDIx, wDGet, wDPut, wKeys, gSorted, dictT, dictLive, tkey, keyT, wIsi, gEqO, wKw, wCallK, wMethK, pick, wC, wBin, wTst, wUn, wNil, wCons, wArg, gTupD, gLstD, gRootD, wAndT, wOrT, wNotT, wAndV, wOrV, wNotV, wIf, wNext, wSeq, wBreak, wCont, wDrop, wRet, wRetN, wIfS, wgName, wgNil, wgCons, wgTup, wAsg, wPar, wPar3, gDict, wLcR, wTru, wDIn, truD, wLc2, lcW2, lcJ, wMaxDef, wListRg, gIn, flatD, flatL, wFroz, wTupI, wRng1, wRng2, wRng3, wEnum, wZip, wFor, wYes, wLc, wipeD, gI, gI0, gB0, gAdd, gCatR, gMul, gNeg, gEqI, gEqB, gEqS, gIsN, isNonD, wCall, wMeth, wMake, wFldS, fldD, wFld, wProp, g1, g2L, gLen, gAbs, gIntC, gStrI, gMax2, gMin2, gInts, gSum, gMaxL, gMinL, gBls, gListOf, gListOfR, gTupOf, gIx, woNo, woSome, wSl, wRev, wRevF, wBM, wBM0, gAppend, gInsert, gReverse, gExtend, gPopAt, gPop, gSetL, wSub, wAug, gIxL, wAugS, wFz, seqD, lisD, frozL, derefL, liveL, cellL, cellF, startD, List.map_cons, List.map_nil, List.length_cons, List.length_nil, List.replicate, List.cons_append, List.nil_append, List.getElem?_cons_zero, List.getElem?_cons_succ, List.getElem?_nil, List.set_cons_zero, List.set_cons_succ, Nat.reduceSub, Nat.reduceAdd, Nat.reduceLT, Nat.reduceLeDiff, if_true, if_false, Bool.false_eq_true, decide_eq_true_eq, Option.isSome_some, id_eq, and_true, true_and, wDisp1, gCatT, gDEm, wItems, itemT, gLenT, wChain, wSlT, gComb, wIsTup, gGcd, gFactorial, gSortTup, gSortDT, gInP, wSortKey, wSortKeyR, wDNewN, wDIxN, wDGetN, wDPutN, wDispN, wKeysN, dictN, dictNL, gDEq, gIsB, frmD]
  refine ⟨ps, qs, rfl, ?_⟩
  simp only [wVar, wDNew, wDIx, wDGet, wDPut, wKeys, gSorted, dictT, dictLive, tkey, keyT, wIsi, gEqO, wKw, wCallK, wMethK, pick, wC, wBin, wTst, wUn, wNil, wCons, wArg, gTupD, gLstD, gRootD, wAndT, wOrT, wNotT, wAndV, wOrV, wNotV, wIf, wNext, wSeq, wBreak, wCont, wDrop, wRet, wRetN, wIfS, wgName, wgNil, wgCons, wgTup, wAsg, wPar, wPar3, gDict, wLcR, wTru, wDIn, truD, wLc2, lcW2, lcJ, wMaxDef, wListRg, gIn, flatD, flatL, wFroz, wTupI, wRng1, wRng2, wRng3, wEnum, wZip, wFor, wYes, wLc, wipeD, gI, gI0, gB0, gAdd, gCatR, gMul, gNeg, gEqI, gEqB, gEqS, gIsN, isNonD, wCall, wMeth, wMake, wFldS, fldD, wFld, wProp, g1, g2L, gLen, gAbs, gIntC, gStrI, gMax2, gMin2, gInts, gSum, gMaxL, gMinL, gBls, gListOf, gListOfR, gTupOf, gIx, woNo, woSome, wSl, wRev, wRevF, wBM, wBM0, gAppend, gInsert, gReverse, gExtend, gPopAt, gPop, gSetL, wSub, wAug, gIxL, wAugS, wFz, seqD, lisD, frozL, derefL, liveL, cellL, cellF, startD, List.map_cons, List.map_nil, List.length_cons, List.length_nil, List.replicate, List.cons_append, List.nil_append, List.getElem?_cons_zero, List.getElem?_cons_succ, List.getElem?_nil, List.set_cons_zero, List.set_cons_succ, Nat.reduceSub, Nat.reduceAdd, Nat.reduceLT, Nat.reduceLeDiff, if_true, if_false, Bool.false_eq_true, decide_eq_true_eq, Option.isSome_some, id_eq, and_true, true_and, wDisp1, gCatT, gDEm, wItems, itemT, gLenT, wChain, wSlT, gComb, wIsTup, gGcd, gFactorial, gSortTup, gSortDT, gInP, wSortKey, wSortKeyR, wDNewN, wDIxN, wDGetN, wDPutN, wDispN, wKeysN, dictN, dictNL, gDEq, gIsB]
  exact k _ _ (by rw [decide_eq_true_iff]; exact hp.iff hq) (h1.trans h2)

/-! ### two formulas with the same values on all rows have the same coefficients -/
theorem val_cons (t : Int × List Int) (ts : Lot) (r : List Int) : val (t :: ts) r = t.1 * ws t.2 r + val ts r := by
  unfold val; rw [List.map_cons, List.sum_cons]
theorem val_app (ts us : Lot) (r : List Int) : val (ts ++ us) r = val ts r + val us r := by
  unfold val; rw [List.map_append, List.sum_append]
theorem coef_cons (t : Int × List Int) (ts : Lot) (w : List Int) : coef (t :: ts) w = (if t.2 = w then t.1 else 0) + coef ts w := by
  unfold coef; rw [List.map_cons, List.sum_cons]
theorem coef_app (ts us : Lot) (w : List Int) : coef (ts ++ us) w = coef ts w + coef us w := by
  unfold coef; rw [List.map_append, List.sum_append]
def pev (f : Nat → Int) : Nat → Int → Int
  | 0, _ => 0
  | n + 1, v => f 0 + v * pev (fun l => f (l + 1)) n v
theorem pev_zero : ∀ (n N : Nat) (f : Nat → Int), (∀ v : Int, (N : Int) < v → pev f n v = 0) → ∀ l, l < n → f l = 0
  | 0, _, _, _, l, h => by omega
  | n + 1, N, f, h, l, hl => by
    have h0 : f 0 = 0 := by
      have h1 := h ((N : Int) + (f 0).natAbs + 1) (by omega)
      have h1 : f 0 + ((N : Int) + (f 0).natAbs + 1) * pev (fun l => f (l + 1)) n ((N : Int) + (f 0).natAbs + 1) = 0 := h1
      generalize pev (fun l => f (l + 1)) n ((N : Int) + (f 0).natAbs + 1) = q at h1
      by_cases hq : q = 0
      · rw [hq, Int.mul_zero] at h1; omega
      · have e : (f 0).natAbs = ((N : Int) + (f 0).natAbs + 1).natAbs * q.natAbs := by
          have e1 : f 0 = -(((N : Int) + (f 0).natAbs + 1) * q) := by omega
          have e2 := congrArg Int.natAbs e1
          rwa [Int.natAbs_neg, Int.natAbs_mul] at e2
        have q1 : 1 ≤ q.natAbs := by omega
        have := Nat.mul_le_mul_left ((N : Int) + (f 0).natAbs + 1).natAbs q1
        omega
    cases l with
    | zero => exact h0
    | succ l =>
      refine pev_zero n N (fun l => f (l + 1)) (fun v hv => ?_) l (by omega)
      have h1 : f 0 + v * pev (fun l => f (l + 1)) n v = 0 := h v hv
      rw [h0, Int.zero_add] at h1
      rcases Int.mul_eq_zero.mp h1 with z | z
      · omega
      · exact z
theorem pev_add (v : Int) : ∀ (n : Nat) (f g : Nat → Int), pev (fun l => f l + g l) n v = pev f n v + pev g n v
  | 0, _, _ => rfl
  | n + 1, f, g => by
    show f 0 + g 0 + v * pev (fun l => f (l + 1) + g (l + 1)) n v = f 0 + v * pev (fun l => f (l + 1)) n v + (g 0 + v * pev (fun l => g (l + 1)) n v)
    rw [pev_add v n (fun l => f (l + 1)) fun l => g (l + 1), Int.mul_add]
    omega
theorem pev_z (v : Int) : ∀ (n : Nat), pev (fun _ => 0) n v = 0
  | 0 => rfl
  | n + 1 => by
    show 0 + v * pev (fun _ => 0) n v = 0
    rw [pev_z v n]; simp
theorem pev_one (v c : Int) : ∀ (n k : Nat), k < n → pev (fun l => if l = k then c else 0) n v = c * v ^ k
  | 0, k, h => by omega
  | n + 1, 0, h => by
    show (if 0 = 0 then c else 0) + v * pev (fun l => if l + 1 = 0 then c else 0) n v = c * v ^ 0
    have : pev (fun l => if l + 1 = 0 then c else 0) n v = 0 := by
      have e : (fun l : Nat => if l + 1 = 0 then c else 0) = fun _ => 0 := funext fun l => if_neg (by omega)
      rw [e, pev_z]
    rw [this]; simp
  | n + 1, k + 1, h => by
    show (if 0 = k + 1 then c else 0) + v * pev (fun l => if l + 1 = k + 1 then c else 0) n v = c * v ^ (k + 1)
    have e : (fun l : Nat => if l + 1 = k + 1 then c else 0) = fun l => if l = k then c else 0 := funext fun l => by
      by_cases q : l = k
      · rw [if_pos (by omega), if_pos q]
      · rw [if_neg (by omega), if_neg q]
    rw [if_neg (by omega), e, pev_one v c n k (by omega), Int.pow_succ, Int.zero_add, Int.mul_left_comm, Int.mul_comm v]
/-- the terms whose words begin with l, without it -/
def dl (l : Nat) : Lot → Lot
  | [] => []
  | (c, []) :: ts => dl l ts
  | (c, k :: w) :: ts => if k.toNat = l then (c, w) :: dl l ts else dl l ts
theorem dl_val (v : Int) (r : List Int) (n : Nat) : ∀ (ts : Lot), (∀ t ∈ ts, ∀ l ∈ t.2, l.toNat < n) → val ts (v :: r) = val ts r + pev (fun l => val (dl l ts) r) n v
  | [], _ => by
    show (0 : Int) = 0 + pev (fun _ => 0) n v
    rw [pev_z]; rfl
  | (c, []) :: ts, h => by
    rw [val_cons, val_cons, dl_val v r n ts fun t ht => h t (List.mem_cons_of_mem _ ht), ws_nil, ws_nil]
    show c * 1 + (val ts r + _) = c * 1 + val ts r + _
    rw [Int.add_assoc]; rfl
  | (c, k :: w) :: ts, h => by
    have hk := h _ List.mem_cons_self k List.mem_cons_self
    have e : (fun l => val (dl l ((c, k :: w) :: ts)) r) = fun l => (if l = k.toNat then c * ws w r else 0) + val (dl l ts) r := funext fun l => by
      by_cases q : l = k.toNat
      · rw [if_pos q]
        show val (if k.toNat = l then (c, w) :: dl l ts else dl l ts) r = _
        rw [if_pos q.symm, val_cons]
      · rw [if_neg q]
        show val (if k.toNat = l then (c, w) :: dl l ts else dl l ts) r = _
        rw [if_neg fun z => q z.symm, Int.zero_add]
    rw [e, pev_add, pev_one v _ n _ hk, val_cons, val_cons, dl_val v r n ts fun t ht => h t (List.mem_cons_of_mem _ ht)]
    show c * (v ^ k.toNat * ws w r + ws (k :: w) r) + _ = _
    rw [Int.mul_add, Int.mul_comm (v ^ k.toNat), ← Int.mul_assoc]
    show _ = c * ws (k :: w) r + val ts r + (c * ws w r * v ^ k.toNat + _)
    omega
def Nn (ts : Lot) : Prop := ∀ t ∈ ts, ∀ l ∈ t.2, 0 ≤ l
theorem Nn.tail {t : Int × List Int} {ts : Lot} (h : Nn (t :: ts)) : Nn ts := fun u hu => h u (List.mem_cons_of_mem _ hu)
theorem dl_nn (l : Nat) : ∀ (ts : Lot), Nn ts → Nn (dl l ts)
  | [], h => h
  | (c, []) :: ts, h => dl_nn l ts h.tail
  | (c, k :: w) :: ts, h => by
    have ih := dl_nn l ts h.tail
    show Nn (if k.toNat = l then (c, w) :: dl l ts else dl l ts)
    split
    · intro t ht
      rcases List.mem_cons.mp ht with q | q
      · subst q; exact fun x hx => h _ List.mem_cons_self x (List.mem_cons_of_mem _ hx)
      · exact ih t q
    · exact ih
theorem dl_coef (k : Int) (hk : 0 ≤ k) (w : List Int) : ∀ (ts : Lot), Nn ts → coef ts (k :: w) = coef (dl k.toNat ts) w
  | [], _ => rfl
  | (c, []) :: ts, h => by
    rw [coef_cons, if_neg (by simp), Int.zero_add]
    exact dl_coef k hk w ts h.tail
  | (c, l :: u) :: ts, h => by
    have hl := h _ List.mem_cons_self l List.mem_cons_self
    rw [coef_cons, dl_coef k hk w ts h.tail]
    show _ = coef (if l.toNat = k.toNat then (c, u) :: dl k.toNat ts else dl k.toNat ts) w
    by_cases e : l = k
    · subst e
      rw [if_pos rfl, coef_cons]
      congr 1
      by_cases q : u = w
      · simp [q]
      · simp [q]
    · rw [if_neg (by omega : ¬ l.toNat = k.toNat), if_neg (by simp [e]), Int.zero_add]
theorem bound_ex : ∀ (ts : Lot), ∃ n : Nat, ∀ t ∈ ts, ∀ l ∈ t.2, l.toNat < n
  | [] => ⟨0, by simp⟩
  | t :: ts => by
    obtain ⟨n, h⟩ := bound_ex ts
    have : ∀ w : List Int, ∃ m : Nat, ∀ l ∈ w, l.toNat < m := fun w => by
      induction w with
      | nil => exact ⟨0, by simp⟩
      | cons a w ih =>
        obtain ⟨m, hm⟩ := ih
        exact ⟨max m (a.toNat + 1), fun l hl => by
          rcases List.mem_cons.mp hl with q | q
          · subst q; omega
          · have := hm l q; omega⟩
    obtain ⟨m, hm⟩ := this t.2
    exact ⟨max n m, fun u hu l hl => by
      rcases List.mem_cons.mp hu with q | q
      · subst q; have := hm l hl; omega
      · have := h u q l hl; omega⟩
theorem sep0 : ∀ (w : List Int) (ts : Lot), Nn ts → (∀ r, val ts r = 0) → coef ts w = 0
  | [], ts, _, hv => by
    rw [← hv []]
    unfold coef val
    refine congrArg List.sum (List.map_congr_left fun t _ => ?_)
    by_cases e : t.2 = []
    · rw [if_pos e, e, ws_nil, Int.mul_one]
    · rw [if_neg e, ws_nil_right e, Int.mul_zero]
  | k :: w, ts, hn, hv => by
    by_cases hk : 0 ≤ k
    · rw [dl_coef k hk w ts hn]
      refine sep0 w _ (dl_nn _ ts hn) fun r => ?_
      obtain ⟨n, hb⟩ := bound_ex ts
      by_cases hkn : k.toNat < n
      · refine pev_zero n 0 (fun l => val (dl l ts) r) (fun v _ => ?_) k.toNat hkn
        have := dl_val v r n ts hb
        rw [hv, hv, Int.zero_add] at this
        exact this.symm
      · have : ∀ us : Lot, (∀ t ∈ us, ∀ l ∈ t.2, l.toNat < n) → dl k.toNat us = [] := fun us => by
          induction us with
          | nil => intro _; rfl
          | cons t us ih =>
            intro h
            have ih := ih fun u hu => h u (List.mem_cons_of_mem _ hu)
            obtain ⟨c, w⟩ := t
            cases w with
            | nil => exact ih
            | cons l w =>
              have := h _ List.mem_cons_self l List.mem_cons_self
              show (if l.toNat = k.toNat then (c, w) :: dl k.toNat us else dl k.toNat us) = []
              rw [if_neg (by omega), ih]
        rw [this ts hb]
        rfl
    · have : ∀ us : Lot, Nn us → coef us (k :: w) = 0 := fun us => by
        induction us with
        | nil => intro _; rfl
        | cons t us ih =>
          intro h
          rw [coef_cons, ih h.tail, if_neg]
          · rfl
          · intro e
            have := h t List.mem_cons_self k (by rw [e]; exact List.mem_cons_self)
            exact hk this
      exact this ts hn
def sclL (c : Int) (ts : Lot) : Lot := ts.map fun t => (t.1 * c, t.2)
theorem val_scl (c : Int) (r : List Int) : ∀ ts : Lot, val (sclL c ts) r = c * val ts r
  | [] => by show (0 : Int) = c * 0; simp
  | t :: ts => by
    show val ((t.1 * c, t.2) :: sclL c ts) r = _
    rw [val_cons, val_cons, val_scl c r ts, Int.mul_add, Int.mul_comm t.1 c, Int.mul_assoc]
theorem coef_scl (c : Int) (w : List Int) : ∀ ts : Lot, coef (sclL c ts) w = c * coef ts w
  | [] => by show (0 : Int) = c * 0; simp
  | t :: ts => by
    show coef ((t.1 * c, t.2) :: sclL c ts) w = _
    rw [coef_cons, coef_cons, coef_scl c w ts, Int.mul_add]
    by_cases e : t.2 = w
    · simp only [if_pos e]; rw [Int.mul_comm]
    · simp only [if_neg e]; rw [Int.mul_zero]
theorem sep {ts us : Lot} (h1 : Nn ts) (h2 : Nn us) (h : ∀ r, val ts r = val us r) (w : List Int) : coef ts w = coef us w := by
  have h3 : Nn (ts ++ sclL (-1) us) := fun t ht => by
    rcases List.mem_append.mp ht with q | q
    · exact h1 t q
    · obtain ⟨u, hu, rfl⟩ := List.mem_map.mp q
      exact h2 u hu
  have := sep0 w _ h3 fun r => by rw [val_app, val_scl, h r]; omega
  rw [coef_app, coef_scl] at this
  omega
/-! ### rows put together, rows the other way about -/
def cv : List Int → (List Int → List Int → Int) → Int
  | [], f => f [] []
  | l :: w, f => f [] (l :: w) + cv w fun x y => f (l :: x) y
theorem cv_congr : ∀ (w : List Int) (f g : List Int → List Int → Int), (∀ x y, x ++ y = w → f x y = g x y) → cv w f = cv w g
  | [], f, g, h => h [] [] rfl
  | l :: w, f, g, h => by
    show f [] (l :: w) + cv w (fun x y => f (l :: x) y) = g [] (l :: w) + cv w fun x y => g (l :: x) y
    rw [h [] (l :: w) rfl, cv_congr w _ _ fun x y e => h (l :: x) y (by rw [List.cons_append, e])]
theorem cv_add : ∀ (w : List Int) (f g : List Int → List Int → Int), cv w (fun x y => f x y + g x y) = cv w f + cv w g
  | [], _, _ => rfl
  | l :: w, f, g => by
    show f [] (l :: w) + g [] (l :: w) + cv w (fun x y => f (l :: x) y + g (l :: x) y) = f [] (l :: w) + cv w (fun x y => f (l :: x) y) + (g [] (l :: w) + cv w fun x y => g (l :: x) y)
    rw [cv_add w (fun x y => f (l :: x) y) fun x y => g (l :: x) y]; omega
theorem cv_mul (c : Int) : ∀ (w : List Int) (f : List Int → List Int → Int), cv w (fun x y => c * f x y) = c * cv w f
  | [], _ => rfl
  | l :: w, f => by
    show c * f [] (l :: w) + cv w (fun x y => c * f (l :: x) y) = c * (f [] (l :: w) + cv w fun x y => f (l :: x) y)
    rw [cv_mul c w, Int.mul_add]
theorem cv_zero : ∀ (w : List Int) (f : List Int → List Int → Int), (∀ x y, f x y = 0) → cv w f = 0
  | [], f, h => h [] []
  | l :: w, f, h => by
    show f [] (l :: w) + cv w (fun x y => f (l :: x) y) = 0
    rw [h, cv_zero w _ fun x y => h _ _]; rfl
theorem ws_app : ∀ (a w r : List Int), ws w (a ++ r) = cv w fun x y => ws x a * ws y r
  | a, [], r => by rw [ws_nil]; show 1 = ws [] a * ws [] r; rw [ws_nil, ws_nil]; rfl
  | [], l :: w, r => by
    show ws (l :: w) r = ws [] [] * ws (l :: w) r + cv w fun x y => ws (l :: x) [] * ws y r
    rw [cv_zero w _ fun x y => by show 0 * _ = (0 : Int); exact Int.zero_mul _]
    show _ = 1 * _ + 0
    omega
  | v :: a, l :: w, r => by
    have h1 := ws_app a w r
    have h2 := ws_app a (l :: w) r
    show v ^ l.toNat * ws w (a ++ r) + ws (l :: w) (a ++ r) = ws [] (v :: a) * ws (l :: w) r + cv w fun x y => ws (l :: x) (v :: a) * ws y r
    have e : cv w (fun x y => ws (l :: x) (v :: a) * ws y r) = v ^ l.toNat * cv w (fun x y => ws x a * ws y r) + cv w fun x y => ws (l :: x) a * ws y r := by
      rw [← cv_mul, ← cv_add]
      refine cv_congr w _ _ fun x y _ => ?_
      show (v ^ l.toNat * ws x a + ws (l :: x) a) * ws y r = _
      rw [Int.add_mul, Int.mul_assoc]
    rw [e, h1, h2]
    show _ + (ws [] a * ws (l :: w) r + cv w fun x y => ws (l :: x) a * ws y r) = _
    rw [ws_nil, ws_nil]
    omega
theorem cv_range : ∀ (w : List Int) (f : List Int → List Int → Int), ((List.range (w.length + 1)).map fun p => f (w.take p) (w.drop p)).sum = cv w f
  | [], f => by show f [] [] + 0 = f [] []; omega
  | l :: w, f => by
    rw [List.length_cons, List.range_succ_eq_map, List.map_cons, List.sum_cons, List.map_map]
    show f [] (l :: w) + ((List.range (w.length + 1)).map fun p => f (l :: w.take p) (w.drop p)).sum = f [] (l :: w) + _
    rw [cv_range w fun x y => f (l :: x) y]
theorem ws_rev : ∀ (r w : List Int), ws w.reverse r.reverse = ws w r
  | r, [] => by rw [List.reverse_nil, ws_nil, ws_nil]
  | [], l :: w => by
    rw [List.reverse_nil, ws_nil_right (by simp)]; rfl
  | v :: r, l :: w => by
    have h1 := ws_rev r w
    have h2 := ws_rev r (l :: w)
    rw [List.reverse_cons] at h2
    rw [List.reverse_cons, List.reverse_cons, ws_snoc, h1, h2]
    show _ = v ^ l.toNat * ws w r + ws (l :: w) r
    rw [Int.mul_comm (ws w r)]; omega
def revL (ts : Lot) : Lot := ts.map fun t => (t.1, t.2.reverse)
theorem val_rev (ts : Lot) (r : List Int) : val (revL ts) r = val ts r.reverse := by
  unfold val revL
  rw [List.map_map]
  refine congrArg List.sum (List.map_congr_left fun t _ => ?_)
  show t.1 * ws t.2.reverse r = t.1 * ws t.2 r.reverse
  rw [← ws_rev r.reverse, List.reverse_reverse]
def begT (a : List Int) (t : Int × List Int) : Lot := (List.range (t.2.length + 1)).map fun p => (t.1 * ws (t.2.take p) a, t.2.drop p)
def begL (a : List Int) (ts : Lot) : Lot := ts.flatMap (begT a)
theorem val_begT (a r : List Int) (t : Int × List Int) : val (begT a t) r = t.1 * ws t.2 (a ++ r) := by
  rw [ws_app, ← cv_mul, ← cv_range t.2 fun x y => t.1 * (ws x a * ws y r)]
  unfold val begT
  rw [List.map_map]
  refine congrArg List.sum (List.map_congr_left fun p _ => ?_)
  show t.1 * ws (t.2.take p) a * ws (t.2.drop p) r = _
  rw [Int.mul_assoc]
theorem val_beg (a r : List Int) : ∀ ts : Lot, val (begL a ts) r = val ts (a ++ r)
  | [] => rfl
  | t :: ts => by
    show val (begT a t ++ begL a ts) r = _
    rw [val_app, val_begT, val_beg a r ts, val_cons]

/-! ### values by coefficients; bounds -/
theorem val_split (w r : List Int) : ∀ ts : Lot, val ts r = coef ts w * ws w r + val (ts.filter fun t => decide (t.2 ≠ w)) r
  | [] => by show (0 : Int) = 0 * _ + 0; simp
  | t :: ts => by
    rw [val_cons, coef_cons, val_split w r ts]
    by_cases e : t.2 = w
    · rw [if_pos e, List.filter_cons_of_neg (by simp [e]), e, Int.add_mul]; omega
    · rw [if_neg e, List.filter_cons_of_pos (by simp [e]), val_cons, Int.zero_add]; omega
theorem coef_filter (w v : List Int) : ∀ ts : Lot, coef (ts.filter fun t => decide (t.2 ≠ w)) v = if v = w then 0 else coef ts v
  | [] => by simp [coef]
  | t :: ts => by
    have ih := coef_filter w v ts
    by_cases e : t.2 = w
    · rw [List.filter_cons_of_neg (by simp [e]), ih, coef_cons]
      by_cases q : v = w
      · rw [if_pos q, if_pos q]
      · rw [if_neg q, if_neg q, if_neg (by rw [e]; exact fun z => q z.symm)]; omega
    · rw [List.filter_cons_of_pos (by simp [e]), coef_cons, coef_cons, ih]
      by_cases q : v = w
      · rw [if_pos q, if_pos q, if_neg (by rw [q]; exact e)]; rfl
      · rw [if_neg q, if_neg q]
theorem val_zero (r : List Int) : ∀ (n : Nat) (ts : Lot), ts.length ≤ n → (∀ w, coef ts w = 0) → val ts r = 0
  | _, [], _, _ => rfl
  | 0, t :: ts, h, _ => by simp at h
  | n + 1, t :: ts, h, z => by
    rw [val_split t.2 r, z, Int.zero_mul, Int.zero_add]
    refine val_zero r n _ ?_ fun w => ?_
    · rw [List.filter_cons_of_neg (by simp)]
      exact Nat.le_trans (List.length_filter_le _ _) (by simpa using h)
    · rw [coef_filter, z]; split <;> rfl
theorem val_coef {ts us : Lot} (h : ∀ w, coef ts w = coef us w) (r : List Int) : val ts r = val us r := by
  have := val_zero r _ (ts ++ sclL (-1) us) (Nat.le_refl _) fun w => by rw [coef_app, coef_scl, h]; omega
  rw [val_app, val_scl] at this
  omega
theorem coef_abs (A : Nat) (w : List Int) : ∀ ts : Lot, (∀ t ∈ ts, t.1.natAbs < 2 ^ A) → (coef ts w).natAbs ≤ ts.length * 2 ^ A
  | [], _ => Nat.zero_le _
  | t :: ts, h => by
    have ih := coef_abs A w ts fun u hu => h u (List.mem_cons_of_mem _ hu)
    have := h t List.mem_cons_self
    rw [coef_cons, List.length_cons, Nat.add_mul, Nat.one_mul]
    split <;> omega
/-- a formula within bounds -/
structure LA (A n L : Nat) (ts : Lot) : Prop where
  len : ts.length ≤ n
  co : ∀ t ∈ ts, t.1.natAbs < 2 ^ A
  wl : ∀ t ∈ ts, t.2.length ≤ L
  le : ∀ t ∈ ts, ∀ l ∈ t.2, 0 ≤ l ∧ l ≤ 16
theorem LA.mono {A n L A' n' L' : Nat} {ts : Lot} (h : LA A n L ts) (a : A ≤ A') (b : n ≤ n') (c : L ≤ L') : LA A' n' L' ts :=
  ⟨Nat.le_trans h.len b, fun t ht => Nat.lt_of_lt_of_le (h.co t ht) (Nat.pow_le_pow_right (by decide) a), fun t ht => Nat.le_trans (h.wl t ht) c, h.le⟩
theorem LA.nn {A n L : Nat} {ts : Lot} (h : LA A n L ts) : Nn ts := fun t ht l hl => (h.le t ht l hl).1
theorem LA.rev {A n L : Nat} {ts : Lot} (h : LA A n L ts) : LA A n L (revL ts) := by
  refine ⟨by unfold revL; rw [List.length_map]; exact h.len, fun t ht => ?_, fun t ht => ?_, fun t ht => ?_⟩ <;> obtain ⟨u, hu, rfl⟩ := List.mem_map.mp ht
  · exact h.co u hu
  · show u.2.reverse.length ≤ L; rw [List.length_reverse]; exact h.wl u hu
  · exact fun l hl => h.le u hu l (List.mem_reverse.mp hl)
theorem LA.app {A n m L : Nat} {ts us : Lot} (h : LA A n L ts) (g : LA A m L us) : LA A (n + m) L (ts ++ us) :=
  ⟨by rw [List.length_append]; have := h.len; have := g.len; omega, fun t ht => (List.mem_append.mp ht).elim (h.co t) (g.co t), fun t ht => (List.mem_append.mp ht).elim (h.wl t) (g.wl t), fun t ht => (List.mem_append.mp ht).elim (h.le t) (g.le t)⟩
theorem ws_le2 (g X : Nat) (hX : 1 ≤ X) : ∀ (w r : List Int), (∀ l ∈ w, 0 ≤ l ∧ l ≤ (g : Int)) → (∀ x ∈ r, x.natAbs ≤ X) → (ws w r).natAbs ≤ (r.length * X ^ g) ^ w.length
  | [], r, _, _ => by rw [ws_nil]; exact Nat.le_refl _
  | l :: ls, [], _, _ => by show (0 : Int).natAbs ≤ _; exact Nat.zero_le _
  | l :: ls, x :: r, hl, hx => by
    have h1 := ws_le2 g X hX ls r (fun k hk => hl k (List.mem_cons_of_mem _ hk)) (fun y hy => hx y (List.mem_cons_of_mem _ hy))
    have h2 := ws_le2 g X hX (l :: ls) r hl (fun y hy => hx y (List.mem_cons_of_mem _ hy))
    have h3 : (x ^ l.toNat).natAbs ≤ X ^ g := by
      rw [Int.natAbs_pow]
      exact Nat.le_trans (Nat.pow_le_pow_left (hx x List.mem_cons_self) _) (Nat.pow_le_pow_right hX (by have := hl l List.mem_cons_self; omega))
    show (x ^ l.toNat * ws ls r + ws (l :: ls) r).natAbs ≤ _
    have h4 : (x ^ l.toNat * ws ls r).natAbs ≤ X ^ g * (r.length * X ^ g) ^ ls.length := by
      rw [Int.natAbs_mul]; exact Nat.mul_le_mul h3 h1
    refine Nat.le_trans (Int.natAbs_add_le _ _) ?_
    refine Nat.le_trans (Nat.add_le_add h4 h2) ?_
    show X ^ g * (r.length * X ^ g) ^ ls.length + (r.length * X ^ g) ^ (ls.length + 1) ≤ ((r.length + 1) * X ^ g) ^ (ls.length + 1)
    generalize X ^ g = M
    rw [Nat.pow_succ, Nat.pow_succ]
    have h5 : (r.length * M) ^ ls.length ≤ ((r.length + 1) * M) ^ ls.length := Nat.pow_le_pow_left (Nat.mul_le_mul_right _ (Nat.le_succ _)) _
    calc M * (r.length * M) ^ ls.length + (r.length * M) ^ ls.length * (r.length * M) = (r.length * M) ^ ls.length * ((r.length + 1) * M) := by
          rw [Nat.mul_comm M, ← Nat.mul_add, Nat.add_mul, Nat.one_mul, Nat.add_comm]
      _ ≤ ((r.length + 1) * M) ^ ls.length * ((r.length + 1) * M) := Nat.mul_le_mul_right _ h5
theorem sum_abs (B : Nat) : ∀ l : List Int, (∀ x ∈ l, x.natAbs ≤ B) → l.sum.natAbs ≤ l.length * B
  | [], _ => Nat.zero_le _
  | a :: l, h => by
    have h1 := h a List.mem_cons_self
    have h2 := sum_abs B l fun x q => h x (List.mem_cons_of_mem _ q)
    rw [List.sum_cons, List.length_cons, Nat.succ_mul]
    have := Int.natAbs_add_le a l.sum
    omega
theorem val_le (c g L m n X : Nat) {ts : Lot} {r : List Int} (hn : ts.length ≤ n) (hc : ∀ t ∈ ts, t.1.natAbs ≤ c) (hl : ∀ t ∈ ts, t.2.length ≤ L) (hg : ∀ t ∈ ts, ∀ l ∈ t.2, 0 ≤ l ∧ l ≤ (g : Int)) (hm : r.length ≤ m) (h1 : 1 ≤ m) (hx : ∀ x ∈ r, x.natAbs ≤ X) (hX : 1 ≤ X) :
    (val ts r).natAbs ≤ n * (c * (m * X ^ g) ^ L) := by
  unfold val
  refine Nat.le_trans (sum_abs (c * (m * X ^ g) ^ L) _ fun x q => ?_) ?_
  · obtain ⟨t, ht, rfl⟩ := List.mem_map.mp q
    rw [Int.natAbs_mul]
    refine Nat.mul_le_mul (hc t ht) ?_
    refine Nat.le_trans (ws_le2 g X hX t.2 r (hg t ht) hx) ?_
    refine Nat.le_trans (Nat.pow_le_pow_left (Nat.mul_le_mul_right _ hm) _) ?_
    exact Nat.pow_le_pow_right (Nat.mul_pos h1 (Nat.pow_pos hX)) (hl t ht)
  · rw [List.length_map]; exact Nat.mul_le_mul_right _ hn
theorem LA.beg {A n L B : Nat} {ts : Lot} {a : List Int} (h : LA A n L ts) (hb : ∀ t ∈ ts, ∀ p, (ws (t.2.take p) a).natAbs < 2 ^ B) : LA (A + B) (n * (L + 1)) L (begL a ts) := by
  refine ⟨?_, fun t ht => ?_, fun t ht => ?_, fun t ht => ?_⟩
  · have : ∀ us : Lot, (∀ t ∈ us, t.2.length ≤ L) → (begL a us).length ≤ us.length * (L + 1) := fun us => by
      induction us with
      | nil => intro _; exact Nat.zero_le _
      | cons u us ih =>
        intro q
        have h1 := ih fun t ht => q t (List.mem_cons_of_mem _ ht)
        have h2 := q u List.mem_cons_self
        show (begT a u ++ begL a us).length ≤ _
        rw [List.length_append, List.length_cons, Nat.succ_mul]
        have : (begT a u).length = u.2.length + 1 := by unfold begT; simp
        omega
    exact Nat.le_trans (this ts h.wl) (Nat.mul_le_mul_right _ h.len)
  all_goals
    obtain ⟨u, hu, h2⟩ := List.mem_flatMap.mp ht
    obtain ⟨p, hp, rfl⟩ := List.mem_map.mp h2
  · show (u.1 * ws (u.2.take p) a).natAbs < _
    rw [Int.natAbs_mul, Nat.pow_add]
    exact Nat.mul_lt_mul'' (h.co u hu) (hb u hu p)
  · show (u.2.drop p).length ≤ L
    rw [List.length_drop]
    have := h.wl u hu; omega
  · exact fun l hl => h.le u hu l (List.mem_of_mem_drop hl)

/-! ### plain formulas by their values -/
theorem IsPlain.self {ts us : Lot} (h : IsPlain ts us) : IsPlain us us := by
  obtain ⟨S, h1, h2, h3, e⟩ := h
  have hc := IsPlain.coef (ts := ts) (us := us) ⟨S, h1, h2, h3, e⟩
  exact ⟨S, h1, fun w => by rw [hc, h2], h3, by rw [e]; exact List.map_congr_left fun w _ => by rw [← e, hc]⟩
theorem IsPlain.val {ts us : Lot} (h : IsPlain ts us) (r : List Int) : val us r = DL.val ts r := val_coef h.coef r
theorem IsPlain.words {ts us : Lot} (h : IsPlain ts us) : ∀ t ∈ us, t.1 = DL.coef ts t.2 ∧ ∃ u ∈ ts, u.2 = t.2 := by
  obtain ⟨S, h1, h2, h3, rfl⟩ := h
  intro t ht
  obtain ⟨w, hw, rfl⟩ := List.mem_map.mp ht
  exact ⟨rfl, coef_mem ((h2 w).mp hw)⟩
theorem IsPlain.len {ts us : Lot} (h : IsPlain ts us) : us.length ≤ ts.length := by
  obtain ⟨S, h1, h2, h3, rfl⟩ := h
  rw [List.length_map, ← List.length_map (f := fun t : Int × List Int => t.2)]
  refine List.Nodup.length_le_of_subset h1 fun w hw => ?_
  obtain ⟨u, h4, h5⟩ := coef_mem ((h2 w).mp hw)
  exact List.mem_map.mpr ⟨u, h4, h5⟩
theorem IsPlain.la {ts us : Lot} {A n L : Nat} (h : IsPlain ts us) (g : LA A n L ts) (hn : n ≤ 1000000) : LA (A + 20) n L us := by
  have hw := h.words
  refine ⟨Nat.le_trans h.len g.len, fun t ht => ?_, fun t ht => ?_, fun t ht => ?_⟩
  · rw [(hw t ht).1]
    refine Nat.lt_of_le_of_lt (coef_abs A t.2 ts g.co) ?_
    rw [Nat.pow_add, Nat.mul_comm (2 ^ A)]
    refine Nat.mul_lt_mul_of_pos_right (Nat.lt_of_le_of_lt (Nat.le_trans g.len hn) (by decide)) (Nat.pow_pos (by decide))
  · obtain ⟨u, h1, h2⟩ := (hw t ht).2
    rw [← h2]; exact g.wl u h1
  · obtain ⟨u, h1, h2⟩ := (hw t ht).2
    rw [← h2]; exact g.le u h1
/-- plain, as it stands -/
def PL (us : Lot) : Prop := IsPlain us us
theorem PL.eq {A n L A' n' L' : Nat} {us vs : Lot} (h : PL us) (g : PL vs) (h1 : LA A n L us) (g1 : LA A' n' L' vs) (e : ∀ r, val us r = val vs r) : us = vs :=
  IsPlain.uniq h g (sep h1.nn g1.nn e)
theorem IsPlain.eq {ts us vs : Lot} (h : IsPlain ts us) (g : IsPlain ts vs) : us = vs := h.uniq g fun _ => rfl
theorem LA.frm {A n L : Nat} {ts : Lot} (h : LA A n L ts) (hn : n ≤ 1000000) (hL : L ≤ 1000000) : ts.length ≤ 1000000 ∧ ∀ t ∈ ts, t.2.length ≤ 1000000 ∧ ∀ l ∈ t.2, 0 ≤ l :=
  ⟨Nat.le_trans h.len hn, fun t ht => ⟨Nat.le_trans (h.wl t ht) hL, fun l hl => (h.le t ht l hl).1⟩⟩
theorem LA.ok {A n L : Nat} {ts : Lot} (h : LA A n L ts) (hA : A ≤ 500000) (hn : n ≤ 1000000) (hL : L ≤ 16) : LotOk ts :=
  ⟨Nat.le_trans h.len hn, fun t ht => ⟨Nat.lt_of_lt_of_le (h.co t ht) (Nat.pow_le_pow_right (by decide) hA), Nat.le_trans (h.wl t ht) hL, h.le t ht⟩⟩
theorem LA.wok {A n L : Nat} {ts : Lot} (h : LA A n L ts) (hL : L ≤ 16) {t : Int × List Int} (ht : t ∈ ts) : WordOk t.2 := ⟨Nat.le_trans (h.wl t ht) hL, h.le t ht⟩
theorem LotIn.la {l g : Int} {ts : Lot} {m : Nat} {L : Nat} (h : LotIn l g ts) (hm : (ts.length : Int) ≤ m) (hl : l ≤ L) (hg : g ≤ 16) : LA 7 m L ts :=
  ⟨by omega, fun t ht => by have := (h t ht).1; show _ < 128; omega, fun t ht => by have := (h t ht).2.1; omega, fun t ht x hx => by have := (h t ht).2.2 x hx; omega⟩
section
variable {cs : Cells} {X' : XQ} {A n L : Nat} {ts us : Lot}
theorem call_terms {Q : WQ} (h : LA A n L ts) (hn : n ≤ 1000000) (k : Q (lotD ts) cs) : S_Formula_terms [frmD ts] cs Q X' := ⟨ts, rfl, Nat.le_trans h.len hn, k⟩
theorem call_plain {Q : WQ} (h : LA A n L ts) (hn : n ≤ 1000000) (hL : L ≤ 1000000) (k : ∀ us cs', IsPlain ts us → LA (A + 20) n L us → Ke cs cs' → Q (frmD us) cs') : S_plain [frmD ts] cs Q X' :=
  ⟨ts, rfl, (h.frm hn hL).1, (h.frm hn hL).2, fun us cs' hp hk => k us cs' hp (hp.la h hn) hk⟩
theorem call_made {Q : WQ} (h : LA A n L ts) (hn : n ≤ 1000000) (hL : L ≤ 1000000) (k : ∀ cs', Ke cs cs' → Q (frmD ts) cs') : S_law_made [lotD ts] cs Q X' :=
  ⟨ts, rfl, (h.frm hn hL).1, (h.frm hn hL).2, k⟩
theorem call_eq {Q : WQ} (k : Q (.bl (decide (ts = us))) cs) : S_Formula___eq [frmD ts, frmD us] cs Q X' := ⟨ts, us, rfl, k⟩
end

def pairD (p : List Int × Int) : D := .tup [tupD p.1, .int p.2]
theorem pairsK_tal : ∀ m : Tal, pairsK (m.map pairD) = some (talD m)
  | [] => rfl
  | p :: m => by
    have h : pairK (pairD p) = some (wkey p.1, .int p.2) := by
      show (tkey (tupD p.1)).map _ = _
      unfold tupD tkey
      simp only [unkeys_ints, Option.map_some]
    simp only [List.map_cons, pairsK, h, pairsK_tal m]
    rfl
theorem wkeys_nodup : ∀ {m : Tal}, (m.map (·.1)).Nodup → ((talD m).map (·.1)).Nodup
  | [], _ => List.nodup_nil
  | p :: m, h => by
    rw [List.map_cons, List.nodup_cons] at h
    unfold talD
    rw [List.map_cons, List.map_cons, List.nodup_cons]
    refine ⟨fun z => h.1 ?_, wkeys_nodup h.2⟩
    rw [List.map_map] at z
    obtain ⟨q, h1, h2⟩ := List.mem_map.mp z
    exact List.mem_map.mpr ⟨q, h1, wkey_inj h2⟩
def nz (m : Tal) : Tal := m.filter fun p => decide (p.2 ≠ 0)
theorem talGet_none {m : Tal} {w : List Int} (h : ¬ w ∈ m.map (·.1)) : talGet m w = none := by
  unfold talGet
  rw [Option.map_eq_none_iff, List.find?_eq_none]
  intro p hp
  simp only [decide_eq_true_eq]
  exact fun z => h (List.mem_map.mpr ⟨p, hp, z⟩)
theorem talGet_nz (w : List Int) : ∀ {m : Tal}, (m.map (·.1)).Nodup → (talGet (nz m) w).getD 0 = (talGet m w).getD 0
  | [], _ => rfl
  | p :: m, h => by
    rw [List.map_cons, List.nodup_cons] at h
    have ih := talGet_nz w h.2
    by_cases e : p.1 = w
    · have h2 : talGet (p :: m) w = some p.2 := by simp [talGet, List.find?_cons, e]
      rw [h2]
      by_cases q : p.2 = 0
      · have : nz (p :: m) = nz m := by unfold nz; rw [List.filter_cons_of_neg (by simp [q])]
        rw [this, ih, talGet_none (by rw [← e]; exact h.1), q]
        rfl
      · have : nz (p :: m) = p :: nz m := by unfold nz; rw [List.filter_cons_of_pos (by simp [q])]
        rw [this]
        simp [talGet, List.find?_cons, e]
    · have h2 : talGet (p :: m) w = talGet m w := by simp [talGet, List.find?_cons, e]
      rw [h2]
      by_cases q : p.2 = 0
      · have : nz (p :: m) = nz m := by unfold nz; rw [List.filter_cons_of_neg (by simp [q])]
        rw [this, ih]
      · have : nz (p :: m) = p :: nz m := by unfold nz; rw [List.filter_cons_of_pos (by simp [q])]
        rw [this, ← ih]
        simp [talGet, List.find?_cons, e]
theorem Tally.nz {ts : Lot} {m : Tal} (h : Tally ts m) : Tally ts (nz m) := by
  have sub : ∀ w, w ∈ (DL.nz m).map (·.1) → w ∈ m.map (·.1) := fun w hw => by
    obtain ⟨p, h1, h2⟩ := List.mem_map.mp hw
    exact List.mem_map.mpr ⟨p, (List.mem_filter.mp h1).1, h2⟩
  exact ⟨h.nd.sublist (List.filter_sublist.map _), fun w => by rw [talGet_nz w h.nd, h.get], fun w hw => h.key w (sub w hw), fun w hw => has_key hw, Nat.le_trans (List.length_filter_le _ _) h.len⟩
/-- a dict's words in order, with what stands at them -/
def sortT (m : Tal) : Lot := ((talWords m).mergeSort wle).map fun w => ((talGet m w).getD 0, w)
/-- a dict, live or locked -/
def DictAt (cs : Cells) (j : Nat) (m : Tal) : Prop := cs[j]? = some (.dT (talD m)) ∨ cs[j]? = some (.zT (talD m))
/-- it is locked, all else stays -/
structure Lk (cs : Cells) (j : Nat) (m : Tal) (cs' : Cells) : Prop where
  len : cs'.length = cs.length
  at_ : cs'[j]? = some (.zT (talD m))
  oth : ∀ i, i ≠ j → cs'[i]? = cs[i]?
theorem Tally.sortT {ts : Lot} {m : Tal} (h : Tally ts m) : IsPlain ts (sortT m) := h.plain
/-- the tally of a lot, sorted, at once -/
theorem Ke.set_new {cs cs' : Cells} {j : Nat} {c : C} (h : Ke cs cs') (hj : cs.length ≤ j) : Ke cs (cs'.set j c) := ⟨by rw [List.length_set]; exact h.le, fun i hi => by rw [List.getElem?_set_ne (by omega)]; exact h.at_ i hi⟩
theorem Lk.ke {cs0 cs cs' : Cells} {j : Nat} {m : Tal} (h : Lk cs j m cs') (hk : Ke cs0 cs) (h0 : cs0.length ≤ j) : Ke cs0 cs' := ⟨by rw [h.len]; exact hk.le, fun i hi => by rw [h.oth i (by omega)]; exact hk.at_ i hi⟩
/-- repr of a list of ints -/
theorem gRepr_ints {xs : List Int} {cs : Cells} {Q : WQ} (hz : xs.length ≤ 1000) (hx : ∀ x ∈ xs, x.natAbs < 2 ^ 1920) (h : Q (.str (PyData.list (xs.map PyData.int)).shown) cs) : gRepr [wordD xs] cs Q := by
  have e : py cs (wordD xs) = some (.list (xs.map PyData.int)) := by
    unfold py wordD
    simp only [pyW, pyl_map (p := PyData.int) (e := D.int) (fun f x => by simp only [pyW]), Option.map_some]
  show (match py cs (wordD xs) with
    | some p => p.showable = true ∧ p.depth ≤ 60 ∧ p.shown.length ≤ sizeLine ∧ Q (.str p.shown) cs
    | none => False)
  rw [e]
  have lg : ∀ x ∈ xs, x.natAbs.log2 < 1920 := fun x q => log2_lt (hx x q) (by decide)
  refine ⟨?_, ?_, ?_, h⟩
  · have : ∀ l : List Int, (∀ x ∈ l, x.natAbs.log2 < 1920) → PyData.showableAll (l.map PyData.int) = true := fun l => by
      induction l with
      | nil => intro _; simp only [List.map_nil, PyData.showableAll]
      | cons a l ih =>
        intro q
        simp only [List.map_cons, PyData.showableAll, PyData.showable, ih fun x h => q x (List.mem_cons_of_mem _ h), Bool.and_true]
        exact decide_eq_true (q a List.mem_cons_self)
    simp only [PyData.showable, this xs lg]
  · have := depl_map (p := PyData.int) (k := 0) (fun x => by simp only [PyData.depth]; exact Nat.le_refl _) xs
    simp only [PyData.depth]; omega
  · have : ∀ l : List Int, (∀ x ∈ l, x.natAbs.log2 < 1920) → ((PyData.shownAll (l.map PyData.int)).map (·.length)).sum ≤ 1921 * l.length ∧ (PyData.shownAll (l.map PyData.int)).length = l.length := fun l => by
      induction l with
      | nil => intro _; simp [PyData.shownAll]
      | cons a l ih =>
        intro q
        obtain ⟨h1, h2⟩ := ih fun x h => q x (List.mem_cons_of_mem _ h)
        have h3 := int_text_len_1921 (q a List.mem_cons_self)
        simp only [List.map_cons, PyData.shownAll, PyData.shown, List.sum_cons, List.length_cons]
        exact ⟨by omega, by omega⟩
    obtain ⟨h1, h2⟩ := this xs lg
    have h3 := listText_len_le (PyData.shownAll (xs.map PyData.int))
    simp only [PyData.shown]
    refine szl ?_
    omega

/-! ### repr of data with live lists -/
structure Sh (p : PyData) (k n : Nat) : Prop where
  ok : p.showable = true
  dp : p.depth ≤ k
  ln : p.shown.length ≤ n
structure ShL (ps : List PyData) (k n : Nat) : Prop where
  ok : PyData.showableAll ps = true
  dp : PyData.depthAll ps ≤ k
  ln : ((PyData.shownAll ps).map (·.length)).sum + 2 * (PyData.shownAll ps).length ≤ n
theorem Sh.non : Sh .none 0 10 := ⟨rfl, by simp only [PyData.depth]; exact Nat.le_refl _, by simp only [PyData.shown]; decide⟩
theorem Sh.bl (b : Bool) : Sh (.bool b) 0 10 := ⟨rfl, by simp only [PyData.depth]; exact Nat.le_refl _, by simp only [PyData.shown]; cases b <;> decide⟩
theorem Sh.int {i : Int} (h : i.natAbs < 2 ^ 1920) : Sh (.int i) 0 1921 := by
  have lg := log2_lt h (by decide)
  exact ⟨by simp only [PyData.showable]; exact decide_eq_true lg, by simp only [PyData.depth]; exact Nat.le_refl _, by simp only [PyData.shown]; exact int_text_len_1921 lg⟩
theorem Sh.mono {p : PyData} {k n k' n' : Nat} (h : Sh p k n) (hk : k ≤ k') (hn : n ≤ n') : Sh p k' n' := ⟨h.ok, Nat.le_trans h.dp hk, Nat.le_trans h.ln hn⟩
theorem ShL.nil {k : Nat} : ShL [] k 0 := ⟨rfl, by simp only [PyData.depthAll]; exact Nat.zero_le _, by simp [PyData.shownAll]⟩
theorem ShL.cons {p : PyData} {ps : List PyData} {k n m : Nat} (h : Sh p k n) (t : ShL ps k m) : ShL (p :: ps) k (n + 2 + m) := by
  refine ⟨by simp only [PyData.showableAll, h.ok, t.ok]; rfl, by simp only [PyData.depthAll]; exact Nat.max_le.mpr ⟨h.dp, t.dp⟩, ?_⟩
  have := h.ln
  have := t.ln
  simp only [PyData.shownAll, List.map_cons, List.sum_cons, List.length_cons]
  omega
theorem Sh.list {ps : List PyData} {k n : Nat} (t : ShL ps k n) : Sh (.list ps) (k + 1) (n + 3) := by
  refine ⟨by simp only [PyData.showable, t.ok], by simp only [PyData.depth]; have := t.dp; omega, ?_⟩
  have h1 := listText_len_le (PyData.shownAll ps)
  have := t.ln
  simp only [PyData.shown]
  omega
theorem Sh.tuple {ps : List PyData} {k n : Nat} (t : ShL ps k n) : Sh (.tuple ps) (k + 1) (n + 3) := by
  refine ⟨by simp only [PyData.showable, t.ok], by simp only [PyData.depth]; have := t.dp; omega, ?_⟩
  have h1 := tupleText_len_le (PyData.shownAll ps)
  have := t.ln
  simp only [PyData.shown]
  omega
theorem ShL.map {α : Type} (p : α → PyData) (k n : Nat) : ∀ xs : List α, (∀ x ∈ xs, Sh (p x) k n) → ShL (xs.map p) k (xs.length * (n + 2))
  | [], _ => by rw [List.map_nil, List.length_nil, Nat.zero_mul]; exact .nil
  | x :: xs, h => by
    have := ShL.cons (h x List.mem_cons_self) (ShL.map p k n xs fun y hy => h y (List.mem_cons_of_mem _ hy))
    rw [List.map_cons, List.length_cons, Nat.succ_mul, Nat.add_comm (xs.length * (n + 2))]
    exact this
theorem Sh.ints {xs : List Int} (h : ∀ x ∈ xs, x.natAbs < 2 ^ 1920) : Sh (.list (xs.map PyData.int)) 1 (xs.length * 1923 + 3) := .list (.map PyData.int 0 1921 xs fun x hx => .int (h x hx))
theorem gRepr_py {d : D} {cs : Cells} {Q : WQ} {p : PyData} {k n : Nat} (h : py cs d = some p) (s : Sh p k n) (hk : k ≤ 60) (hn : n ≤ 16000000) (q : Q (.str p.shown) cs) : gRepr [d] cs Q := by
  show (match py cs d with
    | some p => p.showable = true ∧ p.depth ≤ 60 ∧ p.shown.length ≤ sizeLine ∧ Q (.str p.shown) cs
    | none => False)
  rw [h]
  exact ⟨s.ok, Nat.le_trans s.dp hk, szl (Nat.le_trans s.ln hn), q⟩
theorem pyW_ints (f : Nat → Option PyData) (xs : List Int) : pyW f (wordD xs) = some (.list (xs.map PyData.int)) := by
  unfold wordD
  simp only [pyW, pyl_map (p := PyData.int) (e := D.int) (fun f x => by simp only [pyW]), Option.map_some]
theorem pyW_root {cs : Cells} {f : Nat → Option PyData} {j : Nat} {xs : List Int} (h : cs[j]? = some (.lst (xs.map D.int))) : pyW (cellPy cs f) (.root j) = some (.list (xs.map PyData.int)) := by
  simp only [pyW, cellPy, h, cellL, pyl_map (p := PyData.int) (e := D.int) (fun f x => by simp only [pyW]), Option.map_some]

def pyTerm (t : Int × List Int) : PyData := .tuple [.int t.1, .list (t.2.map PyData.int)]
def pyLot (ts : Lot) : PyData := .list (ts.map pyTerm)
theorem pyW_term (f : Nat → Option PyData) (t : Int × List Int) : pyW f (termD t) = some (pyTerm t) := by
  unfold termD pyTerm wordD
  simp only [pyW, pyWL, pyl_map (p := PyData.int) (e := D.int) (fun f x => by simp only [pyW]), Option.map_some]
theorem pyW_lot (f : Nat → Option PyData) (ts : Lot) : pyW f (lotD ts) = some (pyLot ts) := by
  unfold lotD pyLot
  simp only [pyW, pyl_map (p := pyTerm) (e := termD) pyW_term, Option.map_some]
theorem sh_term {A n L : Nat} {ts : Lot} (h : LA A n L ts) (hA : A ≤ 1920) {t : Int × List Int} (ht : t ∈ ts) : Sh (pyTerm t) 2 (L * 1923 + 2000) := by
  have i : t.1.natAbs < 2 ^ 1920 := Nat.lt_of_lt_of_le (h.co t ht) (Nat.pow_le_pow_right (by decide) hA)
  have w := Sh.ints (xs := t.2) fun x hx => by
    have := h.le t ht x hx
    exact Nat.lt_of_lt_of_le (show x.natAbs < 2 ^ 5 by omega) (Nat.pow_le_pow_right (by decide) (by decide))
  have l := h.wl t ht
  have w2 := w.mono (k' := 1) (n' := L * 1923 + 3) (Nat.le_refl _) (by have := Nat.mul_le_mul_right 1923 l; omega)
  exact (Sh.tuple (.cons ((Sh.int i).mono (k' := 1) (n' := 1921) (by decide) (Nat.le_refl _)) (.cons w2 .nil))).mono (by decide) (by omega)
theorem sh_lot {A n L : Nat} {ts : Lot} (h : LA A n L ts) (hA : A ≤ 1920) : Sh (pyLot ts) 3 (n * (L * 1923 + 2000 + 2) + 3) := by
  have := Sh.list (ShL.map pyTerm 2 (L * 1923 + 2000) ts fun t ht => sh_term h hA ht)
  exact this.mono (Nat.le_refl _) (Nat.add_le_add_right (Nat.mul_le_mul_right _ h.len) 3)

/-! ### formal sums -/
/-- a sum over the terms -/
def FS (ts : Lot) (G : List Int → Int) : Int := (ts.map fun t => t.1 * G t.2).sum
theorem fs_cons (t : Int × List Int) (ts : Lot) (G : List Int → Int) : FS (t :: ts) G = t.1 * G t.2 + FS ts G := by
  unfold FS
  rw [List.map_cons, List.sum_cons]
theorem fs_app (G : List Int → Int) : ∀ ts us : Lot, FS (ts ++ us) G = FS ts G + FS us G
  | [], us => by show FS us G = 0 + FS us G; omega
  | t :: ts, us => by rw [List.cons_append, fs_cons, fs_cons, fs_app G ts us]; omega
theorem fs_snoc (ts : Lot) (t : Int × List Int) (G : List Int → Int) : FS (ts ++ [t]) G = FS ts G + t.1 * G t.2 := by
  rw [fs_app, fs_cons]
  show FS ts G + (t.1 * G t.2 + 0) = _
  omega
theorem fs_scl (c : Int) (G : List Int → Int) : ∀ ts : Lot, FS (sclL c ts) G = c * FS ts G
  | [] => by show (0 : Int) = c * 0; omega
  | t :: ts => by
    have ih := fs_scl c G ts
    unfold sclL at ih ⊢
    rw [List.map_cons, fs_cons, fs_cons, ih, Int.mul_add]
    show t.1 * c * G t.2 + _ = _
    rw [Int.mul_comm t.1 c, Int.mul_assoc]
theorem fs_split (w : List Int) (G : List Int → Int) : ∀ ts : Lot, FS ts G = DL.coef ts w * G w + FS (ts.filter fun t => decide (t.2 ≠ w)) G
  | [] => by show (0 : Int) = 0 * G w + 0; omega
  | t :: ts => by
    have ih := fs_split w G ts
    rw [fs_cons, coef_cons, Int.add_mul]
    by_cases e : t.2 = w
    · rw [List.filter_cons_of_neg (by simp [e]), if_pos e, ih, e]; omega
    · rw [List.filter_cons_of_pos (by simp [e]), if_neg e, fs_cons, ih]; omega
theorem fs_zero (G : List Int → Int) : ∀ (n : Nat) (ts : Lot), ts.length ≤ n → (∀ w, DL.coef ts w * G w = 0) → FS ts G = 0
  | _, [], _, _ => rfl
  | 0, t :: ts, h, _ => by simp at h
  | n + 1, t :: ts, h, z => by
    rw [fs_split t.2 G, z, Int.zero_add]
    refine fs_zero G n _ ?_ fun w => ?_
    · rw [List.filter_cons_of_neg (by simp)]
      exact Nat.le_trans (List.length_filter_le _ _) (by simpa using h)
    · rw [coef_filter]
      split
      · omega
      · exact z w
theorem fs_sub (ts : Lot) (G F : List Int → Int) : FS ts (fun w => G w - F w) = FS ts G - FS ts F := by
  induction ts with
  | nil => rfl
  | cons t ts ih => rw [fs_cons, fs_cons, fs_cons, ih, Int.mul_sub]; omega
/-- only words that do not cancel count -/
theorem fs_eq {ts : Lot} {G F : List Int → Int} (h : ∀ w, DL.coef ts w ≠ 0 → G w = F w) : FS ts G = FS ts F := by
  have := fs_zero (fun w => G w - F w) _ ts (Nat.le_refl _) fun w => by
    by_cases e : DL.coef ts w = 0
    · rw [e]; omega
    · rw [h w e]
      show _ * (F w - F w) = 0
      rw [Int.sub_self, Int.mul_zero]
  rw [fs_sub] at this
  omega
theorem fs_coef {ts us : Lot} (h : ∀ w, DL.coef ts w = DL.coef us w) (G : List Int → Int) : FS ts G = FS us G := by
  have := fs_zero G _ (ts ++ sclL (-1) us) (Nat.le_refl _) fun w => by rw [coef_app, coef_scl, h, show DL.coef us w + -1 * DL.coef us w = 0 by omega, Int.zero_mul]
  rw [fs_app, fs_scl] at this
  omega
theorem fs_one (w : List Int) : ∀ ts : Lot, FS ts (fun v => if v = w then 1 else 0) = DL.coef ts w
  | [] => rfl
  | t :: ts => by
    rw [fs_cons, coef_cons, fs_one w ts]
    by_cases e : t.2 = w
    · simp [e]
    · simp [e]
/-! a dict as a formal sum -/
section
variable {κ : Type} [DecidableEq κ]
def gsum (M : List (κ × Int)) (f : κ → Int) : Int := (M.map fun p => p.2 * f p.1).sum
def aget (M : List (κ × Int)) (k : κ) : Option Int := (M.find? fun p => decide (p.1 = k)).map (·.2)
def aput (M : List (κ × Int)) (k : κ) (v : Int) : List (κ × Int) := if (M.any fun p => decide (p.1 = k)) = true then M.map (fun p => if p.1 = k then (p.1, v) else p) else M ++ [(k, v)]
theorem gsum_nil (f : κ → Int) : gsum ([] : List (κ × Int)) f = 0 := rfl
theorem gsum_cons (p : κ × Int) (M : List (κ × Int)) (f : κ → Int) : gsum (p :: M) f = p.2 * f p.1 + gsum M f := by unfold gsum; rw [List.map_cons, List.sum_cons]
theorem gsum_app (f : κ → Int) : ∀ M N : List (κ × Int), gsum (M ++ N) f = gsum M f + gsum N f
  | [], N => by rw [List.nil_append, gsum_nil]; omega
  | p :: M, N => by rw [List.cons_append, gsum_cons, gsum_cons, gsum_app f M N]; omega
theorem gsum_snoc (M : List (κ × Int)) (p : κ × Int) (f : κ → Int) : gsum (M ++ [p]) f = gsum M f + p.2 * f p.1 := by rw [gsum_app, gsum_cons, gsum_nil]; omega
theorem aget_cons (p : κ × Int) (M : List (κ × Int)) (k : κ) : aget (p :: M) k = if p.1 = k then some p.2 else aget M k := by
  unfold aget
  rw [List.find?_cons]
  by_cases e : p.1 = k
  · rw [decide_eq_true e, if_pos e]; rfl
  · rw [decide_eq_false e, if_neg e]
theorem aget_none {M : List (κ × Int)} {k : κ} : aget M k = none ↔ k ∉ M.map (·.1) := by
  induction M with
  | nil => exact ⟨fun _ h => (nomatch h), fun _ => rfl⟩
  | cons p M ih =>
    rw [aget_cons, List.map_cons, List.mem_cons]
    by_cases e : p.1 = k
    · rw [if_pos e]; exact ⟨fun h => (by cases h), fun h => (h (.inl e.symm)).elim⟩
    · rw [if_neg e, ih]; exact ⟨fun h z => z.elim (fun z => e z.symm) h, fun h z => h (.inr z)⟩
theorem aget_mem {M : List (κ × Int)} (h : (M.map (·.1)).Nodup) {p : κ × Int} (hp : p ∈ M) : aget M p.1 = some p.2 := by
  induction M with
  | nil => cases hp
  | cons q M ih =>
    rw [List.map_cons, List.nodup_cons] at h
    rw [aget_cons]
    rcases List.mem_cons.mp hp with rfl | hp
    · rw [if_pos rfl]
    · rw [if_neg fun e => h.1 (by rw [e]; exact List.mem_map.mpr ⟨p, hp, rfl⟩), ih h.2 hp]
theorem any_aget (M : List (κ × Int)) (k : κ) : (M.any fun p => decide (p.1 = k)) = (aget M k).isSome := by
  induction M with
  | nil => rfl
  | cons p M ih =>
    rw [List.any_cons, aget_cons, ih]
    by_cases e : p.1 = k
    · rw [decide_eq_true e, if_pos e]; rfl
    · rw [decide_eq_false e, if_neg e]; rfl
theorem gsum_repl {M : List (κ × Int)} (h : (M.map (·.1)).Nodup) (k : κ) (v : Int) (f : κ → Int) : gsum (M.map fun p => if p.1 = k then (p.1, v) else p) f = gsum M f + (match aget M k with
    | some o => (v - o) * f k
    | none => 0) := by
  induction M with
  | nil => rfl
  | cons p M ih =>
    rw [List.map_cons, List.nodup_cons] at h
    rw [List.map_cons, gsum_cons, gsum_cons, ih h.2, aget_cons]
    by_cases e : p.1 = k
    · have hn : aget M k = none := aget_none.mpr (by rw [← e]; exact h.1)
      rw [if_pos e, if_pos e, hn]
      show v * f p.1 + (gsum M f + 0) = p.2 * f p.1 + gsum M f + (v - p.2) * f k
      rw [e, Int.sub_mul]; omega
    · rw [if_neg e, if_neg e]; omega
theorem gsum_put {M : List (κ × Int)} (h : (M.map (·.1)).Nodup) (k : κ) (c : Int) (f : κ → Int) : gsum (aput M k ((aget M k).getD 0 + c)) f = gsum M f + c * f k := by
  unfold aput
  rw [any_aget]
  cases e : aget M k with
  | none =>
    rw [if_neg (by simp)]
    rw [gsum_snoc]
    show gsum M f + (0 + c) * f k = _
    rw [Int.zero_add]
  | some o =>
    rw [if_pos (by rfl), gsum_repl h, e]
    show gsum M f + (o + c - o) * f k = _
    rw [show o + c - o = c by omega]
theorem aput_keys (M : List (κ × Int)) (k : κ) (v : Int) : (aput M k v).map (·.1) = if k ∈ M.map (·.1) then M.map (·.1) else M.map (·.1) ++ [k] := by
  unfold aput
  rw [any_aget]
  by_cases e : aget M k = none
  · rw [e, if_neg (by simp), if_neg (aget_none.mp e), List.map_append]; rfl
  · obtain ⟨o, eo⟩ := Option.ne_none_iff_exists'.mp e
    have hm : k ∈ M.map (·.1) := Classical.byContradiction fun z => e (aget_none.mpr z)
    rw [eo, if_pos (by rfl), if_pos hm, List.map_map]
    refine List.map_congr_left fun p _ => ?_
    show (if p.1 = k then (p.1, v) else p).1 = p.1
    split <;> rfl
theorem aput_nodup {M : List (κ × Int)} (h : (M.map (·.1)).Nodup) (k : κ) (v : Int) : ((aput M k v).map (·.1)).Nodup := by
  rw [aput_keys]
  split
  · exact h
  · rename_i z
    rw [List.nodup_append]
    exact ⟨h, List.nodup_cons.mpr ⟨fun h => (nomatch h), List.nodup_nil⟩, fun a ha b hb e => z (by rw [← List.mem_singleton.mp hb, ← e]; exact ha)⟩
theorem aput_len (M : List (κ × Int)) (k : κ) (v : Int) : (aput M k v).length ≤ M.length + 1 := by
  unfold aput
  split
  · rw [List.length_map]; omega
  · rw [List.length_append, List.length_singleton]; omega
theorem aput_mem {M : List (κ × Int)} {k : κ} {v : Int} : ∀ p ∈ aput M k v, p.1 = k ∨ p.1 ∈ M.map (·.1) := fun p hp => by
  have := List.mem_map_of_mem (f := (·.1)) hp
  rw [aput_keys] at this
  split at this
  · exact .inr this
  · rcases List.mem_append.mp this with z | z
    · exact .inr z
    · exact .inl (List.mem_singleton.mp z)
/-- what stands at a key, as a sum -/
theorem gsum_one {M : List (κ × Int)} (h : (M.map (·.1)).Nodup) (k : κ) : gsum M (fun j => if j = k then 1 else 0) = (aget M k).getD 0 := by
  induction M with
  | nil => rfl
  | cons p M ih =>
    rw [List.map_cons, List.nodup_cons] at h
    rw [gsum_cons, aget_cons, ih h.2]
    by_cases e : p.1 = k
    · have hn : aget M k = none := aget_none.mpr (by rw [← e]; exact h.1)
      simp [e, hn]
    · simp [e]
end
/-! ### rows of unknown numbers -/
abbrev XP := List Int × Nat
/-- one more unknown number -/
def stepF (w : List Int) (f : XP → Int) : XP → Int := fun k => f (k.1 ++ [0], k.2) + if k.2 < w.length then f (k.1 ++ [w.getD k.2 0], k.2 + 1) else 0
def PW (w : List Int) : Nat → (XP → Int) → Int
  | 0, f => f ([], 0)
  | n + 1, f => PW w n (stepF w f)
def fullF (w : List Int) (g : List Int → Int) : XP → Int := fun k => if k.2 = w.length then g k.1 else 0
/-- the polynomial of a lot on so many unknown numbers, coefficients weighed by g -/
def UN (lot : Lot) (n : Nat) (g : List Int → Int) : Int := FS lot fun w => PW w n (fullF w g)
theorem pw_congr (w : List Int) : ∀ (n : Nat) {f f' : XP → Int}, (∀ k, k.2 ≤ n → k.1.length = n → f k = f' k) → PW w n f = PW w n f'
  | 0, f, f', h => h _ (Nat.le_refl _) rfl
  | n + 1, f, f', h => pw_congr w n fun k hk hl => by
    unfold stepF
    rw [h _ (by show k.2 ≤ n + 1; omega) (by rw [List.length_append, List.length_singleton, hl]), h (k.1 ++ [w.getD k.2 0], k.2 + 1) (by show k.2 + 1 ≤ n + 1; omega) (by rw [List.length_append, List.length_singleton, hl])]
theorem pw_zero (w : List Int) : ∀ n : Nat, PW w n (fun _ => 0) = 0
  | 0 => rfl
  | n + 1 => by
    show PW w n (stepF w fun _ => 0) = 0
    have : stepF w (fun _ => 0) = fun _ => 0 := funext fun k => by
      unfold stepF
      split <;> rfl
    rw [this]
    exact pw_zero w n
theorem pw_top (w : List Int) : ∀ (n : Nat) (g : List Int → Int), PW w n (fun k => if k.2 = n then g k.1 else 0) = if n ≤ w.length then g (w.take n) else 0
  | 0, g => by simp [PW]
  | n + 1, g => by
    show PW w n (stepF w _) = _
    rw [pw_congr w n (f' := fun k => if k.2 = n then (fun e => if n < w.length then g (e ++ [w.getD n 0]) else 0) k.1 else 0) fun k hk _ => ?_, pw_top w n fun e => if n < w.length then g (e ++ [w.getD n 0]) else 0]
    · by_cases h : n < w.length
      · simp only [if_pos h]
        rw [if_pos (by omega), if_pos (by omega)]
        rw [List.take_add_one, List.getElem?_eq_getElem h, List.getD_eq_getElem?_getD, List.getElem?_eq_getElem h]
        rfl
      · simp only [if_neg h]
        rw [if_neg (show ¬ n + 1 ≤ w.length by omega)]
        split <;> rfl
    · unfold stepF
      show (if k.2 = n + 1 then g (k.1 ++ [0]) else 0) + (if k.2 < w.length then (if k.2 + 1 = n + 1 then g (k.1 ++ [w.getD k.2 0]) else 0) else 0) = if k.2 = n then (if n < w.length then g (k.1 ++ [w.getD n 0]) else 0) else 0
      rw [if_neg (by omega)]
      by_cases h : k.2 = n
      · rw [if_pos h, if_pos (show k.2 + 1 = n + 1 by omega), h]; omega
      · rw [if_neg h, if_neg (show ¬ k.2 + 1 = n + 1 by omega)]
        split <;> rfl
theorem pw_full (w : List Int) (g : List Int → Int) : PW w w.length (fullF w g) = g w := by
  have := pw_top w w.length g
  rw [if_pos (Nat.le_refl _), List.take_length] at this
  exact this
theorem pw_short {w : List Int} {n : Nat} (h : n < w.length) (g : List Int → Int) : PW w n (fullF w g) = 0 := by
  rw [pw_congr w n (f' := fun _ => 0) fun k hk _ => ?_, pw_zero]
  unfold fullF
  rw [if_neg (by omega)]
theorem un_coef {ts us : Lot} (h : ∀ w, DL.coef ts w = DL.coef us w) (n : Nat) (g : List Int → Int) : UN ts n g = UN us n g := fs_coef h _
def oneAt (e : List Int) : List Int → Int := fun v => if v = e then 1 else 0
/-- the same polynomials: the same coefficients -/
theorem un_sep {ts us : Lot} {L : Nat} (hts : ∀ t ∈ ts, t.2.length ≤ L) (hus : ∀ t ∈ us, t.2.length ≤ L) (h : ∀ n, n ≤ L → ∀ e, UN ts n (oneAt e) = UN us n (oneAt e)) : ∀ w, DL.coef ts w = DL.coef us w := by
  have main : ∀ n, n ≤ L + 1 → ∀ w : List Int, w.length < n → DL.coef ts w = DL.coef us w := by
    intro n
    induction n with
    | zero => intro _ w hw; omega
    | succ n ih =>
      intro hn w hw
      by_cases hl : w.length < n
      · exact ih (by omega) w hl
      · have e1 := h n (by omega) w
        have hD : ∀ v, DL.coef (ts ++ sclL (-1) us) v = DL.coef ts v - DL.coef us v := fun v => by rw [coef_app, coef_scl]; omega
        have e2 : UN (ts ++ sclL (-1) us) n (oneAt w) = 0 := by
          unfold UN at e1 ⊢
          rw [fs_app, fs_scl]; omega
        have e3 : UN (ts ++ sclL (-1) us) n (oneAt w) = FS (ts ++ sclL (-1) us) (fun v => if v = w then 1 else 0) := by
          refine fs_eq fun v hv => ?_
          rw [hD] at hv
          have lv : n ≤ v.length := Nat.le_of_not_lt fun z => hv (by rw [ih (by omega) v z]; omega)
          rcases Nat.lt_or_ge n v.length with z | z
          · rw [pw_short z, if_neg fun e => by rw [e] at z; omega]
          · have : n = v.length := by omega
            subst this
            exact pw_full v (oneAt w)
        rw [e2, fs_one, hD] at e3
        omega
  intro w
  by_cases hw : w.length ≤ L
  · exact main (L + 1) (Nat.le_refl _) w (by omega)
  · have z : ∀ vs : Lot, (∀ t ∈ vs, t.2.length ≤ L) → DL.coef vs w = 0 := fun vs hv => Classical.byContradiction fun z => by
      obtain ⟨t, ht, e⟩ := coef_mem z
      have := hv t ht
      rw [e] at this
      omega
    rw [z ts hts, z us hus]

/-! ### the polynomial of a lot on unknown numbers -/
def kpD (k : XP) : D := .tup [tupD k.1, .int (k.2 : Int)]
def waysD (M : List (XP × Int)) : List (NestedKey × D) := M.map fun p => (xk p.1.1 (p.1.2 : Int), D.int p.2)
theorem xk_eq (a b : XP) : (xk a.1 (a.2 : Int) = xk b.1 (b.2 : Int)) ↔ a = b := ⟨fun h => by
  obtain ⟨h1, h2⟩ := xk_inj h
  exact Prod.ext h1 (by omega), fun h => by rw [h]⟩
theorem dec_xk (a b : XP) : decide (xk a.1 (a.2 : Int) = xk b.1 (b.2 : Int)) = decide (a = b) := by
  rw [Bool.eq_iff_iff, decide_eq_true_iff, decide_eq_true_iff]
  exact xk_eq a b
theorem valG_ways (k : XP) : ∀ M : List (XP × Int), valG (waysD M) (xk k.1 (k.2 : Int)) = (aget M k).map D.int
  | [] => rfl
  | p :: M => by
    have ih := valG_ways k M
    unfold valG at ih ⊢
    show ((List.find? _ ((xk p.1.1 (p.1.2 : Int), D.int p.2) :: waysD M)).map _) = _
    rw [List.find?_cons, aget_cons, dec_xk]
    by_cases e : p.1 = k
    · rw [decide_eq_true e, if_pos e]; rfl
    · rw [decide_eq_false e, if_neg e]; exact ih
theorem putG_ways (k : XP) (v : Int) (M : List (XP × Int)) : putG (waysD M) (xk k.1 (k.2 : Int)) (.int v) = waysD (aput M k v) := by
  have ea : ((waysD M).any fun kv => decide (kv.1 = xk k.1 (k.2 : Int))) = M.any fun p => decide (p.1 = k) := by
    unfold waysD
    rw [List.any_map]
    exact congrArg (fun f => M.any f) (funext fun p => dec_xk p.1 k)
  unfold putG aput
  rw [ea]
  split
  · unfold waysD
    rw [List.map_map, List.map_map]
    refine List.map_congr_left fun p _ => ?_
    show (if xk p.1.1 (p.1.2 : Int) = xk k.1 (k.2 : Int) then (xk p.1.1 (p.1.2 : Int), D.int v) else (xk p.1.1 (p.1.2 : Int), D.int p.2)) = (fun p : XP × Int => (xk p.1.1 (p.1.2 : Int), D.int p.2)) (if p.1 = k then (p.1, v) else p)
    by_cases e : p.1 = k
    · rw [if_pos e, if_pos ((xk_eq p.1 k).mpr e)]
    · rw [if_neg e, if_neg fun z => e ((xk_eq p.1 k).mp z)]
  · unfold waysD
    rw [List.map_append]
    rfl
theorem keyN_ways (M : List (XP × Int)) : keyN (waysD M) = M.map fun p => kpD p.1 := by
  unfold keyN waysD
  rw [List.map_map]
  exact List.map_congr_left fun p _ => nkD_xk _ _
theorem nkey_kp (k : XP) : nkey (kpD k) = some (xk k.1 (k.2 : Int)) := nkey_xk _ _
def S_law_unknowns : SD := fun ds cs Q _ => ∃ (ts : Lot) (n : Nat), ds = [lotD ts, .int (n : Int)] ∧ ts.length ≤ 1000 ∧ n ≤ 9 ∧
  ∀ (m : Tal) (j : Nat) cs', (m.map (·.1)).Nodup → (∀ p ∈ m, p.2 ≠ 0) → (∀ p ∈ m, p.1.length = n) → (∀ e, (aget m e).getD 0 = UN ts n (oneAt e)) → m.length ≤ 1000000 → cs.length ≤ j → cs'[j]? = some (.dT (talD m)) → Ke cs cs' → Q (.root j) cs'
theorem len_law_unknowns : ∀ ds cs Q X', S_law_unknowns ds cs Q X' → ds.length = 2 := by
  rintro ds cs Q X' ⟨w, n, rfl, _⟩
  rfl
def m_law_unknowns_b1_3 : WS :=
  (wFor (wFroz (wFz 10)) (wgName 11) (wDPutN (wVar 7) (wVar 11) (wBin gAdd (wDGetN (wVar 7) (wVar 11) (wC (.int 0))) (wDIxN (wVar 5) (wArg gTupD (wCons (wVar 8) (wCons (wVar 9) wNil)))))))
def m_law_unknowns_b1_2 : WS :=
  wSeq (wIfS (wTst (wBin (gB0 fun i j => decide (i < j)) (wVar 9) (wArg gLen (wCons (wVar 4) wNil)))) (wDrop (wBM gAppend (wVar 10) (wCons (wArg gTupD (wCons (wBin gCatT (wVar 8) (wArg gTupD (wCons (wBin gIx (wVar 4) (wVar 9)) wNil))) (wCons (wBin gAdd (wVar 9) (wC (.int 1))) wNil))) wNil))) wNext)
    m_law_unknowns_b1_3
def m_law_unknowns_b1 : WS :=
  wSeq (wAsg (wArg gRootD (wCons (wArg gTupD (wCons (wBin gCatT (wVar 8) (wArg gTupD (wCons (wC (.int 0)) wNil))) (wCons (wVar 9) wNil))) wNil)) (wgName 10))
    m_law_unknowns_b1_2
def m_law_unknowns_b2_3 : WS :=
  (wAsg (wVar 7) (wgName 5))
def m_law_unknowns_b2_2 : WS :=
  wSeq (wFor (wKeysN (wVar 5)) (wgTup 2 (wgCons (wgName 8) (wgCons (wgName 9) wgNil))) m_law_unknowns_b1)
    m_law_unknowns_b2_3
def m_law_unknowns_b2 : WS :=
  wSeq (wAsg wDNewN (wgName 7))
    m_law_unknowns_b2_2
def m_law_unknowns_b3_3 : WS :=
  (wFor (wKeysN (wVar 5)) (wgTup 2 (wgCons (wgName 8) (wgCons (wgName 9) wgNil))) (wIfS (wTst (wBin (gEqD id) (wVar 9) (wArg gLen (wCons (wVar 4) wNil)))) (wDPut (wVar 2) (wVar 8) (wBin gAdd (wDGet (wVar 2) (wVar 8) (wC (.int 0))) (wDIxN (wVar 5) (wArg gTupD (wCons (wVar 8) (wCons (wVar 9) wNil)))))) wNext))
def m_law_unknowns_b3_2 : WS :=
  wSeq (wFor (wRng1 (wCons (wVar 1) wNil)) (wgName 6) m_law_unknowns_b2)
    m_law_unknowns_b3_3
def m_law_unknowns_b3 : WS :=
  wSeq (wAsg (wDispN (wArg gTupD (wCons (wArg gTupD wNil) (wCons (wC (.int 0)) wNil))) (wVar 3)) (wgName 5))
    m_law_unknowns_b3_2
def m_law_unknowns : WS :=
  (wSeq (wAsg wDNew (wgName 2))
    (wSeq (wFor (wFroz (wVar 0)) (wgTup 2 (wgCons (wgName 3) (wgCons (wgName 4) wgNil))) m_law_unknowns_b3)
    (wRet (wArg gDict (wCons (wLc (wKeys (wVar 2)) (wgName 11) (wTst (wBin (gEqD not) (wDIx (wVar 2) (wVar 11)) (wC (.int 0)))) (wArg gTupD (wCons (wVar 11) (wCons (wDIx (wVar 2) (wVar 11)) wNil))) [11]) wNil)))))
theorem body_law_unknowns : Body S_law_unknowns m_law_unknowns 12 := by
  rintro ds cs Q X' ⟨ts, n, rfl, hz, hn, k⟩
  simp only [m_law_unknowns, wVar, wDNew, wDIx, wDGet, wDPut, wKeys, gSorted, dictT, dictLive, tkey, keyT, wIsi, gEqO, wKw, wCallK, wMethK, pick, wC, wBin, wTst, wUn, wNil, wCons, wArg, gTupD, gLstD, gRootD, wAndT, wOrT, wNotT, wAndV, wOrV, wNotV, wIf, wNext, wSeq, wBreak, wCont, wDrop, wRet, wRetN, wIfS, wgName, wgNil, wgCons, wgTup, wAsg, wPar, wPar3, gDict, wLcR, wTru, wDIn, truD, wLc2, lcW2, lcJ, wMaxDef, wListRg, gIn, flatD, flatL, wFroz, wTupI, wRng1, wRng2, wRng3, wEnum, wZip, wFor, wYes, wLc, wipeD, gI, gI0, gB0, gAdd, gCatR, gMul, gNeg, gEqI, gEqB, gEqS, gIsN, isNonD, wCall, wMeth, wMake, wFldS, fldD, wFld, wProp, g1, g2L, gLen, gAbs, gIntC, gStrI, gMax2, gMin2, gInts, gSum, gMaxL, gMinL, gBls, gListOf, gListOfR, gTupOf, gIx, woNo, woSome, wSl, wRev, wRevF, wBM, wBM0, gAppend, gInsert, gReverse, gExtend, gPopAt, gPop, gSetL, wSub, wAug, gIxL, wAugS, wFz, seqD, lisD, frozL, derefL, liveL, cellL, cellF, startD, List.map_cons, List.map_nil, List.length_cons, List.length_nil, List.replicate, List.cons_append, List.nil_append, List.getElem?_cons_zero, List.getElem?_cons_succ, List.getElem?_nil, List.set_cons_zero, List.set_cons_succ, Nat.reduceSub, Nat.reduceAdd, Nat.reduceLT, Nat.reduceLeDiff, if_true, if_false, Bool.false_eq_true, decide_eq_true_eq, Option.isSome_some, id_eq, and_true, true_and, wDisp1, gCatT, gDEm, wItems, itemT, gLenT, wChain, wSlT, gComb, wIsTup, gGcd, gFactorial, gSortTup, gSortDT, gInP, wSortKey, wSortKeyR, wDNewN, wDIxN, wDGetN, wDPutN, wDispN, wKeysN, dictN, dictNL, gDEq, gIsB, lotD]
  obtain ⟨F, eF⟩ : ∃ F, cs.length = F := ⟨_, rfl⟩
  rw [eF]
  have hF0 : (cs ++ [C.dT []])[F]? = some (.dT []) := by rw [← eF]; exact app_get _ _
  refine for_by (fun i sl c => (∃ x3 x4 x5 x6 x7 x8 x9 x10 x11, sl = [some (.lst (ts.map termD)), some (.int (n : Int)), some (.root F), x3, x4, x5, x6, x7, x8, x9, x10, x11]) ∧ Ke cs c ∧ ∃ m : Tal, c[F]? = some (.dT (talD m)) ∧ (m.map (·.1)).Nodup ∧ (∀ p ∈ m, p.1.length = n) ∧ m.length ≤ i * 2 ^ n ∧ ∀ g, gsum m g = FS (ts.take i) fun w => PW w n (fullF w g))
    ⟨⟨_, _, _, _, _, _, _, _, _, rfl⟩, .push, [], hF0, List.nodup_nil, (fun _ h => nomatch h), Nat.zero_le _, fun _ => rfl⟩ ?_ ?_
  · rintro i d sl c k1 hd ⟨⟨x3, x4, x5, x6, x7, x8, x9, x10, x11, rfl⟩, K1, m, hm, nd, hl, lm, hg⟩ q
    rw [List.getElem?_map] at hd
    cases e : ts[i]? with
    | none => rw [e] at hd; cases hd
    | some t =>
    rw [e] at hd
    cases hd
    have hi : i < ts.length := (List.getElem?_eq_some_iff.mp e).1
    simp only [wVar, wDNew, wDIx, wDGet, wDPut, wKeys, gSorted, dictT, dictLive, tkey, keyT, wIsi, gEqO, wKw, wCallK, wMethK, pick, wC, wBin, wTst, wUn, wNil, wCons, wArg, gTupD, gLstD, gRootD, wAndT, wOrT, wNotT, wAndV, wOrV, wNotV, wIf, wNext, wSeq, wBreak, wCont, wDrop, wRet, wRetN, wIfS, wgName, wgNil, wgCons, wgTup, wAsg, wPar, wPar3, gDict, wLcR, wTru, wDIn, truD, wLc2, lcW2, lcJ, wMaxDef, wListRg, gIn, flatD, flatL, wFroz, wTupI, wRng1, wRng2, wRng3, wEnum, wZip, wFor, wYes, wLc, wipeD, gI, gI0, gB0, gAdd, gCatR, gMul, gNeg, gEqI, gEqB, gEqS, gIsN, isNonD, wCall, wMeth, wMake, wFldS, fldD, wFld, wProp, g1, g2L, gLen, gAbs, gIntC, gStrI, gMax2, gMin2, gInts, gSum, gMaxL, gMinL, gBls, gListOf, gListOfR, gTupOf, gIx, woNo, woSome, wSl, wRev, wRevF, wBM, wBM0, gAppend, gInsert, gReverse, gExtend, gPopAt, gPop, gSetL, wSub, wAug, gIxL, wAugS, wFz, seqD, lisD, frozL, derefL, liveL, cellL, cellF, startD, List.map_cons, List.map_nil, List.length_cons, List.length_nil, List.replicate, List.cons_append, List.nil_append, List.getElem?_cons_zero, List.getElem?_cons_succ, List.getElem?_nil, List.set_cons_zero, List.set_cons_succ, Nat.reduceSub, Nat.reduceAdd, Nat.reduceLT, Nat.reduceLeDiff, if_true, if_false, Bool.false_eq_true, decide_eq_true_eq, Option.isSome_some, id_eq, and_true, true_and, wDisp1, gCatT, gDEm, wItems, itemT, gLenT, wChain, wSlT, gComb, wIsTup, gGcd, gFactorial, gSortTup, gSortDT, gInP, wSortKey, wSortKeyR, wDNewN, wDIxN, wDGetN, wDPutN, wDispN, wKeysN, dictN, dictNL, gDEq, gIsB, termD, wordD, m_law_unknowns_b3]
    have lF : F < c.length := (List.getElem?_eq_some_iff.mp hm).1
    obtain ⟨v, w⟩ := t
    refine ⟨szl (by decide), szl (by decide), ?_⟩
    rw [show nkey (D.tup [D.tup [], D.int 0]) = some (xk [] 0) from nkey_xk [] 0, app_get]
    simp only [app_set, m_law_unknowns_b3_2, wVar, wDNew, wDIx, wDGet, wDPut, wKeys, gSorted, dictT, dictLive, tkey, keyT, wIsi, gEqO, wKw, wCallK, wMethK, pick, wC, wBin, wTst, wUn, wNil, wCons, wArg, gTupD, gLstD, gRootD, wAndT, wOrT, wNotT, wAndV, wOrV, wNotV, wIf, wNext, wSeq, wBreak, wCont, wDrop, wRet, wRetN, wIfS, wgName, wgNil, wgCons, wgTup, wAsg, wPar, wPar3, gDict, wLcR, wTru, wDIn, truD, wLc2, lcW2, lcJ, wMaxDef, wListRg, gIn, flatD, flatL, wFroz, wTupI, wRng1, wRng2, wRng3, wEnum, wZip, wFor, wYes, wLc, wipeD, gI, gI0, gB0, gAdd, gCatR, gMul, gNeg, gEqI, gEqB, gEqS, gIsN, isNonD, wCall, wMeth, wMake, wFldS, fldD, wFld, wProp, g1, g2L, gLen, gAbs, gIntC, gStrI, gMax2, gMin2, gInts, gSum, gMaxL, gMinL, gBls, gListOf, gListOfR, gTupOf, gIx, woNo, woSome, wSl, wRev, wRevF, wBM, wBM0, gAppend, gInsert, gReverse, gExtend, gPopAt, gPop, gSetL, wSub, wAug, gIxL, wAugS, wFz, seqD, lisD, frozL, derefL, liveL, cellL, cellF, startD, List.map_cons, List.map_nil, List.length_cons, List.length_nil, List.replicate, List.cons_append, List.nil_append, List.getElem?_cons_zero, List.getElem?_cons_succ, List.getElem?_nil, List.set_cons_zero, List.set_cons_succ, Nat.reduceSub, Nat.reduceAdd, Nat.reduceLT, Nat.reduceLeDiff, if_true, if_false, Bool.false_eq_true, decide_eq_true_eq, Option.isSome_some, id_eq, and_true, true_and, wDisp1, gCatT, gDEm, wItems, itemT, gLenT, wChain, wSlT, gComb, wIsTup, gGcd, gFactorial, gSortTup, gSortDT, gInP, wSortKey, wSortKeyR, wDNewN, wDIxN, wDGetN, wDPutN, wDispN, wKeysN, dictN, dictNL, gDEq, gIsB]
    have h2 : ∀ s : Nat, s ≤ n → 2 ^ s ≤ 512 := fun s hs => Nat.pow_le_pow_right (by decide) (show s ≤ 9 by omega)
    refine ⟨⟨by omega, by omega⟩, ?_⟩
    refine for_by (fun s sl c2 => (∃ wr x6 x7 x8 x9 x10 x11, sl = [some (.lst (ts.map termD)), some (.int (n : Int)), some (.root F), some (.int v), some (.lst (w.map D.int)), some (.root wr), x6, x7, x8, x9, x10, x11] ∧ c.length ≤ wr ∧ ∃ M : List (XP × Int), c2[wr]? = some (.dN (waysD M)) ∧ (M.map (·.1)).Nodup ∧ (∀ p ∈ M, p.1.1.length = s) ∧ M.length ≤ 2 ^ s ∧ ∀ f, gsum M f = v * PW w s f) ∧ Ke c c2)
      ⟨⟨_, _, _, _, _, _, _, rfl, Nat.le_refl _, [(([], 0), v)], app_get _ _, List.nodup_cons.mpr ⟨fun h => (nomatch h), List.nodup_nil⟩, (fun p hp => by rw [List.mem_singleton.mp hp]; rfl), Nat.le_refl _, fun f => by rw [gsum_cons, gsum_nil]; show v * f ([], 0) + 0 = v * f ([], 0); omega⟩, .push⟩ ?_ ?_
    · rintro s d' sl c2 k2 hd' ⟨⟨wr, x6, x7, x8, x9, x10, x11, rfl, hwr, M, hM, ndM, lM, zM, gM⟩, K2⟩ q2
      obtain ⟨rfl, hs⟩ := intsD_at hd'
      have hs : s < n := by omega
      have lwr : wr < c2.length := (List.getElem?_eq_some_iff.mp hM).1
      obtain ⟨L, eL⟩ : ∃ L, c2.length = L := ⟨_, rfl⟩
      have hM2 : (c2 ++ [C.dN []])[wr]? = some (.dN (waysD M)) := by rw [List.getElem?_append_left lwr]; exact hM
      have hL2 : (c2 ++ [C.dN []])[L]? = some (.dN []) := by rw [← eL]; exact app_get _ _
      have K3 : Ke c (c2 ++ [C.dN []]) := K2.trans .push
      simp only [m_law_unknowns_b2, wVar, wDNew, wDIx, wDGet, wDPut, wKeys, gSorted, dictT, dictLive, tkey, keyT, wIsi, gEqO, wKw, wCallK, wMethK, pick, wC, wBin, wTst, wUn, wNil, wCons, wArg, gTupD, gLstD, gRootD, wAndT, wOrT, wNotT, wAndV, wOrV, wNotV, wIf, wNext, wSeq, wBreak, wCont, wDrop, wRet, wRetN, wIfS, wgName, wgNil, wgCons, wgTup, wAsg, wPar, wPar3, gDict, wLcR, wTru, wDIn, truD, wLc2, lcW2, lcJ, wMaxDef, wListRg, gIn, flatD, flatL, wFroz, wTupI, wRng1, wRng2, wRng3, wEnum, wZip, wFor, wYes, wLc, wipeD, gI, gI0, gB0, gAdd, gCatR, gMul, gNeg, gEqI, gEqB, gEqS, gIsN, isNonD, wCall, wMeth, wMake, wFldS, fldD, wFld, wProp, g1, g2L, gLen, gAbs, gIntC, gStrI, gMax2, gMin2, gInts, gSum, gMaxL, gMinL, gBls, gListOf, gListOfR, gTupOf, gIx, woNo, woSome, wSl, wRev, wRevF, wBM, wBM0, gAppend, gInsert, gReverse, gExtend, gPopAt, gPop, gSetL, wSub, wAug, gIxL, wAugS, wFz, seqD, lisD, frozL, derefL, liveL, cellL, cellF, startD, List.map_cons, List.map_nil, List.length_cons, List.length_nil, List.replicate, List.cons_append, List.nil_append, List.getElem?_cons_zero, List.getElem?_cons_succ, List.getElem?_nil, List.set_cons_zero, List.set_cons_succ, Nat.reduceSub, Nat.reduceAdd, Nat.reduceLT, Nat.reduceLeDiff, if_true, if_false, Bool.false_eq_true, decide_eq_true_eq, Option.isSome_some, id_eq, and_true, true_and, wDisp1, gCatT, gDEm, wItems, itemT, gLenT, wChain, wSlT, gComb, wIsTup, gGcd, gFactorial, gSortTup, gSortDT, gInP, wSortKey, wSortKeyR, wDNewN, wDIxN, wDGetN, wDPutN, wDispN, wKeysN, dictN, dictNL, gDEq, gIsB]
      rw [eL]
      generalize c2 ++ [C.dN []] = c3 at hM2 hL2 K3 ⊢
      simp only [m_law_unknowns_b2_2, wVar, wDNew, wDIx, wDGet, wDPut, wKeys, gSorted, dictT, dictLive, tkey, keyT, wIsi, gEqO, wKw, wCallK, wMethK, pick, wC, wBin, wTst, wUn, wNil, wCons, wArg, gTupD, gLstD, gRootD, wAndT, wOrT, wNotT, wAndV, wOrV, wNotV, wIf, wNext, wSeq, wBreak, wCont, wDrop, wRet, wRetN, wIfS, wgName, wgNil, wgCons, wgTup, wAsg, wPar, wPar3, gDict, wLcR, wTru, wDIn, truD, wLc2, lcW2, lcJ, wMaxDef, wListRg, gIn, flatD, flatL, wFroz, wTupI, wRng1, wRng2, wRng3, wEnum, wZip, wFor, wYes, wLc, wipeD, gI, gI0, gB0, gAdd, gCatR, gMul, gNeg, gEqI, gEqB, gEqS, gIsN, isNonD, wCall, wMeth, wMake, wFldS, fldD, wFld, wProp, g1, g2L, gLen, gAbs, gIntC, gStrI, gMax2, gMin2, gInts, gSum, gMaxL, gMinL, gBls, gListOf, gListOfR, gTupOf, gIx, woNo, woSome, wSl, wRev, wRevF, wBM, wBM0, gAppend, gInsert, gReverse, gExtend, gPopAt, gPop, gSetL, wSub, wAug, gIxL, wAugS, wFz, seqD, lisD, frozL, derefL, liveL, cellL, cellF, startD, List.map_cons, List.map_nil, List.length_cons, List.length_nil, List.replicate, List.cons_append, List.nil_append, List.getElem?_cons_zero, List.getElem?_cons_succ, List.getElem?_nil, List.set_cons_zero, List.set_cons_succ, Nat.reduceSub, Nat.reduceAdd, Nat.reduceLT, Nat.reduceLeDiff, if_true, if_false, Bool.false_eq_true, decide_eq_true_eq, Option.isSome_some, id_eq, and_true, true_and, wDisp1, gCatT, gDEm, wItems, itemT, gLenT, wChain, wSlT, gComb, wIsTup, gGcd, gFactorial, gSortTup, gSortDT, gInP, wSortKey, wSortKeyR, wDNewN, wDIxN, wDGetN, wDPutN, wDispN, wKeysN, dictN, dictNL, gDEq, gIsB, hM2, keyN_ways]
      have l3 := (List.getElem?_eq_some_iff.mp hM2).1
      have hM4 : (c3.set wr (.zN (waysD M)))[wr]? = some (.zN (waysD M)) := List.getElem?_set_self l3
      have hL4 : (c3.set wr (.zN (waysD M)))[L]? = some (.dN (waysD [])) := by rw [List.getElem?_set_ne (by omega)]; exact hL2
      have K4 : Ke c (c3.set wr (.zN (waysD M))) := K3.set_new hwr
      generalize c3.set wr (.zN (waysD M)) = c4 at hM4 hL4 K4 ⊢
      have z2 := h2 (s + 1) (by omega)
      rw [Nat.pow_succ] at z2
      refine for_by (fun a sl c5 => (∃ x8 x9 x10 x11, sl = [some (.lst (ts.map termD)), some (.int (n : Int)), some (.root F), some (.int v), some (.lst (w.map D.int)), some (.root wr), some (.int (0 + (s : Int))), some (.root L), x8, x9, x10, x11]) ∧ c5[wr]? = some (.zN (waysD M)) ∧ Ke c c5 ∧ ∃ A : List (XP × Int), c5[L]? = some (.dN (waysD A)) ∧ (A.map (·.1)).Nodup ∧ (∀ p ∈ A, p.1.1.length = s + 1) ∧ A.length ≤ 2 * a ∧ ∀ f, gsum A f = gsum (M.take a) (stepF w f))
        ⟨⟨_, _, _, _, rfl⟩, hM4, K4, [], hL4, List.nodup_nil, (fun _ h => nomatch h), Nat.zero_le _, fun _ => rfl⟩ ?_ ?_
      · rintro a d' sl c5 k3 hd' ⟨⟨x8, x9, x10, x11, rfl⟩, hM5, K5, A, hA, ndA, lA, zA, gA⟩ q3
        rw [List.getElem?_map] at hd'
        cases ep : M[a]? with
        | none => rw [ep] at hd'; cases hd'
        | some p =>
        rw [ep] at hd'
        cases hd'
        have hpM := List.mem_of_getElem? ep
        have la := (List.getElem?_eq_some_iff.mp ep).1
        have getp := aget_mem ndM hpM
        have lp := lM p hpM
        obtain ⟨⟨ex, us⟩, co⟩ := p
        have fin : ∀ (bk : Sl → Cells → Prop) (ks : List XP) (Kr : Nat) (c6 : Cells), ks.length ≤ 2 → (∀ x ∈ ks, x.1.length = s + 1) → (∀ f : XP → Int, (ks.map f).sum = stepF w f (ex, us)) → L < Kr → wr < L → c6[Kr]? = some (.lst (ks.map kpD)) → c6[wr]? = some (.zN (waysD M)) → c6[L]? = some (.dN (waysD A)) → Ke c c6 →
            m_law_unknowns_b1_3 { nx := k3, rt := Q, xq := fun _ _ _ => False, bk := bk, ct := k3 } [some (.lst (ts.map termD)), some (.int (n : Int)), some (.root F), some (.int v), some (.lst (w.map D.int)), some (.root wr), some (.int (0 + (s : Int))), some (.root L), some (.tup (ex.map D.int)), some (.int (us : Int)), some (.root Kr), x11] c6 := by
          intro bk ks Kr c6 lk hks sk hLK hwL hK hMc hLc Kc
          simp only [m_law_unknowns_b1_3, wVar, wDNew, wDIx, wDGet, wDPut, wKeys, gSorted, dictT, dictLive, tkey, keyT, wIsi, gEqO, wKw, wCallK, wMethK, pick, wC, wBin, wTst, wUn, wNil, wCons, wArg, gTupD, gLstD, gRootD, wAndT, wOrT, wNotT, wAndV, wOrV, wNotV, wIf, wNext, wSeq, wBreak, wCont, wDrop, wRet, wRetN, wIfS, wgName, wgNil, wgCons, wgTup, wAsg, wPar, wPar3, gDict, wLcR, wTru, wDIn, truD, wLc2, lcW2, lcJ, wMaxDef, wListRg, gIn, flatD, flatL, wFroz, wTupI, wRng1, wRng2, wRng3, wEnum, wZip, wFor, wYes, wLc, wipeD, gI, gI0, gB0, gAdd, gCatR, gMul, gNeg, gEqI, gEqB, gEqS, gIsN, isNonD, wCall, wMeth, wMake, wFldS, fldD, wFld, wProp, g1, g2L, gLen, gAbs, gIntC, gStrI, gMax2, gMin2, gInts, gSum, gMaxL, gMinL, gBls, gListOf, gListOfR, gTupOf, gIx, woNo, woSome, wSl, wRev, wRevF, wBM, wBM0, gAppend, gInsert, gReverse, gExtend, gPopAt, gPop, gSetL, wSub, wAug, gIxL, wAugS, wFz, seqD, lisD, frozL, derefL, liveL, cellL, cellF, startD, List.map_cons, List.map_nil, List.length_cons, List.length_nil, List.replicate, List.cons_append, List.nil_append, List.getElem?_cons_zero, List.getElem?_cons_succ, List.getElem?_nil, List.set_cons_zero, List.set_cons_succ, Nat.reduceSub, Nat.reduceAdd, Nat.reduceLT, Nat.reduceLeDiff, if_true, if_false, Bool.false_eq_true, decide_eq_true_eq, Option.isSome_some, id_eq, and_true, true_and, wDisp1, gCatT, gDEm, wItems, itemT, gLenT, wChain, wSlT, gComb, wIsTup, gGcd, gFactorial, gSortTup, gSortDT, gInP, wSortKey, wSortKeyR, wDNewN, wDIxN, wDGetN, wDPutN, wDispN, wKeysN, dictN, dictNL, gDEq, gIsB, hK]
          have hM7 : (c6.set Kr (.fz (.lst (ks.map kpD))))[wr]? = some (.zN (waysD M)) := by rw [List.getElem?_set_ne (by omega)]; exact hMc
          have hL7 : (c6.set Kr (.fz (.lst (ks.map kpD))))[L]? = some (.dN (waysD A)) := by rw [List.getElem?_set_ne (by omega)]; exact hLc
          have K7 : Ke c (c6.set Kr (.fz (.lst (ks.map kpD)))) := Kc.set_new (by omega)
          generalize c6.set Kr (.fz (.lst (ks.map kpD))) = c7 at hM7 hL7 K7 ⊢
          refine for_by (fun b sl c8 => (∃ x11, sl = [some (.lst (ts.map termD)), some (.int (n : Int)), some (.root F), some (.int v), some (.lst (w.map D.int)), some (.root wr), some (.int (0 + (s : Int))), some (.root L), some (.tup (ex.map D.int)), some (.int (us : Int)), some (.root Kr), x11]) ∧ c8[wr]? = some (.zN (waysD M)) ∧ Ke c c8 ∧ ∃ B : List (XP × Int), c8[L]? = some (.dN (waysD B)) ∧ (B.map (·.1)).Nodup ∧ (∀ p ∈ B, p.1.1.length = s + 1) ∧ B.length ≤ A.length + b ∧ ∀ f, gsum B f = gsum A f + co * ((ks.take b).map f).sum)
            ⟨⟨_, rfl⟩, hM7, K7, A, hL7, ndA, lA, Nat.le_refl _, fun f => by show gsum A f = gsum A f + co * 0; omega⟩ ?_ ?_
          · rintro b d' sl c8 k4 hd' ⟨⟨y11, rfl⟩, hM8, K8, B, hB, ndB, lB, zB, gB⟩ q4
            rw [List.getElem?_map] at hd'
            cases ek : ks[b]? with
            | none => rw [ek] at hd'; cases hd'
            | some k0 =>
            rw [ek] at hd'
            cases hd'
            have lb := (List.getElem?_eq_some_iff.mp ek).1
            have nk1 := nkey_kp k0
            have nk2 : nkey (.tup [.tup (ex.map D.int), .int (us : Int)]) = some (xk ex (us : Int)) := nkey_xk ex us
            have v2 : valG (waysD M) (xk ex (us : Int)) = some (.int co) := (valG_ways (ex, us) M).trans (by rw [getp]; rfl)
            have v1 := valG_ways k0 B
            have ev : ((aget B k0).map D.int).getD (.int 0) = .int ((aget B k0).getD 0) := by cases aget B k0 <;> rfl
            have lB8 := (List.getElem?_eq_some_iff.mp hB).1
            simp only [wVar, wDNew, wDIx, wDGet, wDPut, wKeys, gSorted, dictT, dictLive, tkey, keyT, wIsi, gEqO, wKw, wCallK, wMethK, pick, wC, wBin, wTst, wUn, wNil, wCons, wArg, gTupD, gLstD, gRootD, wAndT, wOrT, wNotT, wAndV, wOrV, wNotV, wIf, wNext, wSeq, wBreak, wCont, wDrop, wRet, wRetN, wIfS, wgName, wgNil, wgCons, wgTup, wAsg, wPar, wPar3, gDict, wLcR, wTru, wDIn, truD, wLc2, lcW2, lcJ, wMaxDef, wListRg, gIn, flatD, flatL, wFroz, wTupI, wRng1, wRng2, wRng3, wEnum, wZip, wFor, wYes, wLc, wipeD, gI, gI0, gB0, gAdd, gCatR, gMul, gNeg, gEqI, gEqB, gEqS, gIsN, isNonD, wCall, wMeth, wMake, wFldS, fldD, wFld, wProp, g1, g2L, gLen, gAbs, gIntC, gStrI, gMax2, gMin2, gInts, gSum, gMaxL, gMinL, gBls, gListOf, gListOfR, gTupOf, gIx, woNo, woSome, wSl, wRev, wRevF, wBM, wBM0, gAppend, gInsert, gReverse, gExtend, gPopAt, gPop, gSetL, wSub, wAug, gIxL, wAugS, wFz, seqD, lisD, frozL, derefL, liveL, cellL, cellF, startD, List.map_cons, List.map_nil, List.length_cons, List.length_nil, List.replicate, List.cons_append, List.nil_append, List.getElem?_cons_zero, List.getElem?_cons_succ, List.getElem?_nil, List.set_cons_zero, List.set_cons_succ, Nat.reduceSub, Nat.reduceAdd, Nat.reduceLT, Nat.reduceLeDiff, if_true, if_false, Bool.false_eq_true, decide_eq_true_eq, Option.isSome_some, id_eq, and_true, true_and, wDisp1, gCatT, gDEm, wItems, itemT, gLenT, wChain, wSlT, gComb, wIsTup, gGcd, gFactorial, gSortTup, gSortDT, gInP, wSortKey, wSortKeyR, wDNewN, wDIxN, wDGetN, wDPutN, wDispN, wKeysN, dictN, dictNL, gDEq, gIsB, hB, hM8, nk1, nk2, v1, v2, ev, putG_ways k0]
            refine ⟨szl (by decide), szlt (by unfold waysD; rw [List.length_map]; omega), q4 _ _ ⟨⟨_, rfl⟩, by rw [List.getElem?_set_ne (by omega)]; exact hM8, K8.set_new (by omega), aput B k0 ((aget B k0).getD 0 + co), List.getElem?_set_self lB8, aput_nodup ndB _ _, fun p hp => ?_, by have := aput_len B k0 ((aget B k0).getD 0 + co); omega, fun f => ?_⟩⟩
            · rcases aput_mem p hp with z | z
              · rw [z]; exact hks k0 (List.mem_of_getElem? ek)
              · obtain ⟨p', hp', e'⟩ := List.mem_map.mp z
                rw [← e']; exact lB p' hp'
            · rw [gsum_put ndB, gB, List.take_add_one, ek, List.map_append, List.sum_append]
              show gsum A f + co * _ + co * f k0 = gsum A f + co * (_ + (f k0 + 0))
              rw [Int.mul_add, Int.add_zero]; omega
          · rintro sl c8 ⟨⟨y11, rfl⟩, hM8, K8, B, hB, ndB, lB, zB, gB⟩
            rw [List.length_map] at zB gB
            refine q3 _ _ ⟨⟨_, _, _, _, rfl⟩, hM8, K8, B, hB, ndB, lB, by omega, fun f => ?_⟩
            rw [gB f, gA f, List.take_length, sk, List.take_add_one, ep]
            show _ = gsum (M.take a ++ [((ex, us), co)]) (stepF w f)
            rw [gsum_snoc]
        simp only [wVar, wDNew, wDIx, wDGet, wDPut, wKeys, gSorted, dictT, dictLive, tkey, keyT, wIsi, gEqO, wKw, wCallK, wMethK, pick, wC, wBin, wTst, wUn, wNil, wCons, wArg, gTupD, gLstD, gRootD, wAndT, wOrT, wNotT, wAndV, wOrV, wNotV, wIf, wNext, wSeq, wBreak, wCont, wDrop, wRet, wRetN, wIfS, wgName, wgNil, wgCons, wgTup, wAsg, wPar, wPar3, gDict, wLcR, wTru, wDIn, truD, wLc2, lcW2, lcJ, wMaxDef, wListRg, gIn, flatD, flatL, wFroz, wTupI, wRng1, wRng2, wRng3, wEnum, wZip, wFor, wYes, wLc, wipeD, gI, gI0, gB0, gAdd, gCatR, gMul, gNeg, gEqI, gEqB, gEqS, gIsN, isNonD, wCall, wMeth, wMake, wFldS, fldD, wFld, wProp, g1, g2L, gLen, gAbs, gIntC, gStrI, gMax2, gMin2, gInts, gSum, gMaxL, gMinL, gBls, gListOf, gListOfR, gTupOf, gIx, woNo, woSome, wSl, wRev, wRevF, wBM, wBM0, gAppend, gInsert, gReverse, gExtend, gPopAt, gPop, gSetL, wSub, wAug, gIxL, wAugS, wFz, seqD, lisD, frozL, derefL, liveL, cellL, cellF, startD, List.map_cons, List.map_nil, List.length_cons, List.length_nil, List.replicate, List.cons_append, List.nil_append, List.getElem?_cons_zero, List.getElem?_cons_succ, List.getElem?_nil, List.set_cons_zero, List.set_cons_succ, Nat.reduceSub, Nat.reduceAdd, Nat.reduceLT, Nat.reduceLeDiff, if_true, if_false, Bool.false_eq_true, decide_eq_true_eq, Option.isSome_some, id_eq, and_true, true_and, wDisp1, gCatT, gDEm, wItems, itemT, gLenT, wChain, wSlT, gComb, wIsTup, gGcd, gFactorial, gSortTup, gSortDT, gInP, wSortKey, wSortKeyR, wDNewN, wDIxN, wDGetN, wDPutN, wDispN, wKeysN, dictN, dictNL, gDEq, gIsB, kpD, tupD, m_law_unknowns_b1]
        refine ⟨szl (by decide), szl (by rw [List.length_map]; show ex.length + 1 ≤ _; have : ex.length = s := lp; omega), szl (by decide), szl (by decide), ?_⟩
        have lL5 := (List.getElem?_eq_some_iff.mp hA).1
        have hM6 : ∀ x, (c5 ++ [x])[wr]? = some (.zN (waysD M)) := fun x => by rw [List.getElem?_append_left (List.getElem?_eq_some_iff.mp hM5).1]; exact hM5
        have hA6 : ∀ x, (c5 ++ [x])[L]? = some (.dN (waysD A)) := fun x => by rw [List.getElem?_append_left lL5]; exact hA
        simp only [m_law_unknowns_b1_2, wVar, wDNew, wDIx, wDGet, wDPut, wKeys, gSorted, dictT, dictLive, tkey, keyT, wIsi, gEqO, wKw, wCallK, wMethK, pick, wC, wBin, wTst, wUn, wNil, wCons, wArg, gTupD, gLstD, gRootD, wAndT, wOrT, wNotT, wAndV, wOrV, wNotV, wIf, wNext, wSeq, wBreak, wCont, wDrop, wRet, wRetN, wIfS, wgName, wgNil, wgCons, wgTup, wAsg, wPar, wPar3, gDict, wLcR, wTru, wDIn, truD, wLc2, lcW2, lcJ, wMaxDef, wListRg, gIn, flatD, flatL, wFroz, wTupI, wRng1, wRng2, wRng3, wEnum, wZip, wFor, wYes, wLc, wipeD, gI, gI0, gB0, gAdd, gCatR, gMul, gNeg, gEqI, gEqB, gEqS, gIsN, isNonD, wCall, wMeth, wMake, wFldS, fldD, wFld, wProp, g1, g2L, gLen, gAbs, gIntC, gStrI, gMax2, gMin2, gInts, gSum, gMaxL, gMinL, gBls, gListOf, gListOfR, gTupOf, gIx, woNo, woSome, wSl, wRev, wRevF, wBM, wBM0, gAppend, gInsert, gReverse, gExtend, gPopAt, gPop, gSetL, wSub, wAug, gIxL, wAugS, wFz, seqD, lisD, frozL, derefL, liveL, cellL, cellF, startD, List.map_cons, List.map_nil, List.length_cons, List.length_nil, List.replicate, List.cons_append, List.nil_append, List.getElem?_cons_zero, List.getElem?_cons_succ, List.getElem?_nil, List.set_cons_zero, List.set_cons_succ, Nat.reduceSub, Nat.reduceAdd, Nat.reduceLT, Nat.reduceLeDiff, if_true, if_false, Bool.false_eq_true, decide_eq_true_eq, Option.isSome_some, id_eq, and_true, true_and, wDisp1, gCatT, gDEm, wItems, itemT, gLenT, wChain, wSlT, gComb, wIsTup, gGcd, gFactorial, gSortTup, gSortDT, gInP, wSortKey, wSortKeyR, wDNewN, wDIxN, wDGetN, wDPutN, wDispN, wKeysN, dictN, dictNL, gDEq, gIsB, List.length_map]
        have lex : ex.length = s := lp
        by_cases hu : us < w.length
        · have hu' : (us : Int) < (w.length : Int) := by omega
          have hat : atI (w.map D.int) (us : Int) = some (.int (w.getD us 0)) := atI_nat (by rw [List.getElem?_map, List.getD_eq_getElem?_getD, List.getElem?_eq_getElem hu]; rfl)
          simp only [hu', decide_true, wVar, wDNew, wDIx, wDGet, wDPut, wKeys, gSorted, dictT, dictLive, tkey, keyT, wIsi, gEqO, wKw, wCallK, wMethK, pick, wC, wBin, wTst, wUn, wNil, wCons, wArg, gTupD, gLstD, gRootD, wAndT, wOrT, wNotT, wAndV, wOrV, wNotV, wIf, wNext, wSeq, wBreak, wCont, wDrop, wRet, wRetN, wIfS, wgName, wgNil, wgCons, wgTup, wAsg, wPar, wPar3, gDict, wLcR, wTru, wDIn, truD, wLc2, lcW2, lcJ, wMaxDef, wListRg, gIn, flatD, flatL, wFroz, wTupI, wRng1, wRng2, wRng3, wEnum, wZip, wFor, wYes, wLc, wipeD, gI, gI0, gB0, gAdd, gCatR, gMul, gNeg, gEqI, gEqB, gEqS, gIsN, isNonD, wCall, wMeth, wMake, wFldS, fldD, wFld, wProp, g1, g2L, gLen, gAbs, gIntC, gStrI, gMax2, gMin2, gInts, gSum, gMaxL, gMinL, gBls, gListOf, gListOfR, gTupOf, gIx, woNo, woSome, wSl, wRev, wRevF, wBM, wBM0, gAppend, gInsert, gReverse, gExtend, gPopAt, gPop, gSetL, wSub, wAug, gIxL, wAugS, wFz, seqD, lisD, frozL, derefL, liveL, cellL, cellF, startD, List.map_cons, List.map_nil, List.length_cons, List.length_nil, List.replicate, List.cons_append, List.nil_append, List.getElem?_cons_zero, List.getElem?_cons_succ, List.getElem?_nil, List.set_cons_zero, List.set_cons_succ, Nat.reduceSub, Nat.reduceAdd, Nat.reduceLT, Nat.reduceLeDiff, if_true, if_false, Bool.false_eq_true, decide_eq_true_eq, Option.isSome_some, id_eq, and_true, true_and, wDisp1, gCatT, gDEm, wItems, itemT, gLenT, wChain, wSlT, gComb, wIsTup, gGcd, gFactorial, gSortTup, gSortDT, gInP, wSortKey, wSortKeyR, wDNewN, wDIxN, wDGetN, wDPutN, wDispN, wKeysN, dictN, dictNL, gDEq, gIsB, hat, app_get]
          refine ⟨szl (by decide), szl (by omega), szl (by decide), szlt (by decide), ?_⟩
          refine fin _ [(ex ++ [0], us), (ex ++ [w.getD us 0], us + 1)] _ _ (show (2 : Nat) ≤ 2 by decide) (fun x hx => ?_) (fun f => ?_) lL5 (by omega) ?_ ?_ ?_ ((K5.trans .push).set_new (by have := K5.le; omega))
          · rcases List.mem_cons.mp hx with rfl | hx
            · show (ex ++ [0]).length = s + 1
              rw [List.length_append, List.length_singleton, lex]
            · rw [List.mem_singleton.mp hx]
              show (ex ++ [w.getD us 0]).length = s + 1
              rw [List.length_append, List.length_singleton, lex]
          · unfold stepF
            rw [if_pos hu]
            show f _ + (f _ + 0) = f _ + f _
            rw [Int.add_zero]
          · rw [List.getElem?_set_self (by rw [List.length_append, List.length_singleton]; omega)]
            simp only [List.map_cons, List.map_nil, kpD, tupD, List.map_append]
            rfl
          · rw [List.getElem?_set_ne (by omega)]; exact hM6 _
          · rw [List.getElem?_set_ne (by omega)]; exact hA6 _
        · have hu' : ¬ (us : Int) < (w.length : Int) := by omega
          simp only [hu', decide_false, wVar, wDNew, wDIx, wDGet, wDPut, wKeys, gSorted, dictT, dictLive, tkey, keyT, wIsi, gEqO, wKw, wCallK, wMethK, pick, wC, wBin, wTst, wUn, wNil, wCons, wArg, gTupD, gLstD, gRootD, wAndT, wOrT, wNotT, wAndV, wOrV, wNotV, wIf, wNext, wSeq, wBreak, wCont, wDrop, wRet, wRetN, wIfS, wgName, wgNil, wgCons, wgTup, wAsg, wPar, wPar3, gDict, wLcR, wTru, wDIn, truD, wLc2, lcW2, lcJ, wMaxDef, wListRg, gIn, flatD, flatL, wFroz, wTupI, wRng1, wRng2, wRng3, wEnum, wZip, wFor, wYes, wLc, wipeD, gI, gI0, gB0, gAdd, gCatR, gMul, gNeg, gEqI, gEqB, gEqS, gIsN, isNonD, wCall, wMeth, wMake, wFldS, fldD, wFld, wProp, g1, g2L, gLen, gAbs, gIntC, gStrI, gMax2, gMin2, gInts, gSum, gMaxL, gMinL, gBls, gListOf, gListOfR, gTupOf, gIx, woNo, woSome, wSl, wRev, wRevF, wBM, wBM0, gAppend, gInsert, gReverse, gExtend, gPopAt, gPop, gSetL, wSub, wAug, gIxL, wAugS, wFz, seqD, lisD, frozL, derefL, liveL, cellL, cellF, startD, List.map_cons, List.map_nil, List.length_cons, List.length_nil, List.replicate, List.cons_append, List.nil_append, List.getElem?_cons_zero, List.getElem?_cons_succ, List.getElem?_nil, List.set_cons_zero, List.set_cons_succ, Nat.reduceSub, Nat.reduceAdd, Nat.reduceLT, Nat.reduceLeDiff, if_true, if_false, Bool.false_eq_true, decide_eq_true_eq, Option.isSome_some, id_eq, and_true, true_and, wDisp1, gCatT, gDEm, wItems, itemT, gLenT, wChain, wSlT, gComb, wIsTup, gGcd, gFactorial, gSortTup, gSortDT, gInP, wSortKey, wSortKeyR, wDNewN, wDIxN, wDGetN, wDPutN, wDispN, wKeysN, dictN, dictNL, gDEq, gIsB]
          refine fin _ [(ex ++ [0], us)] _ _ (show (1 : Nat) ≤ 2 by decide) (fun x hx => ?_) (fun f => ?_) lL5 (by omega) ?_ (hM6 _) (hA6 _) (K5.trans .push)
          · rw [List.mem_singleton.mp hx, List.length_append, List.length_singleton, lex]
          · unfold stepF
            rw [if_neg hu]
            show f _ + 0 = f _ + 0
            rfl
          · rw [app_get, List.map_singleton]
            simp only [kpD, tupD, List.map_append, List.map_cons, List.map_nil]
      · rintro sl c5 ⟨⟨x8, x9, x10, x11, rfl⟩, hM5, K5, A, hA, ndA, lA, zA, gA⟩
        rw [List.length_map] at zA gA
        simp only [m_law_unknowns_b2_3, wVar, wDNew, wDIx, wDGet, wDPut, wKeys, gSorted, dictT, dictLive, tkey, keyT, wIsi, gEqO, wKw, wCallK, wMethK, pick, wC, wBin, wTst, wUn, wNil, wCons, wArg, gTupD, gLstD, gRootD, wAndT, wOrT, wNotT, wAndV, wOrV, wNotV, wIf, wNext, wSeq, wBreak, wCont, wDrop, wRet, wRetN, wIfS, wgName, wgNil, wgCons, wgTup, wAsg, wPar, wPar3, gDict, wLcR, wTru, wDIn, truD, wLc2, lcW2, lcJ, wMaxDef, wListRg, gIn, flatD, flatL, wFroz, wTupI, wRng1, wRng2, wRng3, wEnum, wZip, wFor, wYes, wLc, wipeD, gI, gI0, gB0, gAdd, gCatR, gMul, gNeg, gEqI, gEqB, gEqS, gIsN, isNonD, wCall, wMeth, wMake, wFldS, fldD, wFld, wProp, g1, g2L, gLen, gAbs, gIntC, gStrI, gMax2, gMin2, gInts, gSum, gMaxL, gMinL, gBls, gListOf, gListOfR, gTupOf, gIx, woNo, woSome, wSl, wRev, wRevF, wBM, wBM0, gAppend, gInsert, gReverse, gExtend, gPopAt, gPop, gSetL, wSub, wAug, gIxL, wAugS, wFz, seqD, lisD, frozL, derefL, liveL, cellL, cellF, startD, List.map_cons, List.map_nil, List.length_cons, List.length_nil, List.replicate, List.cons_append, List.nil_append, List.getElem?_cons_zero, List.getElem?_cons_succ, List.getElem?_nil, List.set_cons_zero, List.set_cons_succ, Nat.reduceSub, Nat.reduceAdd, Nat.reduceLT, Nat.reduceLeDiff, if_true, if_false, Bool.false_eq_true, decide_eq_true_eq, Option.isSome_some, id_eq, and_true, true_and, wDisp1, gCatT, gDEm, wItems, itemT, gLenT, wChain, wSlT, gComb, wIsTup, gGcd, gFactorial, gSortTup, gSortDT, gInP, wSortKey, wSortKeyR, wDNewN, wDIxN, wDGetN, wDPutN, wDispN, wKeysN, dictN, dictNL, gDEq, gIsB]
        refine q2 _ _ ⟨⟨_, _, _, _, _, _, _, rfl, by omega, A, hA, ndA, lA, by rw [Nat.pow_succ]; omega, fun f => ?_⟩, K5⟩
        rw [gA f, List.take_length, gM]
        rfl
    · rintro sl c2 ⟨⟨wr, x6, x7, x8, x9, x10, x11, rfl, hwr, M, hM, ndM, lM, zM, gM⟩, K2⟩
      rw [ints_len, Int.toNat_natCast] at lM zM gM
      have lwr := (List.getElem?_eq_some_iff.mp hM).1
      simp only [m_law_unknowns_b3_3, wVar, wDNew, wDIx, wDGet, wDPut, wKeys, gSorted, dictT, dictLive, tkey, keyT, wIsi, gEqO, wKw, wCallK, wMethK, pick, wC, wBin, wTst, wUn, wNil, wCons, wArg, gTupD, gLstD, gRootD, wAndT, wOrT, wNotT, wAndV, wOrV, wNotV, wIf, wNext, wSeq, wBreak, wCont, wDrop, wRet, wRetN, wIfS, wgName, wgNil, wgCons, wgTup, wAsg, wPar, wPar3, gDict, wLcR, wTru, wDIn, truD, wLc2, lcW2, lcJ, wMaxDef, wListRg, gIn, flatD, flatL, wFroz, wTupI, wRng1, wRng2, wRng3, wEnum, wZip, wFor, wYes, wLc, wipeD, gI, gI0, gB0, gAdd, gCatR, gMul, gNeg, gEqI, gEqB, gEqS, gIsN, isNonD, wCall, wMeth, wMake, wFldS, fldD, wFld, wProp, g1, g2L, gLen, gAbs, gIntC, gStrI, gMax2, gMin2, gInts, gSum, gMaxL, gMinL, gBls, gListOf, gListOfR, gTupOf, gIx, woNo, woSome, wSl, wRev, wRevF, wBM, wBM0, gAppend, gInsert, gReverse, gExtend, gPopAt, gPop, gSetL, wSub, wAug, gIxL, wAugS, wFz, seqD, lisD, frozL, derefL, liveL, cellL, cellF, startD, List.map_cons, List.map_nil, List.length_cons, List.length_nil, List.replicate, List.cons_append, List.nil_append, List.getElem?_cons_zero, List.getElem?_cons_succ, List.getElem?_nil, List.set_cons_zero, List.set_cons_succ, Nat.reduceSub, Nat.reduceAdd, Nat.reduceLT, Nat.reduceLeDiff, if_true, if_false, Bool.false_eq_true, decide_eq_true_eq, Option.isSome_some, id_eq, and_true, true_and, wDisp1, gCatT, gDEm, wItems, itemT, gLenT, wChain, wSlT, gComb, wIsTup, gGcd, gFactorial, gSortTup, gSortDT, gInP, wSortKey, wSortKeyR, wDNewN, wDIxN, wDGetN, wDPutN, wDispN, wKeysN, dictN, dictNL, gDEq, gIsB, hM, keyN_ways]
      have hM4 : (c2.set wr (.zN (waysD M)))[wr]? = some (.zN (waysD M)) := List.getElem?_set_self lwr
      have K4 : Ke c (c2.set wr (.zN (waysD M))) := K2.set_new hwr
      have hF4 : (c2.set wr (.zN (waysD M)))[F]? = some (.dT (talD m)) := (K4.at_ _ lF).trans hm
      have KK4 := K1.trans K4
      generalize c2.set wr (.zN (waysD M)) = c4 at hM4 K4 hF4 KK4 ⊢
      have zn := h2 n (Nat.le_refl _)
      refine for_by (fun a sl c5 => (∃ x8 x9, sl = [some (.lst (ts.map termD)), some (.int (n : Int)), some (.root F), some (.int v), some (.lst (w.map D.int)), some (.root wr), x6, x7, x8, x9, x10, x11]) ∧ c5[wr]? = some (.zN (waysD M)) ∧ Ke cs c5 ∧ ∃ m' : Tal, c5[F]? = some (.dT (talD m')) ∧ (m'.map (·.1)).Nodup ∧ (∀ p ∈ m', p.1.length = n) ∧ m'.length ≤ m.length + a ∧ ∀ g, gsum m' g = gsum m g + gsum (M.take a) (fullF w g))
        ⟨⟨_, _, rfl⟩, hM4, KK4, m, hF4, nd, hl, Nat.le_refl _, fun g => by show gsum m g = gsum m g + 0; omega⟩ ?_ ?_
      · rintro a d' sl c5 k3 hd' ⟨⟨x8, x9, rfl⟩, hM5, K5, m', hm', nd', hl', lm', hg'⟩ q3
        rw [List.getElem?_map] at hd'
        cases ep : M[a]? with
        | none => rw [ep] at hd'; cases hd'
        | some p =>
        rw [ep] at hd'
        cases hd'
        have hpM := List.mem_of_getElem? ep
        have la := (List.getElem?_eq_some_iff.mp ep).1
        have getp := aget_mem ndM hpM
        have lp := lM p hpM
        obtain ⟨⟨ex, us⟩, co⟩ := p
        have lex : ex.length = n := lp
        have lF5 := (List.getElem?_eq_some_iff.mp hm').1
        have nk2 : nkey (.tup [.tup (ex.map D.int), .int (us : Int)]) = some (xk ex (us : Int)) := nkey_xk ex us
        have v2 : valG (waysD M) (xk ex (us : Int)) = some (.int co) := (valG_ways (ex, us) M).trans (by rw [getp]; rfl)
        simp only [wVar, wDNew, wDIx, wDGet, wDPut, wKeys, gSorted, dictT, dictLive, tkey, keyT, wIsi, gEqO, wKw, wCallK, wMethK, pick, wC, wBin, wTst, wUn, wNil, wCons, wArg, gTupD, gLstD, gRootD, wAndT, wOrT, wNotT, wAndV, wOrV, wNotV, wIf, wNext, wSeq, wBreak, wCont, wDrop, wRet, wRetN, wIfS, wgName, wgNil, wgCons, wgTup, wAsg, wPar, wPar3, gDict, wLcR, wTru, wDIn, truD, wLc2, lcW2, lcJ, wMaxDef, wListRg, gIn, flatD, flatL, wFroz, wTupI, wRng1, wRng2, wRng3, wEnum, wZip, wFor, wYes, wLc, wipeD, gI, gI0, gB0, gAdd, gCatR, gMul, gNeg, gEqI, gEqB, gEqS, gIsN, isNonD, wCall, wMeth, wMake, wFldS, fldD, wFld, wProp, g1, g2L, gLen, gAbs, gIntC, gStrI, gMax2, gMin2, gInts, gSum, gMaxL, gMinL, gBls, gListOf, gListOfR, gTupOf, gIx, woNo, woSome, wSl, wRev, wRevF, wBM, wBM0, gAppend, gInsert, gReverse, gExtend, gPopAt, gPop, gSetL, wSub, wAug, gIxL, wAugS, wFz, seqD, lisD, frozL, derefL, liveL, cellL, cellF, startD, List.map_cons, List.map_nil, List.length_cons, List.length_nil, List.replicate, List.cons_append, List.nil_append, List.getElem?_cons_zero, List.getElem?_cons_succ, List.getElem?_nil, List.set_cons_zero, List.set_cons_succ, Nat.reduceSub, Nat.reduceAdd, Nat.reduceLT, Nat.reduceLeDiff, if_true, if_false, Bool.false_eq_true, decide_eq_true_eq, Option.isSome_some, id_eq, and_true, true_and, wDisp1, gCatT, gDEm, wItems, itemT, gLenT, wChain, wSlT, gComb, wIsTup, gGcd, gFactorial, gSortTup, gSortDT, gInP, wSortKey, wSortKeyR, wDNewN, wDIxN, wDGetN, wDPutN, wDispN, wKeysN, dictN, dictNL, gDEq, gIsB, kpD, tupD, List.length_map, gEqI]
        have tk : ∀ g, gsum (M.take (a + 1)) (fullF w g) = gsum (M.take a) (fullF w g) + co * fullF w g (ex, us) := fun g => by
          rw [List.take_add_one, ep]
          show gsum (M.take a ++ [((ex, us), co)]) (fullF w g) = _
          rw [gsum_snoc]
        by_cases hu : us = w.length
        · have hu' : (us : Int) = (w.length : Int) := by omega
          have ev : (valD (talD m') (wkey ex)).getD (.int 0) = .int ((talGet m' ex).getD 0) := by
            rw [valD_tal]
            cases talGet m' ex <;> rfl
          simp only [hu', decide_true, id_eq, wVar, wDNew, wDIx, wDGet, wDPut, wKeys, gSorted, dictT, dictLive, tkey, keyT, wIsi, gEqO, wKw, wCallK, wMethK, pick, wC, wBin, wTst, wUn, wNil, wCons, wArg, gTupD, gLstD, gRootD, wAndT, wOrT, wNotT, wAndV, wOrV, wNotV, wIf, wNext, wSeq, wBreak, wCont, wDrop, wRet, wRetN, wIfS, wgName, wgNil, wgCons, wgTup, wAsg, wPar, wPar3, gDict, wLcR, wTru, wDIn, truD, wLc2, lcW2, lcJ, wMaxDef, wListRg, gIn, flatD, flatL, wFroz, wTupI, wRng1, wRng2, wRng3, wEnum, wZip, wFor, wYes, wLc, wipeD, gI, gI0, gB0, gAdd, gCatR, gMul, gNeg, gEqI, gEqB, gEqS, gIsN, isNonD, wCall, wMeth, wMake, wFldS, fldD, wFld, wProp, g1, g2L, gLen, gAbs, gIntC, gStrI, gMax2, gMin2, gInts, gSum, gMaxL, gMinL, gBls, gListOf, gListOfR, gTupOf, gIx, woNo, woSome, wSl, wRev, wRevF, wBM, wBM0, gAppend, gInsert, gReverse, gExtend, gPopAt, gPop, gSetL, wSub, wAug, gIxL, wAugS, wFz, seqD, lisD, frozL, derefL, liveL, cellL, cellF, startD, List.map_cons, List.map_nil, List.length_cons, List.length_nil, List.replicate, List.cons_append, List.nil_append, List.getElem?_cons_zero, List.getElem?_cons_succ, List.getElem?_nil, List.set_cons_zero, List.set_cons_succ, Nat.reduceSub, Nat.reduceAdd, Nat.reduceLT, Nat.reduceLeDiff, if_true, if_false, Bool.false_eq_true, decide_eq_true_eq, Option.isSome_some, id_eq, and_true, true_and, wDisp1, gCatT, gDEm, wItems, itemT, gLenT, wChain, wSlT, gComb, wIsTup, gGcd, gFactorial, gSortTup, gSortDT, gInP, wSortKey, wSortKeyR, wDNewN, wDIxN, wDGetN, wDPutN, wDispN, wKeysN, dictN, dictNL, gDEq, gIsB, hm', hM5, unkeys_ints, ev]
          rw [← hu']
          simp only [nk2, v2, putD_tal, wVar, wDNew, wDIx, wDGet, wDPut, wKeys, gSorted, dictT, dictLive, tkey, keyT, wIsi, gEqO, wKw, wCallK, wMethK, pick, wC, wBin, wTst, wUn, wNil, wCons, wArg, gTupD, gLstD, gRootD, wAndT, wOrT, wNotT, wAndV, wOrV, wNotV, wIf, wNext, wSeq, wBreak, wCont, wDrop, wRet, wRetN, wIfS, wgName, wgNil, wgCons, wgTup, wAsg, wPar, wPar3, gDict, wLcR, wTru, wDIn, truD, wLc2, lcW2, lcJ, wMaxDef, wListRg, gIn, flatD, flatL, wFroz, wTupI, wRng1, wRng2, wRng3, wEnum, wZip, wFor, wYes, wLc, wipeD, gI, gI0, gB0, gAdd, gCatR, gMul, gNeg, gEqI, gEqB, gEqS, gIsN, isNonD, wCall, wMeth, wMake, wFldS, fldD, wFld, wProp, g1, g2L, gLen, gAbs, gIntC, gStrI, gMax2, gMin2, gInts, gSum, gMaxL, gMinL, gBls, gListOf, gListOfR, gTupOf, gIx, woNo, woSome, wSl, wRev, wRevF, wBM, wBM0, gAppend, gInsert, gReverse, gExtend, gPopAt, gPop, gSetL, wSub, wAug, gIxL, wAugS, wFz, seqD, lisD, frozL, derefL, liveL, cellL, cellF, startD, List.map_cons, List.map_nil, List.length_cons, List.length_nil, List.replicate, List.cons_append, List.nil_append, List.getElem?_cons_zero, List.getElem?_cons_succ, List.getElem?_nil, List.set_cons_zero, List.set_cons_succ, Nat.reduceSub, Nat.reduceAdd, Nat.reduceLT, Nat.reduceLeDiff, if_true, if_false, Bool.false_eq_true, decide_eq_true_eq, Option.isSome_some, id_eq, and_true, true_and, wDisp1, gCatT, gDEm, wItems, itemT, gLenT, wChain, wSlT, gComb, wIsTup, gGcd, gFactorial, gSortTup, gSortDT, gInP, wSortKey, wSortKeyR, wDNewN, wDIxN, wDGetN, wDPutN, wDispN, wKeysN, dictN, dictNL, gDEq, gIsB]
          have bm : m.length ≤ 512000 := Nat.le_trans lm (Nat.mul_le_mul (show i ≤ 1000 by omega) zn)
          refine ⟨szl (by decide), szlt (by unfold talD; rw [List.length_map]; omega), ?_⟩
          refine q3 _ _ ⟨⟨_, _, rfl⟩, by rw [List.getElem?_set_ne (by omega)]; exact hM5, K5.set_new (by omega), aput m' ex ((aget m' ex).getD 0 + co), List.getElem?_set_self lF5, aput_nodup nd' _ _, fun p hp => ?_, by have := aput_len m' ex ((aget m' ex).getD 0 + co); omega, fun g => ?_⟩
          · rcases aput_mem p hp with z | z
            · rw [z]; exact lex
            · obtain ⟨p', hp', e'⟩ := List.mem_map.mp z
              rw [← e']; exact hl' p' hp'
          · rw [gsum_put nd', hg' g, tk g]
            have : fullF w g (ex, us) = g ex := by unfold fullF; exact if_pos hu
            rw [this]; omega
        · have hu' : ¬ (us : Int) = (w.length : Int) := by omega
          simp only [hu', decide_false, id_eq, wVar, wDNew, wDIx, wDGet, wDPut, wKeys, gSorted, dictT, dictLive, tkey, keyT, wIsi, gEqO, wKw, wCallK, wMethK, pick, wC, wBin, wTst, wUn, wNil, wCons, wArg, gTupD, gLstD, gRootD, wAndT, wOrT, wNotT, wAndV, wOrV, wNotV, wIf, wNext, wSeq, wBreak, wCont, wDrop, wRet, wRetN, wIfS, wgName, wgNil, wgCons, wgTup, wAsg, wPar, wPar3, gDict, wLcR, wTru, wDIn, truD, wLc2, lcW2, lcJ, wMaxDef, wListRg, gIn, flatD, flatL, wFroz, wTupI, wRng1, wRng2, wRng3, wEnum, wZip, wFor, wYes, wLc, wipeD, gI, gI0, gB0, gAdd, gCatR, gMul, gNeg, gEqI, gEqB, gEqS, gIsN, isNonD, wCall, wMeth, wMake, wFldS, fldD, wFld, wProp, g1, g2L, gLen, gAbs, gIntC, gStrI, gMax2, gMin2, gInts, gSum, gMaxL, gMinL, gBls, gListOf, gListOfR, gTupOf, gIx, woNo, woSome, wSl, wRev, wRevF, wBM, wBM0, gAppend, gInsert, gReverse, gExtend, gPopAt, gPop, gSetL, wSub, wAug, gIxL, wAugS, wFz, seqD, lisD, frozL, derefL, liveL, cellL, cellF, startD, List.map_cons, List.map_nil, List.length_cons, List.length_nil, List.replicate, List.cons_append, List.nil_append, List.getElem?_cons_zero, List.getElem?_cons_succ, List.getElem?_nil, List.set_cons_zero, List.set_cons_succ, Nat.reduceSub, Nat.reduceAdd, Nat.reduceLT, Nat.reduceLeDiff, if_true, if_false, Bool.false_eq_true, decide_eq_true_eq, Option.isSome_some, id_eq, and_true, true_and, wDisp1, gCatT, gDEm, wItems, itemT, gLenT, wChain, wSlT, gComb, wIsTup, gGcd, gFactorial, gSortTup, gSortDT, gInP, wSortKey, wSortKeyR, wDNewN, wDIxN, wDGetN, wDPutN, wDispN, wKeysN, dictN, dictNL, gDEq, gIsB]
          refine q3 _ _ ⟨⟨_, _, rfl⟩, hM5, K5, m', hm', nd', hl', by omega, fun g => ?_⟩
          rw [hg' g, tk g]
          unfold fullF
          rw [if_neg hu, Int.mul_zero]; omega
      · rintro sl c5 ⟨⟨x8, x9, rfl⟩, hM5, K5, m', hm', nd', hl', lm', hg'⟩
        rw [List.length_map] at lm' hg'
        refine q _ _ ⟨⟨_, _, _, _, _, _, _, _, _, rfl⟩, K5, m', hm', nd', hl', by rw [Nat.add_mul, Nat.one_mul]; omega, fun g => ?_⟩
        rw [hg' g, List.take_length, gM, hg g, List.take_add_one, e]
        show _ = FS (ts.take i ++ [(v, w)]) _
        rw [fs_snoc]
  · rintro sl c ⟨⟨x3, x4, x5, x6, x7, x8, x9, x10, x11, rfl⟩, K1, m, hm, nd, hl, lm, hg⟩
    rw [List.length_map] at lm hg
    have lF := (List.getElem?_eq_some_iff.mp hm).1
    have zn : 2 ^ n ≤ 512 := Nat.pow_le_pow_right (by decide) (show n ≤ 9 by omega)
    have lm6 : m.length ≤ 1000000 := Nat.le_trans lm (Nat.le_trans (Nat.mul_le_mul hz zn) (by decide))
    simp only [wVar, wDNew, wDIx, wDGet, wDPut, wKeys, gSorted, dictT, dictLive, tkey, keyT, wIsi, gEqO, wKw, wCallK, wMethK, pick, wC, wBin, wTst, wUn, wNil, wCons, wArg, gTupD, gLstD, gRootD, wAndT, wOrT, wNotT, wAndV, wOrV, wNotV, wIf, wNext, wSeq, wBreak, wCont, wDrop, wRet, wRetN, wIfS, wgName, wgNil, wgCons, wgTup, wAsg, wPar, wPar3, gDict, wLcR, wTru, wDIn, truD, wLc2, lcW2, lcJ, wMaxDef, wListRg, gIn, flatD, flatL, wFroz, wTupI, wRng1, wRng2, wRng3, wEnum, wZip, wFor, wYes, wLc, wipeD, gI, gI0, gB0, gAdd, gCatR, gMul, gNeg, gEqI, gEqB, gEqS, gIsN, isNonD, wCall, wMeth, wMake, wFldS, fldD, wFld, wProp, g1, g2L, gLen, gAbs, gIntC, gStrI, gMax2, gMin2, gInts, gSum, gMaxL, gMinL, gBls, gListOf, gListOfR, gTupOf, gIx, woNo, woSome, wSl, wRev, wRevF, wBM, wBM0, gAppend, gInsert, gReverse, gExtend, gPopAt, gPop, gSetL, wSub, wAug, gIxL, wAugS, wFz, seqD, lisD, frozL, derefL, liveL, cellL, cellF, startD, List.map_cons, List.map_nil, List.length_cons, List.length_nil, List.replicate, List.cons_append, List.nil_append, List.getElem?_cons_zero, List.getElem?_cons_succ, List.getElem?_nil, List.set_cons_zero, List.set_cons_succ, Nat.reduceSub, Nat.reduceAdd, Nat.reduceLT, Nat.reduceLeDiff, if_true, if_false, Bool.false_eq_true, decide_eq_true_eq, Option.isSome_some, id_eq, and_true, true_and, wDisp1, gCatT, gDEm, wItems, itemT, gLenT, wChain, wSlT, gComb, wIsTup, gGcd, gFactorial, gSortTup, gSortDT, gInP, wSortKey, wSortKeyR, wDNewN, wDIxN, wDGetN, wDPutN, wDispN, wKeysN, dictN, dictNL, gDEq, gIsB, hm, keyT_tal, List.length_map]
    rw [List.map_map]
    have hm2 : (c.set F (.zT (talD m)))[F]? = some (.zT (talD m)) := List.getElem?_set_self lF
    have K2 : Ke cs (c.set F (.zT (talD m))) := K1.set_new (by omega)
    generalize c.set F (.zT (talD m)) = c2 at hm2 K2 ⊢
    refine ⟨szl (by omega), lc_fm (tupD ∘ fun x => x.1) (fun p => if p.2 ≠ 0 then some (pairD p) else none) m [] (fun p hp k1 k0 h1 => ?_) ?_⟩
    · have ev : valD (talD m) (wkey p.1) = some (.int p.2) := by rw [valD_tal, talGet_mem nd hp]; rfl
      simp only [wVar, wDNew, wDIx, wDGet, wDPut, wKeys, gSorted, dictT, dictLive, tkey, keyT, wIsi, gEqO, wKw, wCallK, wMethK, pick, wC, wBin, wTst, wUn, wNil, wCons, wArg, gTupD, gLstD, gRootD, wAndT, wOrT, wNotT, wAndV, wOrV, wNotV, wIf, wNext, wSeq, wBreak, wCont, wDrop, wRet, wRetN, wIfS, wgName, wgNil, wgCons, wgTup, wAsg, wPar, wPar3, gDict, wLcR, wTru, wDIn, truD, wLc2, lcW2, lcJ, wMaxDef, wListRg, gIn, flatD, flatL, wFroz, wTupI, wRng1, wRng2, wRng3, wEnum, wZip, wFor, wYes, wLc, wipeD, gI, gI0, gB0, gAdd, gCatR, gMul, gNeg, gEqI, gEqB, gEqS, gIsN, isNonD, wCall, wMeth, wMake, wFldS, fldD, wFld, wProp, g1, g2L, gLen, gAbs, gIntC, gStrI, gMax2, gMin2, gInts, gSum, gMaxL, gMinL, gBls, gListOf, gListOfR, gTupOf, gIx, woNo, woSome, wSl, wRev, wRevF, wBM, wBM0, gAppend, gInsert, gReverse, gExtend, gPopAt, gPop, gSetL, wSub, wAug, gIxL, wAugS, wFz, seqD, lisD, frozL, derefL, liveL, cellL, cellF, startD, List.map_cons, List.map_nil, List.length_cons, List.length_nil, List.replicate, List.cons_append, List.nil_append, List.getElem?_cons_zero, List.getElem?_cons_succ, List.getElem?_nil, List.set_cons_zero, List.set_cons_succ, Nat.reduceSub, Nat.reduceAdd, Nat.reduceLT, Nat.reduceLeDiff, if_true, if_false, Bool.false_eq_true, decide_eq_true_eq, Option.isSome_some, id_eq, and_true, true_and, wDisp1, gCatT, gDEm, wItems, itemT, gLenT, wChain, wSlT, gComb, wIsTup, gGcd, gFactorial, gSortTup, gSortDT, gInP, wSortKey, wSortKeyR, wDNewN, wDIxN, wDGetN, wDPutN, wDispN, wKeysN, dictN, dictNL, gDEq, gIsB, Function.comp, tupD, hm2, unkeys_ints, ev]
      by_cases h : p.2 = 0
      · rw [if_neg (by simpa using h)] at h1
        simp only [wVar, wDNew, wDIx, wDGet, wDPut, wKeys, gSorted, dictT, dictLive, tkey, keyT, wIsi, gEqO, wKw, wCallK, wMethK, pick, wC, wBin, wTst, wUn, wNil, wCons, wArg, gTupD, gLstD, gRootD, wAndT, wOrT, wNotT, wAndV, wOrV, wNotV, wIf, wNext, wSeq, wBreak, wCont, wDrop, wRet, wRetN, wIfS, wgName, wgNil, wgCons, wgTup, wAsg, wPar, wPar3, gDict, wLcR, wTru, wDIn, truD, wLc2, lcW2, lcJ, wMaxDef, wListRg, gIn, flatD, flatL, wFroz, wTupI, wRng1, wRng2, wRng3, wEnum, wZip, wFor, wYes, wLc, wipeD, gI, gI0, gB0, gAdd, gCatR, gMul, gNeg, gEqI, gEqB, gEqS, gIsN, isNonD, wCall, wMeth, wMake, wFldS, fldD, wFld, wProp, g1, g2L, gLen, gAbs, gIntC, gStrI, gMax2, gMin2, gInts, gSum, gMaxL, gMinL, gBls, gListOf, gListOfR, gTupOf, gIx, woNo, woSome, wSl, wRev, wRevF, wBM, wBM0, gAppend, gInsert, gReverse, gExtend, gPopAt, gPop, gSetL, wSub, wAug, gIxL, wAugS, wFz, seqD, lisD, frozL, derefL, liveL, cellL, cellF, startD, List.map_cons, List.map_nil, List.length_cons, List.length_nil, List.replicate, List.cons_append, List.nil_append, List.getElem?_cons_zero, List.getElem?_cons_succ, List.getElem?_nil, List.set_cons_zero, List.set_cons_succ, Nat.reduceSub, Nat.reduceAdd, Nat.reduceLT, Nat.reduceLeDiff, if_true, if_false, Bool.false_eq_true, decide_eq_true_eq, Option.isSome_some, id_eq, and_true, true_and, wDisp1, gCatT, gDEm, wItems, itemT, gLenT, wChain, wSlT, gComb, wIsTup, gGcd, gFactorial, gSortTup, gSortDT, gInP, wSortKey, wSortKeyR, wDNewN, wDIxN, wDGetN, wDPutN, wDispN, wKeysN, dictN, dictNL, gDEq, gIsB, h, decide_true, Bool.not_true]
        exact h1
      · rw [if_pos h] at h1
        simp only [wVar, wDNew, wDIx, wDGet, wDPut, wKeys, gSorted, dictT, dictLive, tkey, keyT, wIsi, gEqO, wKw, wCallK, wMethK, pick, wC, wBin, wTst, wUn, wNil, wCons, wArg, gTupD, gLstD, gRootD, wAndT, wOrT, wNotT, wAndV, wOrV, wNotV, wIf, wNext, wSeq, wBreak, wCont, wDrop, wRet, wRetN, wIfS, wgName, wgNil, wgCons, wgTup, wAsg, wPar, wPar3, gDict, wLcR, wTru, wDIn, truD, wLc2, lcW2, lcJ, wMaxDef, wListRg, gIn, flatD, flatL, wFroz, wTupI, wRng1, wRng2, wRng3, wEnum, wZip, wFor, wYes, wLc, wipeD, gI, gI0, gB0, gAdd, gCatR, gMul, gNeg, gEqI, gEqB, gEqS, gIsN, isNonD, wCall, wMeth, wMake, wFldS, fldD, wFld, wProp, g1, g2L, gLen, gAbs, gIntC, gStrI, gMax2, gMin2, gInts, gSum, gMaxL, gMinL, gBls, gListOf, gListOfR, gTupOf, gIx, woNo, woSome, wSl, wRev, wRevF, wBM, wBM0, gAppend, gInsert, gReverse, gExtend, gPopAt, gPop, gSetL, wSub, wAug, gIxL, wAugS, wFz, seqD, lisD, frozL, derefL, liveL, cellL, cellF, startD, List.map_cons, List.map_nil, List.length_cons, List.length_nil, List.replicate, List.cons_append, List.nil_append, List.getElem?_cons_zero, List.getElem?_cons_succ, List.getElem?_nil, List.set_cons_zero, List.set_cons_succ, Nat.reduceSub, Nat.reduceAdd, Nat.reduceLT, Nat.reduceLeDiff, if_true, if_false, Bool.false_eq_true, decide_eq_true_eq, Option.isSome_some, id_eq, and_true, true_and, wDisp1, gCatT, gDEm, wItems, itemT, gLenT, wChain, wSlT, gComb, wIsTup, gGcd, gFactorial, gSortTup, gSortDT, gInP, wSortKey, wSortKeyR, wDNewN, wDIxN, wDGetN, wDPutN, wDispN, wKeysN, dictN, dictNL, gDEq, gIsB, decide_eq_false h, Bool.not_false]
        exact ⟨szl (by decide), h1⟩
    · have e1 : m.filterMap (fun p => if p.2 ≠ 0 then some (pairD p) else none) = (nz m).map pairD := by
        unfold nz
        clear lm lm6 hm hl hg nd hm2
        induction m with
        | nil => rfl
        | cons p m ih =>
          by_cases h : p.2 ≠ 0
          · rw [List.filterMap_cons, if_pos h, List.filter_cons_of_pos (by simpa using h), List.map_cons]
            exact congrArg (pairD p :: ·) ih
          · rw [List.filterMap_cons, if_neg h, List.filter_cons_of_neg (by simpa using h)]
            exact ih
      simp only [List.nil_append, e1, pairsK_tal]
      have sub : ∀ p ∈ nz m, p ∈ m := fun p hp => (List.mem_filter.mp hp).1
      have nd2 : ((nz m).map (·.1)).Nodup := nd.sublist (List.filter_sublist.map _)
      refine ⟨wkeys_nodup nd2, k (nz m) _ _ nd2 (fun p hp => by simpa using (List.mem_filter.mp hp).2) (fun p hp => hl p (sub p hp)) (fun e => ?_) (Nat.le_trans (List.length_filter_le _ _) lm6) (by have := K2.le; omega) (app_get _ _) (K2.trans .push)⟩
      show (talGet (nz m) e).getD 0 = _
      rw [talGet_nz e nd]
      show (aget m e).getD 0 = _
      rw [← gsum_one nd e, show (fun j : List Int => if j = e then (1 : Int) else 0) = oneAt e from rfl, hg, List.take_length]
      rfl

/-! ### equal dicts of coefficients -/
theorem all_hits {m' : Tal} : ∀ m : Tal, (talD m).all (hitK (talD m')) = true ↔ ∀ p ∈ m, aget m' p.1 = some p.2
  | [] => ⟨fun _ _ h => (nomatch h), fun _ => rfl⟩
  | p :: m => by
    have ih := all_hits (m' := m') m
    have one : hitK (talD m') (wkey p.1, .int p.2) = true ↔ aget m' p.1 = some p.2 := by
      unfold hitK
      simp only [valD_tal]
      have eg : talGet m' p.1 = aget m' p.1 := rfl
      rw [eg]
      cases e : aget m' p.1 with
      | none => simp
      | some o =>
        show (p.2 == o) = true ↔ _
        rw [beq_iff_eq]
        exact ⟨fun h => by rw [h], fun h => (Option.some.inj h).symm⟩
    show ((hitK (talD m') (wkey p.1, .int p.2)) && (talD m).all (hitK (talD m'))) = true ↔ _
    rw [Bool.and_eq_true, one, ih]
    refine ⟨fun ⟨h1, h2⟩ q hq => ?_, fun h => ⟨h p List.mem_cons_self, fun q hq => h q (List.mem_cons_of_mem _ hq)⟩⟩
    rcases List.mem_cons.mp hq with rfl | hq
    · exact h1
    · exact h2 q hq
theorem key_get {m : Tal} (nd : (m.map (·.1)).Nodup) {e : List Int} (h : e ∈ m.map (·.1)) : ∃ p ∈ m, p.1 = e ∧ aget m e = some p.2 := by
  obtain ⟨p, hp, rfl⟩ := List.mem_map.mp h
  exact ⟨p, hp, rfl, aget_mem nd hp⟩
theorem get_key {m : Tal} {e : List Int} {v : Int} (h : aget m e = some v) : e ∈ m.map (·.1) := Classical.byContradiction fun z => by
  rw [aget_none.mpr z] at h
  cases h
theorem eqKD_tal {m m' : Tal} (nd : (m.map (·.1)).Nodup) (nd' : (m'.map (·.1)).Nodup) (hz : ∀ p ∈ m, p.2 ≠ 0) (hz' : ∀ p ∈ m', p.2 ≠ 0) : eqKD (talD m) (talD m') = true ↔ ∀ e, (aget m e).getD 0 = (aget m' e).getD 0 := by
  have l1 : (talD m).length = (m.map (·.1)).length := by unfold talD; rw [List.length_map, List.length_map]
  have l2 : (talD m').length = (m'.map (·.1)).length := by unfold talD; rw [List.length_map, List.length_map]
  have nz : ∀ {m : Tal}, (m.map (·.1)).Nodup → (∀ p ∈ m, p.2 ≠ 0) → ∀ e, e ∈ m.map (·.1) → (aget m e).getD 0 ≠ 0 := fun nd hz e he => by
    obtain ⟨p, hp, _, g⟩ := key_get nd he
    rw [g]
    exact hz p hp
  have sub : ∀ {m m' : Tal}, (m.map (·.1)).Nodup → (∀ p ∈ m, p.2 ≠ 0) → (∀ e, (aget m e).getD 0 = (aget m' e).getD 0) → m.map (·.1) ⊆ m'.map (·.1) := fun nd hz h e he => Classical.byContradiction fun z => by
    have := nz nd hz e he
    rw [h e, aget_none.mpr z] at this
    exact this rfl
  unfold eqKD
  rw [Bool.and_eq_true, beq_iff_eq, l1, l2, all_hits]
  constructor
  · rintro ⟨hl, ha⟩ e
    by_cases he : e ∈ m.map (·.1)
    · obtain ⟨p, hp, rfl, g⟩ := key_get nd he
      rw [g, ha p hp]
    · rw [aget_none.mpr he]
      by_cases he' : e ∈ m'.map (·.1)
      · exfalso
        have s1 : m.map (·.1) ⊆ m'.map (·.1) := fun x hx => by
          obtain ⟨p, hp, rfl, _⟩ := key_get nd hx
          exact get_key (ha p hp)
        have := List.Nodup.length_le_of_subset (l₁ := e :: m.map (·.1)) (l₂ := m'.map (·.1)) (List.nodup_cons.mpr ⟨he, nd⟩) fun x hx => by
          rcases List.mem_cons.mp hx with rfl | hx
          · exact he'
          · exact s1 hx
        rw [List.length_cons] at this
        omega
      · rw [aget_none.mpr he']
  · intro h
    have a := List.Nodup.length_le_of_subset nd (sub nd hz h)
    have b := List.Nodup.length_le_of_subset nd' (sub nd' hz' fun e => (h e).symm)
    refine ⟨by omega, fun p hp => ?_⟩
    have := h p.1
    rw [aget_mem nd hp] at this
    cases e : aget m' p.1 with
    | none =>
      rw [e] at this
      exact (hz p hp this).elim
    | some o =>
      rw [e] at this
      exact congrArg some this.symm
theorem allInt_tal (m : Tal) : allInt (talD m) := fun kv hk => by
  obtain ⟨p, _, rfl⟩ := List.mem_map.mp hk
  exact ⟨p.2, rfl⟩

theorem cutD_tail (x : D) (xs : List D) : cutD (x :: xs) (some 1) none = xs := by
  unfold cutD
  rw [HT.sIx_none]
  have e : HT.sIx (x :: xs).length 0 (some 1) = 1 := by
    have := HT.sIx_nat (x :: xs).length 0 1
    simp only [List.length_cons] at this ⊢
    rw [show ((1 : Nat) : Int) = 1 from rfl] at this
    rw [this]; omega
  rw [e]
  simp

def S_law_mate : SD := fun ds cs Q _ => ∃ (j N : Nat) (ts : Lot), ds = [.root j, lotD ts] ∧ Pl N cs j ∧ N ≤ 890000 ∧ ts.length ≤ 4 ∧ LotIn 3 3 ts ∧
  ∀ (us : Lot) cs', us.length ≤ 6 → LotIn 3 3 us → Fr j cs cs' → Pl (N + 10400) cs' j → Q (lotD us) cs'
theorem len_law_mate : ∀ ds cs Q X', S_law_mate ds cs Q X' → ds.length = 2 := by
  rintro ds cs Q X' ⟨j, N, w, rfl, _⟩
  rfl
def m_law_mate_6 : WS :=
  (wRet (wIf (wTst (wBin (gEqD id) (wVar 3) (wC (.int 3)))) (wVar 2) (wCall S_law_lot (wCons (wVar 0) (wCons (wC (.int 4)) (wCons (wC (.int 3)) (wCons (wC (.int 3)) wNil)))))))
def m_law_mate_5 : WS :=
  wSeq (wIfS (wAndT (wTst (wBin (gEqD id) (wVar 3) (wC (.int 2)))) (wTst (wBin (gEqD not) (wVar 2) (wArg gLstD wNil)))) (wSeq (wAsg (wBin gIx (wVar 2) (wC (.int 0))) (wgTup 2 (wgCons (wgName 5) (wgCons (wgName 4) wgNil))))
    (wRet (wBin gAdd (wSl false (wVar 2) (woSome (wC (.int 1))) woNo) (wArg gLstD (wCons (wArg gTupD (wCons (wVar 5) (wCons (wRev false (wVar 4)) wNil))) wNil))))) wNext)
    m_law_mate_6
def m_law_mate_4 : WS :=
  wSeq (wIfS (wTst (wBin (gEqD id) (wVar 3) (wC (.int 1)))) (wRet (wBin gAdd (wVar 2) (wArg gLstD (wCons (wArg gTupD (wCons (wVar 5) (wCons (wVar 4) wNil))) wNil)))) wNext)
    m_law_mate_5
def m_law_mate_3 : WS :=
  wSeq (wIfS (wTst (wBin (gEqD id) (wVar 3) (wC (.int 0)))) (wRet (wBin gAdd (wVar 2) (wArg gLstD (wCons (wArg gTupD (wCons (wVar 5) (wCons (wVar 4) wNil))) (wCons (wArg gTupD (wCons (wBin (gI0 fun i j => i - j) (wC (.int 0)) (wVar 5)) (wCons (wVar 4) wNil))) wNil))))) wNext)
    m_law_mate_4
def m_law_mate_2 : WS :=
  wSeq (wPar 4 5 (wCons (wCall S_law_letters (wCons (wVar 0) (wCons (wC (.int 3)) (wCons (wC (.int 3)) wNil)))) (wCons (wCall S_law_factor (wCons (wVar 0) wNil)) wNil)))
    m_law_mate_3
def m_law_mate : WS :=
  wSeq (wPar 2 3 (wCons (wRev false (wArg gListOf (wCons (wVar 1) wNil))) (wCons (wCall S_law_draw (wCons (wVar 0) (wCons (wC (.int 4)) wNil))) wNil)))
    m_law_mate_2
theorem body_law_mate : Body S_law_mate m_law_mate 6 := by
  rintro ds cs Q X' ⟨j, N, ts, rfl, hp, hM, lt, ht, k⟩
  have lt' : ts.length + 2 ≤ 6 := by omega
  simp only [m_law_mate, wVar, wDNew, wDIx, wDGet, wDPut, wKeys, gSorted, dictT, dictLive, tkey, keyT, wIsi, gEqO, wKw, wCallK, wMethK, pick, wC, wBin, wTst, wUn, wNil, wCons, wArg, gTupD, gLstD, gRootD, wAndT, wOrT, wNotT, wAndV, wOrV, wNotV, wIf, wNext, wSeq, wBreak, wCont, wDrop, wRet, wRetN, wIfS, wgName, wgNil, wgCons, wgTup, wAsg, wPar, wPar3, gDict, wLcR, wTru, wDIn, truD, wLc2, lcW2, lcJ, wMaxDef, wListRg, gIn, flatD, flatL, wFroz, wTupI, wRng1, wRng2, wRng3, wEnum, wZip, wFor, wYes, wLc, wipeD, gI, gI0, gB0, gAdd, gCatR, gMul, gNeg, gEqI, gEqB, gEqS, gIsN, isNonD, wCall, wMeth, wMake, wFldS, fldD, wFld, wProp, g1, g2L, gLen, gAbs, gIntC, gStrI, gMax2, gMin2, gInts, gSum, gMaxL, gMinL, gBls, gListOf, gListOfR, gTupOf, gIx, woNo, woSome, wSl, wRev, wRevF, wBM, wBM0, gAppend, gInsert, gReverse, gExtend, gPopAt, gPop, gSetL, wSub, wAug, gIxL, wAugS, wFz, seqD, lisD, frozL, derefL, liveL, cellL, cellF, startD, List.map_cons, List.map_nil, List.length_cons, List.length_nil, List.replicate, List.cons_append, List.nil_append, List.getElem?_cons_zero, List.getElem?_cons_succ, List.getElem?_nil, List.set_cons_zero, List.set_cons_succ, Nat.reduceSub, Nat.reduceAdd, Nat.reduceLT, Nat.reduceLeDiff, if_true, if_false, Bool.false_eq_true, decide_eq_true_eq, Option.isSome_some, id_eq, and_true, true_and, wDisp1, gCatT, gDEm, wItems, itemT, gLenT, wChain, wSlT, gComb, wIsTup, gGcd, gFactorial, gSortTup, gSortDT, gInP, wSortKey, wSortKeyR, wDNewN, wDIxN, wDGetN, wDPutN, wDispN, wKeysN, dictN, dictNL, gDEq, gIsB, lotD]
  have hr : LotIn 3 3 ts.reverse := fun t h => ht t (List.mem_reverse.mp h)
  have er : (ts.map termD).reverse = ts.reverse.map termD := (List.map_reverse ..).symm
  have lr : ts.reverse.length = ts.length := List.length_reverse
  rw [er]
  generalize ts.reverse = rs at hr lr ⊢
  have sz : ∀ n, n ≤ 2 → (rs.map termD).length + n ≤ sizeLine := fun n hn => by rw [List.length_map]; exact szl (by omega)
  have cat : ∀ vs : Lot, D.lst (rs.map termD ++ vs.map termD) = lotD (rs ++ vs) := fun vs => by unfold lotD; rw [List.map_append]
  refine ⟨j, _, 4, rfl, hp, by omega, by decide, by decide, fun way c1 w0 w1 f1 e1 p1 => ?_⟩
  simp only [m_law_mate_2, wVar, wDNew, wDIx, wDGet, wDPut, wKeys, gSorted, dictT, dictLive, tkey, keyT, wIsi, gEqO, wKw, wCallK, wMethK, pick, wC, wBin, wTst, wUn, wNil, wCons, wArg, gTupD, gLstD, gRootD, wAndT, wOrT, wNotT, wAndV, wOrV, wNotV, wIf, wNext, wSeq, wBreak, wCont, wDrop, wRet, wRetN, wIfS, wgName, wgNil, wgCons, wgTup, wAsg, wPar, wPar3, gDict, wLcR, wTru, wDIn, truD, wLc2, lcW2, lcJ, wMaxDef, wListRg, gIn, flatD, flatL, wFroz, wTupI, wRng1, wRng2, wRng3, wEnum, wZip, wFor, wYes, wLc, wipeD, gI, gI0, gB0, gAdd, gCatR, gMul, gNeg, gEqI, gEqB, gEqS, gIsN, isNonD, wCall, wMeth, wMake, wFldS, fldD, wFld, wProp, g1, g2L, gLen, gAbs, gIntC, gStrI, gMax2, gMin2, gInts, gSum, gMaxL, gMinL, gBls, gListOf, gListOfR, gTupOf, gIx, woNo, woSome, wSl, wRev, wRevF, wBM, wBM0, gAppend, gInsert, gReverse, gExtend, gPopAt, gPop, gSetL, wSub, wAug, gIxL, wAugS, wFz, seqD, lisD, frozL, derefL, liveL, cellL, cellF, startD, List.map_cons, List.map_nil, List.length_cons, List.length_nil, List.replicate, List.cons_append, List.nil_append, List.getElem?_cons_zero, List.getElem?_cons_succ, List.getElem?_nil, List.set_cons_zero, List.set_cons_succ, Nat.reduceSub, Nat.reduceAdd, Nat.reduceLT, Nat.reduceLeDiff, if_true, if_false, Bool.false_eq_true, decide_eq_true_eq, Option.isSome_some, id_eq, and_true, true_and, wDisp1, gCatT, gDEm, wItems, itemT, gLenT, wChain, wSlT, gComb, wIsTup, gGcd, gFactorial, gSortTup, gSortDT, gInP, wSortKey, wSortKeyR, wDNewN, wDIxN, wDGetN, wDPutN, wDispN, wKeysN, dictN, dictNL, gDEq, gIsB]
  refine ⟨j, _, 3, 3, rfl, p1, by omega, by decide, by decide, by decide, by decide, fun w c2 z1 z2 f2 e2 p2 => ?_⟩
  refine ⟨j, _, rfl, p2, by omega, fun c c3 g0 g1 f3 e3 p3 => ?_⟩
  have F3 := (f1.trans f2).trans f3
  have l1 : ∀ (x : Int) (u : List Int), x.natAbs ≤ 99 → (u.length : Int) ≤ 3 → (∀ l ∈ u, 0 ≤ l ∧ l ≤ max 1 3) → LotIn 3 3 (rs ++ [(x, u)]) := fun x u h1 h2 h3 => hr.snoc h1 h2 h3
  simp only [m_law_mate_3, wVar, wDNew, wDIx, wDGet, wDPut, wKeys, gSorted, dictT, dictLive, tkey, keyT, wIsi, gEqO, wKw, wCallK, wMethK, pick, wC, wBin, wTst, wUn, wNil, wCons, wArg, gTupD, gLstD, gRootD, wAndT, wOrT, wNotT, wAndV, wOrV, wNotV, wIf, wNext, wSeq, wBreak, wCont, wDrop, wRet, wRetN, wIfS, wgName, wgNil, wgCons, wgTup, wAsg, wPar, wPar3, gDict, wLcR, wTru, wDIn, truD, wLc2, lcW2, lcJ, wMaxDef, wListRg, gIn, flatD, flatL, wFroz, wTupI, wRng1, wRng2, wRng3, wEnum, wZip, wFor, wYes, wLc, wipeD, gI, gI0, gB0, gAdd, gCatR, gMul, gNeg, gEqI, gEqB, gEqS, gIsN, isNonD, wCall, wMeth, wMake, wFldS, fldD, wFld, wProp, g1, g2L, gLen, gAbs, gIntC, gStrI, gMax2, gMin2, gInts, gSum, gMaxL, gMinL, gBls, gListOf, gListOfR, gTupOf, gIx, woNo, woSome, wSl, wRev, wRevF, wBM, wBM0, gAppend, gInsert, gReverse, gExtend, gPopAt, gPop, gSetL, wSub, wAug, gIxL, wAugS, wFz, seqD, lisD, frozL, derefL, liveL, cellL, cellF, startD, List.map_cons, List.map_nil, List.length_cons, List.length_nil, List.replicate, List.cons_append, List.nil_append, List.getElem?_cons_zero, List.getElem?_cons_succ, List.getElem?_nil, List.set_cons_zero, List.set_cons_succ, Nat.reduceSub, Nat.reduceAdd, Nat.reduceLT, Nat.reduceLeDiff, if_true, if_false, Bool.false_eq_true, decide_eq_true_eq, Option.isSome_some, id_eq, and_true, true_and, wDisp1, gCatT, gDEm, wItems, itemT, gLenT, wChain, wSlT, gComb, wIsTup, gGcd, gFactorial, gSortTup, gSortDT, gInP, wSortKey, wSortKeyR, wDNewN, wDIxN, wDGetN, wDPutN, wDispN, wKeysN, dictN, dictNL, gDEq, gIsB, wordD]
  by_cases e0 : way = 0
  · rw [if_pos e0]
    refine ⟨szl (by decide), szl (by decide), szl (by decide), sz 2 (by decide), ?_⟩
    have l2 : LotIn 3 3 (rs ++ [(c, w), (0 - c, w)]) := by
      have := (l1 c w g1 z1 z2).snoc (c := 0 - c) (w := w) (by omega) z1 z2
      rw [List.append_assoc] at this
      exact this
    have := k (rs ++ [(c, w), (0 - c, w)]) c3 (by rw [List.length_append]; show rs.length + 2 ≤ 6; omega) l2 F3 (p3.mono (by omega))
    rw [← cat] at this
    exact this
  rw [if_neg e0]
  simp only [m_law_mate_4, wVar, wDNew, wDIx, wDGet, wDPut, wKeys, gSorted, dictT, dictLive, tkey, keyT, wIsi, gEqO, wKw, wCallK, wMethK, pick, wC, wBin, wTst, wUn, wNil, wCons, wArg, gTupD, gLstD, gRootD, wAndT, wOrT, wNotT, wAndV, wOrV, wNotV, wIf, wNext, wSeq, wBreak, wCont, wDrop, wRet, wRetN, wIfS, wgName, wgNil, wgCons, wgTup, wAsg, wPar, wPar3, gDict, wLcR, wTru, wDIn, truD, wLc2, lcW2, lcJ, wMaxDef, wListRg, gIn, flatD, flatL, wFroz, wTupI, wRng1, wRng2, wRng3, wEnum, wZip, wFor, wYes, wLc, wipeD, gI, gI0, gB0, gAdd, gCatR, gMul, gNeg, gEqI, gEqB, gEqS, gIsN, isNonD, wCall, wMeth, wMake, wFldS, fldD, wFld, wProp, g1, g2L, gLen, gAbs, gIntC, gStrI, gMax2, gMin2, gInts, gSum, gMaxL, gMinL, gBls, gListOf, gListOfR, gTupOf, gIx, woNo, woSome, wSl, wRev, wRevF, wBM, wBM0, gAppend, gInsert, gReverse, gExtend, gPopAt, gPop, gSetL, wSub, wAug, gIxL, wAugS, wFz, seqD, lisD, frozL, derefL, liveL, cellL, cellF, startD, List.map_cons, List.map_nil, List.length_cons, List.length_nil, List.replicate, List.cons_append, List.nil_append, List.getElem?_cons_zero, List.getElem?_cons_succ, List.getElem?_nil, List.set_cons_zero, List.set_cons_succ, Nat.reduceSub, Nat.reduceAdd, Nat.reduceLT, Nat.reduceLeDiff, if_true, if_false, Bool.false_eq_true, decide_eq_true_eq, Option.isSome_some, id_eq, and_true, true_and, wDisp1, gCatT, gDEm, wItems, itemT, gLenT, wChain, wSlT, gComb, wIsTup, gGcd, gFactorial, gSortTup, gSortDT, gInP, wSortKey, wSortKeyR, wDNewN, wDIxN, wDGetN, wDPutN, wDispN, wKeysN, dictN, dictNL, gDEq, gIsB]
  by_cases e1 : way = 1
  · rw [if_pos e1]
    refine ⟨szl (by decide), szl (by decide), sz 1 (by decide), ?_⟩
    have := k (rs ++ [(c, w)]) c3 (by rw [List.length_append]; show rs.length + 1 ≤ 6; omega) (l1 c w g1 z1 z2) F3 (p3.mono (by omega))
    rw [← cat] at this
    exact this
  rw [if_neg e1]
  have six : ∀ (x4 x5 : Option D), m_law_mate_6 { nx := fun x cs' => Q D.non cs', rt := Q, xq := fun _ _ _ => False } [some (.root j), some (.lst (ts.map termD)), some (.lst (rs.map termD)), some (.int way), x4, x5] c3 := by
    intro x4 x5
    simp only [m_law_mate_6, wVar, wDNew, wDIx, wDGet, wDPut, wKeys, gSorted, dictT, dictLive, tkey, keyT, wIsi, gEqO, wKw, wCallK, wMethK, pick, wC, wBin, wTst, wUn, wNil, wCons, wArg, gTupD, gLstD, gRootD, wAndT, wOrT, wNotT, wAndV, wOrV, wNotV, wIf, wNext, wSeq, wBreak, wCont, wDrop, wRet, wRetN, wIfS, wgName, wgNil, wgCons, wgTup, wAsg, wPar, wPar3, gDict, wLcR, wTru, wDIn, truD, wLc2, lcW2, lcJ, wMaxDef, wListRg, gIn, flatD, flatL, wFroz, wTupI, wRng1, wRng2, wRng3, wEnum, wZip, wFor, wYes, wLc, wipeD, gI, gI0, gB0, gAdd, gCatR, gMul, gNeg, gEqI, gEqB, gEqS, gIsN, isNonD, wCall, wMeth, wMake, wFldS, fldD, wFld, wProp, g1, g2L, gLen, gAbs, gIntC, gStrI, gMax2, gMin2, gInts, gSum, gMaxL, gMinL, gBls, gListOf, gListOfR, gTupOf, gIx, woNo, woSome, wSl, wRev, wRevF, wBM, wBM0, gAppend, gInsert, gReverse, gExtend, gPopAt, gPop, gSetL, wSub, wAug, gIxL, wAugS, wFz, seqD, lisD, frozL, derefL, liveL, cellL, cellF, startD, List.map_cons, List.map_nil, List.length_cons, List.length_nil, List.replicate, List.cons_append, List.nil_append, List.getElem?_cons_zero, List.getElem?_cons_succ, List.getElem?_nil, List.set_cons_zero, List.set_cons_succ, Nat.reduceSub, Nat.reduceAdd, Nat.reduceLT, Nat.reduceLeDiff, if_true, if_false, Bool.false_eq_true, decide_eq_true_eq, Option.isSome_some, id_eq, and_true, true_and, wDisp1, gCatT, gDEm, wItems, itemT, gLenT, wChain, wSlT, gComb, wIsTup, gGcd, gFactorial, gSortTup, gSortDT, gInP, wSortKey, wSortKeyR, wDNewN, wDIxN, wDGetN, wDPutN, wDispN, wKeysN, dictN, dictNL, gDEq, gIsB]
    by_cases e3 : way = 3
    · rw [if_pos e3]
      exact k rs c3 (by omega) hr F3 (p3.mono (by omega))
    · rw [if_neg e3]
      refine ⟨j, _, 4, 3, 3, rfl, p3, by omega, by decide, by decide, by decide, by decide, by decide, by decide, fun us c4 u0 u1 f4 p4 => ?_⟩
      exact k us c4 (by omega) u1 (F3.trans f4) (p4.mono (by omega))
  simp only [m_law_mate_5, wVar, wDNew, wDIx, wDGet, wDPut, wKeys, gSorted, dictT, dictLive, tkey, keyT, wIsi, gEqO, wKw, wCallK, wMethK, pick, wC, wBin, wTst, wUn, wNil, wCons, wArg, gTupD, gLstD, gRootD, wAndT, wOrT, wNotT, wAndV, wOrV, wNotV, wIf, wNext, wSeq, wBreak, wCont, wDrop, wRet, wRetN, wIfS, wgName, wgNil, wgCons, wgTup, wAsg, wPar, wPar3, gDict, wLcR, wTru, wDIn, truD, wLc2, lcW2, lcJ, wMaxDef, wListRg, gIn, flatD, flatL, wFroz, wTupI, wRng1, wRng2, wRng3, wEnum, wZip, wFor, wYes, wLc, wipeD, gI, gI0, gB0, gAdd, gCatR, gMul, gNeg, gEqI, gEqB, gEqS, gIsN, isNonD, wCall, wMeth, wMake, wFldS, fldD, wFld, wProp, g1, g2L, gLen, gAbs, gIntC, gStrI, gMax2, gMin2, gInts, gSum, gMaxL, gMinL, gBls, gListOf, gListOfR, gTupOf, gIx, woNo, woSome, wSl, wRev, wRevF, wBM, wBM0, gAppend, gInsert, gReverse, gExtend, gPopAt, gPop, gSetL, wSub, wAug, gIxL, wAugS, wFz, seqD, lisD, frozL, derefL, liveL, cellL, cellF, startD, List.map_cons, List.map_nil, List.length_cons, List.length_nil, List.replicate, List.cons_append, List.nil_append, List.getElem?_cons_zero, List.getElem?_cons_succ, List.getElem?_nil, List.set_cons_zero, List.set_cons_succ, Nat.reduceSub, Nat.reduceAdd, Nat.reduceLT, Nat.reduceLeDiff, if_true, if_false, Bool.false_eq_true, decide_eq_true_eq, Option.isSome_some, id_eq, and_true, true_and, wDisp1, gCatT, gDEm, wItems, itemT, gLenT, wChain, wSlT, gComb, wIsTup, gGcd, gFactorial, gSortTup, gSortDT, gInP, wSortKey, wSortKeyR, wDNewN, wDIxN, wDGetN, wDPutN, wDispN, wKeysN, dictN, dictNL, gDEq, gIsB]
  by_cases e2 : way = 2
  · rw [if_pos e2]
    have em : D.lst (rs.map termD) = lotD rs := rfl
    rw [em, show D.lst [] = lotD [] from rfl]
    refine ⟨szl (by decide), gEq_of eqd_lot ?_⟩
    cases rs with
    | nil =>
      simp only [decide_true, Bool.not_true, wVar, wDNew, wDIx, wDGet, wDPut, wKeys, gSorted, dictT, dictLive, tkey, keyT, wIsi, gEqO, wKw, wCallK, wMethK, pick, wC, wBin, wTst, wUn, wNil, wCons, wArg, gTupD, gLstD, gRootD, wAndT, wOrT, wNotT, wAndV, wOrV, wNotV, wIf, wNext, wSeq, wBreak, wCont, wDrop, wRet, wRetN, wIfS, wgName, wgNil, wgCons, wgTup, wAsg, wPar, wPar3, gDict, wLcR, wTru, wDIn, truD, wLc2, lcW2, lcJ, wMaxDef, wListRg, gIn, flatD, flatL, wFroz, wTupI, wRng1, wRng2, wRng3, wEnum, wZip, wFor, wYes, wLc, wipeD, gI, gI0, gB0, gAdd, gCatR, gMul, gNeg, gEqI, gEqB, gEqS, gIsN, isNonD, wCall, wMeth, wMake, wFldS, fldD, wFld, wProp, g1, g2L, gLen, gAbs, gIntC, gStrI, gMax2, gMin2, gInts, gSum, gMaxL, gMinL, gBls, gListOf, gListOfR, gTupOf, gIx, woNo, woSome, wSl, wRev, wRevF, wBM, wBM0, gAppend, gInsert, gReverse, gExtend, gPopAt, gPop, gSetL, wSub, wAug, gIxL, wAugS, wFz, seqD, lisD, frozL, derefL, liveL, cellL, cellF, startD, List.map_cons, List.map_nil, List.length_cons, List.length_nil, List.replicate, List.cons_append, List.nil_append, List.getElem?_cons_zero, List.getElem?_cons_succ, List.getElem?_nil, List.set_cons_zero, List.set_cons_succ, Nat.reduceSub, Nat.reduceAdd, Nat.reduceLT, Nat.reduceLeDiff, if_true, if_false, Bool.false_eq_true, decide_eq_true_eq, Option.isSome_some, id_eq, and_true, true_and, wDisp1, gCatT, gDEm, wItems, itemT, gLenT, wChain, wSlT, gComb, wIsTup, gGcd, gFactorial, gSortTup, gSortDT, gInP, wSortKey, wSortKeyR, wDNewN, wDIxN, wDGetN, wDPutN, wDispN, wKeysN, dictN, dictNL, gDEq, gIsB]
      exact six _ _
    | cons t rs =>
      simp only [decide_eq_false (fun h : t :: rs = [] => nomatch h), Bool.not_false, wVar, wDNew, wDIx, wDGet, wDPut, wKeys, gSorted, dictT, dictLive, tkey, keyT, wIsi, gEqO, wKw, wCallK, wMethK, pick, wC, wBin, wTst, wUn, wNil, wCons, wArg, gTupD, gLstD, gRootD, wAndT, wOrT, wNotT, wAndV, wOrV, wNotV, wIf, wNext, wSeq, wBreak, wCont, wDrop, wRet, wRetN, wIfS, wgName, wgNil, wgCons, wgTup, wAsg, wPar, wPar3, gDict, wLcR, wTru, wDIn, truD, wLc2, lcW2, lcJ, wMaxDef, wListRg, gIn, flatD, flatL, wFroz, wTupI, wRng1, wRng2, wRng3, wEnum, wZip, wFor, wYes, wLc, wipeD, gI, gI0, gB0, gAdd, gCatR, gMul, gNeg, gEqI, gEqB, gEqS, gIsN, isNonD, wCall, wMeth, wMake, wFldS, fldD, wFld, wProp, g1, g2L, gLen, gAbs, gIntC, gStrI, gMax2, gMin2, gInts, gSum, gMaxL, gMinL, gBls, gListOf, gListOfR, gTupOf, gIx, woNo, woSome, wSl, wRev, wRevF, wBM, wBM0, gAppend, gInsert, gReverse, gExtend, gPopAt, gPop, gSetL, wSub, wAug, gIxL, wAugS, wFz, seqD, lisD, frozL, derefL, liveL, cellL, cellF, startD, List.map_cons, List.map_nil, List.length_cons, List.length_nil, List.replicate, List.cons_append, List.nil_append, List.getElem?_cons_zero, List.getElem?_cons_succ, List.getElem?_nil, List.set_cons_zero, List.set_cons_succ, Nat.reduceSub, Nat.reduceAdd, Nat.reduceLT, Nat.reduceLeDiff, if_true, if_false, Bool.false_eq_true, decide_eq_true_eq, Option.isSome_some, id_eq, and_true, true_and, wDisp1, gCatT, gDEm, wItems, itemT, gLenT, wChain, wSlT, gComb, wIsTup, gGcd, gFactorial, gSortTup, gSortDT, gInP, wSortKey, wSortKeyR, wDNewN, wDIxN, wDGetN, wDPutN, wDispN, wKeysN, dictN, dictNL, gDEq, gIsB, lotD, List.map_cons, atI0, termD, wordD, cutD_tail]
      have ht0 := hr t List.mem_cons_self
      refine ⟨szl (by decide), szl (by decide), by rw [List.length_map]; rw [List.length_cons] at lr; exact szl (by omega), ?_⟩
      have hr' : LotIn 3 3 rs := fun u hu => hr u (List.mem_cons_of_mem _ hu)
      have := k (rs ++ [(t.1, t.2.reverse)]) c3 (by rw [List.length_append]; rw [List.length_cons] at lr; show rs.length + 1 ≤ 6; omega) (hr'.snoc ht0.1 (by rw [List.length_reverse]; exact ht0.2.1) fun x hx => ht0.2.2 x (List.mem_reverse.mp hx)) F3 (p3.mono (by omega))
      unfold lotD at this
      rw [List.map_append] at this
      rw [← List.map_reverse]
      exact this
  · rw [if_neg e2]
    exact six _ _
/-! ### the law on one pool -/
def S_law_right : SD := fun ds cs Q _ => ∃ (j N : Nat), ds = [.root j] ∧ Pl N cs j ∧ N ≤ 870000 ∧ ∀ cs', Fr j cs cs' → Pl (N + 20400) cs' j → Q (.bl true) cs'
theorem len_law_right : ∀ ds cs Q X', S_law_right ds cs Q X' → ds.length = 1 := by
  rintro ds cs Q X' ⟨j, N, rfl, _⟩
  rfl
theorem lotIn_frm {ts : Lot} (h : LotIn 3 3 ts) (hl : ts.length ≤ 6) : ts.length ≤ 1000000 ∧ ∀ t ∈ ts, t.2.length ≤ 1000000 ∧ ∀ l ∈ t.2, 0 ≤ l :=
  ⟨by omega, fun t ht => ⟨by have := (h t ht).2.1; omega, fun l hl => ((h t ht).2.2 l hl).1⟩⟩
def m_law_right_6 : WS :=
  (wRet (wAndV (wBin (gEqD id) (wArg gRepr (wCons (wVar 6) wNil)) (wArg gRepr (wCons (wArg gLstD (wCons (wVar 5) (wCons (wVar 5) (wCons (wVar 5) wNil)))) wNil))) (wBin (gIsB id) (wCall S_are_alike (wCons (wVar 3) (wCons (wVar 3) wNil))) (wC (.bl true)))))
def m_law_right_5 : WS :=
  wSeq (wAsg (wArg gLstD (wCons (wCall S_are_alike (wCons (wVar 3) (wCons (wVar 4) wNil))) (wCons (wCallK S_are_alike [1, 0] 0 2 wNil (wCons (wVar 3) (wCons (wVar 4) wNil))) (wCons (wBin (gEqO id 0 S_Formula___eq) (wCall S_plain (wCons (wVar 3) wNil)) (wCall S_plain (wCons (wVar 4) wNil))) wNil)))) (wgName 6))
    m_law_right_6
def m_law_right_4 : WS :=
  wSeq (wAsg (wBin (gEqD id) (wLc (wRng1 (wCons (wC (.int 4)) wNil)) (wgName 7) (wTst (wBin (gDEq not) (wCall S_law_unknowns (wCons (wVar 1) (wCons (wVar 7) wNil))) (wCall S_law_unknowns (wCons (wVar 2) (wCons (wVar 7) wNil))))) (wVar 7) [7]) (wArg gLstD wNil)) (wgName 5))
    m_law_right_5
def m_law_right_3 : WS :=
  wSeq (wPar 3 4 (wCons (wCall S_law_made (wCons (wVar 1) wNil)) (wCons (wCall S_law_made (wCons (wVar 2) wNil)) wNil)))
    m_law_right_4
def m_law_right_2 : WS :=
  wSeq (wAsg (wCall S_law_mate (wCons (wVar 0) (wCons (wVar 1) wNil))) (wgName 2))
    m_law_right_3
def m_law_right : WS :=
  wSeq (wAsg (wCall S_law_lot (wCons (wVar 0) (wCons (wC (.int 4)) (wCons (wC (.int 3)) (wCons (wC (.int 3)) wNil))))) (wgName 1))
    m_law_right_2
theorem body_law_right : Body S_law_right m_law_right 8 := by
  rintro ds cs Q X' ⟨j, N, rfl, hp, hM, k⟩
  simp only [m_law_right, wVar, wDNew, wDIx, wDGet, wDPut, wKeys, gSorted, dictT, dictLive, tkey, keyT, wIsi, gEqO, wKw, wCallK, wMethK, pick, wC, wBin, wTst, wUn, wNil, wCons, wArg, gTupD, gLstD, gRootD, wAndT, wOrT, wNotT, wAndV, wOrV, wNotV, wIf, wNext, wSeq, wBreak, wCont, wDrop, wRet, wRetN, wIfS, wgName, wgNil, wgCons, wgTup, wAsg, wPar, wPar3, gDict, wLcR, wTru, wDIn, truD, wLc2, lcW2, lcJ, wMaxDef, wListRg, gIn, flatD, flatL, wFroz, wTupI, wRng1, wRng2, wRng3, wEnum, wZip, wFor, wYes, wLc, wipeD, gI, gI0, gB0, gAdd, gCatR, gMul, gNeg, gEqI, gEqB, gEqS, gIsN, isNonD, wCall, wMeth, wMake, wFldS, fldD, wFld, wProp, g1, g2L, gLen, gAbs, gIntC, gStrI, gMax2, gMin2, gInts, gSum, gMaxL, gMinL, gBls, gListOf, gListOfR, gTupOf, gIx, woNo, woSome, wSl, wRev, wRevF, wBM, wBM0, gAppend, gInsert, gReverse, gExtend, gPopAt, gPop, gSetL, wSub, wAug, gIxL, wAugS, wFz, seqD, lisD, frozL, derefL, liveL, cellL, cellF, startD, List.map_cons, List.map_nil, List.length_cons, List.length_nil, List.replicate, List.cons_append, List.nil_append, List.getElem?_cons_zero, List.getElem?_cons_succ, List.getElem?_nil, List.set_cons_zero, List.set_cons_succ, Nat.reduceSub, Nat.reduceAdd, Nat.reduceLT, Nat.reduceLeDiff, if_true, if_false, Bool.false_eq_true, decide_eq_true_eq, Option.isSome_some, id_eq, and_true, true_and, wDisp1, gCatT, gDEm, wItems, itemT, gLenT, wChain, wSlT, gComb, wIsTup, gGcd, gFactorial, gSortTup, gSortDT, gInP, wSortKey, wSortKeyR, wDNewN, wDIxN, wDGetN, wDPutN, wDispN, wKeysN, dictN, dictNL, gDEq, gIsB]
  refine ⟨j, _, 4, 3, 3, rfl, hp, by omega, by decide, by decide, by decide, by decide, by decide, by decide, fun ts c1 t0 t1 f1 p1 => ?_⟩
  simp only [m_law_right_2, wVar, wDNew, wDIx, wDGet, wDPut, wKeys, gSorted, dictT, dictLive, tkey, keyT, wIsi, gEqO, wKw, wCallK, wMethK, pick, wC, wBin, wTst, wUn, wNil, wCons, wArg, gTupD, gLstD, gRootD, wAndT, wOrT, wNotT, wAndV, wOrV, wNotV, wIf, wNext, wSeq, wBreak, wCont, wDrop, wRet, wRetN, wIfS, wgName, wgNil, wgCons, wgTup, wAsg, wPar, wPar3, gDict, wLcR, wTru, wDIn, truD, wLc2, lcW2, lcJ, wMaxDef, wListRg, gIn, flatD, flatL, wFroz, wTupI, wRng1, wRng2, wRng3, wEnum, wZip, wFor, wYes, wLc, wipeD, gI, gI0, gB0, gAdd, gCatR, gMul, gNeg, gEqI, gEqB, gEqS, gIsN, isNonD, wCall, wMeth, wMake, wFldS, fldD, wFld, wProp, g1, g2L, gLen, gAbs, gIntC, gStrI, gMax2, gMin2, gInts, gSum, gMaxL, gMinL, gBls, gListOf, gListOfR, gTupOf, gIx, woNo, woSome, wSl, wRev, wRevF, wBM, wBM0, gAppend, gInsert, gReverse, gExtend, gPopAt, gPop, gSetL, wSub, wAug, gIxL, wAugS, wFz, seqD, lisD, frozL, derefL, liveL, cellL, cellF, startD, List.map_cons, List.map_nil, List.length_cons, List.length_nil, List.replicate, List.cons_append, List.nil_append, List.getElem?_cons_zero, List.getElem?_cons_succ, List.getElem?_nil, List.set_cons_zero, List.set_cons_succ, Nat.reduceSub, Nat.reduceAdd, Nat.reduceLT, Nat.reduceLeDiff, if_true, if_false, Bool.false_eq_true, decide_eq_true_eq, Option.isSome_some, id_eq, and_true, true_and, wDisp1, gCatT, gDEm, wItems, itemT, gLenT, wChain, wSlT, gComb, wIsTup, gGcd, gFactorial, gSortTup, gSortDT, gInP, wSortKey, wSortKeyR, wDNewN, wDIxN, wDGetN, wDPutN, wDispN, wKeysN, dictN, dictNL, gDEq, gIsB]
  refine ⟨j, _, ts, rfl, p1, by omega, by omega, t1, fun us c2 u0 u1 f2 p2 => ?_⟩
  have F2 := f1.trans f2
  have lt4 : ts.length ≤ 6 := by omega
  obtain ⟨a1, a2⟩ := lotIn_frm t1 lt4
  obtain ⟨b1, b2⟩ := lotIn_frm u1 u0
  have wt : ∀ t ∈ ts, t.2.length ≤ 3 := fun t ht => by have := (t1 t ht).2.1; omega
  have wu : ∀ t ∈ us, t.2.length ≤ 3 := fun t ht => by have := (u1 t ht).2.1; omega
  simp only [m_law_right_3, wVar, wDNew, wDIx, wDGet, wDPut, wKeys, gSorted, dictT, dictLive, tkey, keyT, wIsi, gEqO, wKw, wCallK, wMethK, pick, wC, wBin, wTst, wUn, wNil, wCons, wArg, gTupD, gLstD, gRootD, wAndT, wOrT, wNotT, wAndV, wOrV, wNotV, wIf, wNext, wSeq, wBreak, wCont, wDrop, wRet, wRetN, wIfS, wgName, wgNil, wgCons, wgTup, wAsg, wPar, wPar3, gDict, wLcR, wTru, wDIn, truD, wLc2, lcW2, lcJ, wMaxDef, wListRg, gIn, flatD, flatL, wFroz, wTupI, wRng1, wRng2, wRng3, wEnum, wZip, wFor, wYes, wLc, wipeD, gI, gI0, gB0, gAdd, gCatR, gMul, gNeg, gEqI, gEqB, gEqS, gIsN, isNonD, wCall, wMeth, wMake, wFldS, fldD, wFld, wProp, g1, g2L, gLen, gAbs, gIntC, gStrI, gMax2, gMin2, gInts, gSum, gMaxL, gMinL, gBls, gListOf, gListOfR, gTupOf, gIx, woNo, woSome, wSl, wRev, wRevF, wBM, wBM0, gAppend, gInsert, gReverse, gExtend, gPopAt, gPop, gSetL, wSub, wAug, gIxL, wAugS, wFz, seqD, lisD, frozL, derefL, liveL, cellL, cellF, startD, List.map_cons, List.map_nil, List.length_cons, List.length_nil, List.replicate, List.cons_append, List.nil_append, List.getElem?_cons_zero, List.getElem?_cons_succ, List.getElem?_nil, List.set_cons_zero, List.set_cons_succ, Nat.reduceSub, Nat.reduceAdd, Nat.reduceLT, Nat.reduceLeDiff, if_true, if_false, Bool.false_eq_true, decide_eq_true_eq, Option.isSome_some, id_eq, and_true, true_and, wDisp1, gCatT, gDEm, wItems, itemT, gLenT, wChain, wSlT, gComb, wIsTup, gGcd, gFactorial, gSortTup, gSortDT, gInP, wSortKey, wSortKeyR, wDNewN, wDIxN, wDGetN, wDPutN, wDispN, wKeysN, dictN, dictNL, gDEq, gIsB]
  refine ⟨ts, rfl, a1, a2, fun c3 k3 => ?_⟩
  refine ⟨us, rfl, b1, b2, fun c4 k4 => ?_⟩
  have K4 := k3.trans k4
  simp only [m_law_right_4, wVar, wDNew, wDIx, wDGet, wDPut, wKeys, gSorted, dictT, dictLive, tkey, keyT, wIsi, gEqO, wKw, wCallK, wMethK, pick, wC, wBin, wTst, wUn, wNil, wCons, wArg, gTupD, gLstD, gRootD, wAndT, wOrT, wNotT, wAndV, wOrV, wNotV, wIf, wNext, wSeq, wBreak, wCont, wDrop, wRet, wRetN, wIfS, wgName, wgNil, wgCons, wgTup, wAsg, wPar, wPar3, gDict, wLcR, wTru, wDIn, truD, wLc2, lcW2, lcJ, wMaxDef, wListRg, gIn, flatD, flatL, wFroz, wTupI, wRng1, wRng2, wRng3, wEnum, wZip, wFor, wYes, wLc, wipeD, gI, gI0, gB0, gAdd, gCatR, gMul, gNeg, gEqI, gEqB, gEqS, gIsN, isNonD, wCall, wMeth, wMake, wFldS, fldD, wFld, wProp, g1, g2L, gLen, gAbs, gIntC, gStrI, gMax2, gMin2, gInts, gSum, gMaxL, gMinL, gBls, gListOf, gListOfR, gTupOf, gIx, woNo, woSome, wSl, wRev, wRevF, wBM, wBM0, gAppend, gInsert, gReverse, gExtend, gPopAt, gPop, gSetL, wSub, wAug, gIxL, wAugS, wFz, seqD, lisD, frozL, derefL, liveL, cellL, cellF, startD, List.map_cons, List.map_nil, List.length_cons, List.length_nil, List.replicate, List.cons_append, List.nil_append, List.getElem?_cons_zero, List.getElem?_cons_succ, List.getElem?_nil, List.set_cons_zero, List.set_cons_succ, Nat.reduceSub, Nat.reduceAdd, Nat.reduceLT, Nat.reduceLeDiff, if_true, if_false, Bool.false_eq_true, decide_eq_true_eq, Option.isSome_some, id_eq, and_true, true_and, wDisp1, gCatT, gDEm, wItems, itemT, gLenT, wChain, wSlT, gComb, wIsTup, gGcd, gFactorial, gSortTup, gSortDT, gInP, wSortKey, wSortKeyR, wDNewN, wDIxN, wDGetN, wDPutN, wDispN, wKeysN, dictN, dictNL, gDEq, gIsB]
  refine ⟨by decide, by rw [ints_len]; exact szl (by decide), lc_by (fun i acc c => Ke c4 c ∧ ∃ l : List Int, acc = l.map D.int ∧ (l = [] ↔ ∀ n, n < i → ∀ e, UN ts n (oneAt e) = UN us n (oneAt e))) ⟨.refl, [], rfl, ⟨fun _ n h => absurd h (Nat.not_lt_zero _), fun _ => rfl⟩⟩ ?_ ?_⟩
  · rintro i d acc c q1 q0 hd ⟨K5, l, rfl, hl⟩ y1 y0
    obtain ⟨rfl, hi⟩ := intsD_at hd
    have hi4 : i < 4 := hi
    simp only [wVar, wDNew, wDIx, wDGet, wDPut, wKeys, gSorted, dictT, dictLive, tkey, keyT, wIsi, gEqO, wKw, wCallK, wMethK, pick, wC, wBin, wTst, wUn, wNil, wCons, wArg, gTupD, gLstD, gRootD, wAndT, wOrT, wNotT, wAndV, wOrV, wNotV, wIf, wNext, wSeq, wBreak, wCont, wDrop, wRet, wRetN, wIfS, wgName, wgNil, wgCons, wgTup, wAsg, wPar, wPar3, gDict, wLcR, wTru, wDIn, truD, wLc2, lcW2, lcJ, wMaxDef, wListRg, gIn, flatD, flatL, wFroz, wTupI, wRng1, wRng2, wRng3, wEnum, wZip, wFor, wYes, wLc, wipeD, gI, gI0, gB0, gAdd, gCatR, gMul, gNeg, gEqI, gEqB, gEqS, gIsN, isNonD, wCall, wMeth, wMake, wFldS, fldD, wFld, wProp, g1, g2L, gLen, gAbs, gIntC, gStrI, gMax2, gMin2, gInts, gSum, gMaxL, gMinL, gBls, gListOf, gListOfR, gTupOf, gIx, woNo, woSome, wSl, wRev, wRevF, wBM, wBM0, gAppend, gInsert, gReverse, gExtend, gPopAt, gPop, gSetL, wSub, wAug, gIxL, wAugS, wFz, seqD, lisD, frozL, derefL, liveL, cellL, cellF, startD, List.map_cons, List.map_nil, List.length_cons, List.length_nil, List.replicate, List.cons_append, List.nil_append, List.getElem?_cons_zero, List.getElem?_cons_succ, List.getElem?_nil, List.set_cons_zero, List.set_cons_succ, Nat.reduceSub, Nat.reduceAdd, Nat.reduceLT, Nat.reduceLeDiff, if_true, if_false, Bool.false_eq_true, decide_eq_true_eq, Option.isSome_some, id_eq, and_true, true_and, wDisp1, gCatT, gDEm, wItems, itemT, gLenT, wChain, wSlT, gComb, wIsTup, gGcd, gFactorial, gSortTup, gSortDT, gInP, wSortKey, wSortKeyR, wDNewN, wDIxN, wDGetN, wDPutN, wDispN, wKeysN, dictN, dictNL, gDEq, gIsB, Int.zero_add]
    refine ⟨ts, i, rfl, by omega, by omega, fun m1 j1 c6 nd1 z1 l1 v1 s1 lj1 hj1 k6 => ?_⟩
    refine ⟨us, i, rfl, by omega, by omega, fun m2 j2 c7 nd2 z2 l2 v2 s2 lj2 hj2 k7 => ?_⟩
    have hj1' := (k7.at_ _ (List.getElem?_eq_some_iff.mp hj1).1).trans hj1
    have iff1 := eqKD_tal nd1 nd2 z1 z2
    have K7 := (K5.trans k6).trans k7
    simp only [wVar, wDNew, wDIx, wDGet, wDPut, wKeys, gSorted, dictT, dictLive, tkey, keyT, wIsi, gEqO, wKw, wCallK, wMethK, pick, wC, wBin, wTst, wUn, wNil, wCons, wArg, gTupD, gLstD, gRootD, wAndT, wOrT, wNotT, wAndV, wOrV, wNotV, wIf, wNext, wSeq, wBreak, wCont, wDrop, wRet, wRetN, wIfS, wgName, wgNil, wgCons, wgTup, wAsg, wPar, wPar3, gDict, wLcR, wTru, wDIn, truD, wLc2, lcW2, lcJ, wMaxDef, wListRg, gIn, flatD, flatL, wFroz, wTupI, wRng1, wRng2, wRng3, wEnum, wZip, wFor, wYes, wLc, wipeD, gI, gI0, gB0, gAdd, gCatR, gMul, gNeg, gEqI, gEqB, gEqS, gIsN, isNonD, wCall, wMeth, wMake, wFldS, fldD, wFld, wProp, g1, g2L, gLen, gAbs, gIntC, gStrI, gMax2, gMin2, gInts, gSum, gMaxL, gMinL, gBls, gListOf, gListOfR, gTupOf, gIx, woNo, woSome, wSl, wRev, wRevF, wBM, wBM0, gAppend, gInsert, gReverse, gExtend, gPopAt, gPop, gSetL, wSub, wAug, gIxL, wAugS, wFz, seqD, lisD, frozL, derefL, liveL, cellL, cellF, startD, List.map_cons, List.map_nil, List.length_cons, List.length_nil, List.replicate, List.cons_append, List.nil_append, List.getElem?_cons_zero, List.getElem?_cons_succ, List.getElem?_nil, List.set_cons_zero, List.set_cons_succ, Nat.reduceSub, Nat.reduceAdd, Nat.reduceLT, Nat.reduceLeDiff, if_true, if_false, Bool.false_eq_true, decide_eq_true_eq, Option.isSome_some, id_eq, and_true, true_and, wDisp1, gCatT, gDEm, wItems, itemT, gLenT, wChain, wSlT, gComb, wIsTup, gGcd, gFactorial, gSortTup, gSortDT, gInP, wSortKey, wSortKeyR, wDNewN, wDIxN, wDGetN, wDPutN, wDispN, wKeysN, dictN, dictNL, gDEq, gIsB, hj1', hj2]
    refine ⟨allInt_tal _, allInt_tal _, ?_⟩
    by_cases E : eqKD (talD m1) (talD m2) = true
    · rw [E]
      refine y0 _ ⟨K7, l, rfl, hl.trans ⟨fun h n hn e => ?_, fun h n hn e => h n (by omega) e⟩⟩
      by_cases z : n < i
      · exact h n z e
      · have : n = i := by omega
        subst this
        rw [← v1, ← v2]
        exact iff1.mp E e
    · rw [Bool.not_eq_true] at E
      rw [E]
      refine y1 _ _ ⟨K7, l ++ [(i : Int)], by rw [List.map_append]; rfl, ⟨fun h => ?_, fun h => ?_⟩⟩
      · rw [List.append_eq_nil_iff] at h
        cases h.2
      · exfalso
        have := iff1.mpr fun e => by rw [v1, v2]; exact h i (by omega) e
        rw [E] at this
        cases this
  · rintro acc c ⟨K5, l, rfl, hl⟩
    rw [ints_len] at hl
    obtain ⟨due, ed⟩ : ∃ b, decide (l = []) = b := ⟨_, rfl⟩
    have hdue : due = true ↔ ∀ w, DL.coef ts w = DL.coef us w := by
      rw [← ed, decide_eq_true_iff, hl]
      exact ⟨fun h => un_sep wt wu fun n hn e => h n (show n < 4 by omega) e, fun h n _ e => un_coef h n _⟩
    have same : ∀ b : Bool, (b = true ↔ ∀ w, DL.coef ts w = DL.coef us w) → b = due := fun b hb => Bool.eq_iff_iff.mpr (hb.trans hdue.symm)
    refine ⟨szl (by decide), gEq_of (e := wordD) (x := l) (y := []) eqd_word ?_⟩
    rw [ed]
    simp only [id_eq, m_law_right_5, wVar, wDNew, wDIx, wDGet, wDPut, wKeys, gSorted, dictT, dictLive, tkey, keyT, wIsi, gEqO, wKw, wCallK, wMethK, pick, wC, wBin, wTst, wUn, wNil, wCons, wArg, gTupD, gLstD, gRootD, wAndT, wOrT, wNotT, wAndV, wOrV, wNotV, wIf, wNext, wSeq, wBreak, wCont, wDrop, wRet, wRetN, wIfS, wgName, wgNil, wgCons, wgTup, wAsg, wPar, wPar3, gDict, wLcR, wTru, wDIn, truD, wLc2, lcW2, lcJ, wMaxDef, wListRg, gIn, flatD, flatL, wFroz, wTupI, wRng1, wRng2, wRng3, wEnum, wZip, wFor, wYes, wLc, wipeD, gI, gI0, gB0, gAdd, gCatR, gMul, gNeg, gEqI, gEqB, gEqS, gIsN, isNonD, wCall, wMeth, wMake, wFldS, fldD, wFld, wProp, g1, g2L, gLen, gAbs, gIntC, gStrI, gMax2, gMin2, gInts, gSum, gMaxL, gMinL, gBls, gListOf, gListOfR, gTupOf, gIx, woNo, woSome, wSl, wRev, wRevF, wBM, wBM0, gAppend, gInsert, gReverse, gExtend, gPopAt, gPop, gSetL, wSub, wAug, gIxL, wAugS, wFz, seqD, lisD, frozL, derefL, liveL, cellL, cellF, startD, List.map_cons, List.map_nil, List.length_cons, List.length_nil, List.replicate, List.cons_append, List.nil_append, List.getElem?_cons_zero, List.getElem?_cons_succ, List.getElem?_nil, List.set_cons_zero, List.set_cons_succ, Nat.reduceSub, Nat.reduceAdd, Nat.reduceLT, Nat.reduceLeDiff, if_true, if_false, Bool.false_eq_true, decide_eq_true_eq, Option.isSome_some, id_eq, and_true, true_and, wDisp1, gCatT, gDEm, wItems, itemT, gLenT, wChain, wSlT, gComb, wIsTup, gGcd, gFactorial, gSortTup, gSortDT, gInP, wSortKey, wSortKeyR, wDNewN, wDIxN, wDGetN, wDPutN, wDispN, wKeysN, dictN, dictNL, gDEq, gIsB]
    refine ⟨ts, us, rfl, ⟨a1, a2⟩, ⟨b1, b2⟩, fun r1 c6 h1 k6 => ?_⟩
    refine ⟨us, ts, rfl, ⟨b1, b2⟩, ⟨a1, a2⟩, fun r2 c7 h2 k7 => ?_⟩
    refine ⟨ts, rfl, a1, a2, fun ps c8 hp8 k8 => ?_⟩
    refine ⟨us, rfl, b1, b2, fun qs c9 hq9 k9 => ?_⟩
    rw [same r1 h1, same r2 (h2.trans ⟨fun h w => (h w).symm, fun h w => (h w).symm⟩)]
    simp only [frmD]
    refine ⟨trivial, trivial, ps, qs, rfl, ?_⟩
    rw [same (decide (ps = qs)) (by rw [decide_eq_true_iff]; exact hp8.iff hq9)]
    simp only [wVar, wDNew, wDIx, wDGet, wDPut, wKeys, gSorted, dictT, dictLive, tkey, keyT, wIsi, gEqO, wKw, wCallK, wMethK, pick, wC, wBin, wTst, wUn, wNil, wCons, wArg, gTupD, gLstD, gRootD, wAndT, wOrT, wNotT, wAndV, wOrV, wNotV, wIf, wNext, wSeq, wBreak, wCont, wDrop, wRet, wRetN, wIfS, wgName, wgNil, wgCons, wgTup, wAsg, wPar, wPar3, gDict, wLcR, wTru, wDIn, truD, wLc2, lcW2, lcJ, wMaxDef, wListRg, gIn, flatD, flatL, wFroz, wTupI, wRng1, wRng2, wRng3, wEnum, wZip, wFor, wYes, wLc, wipeD, gI, gI0, gB0, gAdd, gCatR, gMul, gNeg, gEqI, gEqB, gEqS, gIsN, isNonD, wCall, wMeth, wMake, wFldS, fldD, wFld, wProp, g1, g2L, gLen, gAbs, gIntC, gStrI, gMax2, gMin2, gInts, gSum, gMaxL, gMinL, gBls, gListOf, gListOfR, gTupOf, gIx, woNo, woSome, wSl, wRev, wRevF, wBM, wBM0, gAppend, gInsert, gReverse, gExtend, gPopAt, gPop, gSetL, wSub, wAug, gIxL, wAugS, wFz, seqD, lisD, frozL, derefL, liveL, cellL, cellF, startD, List.map_cons, List.map_nil, List.length_cons, List.length_nil, List.replicate, List.cons_append, List.nil_append, List.getElem?_cons_zero, List.getElem?_cons_succ, List.getElem?_nil, List.set_cons_zero, List.set_cons_succ, Nat.reduceSub, Nat.reduceAdd, Nat.reduceLT, Nat.reduceLeDiff, if_true, if_false, Bool.false_eq_true, decide_eq_true_eq, Option.isSome_some, id_eq, and_true, true_and, wDisp1, gCatT, gDEm, wItems, itemT, gLenT, wChain, wSlT, gComb, wIsTup, gGcd, gFactorial, gSortTup, gSortDT, gInP, wSortKey, wSortKeyR, wDNewN, wDIxN, wDGetN, wDPutN, wDispN, wKeysN, dictN, dictNL, gDEq, gIsB, m_law_right_6]
    refine ⟨szl (by decide), ?_⟩
    have py3 : ∀ c : Cells, py c (.lst [.bl due, .bl due, .bl due]) = some (.list [.bool due, .bool due, .bool due]) := fun c => by
      unfold py
      simp only [pyW, pyWL, Option.map_some]
    have sh3 : Sh (PyData.list [.bool due, .bool due, .bool due]) 1 100 := (Sh.list (.cons (Sh.bl due) (.cons (Sh.bl due) (.cons (Sh.bl due) .nil)))).mono (by decide) (by decide)
    refine gRepr_py (py3 _) sh3 (by decide) (by decide) ⟨szl (by decide), gRepr_py (py3 _) sh3 (by decide) (by decide) ?_⟩
    simp only [gEqS, decide_true, id_eq, wVar, wDNew, wDIx, wDGet, wDPut, wKeys, gSorted, dictT, dictLive, tkey, keyT, wIsi, gEqO, wKw, wCallK, wMethK, pick, wC, wBin, wTst, wUn, wNil, wCons, wArg, gTupD, gLstD, gRootD, wAndT, wOrT, wNotT, wAndV, wOrV, wNotV, wIf, wNext, wSeq, wBreak, wCont, wDrop, wRet, wRetN, wIfS, wgName, wgNil, wgCons, wgTup, wAsg, wPar, wPar3, gDict, wLcR, wTru, wDIn, truD, wLc2, lcW2, lcJ, wMaxDef, wListRg, gIn, flatD, flatL, wFroz, wTupI, wRng1, wRng2, wRng3, wEnum, wZip, wFor, wYes, wLc, wipeD, gI, gI0, gB0, gAdd, gCatR, gMul, gNeg, gEqI, gEqB, gEqS, gIsN, isNonD, wCall, wMeth, wMake, wFldS, fldD, wFld, wProp, g1, g2L, gLen, gAbs, gIntC, gStrI, gMax2, gMin2, gInts, gSum, gMaxL, gMinL, gBls, gListOf, gListOfR, gTupOf, gIx, woNo, woSome, wSl, wRev, wRevF, wBM, wBM0, gAppend, gInsert, gReverse, gExtend, gPopAt, gPop, gSetL, wSub, wAug, gIxL, wAugS, wFz, seqD, lisD, frozL, derefL, liveL, cellL, cellF, startD, List.map_cons, List.map_nil, List.length_cons, List.length_nil, List.replicate, List.cons_append, List.nil_append, List.getElem?_cons_zero, List.getElem?_cons_succ, List.getElem?_nil, List.set_cons_zero, List.set_cons_succ, Nat.reduceSub, Nat.reduceAdd, Nat.reduceLT, Nat.reduceLeDiff, if_true, if_false, Bool.false_eq_true, decide_eq_true_eq, Option.isSome_some, id_eq, and_true, true_and, wDisp1, gCatT, gDEm, wItems, itemT, gLenT, wChain, wSlT, gComb, wIsTup, gGcd, gFactorial, gSortTup, gSortDT, gInP, wSortKey, wSortKeyR, wDNewN, wDIxN, wDGetN, wDPutN, wDispN, wKeysN, dictN, dictNL, gDEq, gIsB]
    refine ⟨ts, ts, rfl, ⟨a1, a2⟩, ⟨a1, a2⟩, fun r3 c10 h3 k10 => ?_⟩
    rw [h3.mpr fun _ => rfl]
    simp only [wVar, wDNew, wDIx, wDGet, wDPut, wKeys, gSorted, dictT, dictLive, tkey, keyT, wIsi, gEqO, wKw, wCallK, wMethK, pick, wC, wBin, wTst, wUn, wNil, wCons, wArg, gTupD, gLstD, gRootD, wAndT, wOrT, wNotT, wAndV, wOrV, wNotV, wIf, wNext, wSeq, wBreak, wCont, wDrop, wRet, wRetN, wIfS, wgName, wgNil, wgCons, wgTup, wAsg, wPar, wPar3, gDict, wLcR, wTru, wDIn, truD, wLc2, lcW2, lcJ, wMaxDef, wListRg, gIn, flatD, flatL, wFroz, wTupI, wRng1, wRng2, wRng3, wEnum, wZip, wFor, wYes, wLc, wipeD, gI, gI0, gB0, gAdd, gCatR, gMul, gNeg, gEqI, gEqB, gEqS, gIsN, isNonD, wCall, wMeth, wMake, wFldS, fldD, wFld, wProp, g1, g2L, gLen, gAbs, gIntC, gStrI, gMax2, gMin2, gInts, gSum, gMaxL, gMinL, gBls, gListOf, gListOfR, gTupOf, gIx, woNo, woSome, wSl, wRev, wRevF, wBM, wBM0, gAppend, gInsert, gReverse, gExtend, gPopAt, gPop, gSetL, wSub, wAug, gIxL, wAugS, wFz, seqD, lisD, frozL, derefL, liveL, cellL, cellF, startD, List.map_cons, List.map_nil, List.length_cons, List.length_nil, List.replicate, List.cons_append, List.nil_append, List.getElem?_cons_zero, List.getElem?_cons_succ, List.getElem?_nil, List.set_cons_zero, List.set_cons_succ, Nat.reduceSub, Nat.reduceAdd, Nat.reduceLT, Nat.reduceLeDiff, if_true, if_false, Bool.false_eq_true, decide_eq_true_eq, Option.isSome_some, id_eq, and_true, true_and, wDisp1, gCatT, gDEm, wItems, itemT, gLenT, wChain, wSlT, gComb, wIsTup, gGcd, gFactorial, gSortTup, gSortDT, gInP, wSortKey, wSortKeyR, wDNewN, wDIxN, wDGetN, wDPutN, wDispN, wKeysN, dictN, dictNL, gDEq, gIsB, decide_true, id_eq]
    have KK := ((((((K4.trans K5).trans k6).trans k7).trans k8).trans k9).trans k10)
    exact k _ (F2.trans KK.fr) ((KK.pl p2).mono (by omega))

def S_law : SD := fun ds cs Q _ => ∃ ns : List Int, ds = [.scr (ns.map D.int)] ∧ ns.length ≤ 63 ∧ ∀ cs', Q (.bl true) cs'
theorem len_law : ∀ ds cs Q X', S_law ds cs Q X' → ds.length = 1 := by
  rintro ds cs Q X' ⟨ns, rfl, _⟩
  rfl
theorem law_end (ns : List Int) (h : ns.length ≤ 63) : S_law [.scr (ns.map D.int)] [] (fun d _ => d = .bl true) fun _ _ _ => False := ⟨ns, rfl, h, fun _ => rfl⟩
def m_law : WS :=
  (wSeq (wFor (wRng1 (wCons (wArg gMax2 (wCons (wC (.int 1)) (wCons (wArg gMin2 (wCons (wC (.int 6)) (wCons (wArg gLen (wCons (wVar 0) wNil)) wNil))) wNil))) wNil)) (wgName 1) (wSeq (wAsg (wCall S_law_pool (wCons (wVar 0) (wCons (wVar 1) wNil))) (wgName 2))
    (wFor (wRng1 (wCons (wC (.int 6)) wNil)) (wgName 3) (wIfS (wNotT (wTst (wCall S_law_right (wCons (wVar 2) wNil)))) (wRet (wC (.bl false))) wNext))))
    (wRet (wC (.bl true))))
theorem body_law : Body S_law m_law 4 := by
  rintro ds cs Q X' ⟨ns, rfl, hz, k⟩
  simp only [m_law, wVar, wDNew, wDIx, wDGet, wDPut, wKeys, gSorted, dictT, dictLive, tkey, keyT, wIsi, gEqO, wKw, wCallK, wMethK, pick, wC, wBin, wTst, wUn, wNil, wCons, wArg, gTupD, gLstD, gRootD, wAndT, wOrT, wNotT, wAndV, wOrV, wNotV, wIf, wNext, wSeq, wBreak, wCont, wDrop, wRet, wRetN, wIfS, wgName, wgNil, wgCons, wgTup, wAsg, wPar, wPar3, gDict, wLcR, wTru, wDIn, truD, wLc2, lcW2, lcJ, wMaxDef, wListRg, gIn, flatD, flatL, wFroz, wTupI, wRng1, wRng2, wRng3, wEnum, wZip, wFor, wYes, wLc, wipeD, gI, gI0, gB0, gAdd, gCatR, gMul, gNeg, gEqI, gEqB, gEqS, gIsN, isNonD, wCall, wMeth, wMake, wFldS, fldD, wFld, wProp, g1, g2L, gLen, gAbs, gIntC, gStrI, gMax2, gMin2, gInts, gSum, gMaxL, gMinL, gBls, gListOf, gListOfR, gTupOf, gIx, woNo, woSome, wSl, wRev, wRevF, wBM, wBM0, gAppend, gInsert, gReverse, gExtend, gPopAt, gPop, gSetL, wSub, wAug, gIxL, wAugS, wFz, seqD, lisD, frozL, derefL, liveL, cellL, cellF, startD, List.map_cons, List.map_nil, List.length_cons, List.length_nil, List.replicate, List.cons_append, List.nil_append, List.getElem?_cons_zero, List.getElem?_cons_succ, List.getElem?_nil, List.set_cons_zero, List.set_cons_succ, Nat.reduceSub, Nat.reduceAdd, Nat.reduceLT, Nat.reduceLeDiff, if_true, if_false, Bool.false_eq_true, decide_eq_true_eq, Option.isSome_some, id_eq, and_true, true_and, wDisp1, gCatT, gDEm, wItems, itemT, gLenT, wChain, wSlT, gComb, wIsTup, gGcd, gFactorial, gSortTup, gSortDT, gInP, wSortKey, wSortKeyR, wDNewN, wDIxN, wDGetN, wDPutN, wDispN, wKeysN, dictN, dictNL, gDEq, gIsB, List.length_map]
  have hb : (if (if (ns.length : Int) < 6 then (ns.length : Int) else 6) > 1 then (if (ns.length : Int) < 6 then (ns.length : Int) else 6) else 1) ≤ 6 ∧ 1 ≤ (if (if (ns.length : Int) < 6 then (ns.length : Int) else 6) > 1 then (if (ns.length : Int) < 6 then (ns.length : Int) else 6) else 1) := by
    split <;> split <;> omega
  generalize (if (if (ns.length : Int) < 6 then (ns.length : Int) else 6) > 1 then (if (ns.length : Int) < 6 then (ns.length : Int) else 6) else 1) = m at hb ⊢
  refine ⟨⟨by omega, by omega⟩, ?_⟩
  refine for_by (fun i sl cs' => ∃ a b c, sl = [some (.scr (ns.map D.int)), a, b, c]) ⟨_, _, _, rfl⟩ ?_ ?_
  · rintro i d sl cs' k1 hd ⟨a, b, c, rfl⟩ q
    obtain ⟨rfl, hi⟩ := intsD_at hd
    simp only [wVar, wDNew, wDIx, wDGet, wDPut, wKeys, gSorted, dictT, dictLive, tkey, keyT, wIsi, gEqO, wKw, wCallK, wMethK, pick, wC, wBin, wTst, wUn, wNil, wCons, wArg, gTupD, gLstD, gRootD, wAndT, wOrT, wNotT, wAndV, wOrV, wNotV, wIf, wNext, wSeq, wBreak, wCont, wDrop, wRet, wRetN, wIfS, wgName, wgNil, wgCons, wgTup, wAsg, wPar, wPar3, gDict, wLcR, wTru, wDIn, truD, wLc2, lcW2, lcJ, wMaxDef, wListRg, gIn, flatD, flatL, wFroz, wTupI, wRng1, wRng2, wRng3, wEnum, wZip, wFor, wYes, wLc, wipeD, gI, gI0, gB0, gAdd, gCatR, gMul, gNeg, gEqI, gEqB, gEqS, gIsN, isNonD, wCall, wMeth, wMake, wFldS, fldD, wFld, wProp, g1, g2L, gLen, gAbs, gIntC, gStrI, gMax2, gMin2, gInts, gSum, gMaxL, gMinL, gBls, gListOf, gListOfR, gTupOf, gIx, woNo, woSome, wSl, wRev, wRevF, wBM, wBM0, gAppend, gInsert, gReverse, gExtend, gPopAt, gPop, gSetL, wSub, wAug, gIxL, wAugS, wFz, seqD, lisD, frozL, derefL, liveL, cellL, cellF, startD, List.map_cons, List.map_nil, List.length_cons, List.length_nil, List.replicate, List.cons_append, List.nil_append, List.getElem?_cons_zero, List.getElem?_cons_succ, List.getElem?_nil, List.set_cons_zero, List.set_cons_succ, Nat.reduceSub, Nat.reduceAdd, Nat.reduceLT, Nat.reduceLeDiff, if_true, if_false, Bool.false_eq_true, decide_eq_true_eq, Option.isSome_some, id_eq, and_true, true_and, wDisp1, gCatT, gDEm, wItems, itemT, gLenT, wChain, wSlT, gComb, wIsTup, gGcd, gFactorial, gSortTup, gSortDT, gInP, wSortKey, wSortKeyR, wDNewN, wDIxN, wDGetN, wDPutN, wDispN, wKeysN, dictN, dictNL, gDEq, gIsB]
    refine ⟨ns, _, rfl, by omega, by omega, hz, fun cs1 e1 f1 p1 => ⟨by decide, ?_⟩⟩
    refine for_by (fun t sl cs2 => (∃ u, sl = [some (.scr (ns.map D.int)), some (.int (0 + (i : Nat))), some (.root cs'.length), u]) ∧ Pl (20400 * t) cs2 cs'.length) ⟨⟨_, rfl⟩, p1⟩ ?_ ?_
    · rintro t d sl cs2 k2 hd ⟨⟨u, rfl⟩, p2⟩ q2
      obtain ⟨rfl, ht⟩ := intsD_at hd
      have ht : t < 6 := ht
      simp only [wVar, wDNew, wDIx, wDGet, wDPut, wKeys, gSorted, dictT, dictLive, tkey, keyT, wIsi, gEqO, wKw, wCallK, wMethK, pick, wC, wBin, wTst, wUn, wNil, wCons, wArg, gTupD, gLstD, gRootD, wAndT, wOrT, wNotT, wAndV, wOrV, wNotV, wIf, wNext, wSeq, wBreak, wCont, wDrop, wRet, wRetN, wIfS, wgName, wgNil, wgCons, wgTup, wAsg, wPar, wPar3, gDict, wLcR, wTru, wDIn, truD, wLc2, lcW2, lcJ, wMaxDef, wListRg, gIn, flatD, flatL, wFroz, wTupI, wRng1, wRng2, wRng3, wEnum, wZip, wFor, wYes, wLc, wipeD, gI, gI0, gB0, gAdd, gCatR, gMul, gNeg, gEqI, gEqB, gEqS, gIsN, isNonD, wCall, wMeth, wMake, wFldS, fldD, wFld, wProp, g1, g2L, gLen, gAbs, gIntC, gStrI, gMax2, gMin2, gInts, gSum, gMaxL, gMinL, gBls, gListOf, gListOfR, gTupOf, gIx, woNo, woSome, wSl, wRev, wRevF, wBM, wBM0, gAppend, gInsert, gReverse, gExtend, gPopAt, gPop, gSetL, wSub, wAug, gIxL, wAugS, wFz, seqD, lisD, frozL, derefL, liveL, cellL, cellF, startD, List.map_cons, List.map_nil, List.length_cons, List.length_nil, List.replicate, List.cons_append, List.nil_append, List.getElem?_cons_zero, List.getElem?_cons_succ, List.getElem?_nil, List.set_cons_zero, List.set_cons_succ, Nat.reduceSub, Nat.reduceAdd, Nat.reduceLT, Nat.reduceLeDiff, if_true, if_false, Bool.false_eq_true, decide_eq_true_eq, Option.isSome_some, id_eq, and_true, true_and, wDisp1, gCatT, gDEm, wItems, itemT, gLenT, wChain, wSlT, gComb, wIsTup, gGcd, gFactorial, gSortTup, gSortDT, gInP, wSortKey, wSortKeyR, wDNewN, wDIxN, wDGetN, wDPutN, wDispN, wKeysN, dictN, dictNL, gDEq, gIsB]
      refine ⟨cs'.length, _, rfl, p2, by omega, fun cs3 f3 p3 => ?_⟩
      simp only [wVar, wDNew, wDIx, wDGet, wDPut, wKeys, gSorted, dictT, dictLive, tkey, keyT, wIsi, gEqO, wKw, wCallK, wMethK, pick, wC, wBin, wTst, wUn, wNil, wCons, wArg, gTupD, gLstD, gRootD, wAndT, wOrT, wNotT, wAndV, wOrV, wNotV, wIf, wNext, wSeq, wBreak, wCont, wDrop, wRet, wRetN, wIfS, wgName, wgNil, wgCons, wgTup, wAsg, wPar, wPar3, gDict, wLcR, wTru, wDIn, truD, wLc2, lcW2, lcJ, wMaxDef, wListRg, gIn, flatD, flatL, wFroz, wTupI, wRng1, wRng2, wRng3, wEnum, wZip, wFor, wYes, wLc, wipeD, gI, gI0, gB0, gAdd, gCatR, gMul, gNeg, gEqI, gEqB, gEqS, gIsN, isNonD, wCall, wMeth, wMake, wFldS, fldD, wFld, wProp, g1, g2L, gLen, gAbs, gIntC, gStrI, gMax2, gMin2, gInts, gSum, gMaxL, gMinL, gBls, gListOf, gListOfR, gTupOf, gIx, woNo, woSome, wSl, wRev, wRevF, wBM, wBM0, gAppend, gInsert, gReverse, gExtend, gPopAt, gPop, gSetL, wSub, wAug, gIxL, wAugS, wFz, seqD, lisD, frozL, derefL, liveL, cellL, cellF, startD, List.map_cons, List.map_nil, List.length_cons, List.length_nil, List.replicate, List.cons_append, List.nil_append, List.getElem?_cons_zero, List.getElem?_cons_succ, List.getElem?_nil, List.set_cons_zero, List.set_cons_succ, Nat.reduceSub, Nat.reduceAdd, Nat.reduceLT, Nat.reduceLeDiff, if_true, if_false, Bool.false_eq_true, decide_eq_true_eq, Option.isSome_some, id_eq, and_true, true_and, wDisp1, gCatT, gDEm, wItems, itemT, gLenT, wChain, wSlT, gComb, wIsTup, gGcd, gFactorial, gSortTup, gSortDT, gInP, wSortKey, wSortKeyR, wDNewN, wDIxN, wDGetN, wDPutN, wDispN, wKeysN, dictN, dictNL, gDEq, gIsB, Bool.not_true]
      exact q2 _ _ ⟨⟨_, rfl⟩, p3.mono (by omega)⟩
    · rintro sl cs2 ⟨⟨u, rfl⟩, p2⟩
      exact q _ _ ⟨_, _, _, rfl⟩
  · rintro sl cs' ⟨a, b, c, rfl⟩
    simp only [wVar, wDNew, wDIx, wDGet, wDPut, wKeys, gSorted, dictT, dictLive, tkey, keyT, wIsi, gEqO, wKw, wCallK, wMethK, pick, wC, wBin, wTst, wUn, wNil, wCons, wArg, gTupD, gLstD, gRootD, wAndT, wOrT, wNotT, wAndV, wOrV, wNotV, wIf, wNext, wSeq, wBreak, wCont, wDrop, wRet, wRetN, wIfS, wgName, wgNil, wgCons, wgTup, wAsg, wPar, wPar3, gDict, wLcR, wTru, wDIn, truD, wLc2, lcW2, lcJ, wMaxDef, wListRg, gIn, flatD, flatL, wFroz, wTupI, wRng1, wRng2, wRng3, wEnum, wZip, wFor, wYes, wLc, wipeD, gI, gI0, gB0, gAdd, gCatR, gMul, gNeg, gEqI, gEqB, gEqS, gIsN, isNonD, wCall, wMeth, wMake, wFldS, fldD, wFld, wProp, g1, g2L, gLen, gAbs, gIntC, gStrI, gMax2, gMin2, gInts, gSum, gMaxL, gMinL, gBls, gListOf, gListOfR, gTupOf, gIx, woNo, woSome, wSl, wRev, wRevF, wBM, wBM0, gAppend, gInsert, gReverse, gExtend, gPopAt, gPop, gSetL, wSub, wAug, gIxL, wAugS, wFz, seqD, lisD, frozL, derefL, liveL, cellL, cellF, startD, List.map_cons, List.map_nil, List.length_cons, List.length_nil, List.replicate, List.cons_append, List.nil_append, List.getElem?_cons_zero, List.getElem?_cons_succ, List.getElem?_nil, List.set_cons_zero, List.set_cons_succ, Nat.reduceSub, Nat.reduceAdd, Nat.reduceLT, Nat.reduceLeDiff, if_true, if_false, Bool.false_eq_true, decide_eq_true_eq, Option.isSome_some, id_eq, and_true, true_and, wDisp1, gCatT, gDEm, wItems, itemT, gLenT, wChain, wSlT, gComb, wIsTup, gGcd, gFactorial, gSortTup, gSortDT, gInP, wSortKey, wSortKeyR, wDNewN, wDIxN, wDGetN, wDPutN, wDispN, wKeysN, dictN, dictNL, gDEq, gIsB]
    exact k _

set_option maxHeartbeats 4000000
def top (i : Nat) : Stmt := PySem.Challenge.pw_nestsums_k07_alike_formulas.main.body.getD i (.Pass ⟨0, 0, 0, 0⟩)
abbrev s_law_pool : Stmt := top 14
theorem sc_law_pool : FnScope ["script", "spot", "cell"] ["script", "spot"] (defScope s_law_pool) := ⟨rfl, rfl, rfl, by decide +kernel, rfl, by decide +kernel, by decide +kernel⟩
abbrev s_law_draw : Stmt := top 15
theorem sc_law_draw : FnScope ["pool", "amount", "drawn", "mixed"] ["pool", "amount"] (defScope s_law_draw) := ⟨rfl, rfl, rfl, by decide +kernel, rfl, by decide +kernel, by decide +kernel⟩
abbrev s_law_letters : Stmt := top 17
theorem sc_law_letters : FnScope ["pool", "longest", "great", "turn"] ["pool", "longest", "great"] (defScope s_law_letters) := ⟨rfl, rfl, rfl, by decide +kernel, rfl, by decide +kernel, by decide +kernel⟩
abbrev s_law_factor : Stmt := top 16
theorem sc_law_factor : FnScope ["pool", "small", "great"] ["pool"] (defScope s_law_factor) := ⟨rfl, rfl, rfl, by decide +kernel, rfl, by decide +kernel, by decide +kernel⟩
abbrev s_law_lot : Stmt := top 18
theorem sc_law_lot : FnScope ["pool", "amount", "longest", "great", "found", "turn", "letters", "share"] ["pool", "amount", "longest", "great"] (defScope s_law_lot) := ⟨rfl, rfl, rfl, by decide +kernel, rfl, by decide +kernel, by decide +kernel⟩
abbrev s_law_mate : Stmt := top 21
theorem sc_law_mate : FnScope ["pool", "lot", "found", "way", "letters", "share"] ["pool", "lot"] (defScope s_law_mate) := ⟨rfl, rfl, rfl, by decide +kernel, rfl, by decide +kernel, by decide +kernel⟩
abbrev s_has_negative : Stmt := top 5
theorem sc_has_negative : FnScope ["word", "letter"] ["word"] (defScope s_has_negative) := ⟨rfl, rfl, rfl, by decide +kernel, rfl, by decide +kernel, by decide +kernel⟩
abbrev s_check_words : Stmt := top 8
theorem sc_check_words : FnScope ["terms", "number", "_", "word"] ["terms"] (defScope s_check_words) := ⟨rfl, rfl, rfl, by decide +kernel, rfl, by decide +kernel, by decide +kernel⟩
abbrev s_copied : Stmt := top 9
theorem sc_copied : FnScope ["terms", "coefficient", "word"] ["terms"] (defScope s_copied) := ⟨rfl, rfl, rfl, by decide +kernel, rfl, by decide +kernel, by decide +kernel⟩
abbrev s_Formula___init : Stmt := inClass (top 7) 0
theorem sc_Formula___init : FnScope ["self", "terms"] ["self", "terms"] (defScope s_Formula___init) := ⟨rfl, rfl, rfl, by decide +kernel, rfl, by decide +kernel, by decide +kernel⟩
abbrev s_law_made : Stmt := top 19
theorem sc_law_made : FnScope ["lot", "share", "letters"] ["lot"] (defScope s_law_made) := ⟨rfl, rfl, rfl, by decide +kernel, rfl, by decide +kernel, by decide +kernel⟩
abbrev s_law_unknowns : Stmt := top 20
theorem sc_law_unknowns : FnScope ["lot", "size", "found", "share", "letters", "ways", "spot", "later", "exponents", "used", "keys", "key"] ["lot", "size"] (defScope s_law_unknowns) := ⟨rfl, rfl, rfl, by decide +kernel, rfl, by decide +kernel, by decide +kernel⟩
abbrev s_Formula_terms : Stmt := inClass (top 7) 1
theorem sc_Formula_terms : FnScope ["self"] ["self"] (defScope s_Formula_terms) := ⟨rfl, rfl, rfl, by decide +kernel, rfl, by decide +kernel, by decide +kernel⟩
abbrev s_plain : Stmt := top 11
theorem sc_plain : FnScope ["formula", "totals", "coefficient", "word", "key", "ordered", "letters", "_"] ["formula"] (defScope s_plain) := ⟨rfl, rfl, rfl, by decide +kernel, rfl, by decide +kernel, by decide +kernel⟩
abbrev s_Formula___eq : Stmt := inClass (top 7) 3
theorem sc_Formula___eq : FnScope ["self", "other"] ["self", "other"] (defScope s_Formula___eq) := ⟨rfl, rfl, rfl, by decide +kernel, rfl, by decide +kernel, by decide +kernel⟩
abbrev s_are_alike : Stmt := top 12
theorem sc_are_alike : FnScope ["formula", "other_formula"] ["formula", "other_formula"] (defScope s_are_alike) := ⟨rfl, rfl, rfl, by decide +kernel, rfl, by decide +kernel, by decide +kernel⟩
abbrev s_law_right : Stmt := top 22
theorem sc_law_right : FnScope ["pool", "lot", "mate", "one", "two", "due", "told", "size"] ["pool"] (defScope s_law_right) := ⟨rfl, rfl, rfl, by decide +kernel, rfl, by decide +kernel, by decide +kernel⟩
abbrev s_law : Stmt := top 23
theorem sc_law : FnScope ["script", "spot", "pool", "turn"] ["script"] (defScope s_law) := ⟨rfl, rfl, rfl, by decide +kernel, rfl, by decide +kernel, by decide +kernel⟩
section
variable {P : Program} {w : World} {K : PySem.W.Frag} {mg : Str → Option Value} {base : Heap} {T : Tb}
theorem ok_law_pool {a_ : Nat → Addr} {f : Addr} {fd : FuncData} (F : Fun K "_law_pool" "_law_pool" s_law_pool f fd) (z_abs : mg "abs" = none) (z_int : mg "int" = none) (z_len : mg "len" = none) (z_max : mg "max" = none) :
    DFn P w K mg base (TBof a_) CX0 1 f fd ["script", "spot"] S_law_pool := by
  refine DFn.ok F sc_law_pool len_law_pool fun cdv A outer s H E hg hr => ⟨m_law_pool, ?_, body_law_pool⟩
  exact (dss_cons (ds_set (i := 2) sc_law_pool.nd de_int)
      (dss_cons (ds_if (dt_cmp op_lt (ok_B0 (f := fun i j => decide (i < j))) (dv 1) (de_callB call_lenD ok_len z_len PySem.boot_len (da_cons (dv 0) da_nil)) (nomark _)) (dss_one (ds_set (i := 2) sc_law_pool.nd (de_ix ix_seqD ok_ix (dv 0) (dv 1)))) dss_nil)
      (dss_one (ds_ret (de_root (da_cons (de_callB (call_maxD rfl) ok_max2 z_max (by decide +kernel) (da_cons de_int (da_cons (de_op op_sub (ok_I0 (f := fun i j => i - j)) (de_callB call_absD ok_abs z_abs (by decide +kernel) (da_cons (dv 2) da_nil)) (de_op op_powI (ok_I (f := fun i j => i ^ j.toNat)) de_int de_int)) da_nil))) (da_cons (de_op op_addD (ok_add) (de_op op_mod (ok_I (f := fun i j => i % j)) (de_callTy call_intD ok_intC z_int (by decide +kernel) (da_cons (dv 2) da_nil)) de_int) (de_op op_mulD (ok_mul) de_int (de_op op_addD (ok_add) (dv 1) de_int))) (da_cons de_int da_nil))))))))
theorem ok_law_draw {a_ : Nat → Addr} {f : Addr} {fd : FuncData} (F : Fun K "_law_draw" "_law_draw" s_law_draw f fd) (z_int : mg "int" = none) :
    DFn P w K mg base (TBof a_) CX0 1 f fd ["pool", "amount"] S_law_draw := by
  refine DFn.ok F sc_law_draw len_law_draw fun cdv A outer s H E hg hr => ⟨m_law_draw, ?_, body_law_draw⟩
  exact (dss_cons (ds_if (dt_cmp op_gt (ok_B0 (f := fun i j => decide (j < i))) (de_ix ix_seqD ok_ix (dv 0) de_int) de_int (nomark _)) (dss_cons (ds_set (i := 2) sc_law_draw.nd (de_op op_mod (ok_I (f := fun i j => i % j)) (de_callTy call_intD ok_intC z_int (by decide +kernel) (da_cons (de_ix ix_seqD ok_ix (dv 0) de_int) da_nil)) (dv 1)))
      (dss_cons (ds_sub set_list ok_setL (dv 0) de_int (de_op op_fdivW (ok_I (f := fun i j => i / j)) (de_ix ix_seqD ok_ix (dv 0) de_int) (dv 1)))
      (dss_one (ds_ret (dv 2))))) dss_nil)
      (dss_cons (ds_sub set_list ok_setL (dv 0) de_int (de_op op_addD (ok_add) (de_ix ix_seqD ok_ix (dv 0) de_int) de_int))
      (dss_cons (ds_set (i := 3) sc_law_draw.nd (de_op op_mod (ok_I (f := fun i j => i % j)) (de_callTy call_intD ok_intC z_int (by decide +kernel) (da_cons (de_op op_powI (ok_I (f := fun i j => i ^ j.toNat)) (de_op op_addD (ok_add) (de_ix ix_seqD ok_ix (dv 0) de_int) (de_op op_mulD (ok_mul) de_int (de_ix ix_seqD ok_ix (dv 0) de_int))) de_int) da_nil)) de_int))
      (dss_cons (ds_set (i := 3) sc_law_draw.nd (de_op op_mod (ok_I (f := fun i j => i % j)) (de_callTy call_intD ok_intC z_int (by decide +kernel) (da_cons (de_op op_powI (ok_I (f := fun i j => i ^ j.toNat)) (de_op op_addD (ok_add) (dv 3) (de_op op_mulD (ok_mul) de_int (de_ix ix_seqD ok_ix (dv 0) de_int))) de_int) da_nil)) de_int))
      (dss_one (ds_ret (de_op op_mod (ok_I (f := fun i j => i % j)) (de_callTy call_intD ok_intC z_int (by decide +kernel) (da_cons (de_op op_fdivW (ok_I (f := fun i j => i / j)) (dv 3) de_int) da_nil)) (dv 1))))))))
theorem ok_law_letters {a_ : Nat → Addr} {f : Addr} {fd : FuncData} (F : Fun K "_law_letters" "_law_letters" s_law_letters f fd) {f_law_draw : Addr} {fd_law_draw : FuncData} (G_law_draw : DFn P w K mg base (TBof a_) CX0 1 f_law_draw fd_law_draw ["pool", "amount"] S_law_draw) (H_law_draw : FnH K mg "_law_draw" f_law_draw fd_law_draw ["pool", "amount"]) (z_range : mg "range" = none) :
    DFn P w K mg base (TBof a_) CX0 2 f fd ["pool", "longest", "great"] S_law_letters := by
  refine DFn.ok F sc_law_letters len_law_letters fun cdv A outer s H E hg hr => ⟨m_law_letters, ?_, body_law_letters⟩
  exact (dss_one (ds_ret (de_lc (own := [("turn", 3)]) rfl sc_law_letters.nd (di_range1 z_range (da_cons (de_call G_law_draw hg (hr.mono (by decide)) H_law_draw.m H_law_draw.kp H_law_draw.b pass0 (da_cons (dv 0) (da_cons (de_op op_addD (ok_add) (dv 1) de_int) da_nil))) da_nil)) (blkOk_by (N := ["pool", "longest", "great", "turn"]) (sc := defScope s_law_letters) (by decide +kernel)) (by decide) (fun _ _ _ _ _ => (dg_name (i := 3) sc_law_letters.nd)) (fun _ _ _ _ _ => dts_nil) (fun _ _ _ _ _ => (de_ix ix_seqD ok_ix (de_lst (da_cons de_int (da_cons de_int (da_cons (de_call G_law_draw hg (hr.mono (by decide)) H_law_draw.m H_law_draw.kp H_law_draw.b pass0 (da_cons (dv 0) (da_cons (de_op op_addD (ok_add) (dv 2) de_int) da_nil))) da_nil)))) (de_call G_law_draw hg (hr.mono (by decide)) H_law_draw.m H_law_draw.kp H_law_draw.b pass0 (da_cons (dv 0) (da_cons de_int da_nil))))))))
theorem ok_law_factor {a_ : Nat → Addr} {f : Addr} {fd : FuncData} (F : Fun K "_law_factor" "_law_factor" s_law_factor f fd) {f_law_draw : Addr} {fd_law_draw : FuncData} (G_law_draw : DFn P w K mg base (TBof a_) CX0 1 f_law_draw fd_law_draw ["pool", "amount"] S_law_draw) (H_law_draw : FnH K mg "_law_draw" f_law_draw fd_law_draw ["pool", "amount"]) :
    DFn P w K mg base (TBof a_) CX0 2 f fd ["pool"] S_law_factor := by
  refine DFn.ok F sc_law_factor len_law_factor fun cdv A outer s H E hg hr => ⟨m_law_factor, ?_, body_law_factor⟩
  exact (dss_cons (ds_par (i := 1) (j := 2) sc_law_factor.nd rfl rfl rfl (ha := (da_cons (de_op op_addD (ok_add) de_int (de_call G_law_draw hg (hr.mono (by decide)) H_law_draw.m H_law_draw.kp H_law_draw.b pass0 (da_cons (dv 0) (da_cons de_int da_nil)))) (da_cons (de_op op_addD (ok_add) de_int (de_call G_law_draw hg (hr.mono (by decide)) H_law_draw.m H_law_draw.kp H_law_draw.b pass0 (da_cons (dv 0) (da_cons de_int da_nil)))) da_nil))))
      (dss_one (ds_ret (de_op op_mulD (ok_mul) (de_ix ix_seqD ok_ix (de_lst (da_cons de_int (da_cons de_int (da_cons (dv 1) (da_cons (dv 2) da_nil))))) (de_call G_law_draw hg (hr.mono (by decide)) H_law_draw.m H_law_draw.kp H_law_draw.b pass0 (da_cons (dv 0) (da_cons de_int da_nil)))) (de_op op_sub (ok_I0 (f := fun i j => i - j)) de_int (de_op op_mulD (ok_mul) de_int (de_call G_law_draw hg (hr.mono (by decide)) H_law_draw.m H_law_draw.kp H_law_draw.b pass0 (da_cons (dv 0) (da_cons de_int da_nil)))))))))
theorem ok_law_lot {a_ : Nat → Addr} {f : Addr} {fd : FuncData} (F : Fun K "_law_lot" "_law_lot" s_law_lot f fd) {f_law_draw : Addr} {fd_law_draw : FuncData} (G_law_draw : DFn P w K mg base (TBof a_) CX0 1 f_law_draw fd_law_draw ["pool", "amount"] S_law_draw) (H_law_draw : FnH K mg "_law_draw" f_law_draw fd_law_draw ["pool", "amount"]) {f_law_letters : Addr} {fd_law_letters : FuncData} (G_law_letters : DFn P w K mg base (TBof a_) CX0 2 f_law_letters fd_law_letters ["pool", "longest", "great"] S_law_letters) (H_law_letters : FnH K mg "_law_letters" f_law_letters fd_law_letters ["pool", "longest", "great"]) {f_law_factor : Addr} {fd_law_factor : FuncData} (G_law_factor : DFn P w K mg base (TBof a_) CX0 2 f_law_factor fd_law_factor ["pool"] S_law_factor) (H_law_factor : FnH K mg "_law_factor" f_law_factor fd_law_factor ["pool"]) (z_list : mg "list" = none) (z_range : mg "range" = none) :
    DFn P w K mg base (TBof a_) CX0 3 f fd ["pool", "amount", "longest", "great"] S_law_lot := by
  refine DFn.ok F sc_law_lot len_law_lot fun cdv A outer s H E hg hr => ⟨m_law_lot, ?_, body_law_lot⟩
  exact (dss_cons (ds_set (i := 4) sc_law_lot.nd (de_root da_nil))
      (dss_cons (ds_for PassesOwn.never rfl (di_range1 z_range (da_cons (de_call G_law_draw hg (hr.mono (by decide)) H_law_draw.m H_law_draw.kp H_law_draw.b pass0 (da_cons (dv 0) (da_cons (de_op op_addD (ok_add) (dv 1) de_int) da_nil))) da_nil)) (dg_name (i := 5) sc_law_lot.nd) (dss_cons (ds_par (i := 6) (j := 7) sc_law_lot.nd rfl rfl rfl (ha := (da_cons (de_call G_law_letters hg (hr.mono (by decide)) H_law_letters.m H_law_letters.kp H_law_letters.b pass0 (da_cons (dv 0) (da_cons (dv 2) (da_cons (dv 3) da_nil)))) (da_cons (de_call G_law_factor hg (hr.mono (by decide)) H_law_factor.m H_law_factor.kp H_law_factor.b pass0 (da_cons (dv 0) da_nil)) da_nil))))
      (dss_cons (ds_if (DW.dt (dw_and (dt_cmp (op_neA hr.units) ok_ne (dv 4) (de_lst da_nil) (nomark _)) (dw_and1 (dt_cmp (op_eqA hr.units) ok_eq (de_call G_law_draw hg (hr.mono (by decide)) H_law_draw.m H_law_draw.kp H_law_draw.b pass0 (da_cons (dv 0) (da_cons de_int da_nil))) de_int (nomark _))))) (dss_one (ds_set (i := 6) sc_law_lot.nd (de_callTy call_listD ok_listOf z_list (by decide +kernel) (da_cons (de_ix ix_seqD ok_ix (de_ix ix_seqD ok_ix (dv 4) de_int) de_int) da_nil)))) dss_nil)
      (dss_cons (ds_if (DW.dt (dw_and (dt_cmp (op_neA hr.units) ok_ne (dv 4) (de_lst da_nil) (nomark _)) (dw_and1 (dt_cmp (op_eqA hr.units) ok_eq (de_call G_law_draw hg (hr.mono (by decide)) H_law_draw.m H_law_draw.kp H_law_draw.b pass0 (da_cons (dv 0) (da_cons de_int da_nil))) de_int (nomark _))))) (dss_one (ds_set (i := 7) sc_law_lot.nd (de_ix ix_seqD ok_ix (de_lst (da_cons de_int (da_cons (de_op op_sub (ok_I0 (f := fun i j => i - j)) de_int (de_ix ix_seqD ok_ix (de_ix ix_seqD ok_ix (dv 4) de_int) de_int)) da_nil))) (de_call G_law_draw hg (hr.mono (by decide)) H_law_draw.m H_law_draw.kp H_law_draw.b pass0 (da_cons (dv 0) (da_cons de_int da_nil)))))) dss_nil)
      (dss_one (ds_expr (de_bm PySem.F.slot_list_append PySem.F.type_list_append mt_append ok_append (dv 4) (da_cons (de_tup (da_cons (dv 7) (da_cons (dv 6) da_nil))) da_nil))))))))
      (dss_one (ds_ret (dvf 4)))))
theorem ok_law_mate {a_ : Nat → Addr} {f : Addr} {fd : FuncData} (F : Fun K "_law_mate" "_law_mate" s_law_mate f fd) {f_law_draw : Addr} {fd_law_draw : FuncData} (G_law_draw : DFn P w K mg base (TBof a_) CX0 1 f_law_draw fd_law_draw ["pool", "amount"] S_law_draw) (H_law_draw : FnH K mg "_law_draw" f_law_draw fd_law_draw ["pool", "amount"]) {f_law_letters : Addr} {fd_law_letters : FuncData} (G_law_letters : DFn P w K mg base (TBof a_) CX0 2 f_law_letters fd_law_letters ["pool", "longest", "great"] S_law_letters) (H_law_letters : FnH K mg "_law_letters" f_law_letters fd_law_letters ["pool", "longest", "great"]) {f_law_factor : Addr} {fd_law_factor : FuncData} (G_law_factor : DFn P w K mg base (TBof a_) CX0 2 f_law_factor fd_law_factor ["pool"] S_law_factor) (H_law_factor : FnH K mg "_law_factor" f_law_factor fd_law_factor ["pool"]) {f_law_lot : Addr} {fd_law_lot : FuncData} (G_law_lot : DFn P w K mg base (TBof a_) CX0 3 f_law_lot fd_law_lot ["pool", "amount", "longest", "great"] S_law_lot) (H_law_lot : FnH K mg "_law_lot" f_law_lot fd_law_lot ["pool", "amount", "longest", "great"]) (z_list : mg "list" = none) :
    DFn P w K mg base (TBof a_) CX0 4 f fd ["pool", "lot"] S_law_mate := by
  refine DFn.ok F sc_law_mate len_law_mate fun cdv A outer s H E hg hr => ⟨m_law_mate, ?_, body_law_mate⟩
  exact (dss_cons (ds_par (i := 2) (j := 3) sc_law_mate.nd rfl rfl rfl (ha := (da_cons (de_rev false (de_callTy call_listD ok_listOf z_list (by decide +kernel) (da_cons (dv 1) da_nil))) (da_cons (de_call G_law_draw hg (hr.mono (by decide)) H_law_draw.m H_law_draw.kp H_law_draw.b pass0 (da_cons (dv 0) (da_cons de_int da_nil))) da_nil))))
      (dss_cons (ds_par (i := 4) (j := 5) sc_law_mate.nd rfl rfl rfl (ha := (da_cons (de_call G_law_letters hg (hr.mono (by decide)) H_law_letters.m H_law_letters.kp H_law_letters.b pass0 (da_cons (dv 0) (da_cons de_int (da_cons de_int da_nil)))) (da_cons (de_call G_law_factor hg (hr.mono (by decide)) H_law_factor.m H_law_factor.kp H_law_factor.b pass0 (da_cons (dv 0) da_nil)) da_nil))))
      (dss_cons (ds_if (dt_cmp (op_eqA hr.units) ok_eq (dv 3) de_int (nomark _)) (dss_one (ds_ret (de_op op_addD (ok_add) (dv 2) (de_lst (da_cons (de_tup (da_cons (dv 5) (da_cons (dv 4) da_nil))) (da_cons (de_tup (da_cons (de_op op_sub (ok_I0 (f := fun i j => i - j)) de_int (dv 5)) (da_cons (dv 4) da_nil))) da_nil)))))) dss_nil)
      (dss_cons (ds_if (dt_cmp (op_eqA hr.units) ok_eq (dv 3) de_int (nomark _)) (dss_one (ds_ret (de_op op_addD (ok_add) (dv 2) (de_lst (da_cons (de_tup (da_cons (dv 5) (da_cons (dv 4) da_nil))) da_nil))))) dss_nil)
      (dss_cons (ds_if (DW.dt (dw_and (dt_cmp (op_eqA hr.units) ok_eq (dv 3) de_int (nomark _)) (dw_and1 (dt_cmp (op_neA hr.units) ok_ne (dv 2) (de_lst da_nil) (nomark _))))) (dss_cons (ds_asg (de_ix ix_seqD ok_ix (dv 2) de_int) (dg_tup rfl (dgs_cons (dg_name (i := 5) sc_law_mate.nd) (dgs_cons (dg_name (i := 4) sc_law_mate.nd) dgs_nil))))
      (dss_one (ds_ret (de_op op_addD (ok_add) (de_slice false (dv 2) (do_some de_int) do_none) (de_lst (da_cons (de_tup (da_cons (dv 5) (da_cons (de_rev false (dv 4)) da_nil))) da_nil)))))) dss_nil)
      (dss_one (ds_ret (de_ifExp (dt_cmp (op_eqA hr.units) ok_eq (dv 3) de_int (nomark _)) (dv 2) (de_call G_law_lot hg (hr.mono (by decide)) H_law_lot.m H_law_lot.kp H_law_lot.b pass0 (da_cons (dv 0) (da_cons de_int (da_cons de_int (da_cons de_int da_nil)))))))))))))
theorem ok_has_negative {a_ : Nat → Addr} {f : Addr} {fd : FuncData} (F : Fun K "has_negative" "has_negative" s_has_negative f fd) (z_any : mg "any" = none) :
    DFn P w K mg base (TBof a_) CX0 1 f fd ["word"] S_has_negative := by
  refine DFn.ok F sc_has_negative len_has_negative fun cdv A outer s H E hg hr => ⟨m_has_negative, ?_, body_has_negative⟩
  exact (dss_one (ds_ret (de_callB (cr_any rfl) ok_any z_any (by decide +kernel) (da_cons (de_lc (own := [("letter", 1)]) rfl sc_has_negative.nd (di_list (dv 0)) (blkOk_by (N := ["word", "letter"]) (sc := defScope s_has_negative) (by decide +kernel)) (by decide) (fun _ _ _ _ _ => (dg_name (i := 1) sc_has_negative.nd)) (fun _ _ _ _ _ => dts_nil) (fun _ _ _ _ _ => (de_cmp op_lt (ok_B0 (f := fun i j => decide (i < j))) (dv 1) de_int (nomark _)))) da_nil))))
theorem ok_check_words {a_ : Nat → Addr} {f : Addr} {fd : FuncData} (F : Fun K "_check_words" "_check_words" s_check_words f fd) {f_has_negative : Addr} {fd_has_negative : FuncData} (G_has_negative : DFn P w K mg base (TBof a_) CX0 1 f_has_negative fd_has_negative ["word"] S_has_negative) (H_has_negative : FnH K mg "has_negative" f_has_negative fd_has_negative ["word"]) (z_enumerate : mg "enumerate" = none) :
    DFn P w K mg base (TBof a_) CX0 2 f fd ["terms"] S_check_words := by
  refine DFn.ok F sc_check_words len_check_words fun cdv A outer s H E hg hr => ⟨m_check_words, ?_, body_check_words⟩
  exact (dss_one (ds_for PassesOwn.never rfl (di_enum z_enumerate (da_cons (dv 0) da_nil)) (dg_tup rfl (dgs_cons (dg_name (i := 1) sc_check_words.nd) (dgs_cons (dg_tup rfl (dgs_cons (dg_name (i := 2) sc_check_words.nd) (dgs_cons (dg_name (i := 3) sc_check_words.nd) dgs_nil))) dgs_nil))) (dss_one (ds_if (dt_val (de_call G_has_negative hg (hr.mono (by decide)) H_has_negative.m H_has_negative.kp H_has_negative.b pass0 (da_cons (dv 3) da_nil))) (dss_one ds_never) dss_nil))))
theorem ok_copied {a_ : Nat → Addr} {f : Addr} {fd : FuncData} (F : Fun K "_copied" "_copied" s_copied f fd) (z_list : mg "list" = none) :
    DFn P w K mg base (TBof a_) CX0 1 f fd ["terms"] S_copied := by
  refine DFn.ok F sc_copied len_copied fun cdv A outer s H E hg hr => ⟨m_copied, ?_, body_copied⟩
  exact (dss_one (ds_ret (de_lc (own := [("coefficient", 1), ("word", 2)]) rfl sc_copied.nd (di_list (dv 0)) (blkOk_by (N := ["terms", "coefficient", "word"]) (sc := defScope s_copied) (by decide +kernel)) (by decide) (fun _ _ _ _ _ => (dg_tup rfl (dgs_cons (dg_name (i := 1) sc_copied.nd) (dgs_cons (dg_name (i := 2) sc_copied.nd) dgs_nil)))) (fun _ _ _ _ _ => dts_nil) (fun _ _ _ _ _ => (de_tup (da_cons (dv 1) (da_cons (de_callTy call_listD ok_listOf z_list (by decide +kernel) (da_cons (dv 2) da_nil)) da_nil)))))))
theorem ok_Formula___init {a_ : Nat → Addr} {f : Addr} {fd : FuncData} (F : Fun K "__init__" "Formula.__init__" s_Formula___init f fd) {f_check_words : Addr} {fd_check_words : FuncData} (G_check_words : DFn P w K mg base (TBof a_) CX0 2 f_check_words fd_check_words ["terms"] S_check_words) (H_check_words : FnH K mg "_check_words" f_check_words fd_check_words ["terms"]) {f_copied : Addr} {fd_copied : FuncData} (G_copied : DFn P w K mg base (TBof a_) CX0 1 f_copied fd_copied ["terms"] S_copied) (H_copied : FnH K mg "_copied" f_copied fd_copied ["terms"]) (c_Formula : Cls K ((TBof a_).cl 0)) (n_Formula__terms : NoAttr K ((TBof a_).cl 0) "_terms") :
    DFn P w K mg base (TBof a_) CX0 3 f fd ["self", "terms"] S_Formula___init := by
  refine DFn.ok F sc_Formula___init len_Formula___init fun cdv A outer s H E hg hr => ⟨m_Formula___init, ?_, body_Formula___init⟩
  exact (dss_cons (ds_expr (de_call G_check_words hg (hr.mono (by decide)) H_check_words.m H_check_words.kp H_check_words.b pass0 (da_cons (dv 1) da_nil)))
      (dss_one (ds_fld c_Formula n_Formula__terms (dv 0) (de_call G_copied hg (hr.mono (by decide)) H_copied.m H_copied.kp H_copied.b pass0 (da_cons (dv 1) da_nil)))))
theorem ok_law_made {a_ : Nat → Addr} {f : Addr} {fd : FuncData} (F : Fun K "_law_made" "_law_made" s_law_made f fd) {f_Formula___init : Addr} {fd_Formula___init : FuncData} (G_Formula___init : DFn P w K mg base (TBof a_) CX0 3 f_Formula___init fd_Formula___init ["self", "terms"] S_Formula___init) (H_Formula___init : FnB K f_Formula___init fd_Formula___init ["self", "terms"]) (z_list : mg "list" = none) (c_Formula : Cls K ((TBof a_).cl 0)) (M_Formula : Mk K ((TBof a_).cl 0) f_Formula___init) (g_Formula : mg "Formula" = some (.ref ((TBof a_).cl 0))) :
    DFn P w K mg base (TBof a_) CX0 5 f fd ["lot"] S_law_made := by
  refine DFn.ok F sc_law_made len_law_made fun cdv A outer s H E hg hr => ⟨m_law_made, ?_, body_law_made⟩
  exact (dss_one (ds_ret (de_make M_Formula G_Formula___init hg (hr.mono (by decide)) g_Formula H_Formula___init.b pass0 (da_cons (de_lc (own := [("share", 1), ("letters", 2)]) rfl sc_law_made.nd (di_list (dv 0)) (blkOk_by (N := ["lot", "share", "letters"]) (sc := defScope s_law_made) (by decide +kernel)) (by decide) (fun _ _ _ _ _ => (dg_tup rfl (dgs_cons (dg_name (i := 1) sc_law_made.nd) (dgs_cons (dg_name (i := 2) sc_law_made.nd) dgs_nil)))) (fun _ _ _ _ _ => dts_nil) (fun _ _ _ _ _ => (de_tup (da_cons (dv 1) (da_cons (de_callTy call_listD ok_listOf z_list (by decide +kernel) (da_cons (dv 2) da_nil)) da_nil))))) da_nil))))
theorem ok_law_unknowns {a_ : Nat → Addr} {f : Addr} {fd : FuncData} (F : Fun K "_law_unknowns" "_law_unknowns" s_law_unknowns f fd) (z_dict : mg "dict" = none) (z_len : mg "len" = none) (z_range : mg "range" = none) :
    DFn P w K mg base (TBof a_) CX0 1 f fd ["lot", "size"] S_law_unknowns := by
  refine DFn.ok F sc_law_unknowns len_law_unknowns fun cdv A outer s H E hg hr => ⟨m_law_unknowns, ?_, body_law_unknowns⟩
  exact (dss_cons (ds_set (i := 2) sc_law_unknowns.nd de_dnew)
      (dss_cons (ds_for PassesOwn.never rfl (di_list (dv 0)) (dg_tup rfl (dgs_cons (dg_name (i := 3) sc_law_unknowns.nd) (dgs_cons (dg_name (i := 4) sc_law_unknowns.nd) dgs_nil))) (dss_cons (ds_set (i := 5) sc_law_unknowns.nd (de_dispN hr.units (de_tup (da_cons (de_tup da_nil) (da_cons de_int da_nil))) (dv 3)))
      (dss_cons (ds_for PassesOwn.never rfl (di_range1 z_range (da_cons (dv 1) da_nil)) (dg_name (i := 6) sc_law_unknowns.nd) (dss_cons (ds_set (i := 7) sc_law_unknowns.nd de_dnewN)
      (dss_cons (ds_for PassesOwn.never rfl (di_keysN (dv 5)) (dg_tup rfl (dgs_cons (dg_name (i := 8) sc_law_unknowns.nd) (dgs_cons (dg_name (i := 9) sc_law_unknowns.nd) dgs_nil))) (dss_cons (ds_set (i := 10) sc_law_unknowns.nd (de_root (da_cons (de_tup (da_cons (de_op op_catA (ok_catT) (dv 8) (de_tup (da_cons de_int da_nil))) (da_cons (dv 9) da_nil))) da_nil)))
      (dss_cons (ds_if (dt_cmp op_lt (ok_B0 (f := fun i j => decide (i < j))) (dv 9) (de_callB call_lenD ok_len z_len PySem.boot_len (da_cons (dv 4) da_nil)) (nomark _)) (dss_one (ds_expr (de_bm PySem.F.slot_list_append PySem.F.type_list_append mt_append ok_append (dv 10) (da_cons (de_tup (da_cons (de_op op_catA (ok_catT) (dv 8) (de_tup (da_cons (de_ix ix_seqD ok_ix (dv 4) (dv 9)) da_nil))) (da_cons (de_op op_addD (ok_add) (dv 9) de_int) da_nil))) da_nil)))) dss_nil)
      (dss_one (ds_for PassesOwn.never rfl (di_list (dvf 10)) (dg_name (i := 11) sc_law_unknowns.nd) (dss_one (ds_dputN hr.units (dv 7) (dv 11) (de_op op_addD (ok_add) (de_dgetN hr.units (dv 7) (dv 11) de_int) (de_dixN hr.units (dv 5) (de_tup (da_cons (dv 8) (da_cons (dv 9) da_nil))))))))))))
      (dss_one (ds_set (i := 5) sc_law_unknowns.nd (dv 7))))))
      (dss_one (ds_for PassesOwn.never rfl (di_keysN (dv 5)) (dg_tup rfl (dgs_cons (dg_name (i := 8) sc_law_unknowns.nd) (dgs_cons (dg_name (i := 9) sc_law_unknowns.nd) dgs_nil))) (dss_one (ds_if (dt_cmp (op_eqA hr.units) ok_eq (dv 9) (de_callB call_lenD ok_len z_len PySem.boot_len (da_cons (dv 4) da_nil)) (nomark _)) (dss_one (ds_dput (hu_of hr) (dv 2) (dv 8) (de_op op_addD (ok_add) (de_dget2 (hu_of hr) (dv 2) (dv 8) de_int) (de_dixN hr.units (dv 5) (de_tup (da_cons (dv 8) (da_cons (dv 9) da_nil))))))) dss_nil)))))))
      (dss_one (ds_ret (de_callTy (call_dictT rfl hr.units) ok_dict z_dict (by decide +kernel) (da_cons (de_lc (own := [("key", 11)]) rfl sc_law_unknowns.nd (di_keys (dv 2)) (blkOk_by (N := ["lot", "size", "found", "share", "letters", "ways", "spot", "later", "exponents", "used", "keys", "key"]) (sc := defScope s_law_unknowns) (by decide +kernel)) (by decide) (fun _ _ _ _ _ => (dg_name (i := 11) sc_law_unknowns.nd)) (fun _ _ _ _ _ => (dts_one (dt_cmp (op_neA hr.units) ok_ne (de_dix (hu_of hr) (dv 2) (dv 11)) de_int (nomark _)))) (fun _ _ _ _ _ => (de_tup (da_cons (dv 11) (da_cons (de_dix (hu_of hr) (dv 2) (dv 11)) da_nil))))) da_nil))))))
theorem ok_Formula_terms {a_ : Nat → Addr} {f : Addr} {fd : FuncData} (F : Fun K "terms" "Formula.terms" s_Formula_terms f fd) {f_copied : Addr} {fd_copied : FuncData} (G_copied : DFn P w K mg base (TBof a_) CX0 1 f_copied fd_copied ["terms"] S_copied) (H_copied : FnH K mg "_copied" f_copied fd_copied ["terms"]) (c_Formula : Cls K ((TBof a_).cl 0)) (n_Formula__terms : NoAttr K ((TBof a_).cl 0) "_terms") :
    DFn P w K mg base (TBof a_) CX0 2 f fd ["self"] S_Formula_terms := by
  refine DFn.ok F sc_Formula_terms len_Formula_terms fun cdv A outer s H E hg hr => ⟨m_Formula_terms, ?_, body_Formula_terms⟩
  exact (dss_one (ds_ret (de_call G_copied hg (hr.mono (by decide)) H_copied.m H_copied.kp H_copied.b pass0 (da_cons (de_fld c_Formula n_Formula__terms (dv 0)) da_nil))))
theorem ok_plain {a_ : Nat → Addr} {f : Addr} {fd : FuncData} (F : Fun K "plain" "plain" s_plain f fd) {f_Formula_terms : Addr} {fd_Formula_terms : FuncData} (G_Formula_terms : DFn P w K mg base (TBof a_) CX0 2 f_Formula_terms fd_Formula_terms ["self"] S_Formula_terms) (H_Formula_terms : FnB K f_Formula_terms fd_Formula_terms ["self"]) {f_Formula___init : Addr} {fd_Formula___init : FuncData} (G_Formula___init : DFn P w K mg base (TBof a_) CX0 3 f_Formula___init fd_Formula___init ["self", "terms"] S_Formula___init) (H_Formula___init : FnB K f_Formula___init fd_Formula___init ["self", "terms"]) (z_len : mg "len" = none) (z_list : mg "list" = none) (z_sorted : mg "sorted" = none) (z_tuple : mg "tuple" = none) (c_Formula : Cls K ((TBof a_).cl 0)) {p_Formula_terms_ : Addr} (p_Formula_terms : PropOf K ((TBof a_).cl 0) "terms" p_Formula_terms_ f_Formula_terms) (M_Formula : Mk K ((TBof a_).cl 0) f_Formula___init) (g_Formula : mg "Formula" = some (.ref ((TBof a_).cl 0))) :
    DFn P w K mg base (TBof a_) CX0 5 f fd ["formula"] S_plain := by
  refine DFn.ok F sc_plain len_plain fun cdv A outer s H E hg hr => ⟨m_plain, ?_, body_plain⟩
  exact (dss_cons (ds_set (i := 1) sc_plain.nd de_dnew)
      (dss_cons (ds_for PassesOwn.never rfl (di_list (de_prop G_Formula_terms hg (hr.mono (by decide)) c_Formula p_Formula_terms H_Formula_terms.b (dv 0))) (dg_tup rfl (dgs_cons (dg_name (i := 2) sc_plain.nd) (dgs_cons (dg_name (i := 3) sc_plain.nd) dgs_nil))) (dss_cons (ds_set (i := 4) sc_plain.nd (de_callTy call_tupleD ok_tupOf z_tuple (by decide +kernel) (da_cons (dv 3) da_nil)))
      (dss_one (ds_dput (hu_of hr) (dv 1) (dv 4) (de_op op_addD (ok_add) (de_dget2 (hu_of hr) (dv 1) (dv 4) de_int) (dv 2))))))
      (dss_cons (ds_set (i := 5) sc_plain.nd (de_callB (cr_sortedD hr.units) ok_sortedD z_sorted (by decide +kernel) (da_cons (de_lc (own := [("letters", 6)]) rfl sc_plain.nd (di_keys (dv 1)) (blkOk_by (N := ["formula", "totals", "coefficient", "word", "key", "ordered", "letters", "_"]) (sc := defScope s_plain) (by decide +kernel)) (by decide) (fun _ _ _ _ _ => (dg_name (i := 6) sc_plain.nd)) (fun _ _ _ _ _ => (dts_one (dt_cmp (op_neA hr.units) ok_ne (de_dix (hu_of hr) (dv 1) (dv 6)) de_int (nomark _)))) (fun _ _ _ _ _ => (de_tup (da_cons (de_callB call_lenD ok_len z_len PySem.boot_len (da_cons (dv 6) da_nil)) (da_cons (dv 6) da_nil))))) da_nil)))
      (dss_one (ds_ret (de_make M_Formula G_Formula___init hg (hr.mono (by decide)) g_Formula H_Formula___init.b pass0 (da_cons (de_lc (own := [("_", 7), ("letters", 6)]) rfl sc_plain.nd (di_list (dv 5)) (blkOk_by (N := ["formula", "totals", "coefficient", "word", "key", "ordered", "letters", "_"]) (sc := defScope s_plain) (by decide +kernel)) (by decide) (fun _ _ _ _ _ => (dg_tup rfl (dgs_cons (dg_name (i := 7) sc_plain.nd) (dgs_cons (dg_name (i := 6) sc_plain.nd) dgs_nil)))) (fun _ _ _ _ _ => dts_nil) (fun _ _ _ _ _ => (de_tup (da_cons (de_dix (hu_of hr) (dv 1) (dv 6)) (da_cons (de_callTy call_listD ok_listOf z_list (by decide +kernel) (da_cons (dv 6) da_nil)) da_nil))))) da_nil)))))))
theorem ok_Formula___eq {a_ : Nat → Addr} {f : Addr} {fd : FuncData} (F : Fun K "__eq__" "Formula.__eq__" s_Formula___eq f fd) (z_isinstance : mg "isinstance" = none) (c_Formula : Cls K ((TBof a_).cl 0)) (n_Formula__terms : NoAttr K ((TBof a_).cl 0) "_terms") (ic_Formula : C8.InsC K ((TBof a_).cl 0)) (gc_Formula : mg "Formula" = some (.ref ((TBof a_).cl 0))) :
    DFn P w K mg base (TBof a_) CX0 1 f fd ["self", "other"] S_Formula___eq := by
  refine DFn.ok F sc_Formula___eq len_Formula___eq fun cdv A outer s H E hg hr => ⟨m_Formula___eq, ?_, body_Formula___eq⟩
  exact (dss_one (ds_ret (de_and (de_isi ic_Formula z_isinstance gc_Formula (dv 1)) (de_one (de_cmp (op_eqA hr.units) ok_eq (de_fld c_Formula n_Formula__terms (dv 0)) (de_fld c_Formula n_Formula__terms (dv 1)) (nomark _))))))
theorem ok_are_alike {a_ : Nat → Addr} {f : Addr} {fd : FuncData} (F : Fun K "are_alike" "are_alike" s_are_alike f fd) {f_plain : Addr} {fd_plain : FuncData} (G_plain : DFn P w K mg base (TBof a_) CX0 5 f_plain fd_plain ["formula"] S_plain) (H_plain : FnH K mg "plain" f_plain fd_plain ["formula"]) {f_Formula___eq : Addr} {fd_Formula___eq : FuncData} (G_Formula___eq : DFn P w K mg base (TBof a_) CX0 1 f_Formula___eq fd_Formula___eq ["self", "other"] S_Formula___eq) (H_Formula___eq : FnB K f_Formula___eq fd_Formula___eq ["self", "other"]) (c_Formula : Cls K ((TBof a_).cl 0)) (h_Formula___eq__ : Meth K ((TBof a_).cl 0) "__eq__" f_Formula___eq) :
    DFn P w K mg base (TBof a_) CX0 6 f fd ["formula", "other_formula"] S_are_alike := by
  refine DFn.ok F sc_are_alike len_are_alike fun cdv A outer s H E hg hr => ⟨m_are_alike, ?_, body_are_alike⟩
  exact (dss_one (ds_ret (de_cmp (op_eqO hg (hr.mono (by decide)) G_Formula___eq H_Formula___eq h_Formula___eq__) ok_eqO (de_call G_plain hg (hr.mono (by decide)) H_plain.m H_plain.kp H_plain.b pass0 (da_cons (dv 0) da_nil)) (de_call G_plain hg (hr.mono (by decide)) H_plain.m H_plain.kp H_plain.b pass0 (da_cons (dv 1) da_nil)) (nomark _))))
theorem ok_law_right {a_ : Nat → Addr} {f : Addr} {fd : FuncData} (F : Fun K "_law_right" "_law_right" s_law_right f fd) {f_law_lot : Addr} {fd_law_lot : FuncData} (G_law_lot : DFn P w K mg base (TBof a_) CX0 3 f_law_lot fd_law_lot ["pool", "amount", "longest", "great"] S_law_lot) (H_law_lot : FnH K mg "_law_lot" f_law_lot fd_law_lot ["pool", "amount", "longest", "great"]) {f_law_mate : Addr} {fd_law_mate : FuncData} (G_law_mate : DFn P w K mg base (TBof a_) CX0 4 f_law_mate fd_law_mate ["pool", "lot"] S_law_mate) (H_law_mate : FnH K mg "_law_mate" f_law_mate fd_law_mate ["pool", "lot"]) {f_law_made : Addr} {fd_law_made : FuncData} (G_law_made : DFn P w K mg base (TBof a_) CX0 5 f_law_made fd_law_made ["lot"] S_law_made) (H_law_made : FnH K mg "_law_made" f_law_made fd_law_made ["lot"]) {f_law_unknowns : Addr} {fd_law_unknowns : FuncData} (G_law_unknowns : DFn P w K mg base (TBof a_) CX0 1 f_law_unknowns fd_law_unknowns ["lot", "size"] S_law_unknowns) (H_law_unknowns : FnH K mg "_law_unknowns" f_law_unknowns fd_law_unknowns ["lot", "size"]) {f_are_alike : Addr} {fd_are_alike : FuncData} (G_are_alike : DFn P w K mg base (TBof a_) CX0 6 f_are_alike fd_are_alike ["formula", "other_formula"] S_are_alike) (H_are_alike : FnH K mg "are_alike" f_are_alike fd_are_alike ["formula", "other_formula"]) {f_plain : Addr} {fd_plain : FuncData} (G_plain : DFn P w K mg base (TBof a_) CX0 5 f_plain fd_plain ["formula"] S_plain) (H_plain : FnH K mg "plain" f_plain fd_plain ["formula"]) {f_Formula___eq : Addr} {fd_Formula___eq : FuncData} (G_Formula___eq : DFn P w K mg base (TBof a_) CX0 1 f_Formula___eq fd_Formula___eq ["self", "other"] S_Formula___eq) (H_Formula___eq : FnB K f_Formula___eq fd_Formula___eq ["self", "other"]) (z_range : mg "range" = none) (z_repr : mg "repr" = none) (c_Formula : Cls K ((TBof a_).cl 0)) (h_Formula___eq__ : Meth K ((TBof a_).cl 0) "__eq__" f_Formula___eq) (kb_are_alike_0_other_formula_formula : KB K fd_are_alike ["formula", "other_formula"] ["other_formula", "formula"] 0 0 [1, 0]) :
    DFn P w K mg base (TBof a_) CX0 7 f fd ["pool"] S_law_right := by
  refine DFn.ok F sc_law_right len_law_right fun cdv A outer s H E hg hr => ⟨m_law_right, ?_, body_law_right⟩
  exact (dss_cons (ds_set (i := 1) sc_law_right.nd (de_call G_law_lot hg (hr.mono (by decide)) H_law_lot.m H_law_lot.kp H_law_lot.b pass0 (da_cons (dv 0) (da_cons de_int (da_cons de_int (da_cons de_int da_nil))))))
      (dss_cons (ds_set (i := 2) sc_law_right.nd (de_call G_law_mate hg (hr.mono (by decide)) H_law_mate.m H_law_mate.kp H_law_mate.b pass0 (da_cons (dv 0) (da_cons (dv 1) da_nil))))
      (dss_cons (ds_par (i := 3) (j := 4) sc_law_right.nd rfl rfl rfl (ha := (da_cons (de_call G_law_made hg (hr.mono (by decide)) H_law_made.m H_law_made.kp H_law_made.b pass0 (da_cons (dv 1) da_nil)) (da_cons (de_call G_law_made hg (hr.mono (by decide)) H_law_made.m H_law_made.kp H_law_made.b pass0 (da_cons (dv 2) da_nil)) da_nil))))
      (dss_cons (ds_set (i := 5) sc_law_right.nd (de_cmp (op_eqA hr.units) ok_eq (de_lc (own := [("size", 7)]) rfl sc_law_right.nd (di_range1 z_range (da_cons de_int da_nil)) (blkOk_by (N := ["pool", "lot", "mate", "one", "two", "due", "told", "size"]) (sc := defScope s_law_right) (by decide +kernel)) (by decide) (fun _ _ _ _ _ => (dg_name (i := 7) sc_law_right.nd)) (fun _ _ _ _ _ => (dts_one (dt_cmp (op_neDT (hu_of hr)) ok_deq (de_call G_law_unknowns hg (hr.mono (by decide)) H_law_unknowns.m H_law_unknowns.kp H_law_unknowns.b pass0 (da_cons (dv 1) (da_cons (dv 7) da_nil))) (de_call G_law_unknowns hg (hr.mono (by decide)) H_law_unknowns.m H_law_unknowns.kp H_law_unknowns.b pass0 (da_cons (dv 2) (da_cons (dv 7) da_nil))) (nomark _)))) (fun _ _ _ _ _ => (dv 7))) (de_lst da_nil) (nomark _)))
      (dss_cons (ds_set (i := 6) sc_law_right.nd (de_lst (da_cons (de_call G_are_alike hg (hr.mono (by decide)) H_are_alike.m H_are_alike.kp H_are_alike.b pass0 (da_cons (dv 3) (da_cons (dv 4) da_nil))) (da_cons (de_callK G_are_alike hg (hr.mono (by decide)) H_are_alike.m H_are_alike.kp kb_are_alike_0_other_formula_formula pass0 dq_nil (dk_cons (dv 3) (dk_cons (dv 4) dk_nil))) (da_cons (de_cmp (op_eqO hg (hr.mono (by decide)) G_Formula___eq H_Formula___eq h_Formula___eq__) ok_eqO (de_call G_plain hg (hr.mono (by decide)) H_plain.m H_plain.kp H_plain.b pass0 (da_cons (dv 3) da_nil)) (de_call G_plain hg (hr.mono (by decide)) H_plain.m H_plain.kp H_plain.b pass0 (da_cons (dv 4) da_nil)) (nomark _)) da_nil)))))
      (dss_one (ds_ret (de_and (de_cmp (op_eqA hr.units) ok_eq (de_callB (call_reprD hg hr.units) ok_repr z_repr (by decide +kernel) (da_cons (dv 6) da_nil)) (de_callB (call_reprD hg hr.units) ok_repr z_repr (by decide +kernel) (da_cons (de_lst (da_cons (dv 5) (da_cons (dv 5) (da_cons (dv 5) da_nil)))) da_nil)) (nomark _)) (de_one (de_cmp op_isBl ok_isB (de_call G_are_alike hg (hr.mono (by decide)) H_are_alike.m H_are_alike.kp H_are_alike.b pass0 (da_cons (dv 3) (da_cons (dv 3) da_nil))) de_bl (nomark _)))))))))))
theorem ok_law {a_ : Nat → Addr} {f : Addr} {fd : FuncData} (F : Fun K "law" "law" s_law f fd) {f_law_pool : Addr} {fd_law_pool : FuncData} (G_law_pool : DFn P w K mg base (TBof a_) CX0 1 f_law_pool fd_law_pool ["script", "spot"] S_law_pool) (H_law_pool : FnH K mg "_law_pool" f_law_pool fd_law_pool ["script", "spot"]) {f_law_right : Addr} {fd_law_right : FuncData} (G_law_right : DFn P w K mg base (TBof a_) CX0 7 f_law_right fd_law_right ["pool"] S_law_right) (H_law_right : FnH K mg "_law_right" f_law_right fd_law_right ["pool"]) (z_len : mg "len" = none) (z_max : mg "max" = none) (z_min : mg "min" = none) (z_range : mg "range" = none) :
    DFn P w K mg base (TBof a_) CX0 8 f fd ["script"] S_law := by
  refine DFn.ok F sc_law len_law fun cdv A outer s H E hg hr => ⟨m_law, ?_, body_law⟩
  exact (dss_cons (ds_for PassesOwn.never rfl (di_range1 z_range (da_cons (de_callB (call_maxD rfl) ok_max2 z_max (by decide +kernel) (da_cons de_int (da_cons (de_callB (call_minD rfl) ok_min2 z_min (by decide +kernel) (da_cons de_int (da_cons (de_callB call_lenD ok_len z_len PySem.boot_len (da_cons (dv 0) da_nil)) da_nil))) da_nil))) da_nil)) (dg_name (i := 1) sc_law.nd) (dss_cons (ds_set (i := 2) sc_law.nd (de_call G_law_pool hg (hr.mono (by decide)) H_law_pool.m H_law_pool.kp H_law_pool.b pass0 (da_cons (dv 0) (da_cons (dv 1) da_nil))))
      (dss_one (ds_for PassesOwn.never rfl (di_range1 z_range (da_cons de_int da_nil)) (dg_name (i := 3) sc_law.nd) (dss_one (ds_if (dt_not (dt_val (de_call G_law_right hg (hr.mono (by decide)) H_law_right.m H_law_right.kp H_law_right.b pass0 (da_cons (dv 2) da_nil)))) (dss_one (ds_ret de_bl)) dss_nil))))))
      (dss_one (ds_ret de_bl)))
end
theorem all_mk {l : PySem.W.OpenLaw} {w : World} {K : PySem.W.Frag} {h : Heap} {mg : Str → Option Value} {fa : Addr} (X : K.In h) (G : h.Ns mainGlobals mg) (hfa : mg "law" = some (.ref fa))
    {C_Formula : Addr} {p_Formula_terms : Addr} {rest_Formula_terms : List Value} {f_law_pool : Addr} {od_law_pool an_law_pool : Option Addr} {sl_law_pool : Array (Option Value)} {oc_law_pool kV_law_pool dc_law_pool pm_law_pool cd_law_pool ct_law_pool : Value} {f_law_draw : Addr} {od_law_draw an_law_draw : Option Addr} {sl_law_draw : Array (Option Value)} {oc_law_draw kV_law_draw dc_law_draw pm_law_draw cd_law_draw ct_law_draw : Value} {f_law_letters : Addr} {od_law_letters an_law_letters : Option Addr} {sl_law_letters : Array (Option Value)} {oc_law_letters kV_law_letters dc_law_letters pm_law_letters cd_law_letters ct_law_letters : Value} {f_law_factor : Addr} {od_law_factor an_law_factor : Option Addr} {sl_law_factor : Array (Option Value)} {oc_law_factor kV_law_factor dc_law_factor pm_law_factor cd_law_factor ct_law_factor : Value} {f_law_lot : Addr} {od_law_lot an_law_lot : Option Addr} {sl_law_lot : Array (Option Value)} {oc_law_lot kV_law_lot dc_law_lot pm_law_lot cd_law_lot ct_law_lot : Value} {f_law_mate : Addr} {od_law_mate an_law_mate : Option Addr} {sl_law_mate : Array (Option Value)} {oc_law_mate kV_law_mate dc_law_mate pm_law_mate cd_law_mate ct_law_mate : Value} {f_has_negative : Addr} {od_has_negative an_has_negative : Option Addr} {sl_has_negative : Array (Option Value)} {oc_has_negative kV_has_negative dc_has_negative pm_has_negative cd_has_negative ct_has_negative : Value} {f_check_words : Addr} {od_check_words an_check_words : Option Addr} {sl_check_words : Array (Option Value)} {oc_check_words kV_check_words dc_check_words pm_check_words cd_check_words ct_check_words : Value} {f_copied : Addr} {od_copied an_copied : Option Addr} {sl_copied : Array (Option Value)} {oc_copied kV_copied dc_copied pm_copied cd_copied ct_copied : Value} {f_Formula___init : Addr} {od_Formula___init an_Formula___init : Option Addr} {sl_Formula___init : Array (Option Value)} {oc_Formula___init kV_Formula___init dc_Formula___init pm_Formula___init cd_Formula___init ct_Formula___init : Value} {f_law_made : Addr} {od_law_made an_law_made : Option Addr} {sl_law_made : Array (Option Value)} {oc_law_made kV_law_made dc_law_made pm_law_made cd_law_made ct_law_made : Value} {f_law_unknowns : Addr} {od_law_unknowns an_law_unknowns : Option Addr} {sl_law_unknowns : Array (Option Value)} {oc_law_unknowns kV_law_unknowns dc_law_unknowns pm_law_unknowns cd_law_unknowns ct_law_unknowns : Value} {f_Formula_terms : Addr} {od_Formula_terms an_Formula_terms : Option Addr} {sl_Formula_terms : Array (Option Value)} {oc_Formula_terms kV_Formula_terms dc_Formula_terms pm_Formula_terms cd_Formula_terms ct_Formula_terms : Value} {f_plain : Addr} {od_plain an_plain : Option Addr} {sl_plain : Array (Option Value)} {oc_plain kV_plain dc_plain pm_plain cd_plain ct_plain : Value} {f_Formula___eq : Addr} {od_Formula___eq an_Formula___eq : Option Addr} {sl_Formula___eq : Array (Option Value)} {oc_Formula___eq kV_Formula___eq dc_Formula___eq pm_Formula___eq cd_Formula___eq ct_Formula___eq : Value} {f_are_alike : Addr} {od_are_alike an_are_alike : Option Addr} {sl_are_alike : Array (Option Value)} {oc_are_alike kV_are_alike dc_are_alike pm_are_alike cd_are_alike ct_are_alike : Value} {f_law_right : Addr} {od_law_right an_law_right : Option Addr} {sl_law_right : Array (Option Value)} {oc_law_right kV_law_right dc_law_right pm_law_right cd_law_right ct_law_right : Value} {f_law : Addr} {od_law an_law : Option Addr} {sl_law : Array (Option Value)} {oc_law kV_law dc_law pm_law cd_law ct_law : Value}
    (aC_Formula : PySem.W.nsIn K mainGlobals "Formula" = some (some (.ref C_Formula)))
    (a_law_pool : PySem.W.nsIn K mainGlobals "_law_pool" = some (some (.ref f_law_pool)))
    (l_law_pool : K.lookup f_law_pool = some ⟨oc_law_pool, od_law_pool, .func (PySem.W.fnOf "_law_pool" "_law_pool" (defArgs s_law_pool) (defBody s_law_pool) (defScope s_law_pool) .none kV_law_pool dc_law_pool pm_law_pool an_law_pool cd_law_pool ct_law_pool), sl_law_pool⟩)
    (c_law_pool : PySem.W.codeIn K cd_law_pool "_law_pool" = true)
    (k_law_pool : PySem.W.keepIn K (.ref f_law_pool) = true)
    (a_law_draw : PySem.W.nsIn K mainGlobals "_law_draw" = some (some (.ref f_law_draw)))
    (l_law_draw : K.lookup f_law_draw = some ⟨oc_law_draw, od_law_draw, .func (PySem.W.fnOf "_law_draw" "_law_draw" (defArgs s_law_draw) (defBody s_law_draw) (defScope s_law_draw) .none kV_law_draw dc_law_draw pm_law_draw an_law_draw cd_law_draw ct_law_draw), sl_law_draw⟩)
    (c_law_draw : PySem.W.codeIn K cd_law_draw "_law_draw" = true)
    (k_law_draw : PySem.W.keepIn K (.ref f_law_draw) = true)
    (a_law_letters : PySem.W.nsIn K mainGlobals "_law_letters" = some (some (.ref f_law_letters)))
    (l_law_letters : K.lookup f_law_letters = some ⟨oc_law_letters, od_law_letters, .func (PySem.W.fnOf "_law_letters" "_law_letters" (defArgs s_law_letters) (defBody s_law_letters) (defScope s_law_letters) .none kV_law_letters dc_law_letters pm_law_letters an_law_letters cd_law_letters ct_law_letters), sl_law_letters⟩)
    (c_law_letters : PySem.W.codeIn K cd_law_letters "_law_letters" = true)
    (k_law_letters : PySem.W.keepIn K (.ref f_law_letters) = true)
    (a_law_factor : PySem.W.nsIn K mainGlobals "_law_factor" = some (some (.ref f_law_factor)))
    (l_law_factor : K.lookup f_law_factor = some ⟨oc_law_factor, od_law_factor, .func (PySem.W.fnOf "_law_factor" "_law_factor" (defArgs s_law_factor) (defBody s_law_factor) (defScope s_law_factor) .none kV_law_factor dc_law_factor pm_law_factor an_law_factor cd_law_factor ct_law_factor), sl_law_factor⟩)
    (c_law_factor : PySem.W.codeIn K cd_law_factor "_law_factor" = true)
    (k_law_factor : PySem.W.keepIn K (.ref f_law_factor) = true)
    (a_law_lot : PySem.W.nsIn K mainGlobals "_law_lot" = some (some (.ref f_law_lot)))
    (l_law_lot : K.lookup f_law_lot = some ⟨oc_law_lot, od_law_lot, .func (PySem.W.fnOf "_law_lot" "_law_lot" (defArgs s_law_lot) (defBody s_law_lot) (defScope s_law_lot) .none kV_law_lot dc_law_lot pm_law_lot an_law_lot cd_law_lot ct_law_lot), sl_law_lot⟩)
    (c_law_lot : PySem.W.codeIn K cd_law_lot "_law_lot" = true)
    (k_law_lot : PySem.W.keepIn K (.ref f_law_lot) = true)
    (a_law_mate : PySem.W.nsIn K mainGlobals "_law_mate" = some (some (.ref f_law_mate)))
    (l_law_mate : K.lookup f_law_mate = some ⟨oc_law_mate, od_law_mate, .func (PySem.W.fnOf "_law_mate" "_law_mate" (defArgs s_law_mate) (defBody s_law_mate) (defScope s_law_mate) .none kV_law_mate dc_law_mate pm_law_mate an_law_mate cd_law_mate ct_law_mate), sl_law_mate⟩)
    (c_law_mate : PySem.W.codeIn K cd_law_mate "_law_mate" = true)
    (k_law_mate : PySem.W.keepIn K (.ref f_law_mate) = true)
    (a_has_negative : PySem.W.nsIn K mainGlobals "has_negative" = some (some (.ref f_has_negative)))
    (l_has_negative : K.lookup f_has_negative = some ⟨oc_has_negative, od_has_negative, .func (PySem.W.fnOf "has_negative" "has_negative" (defArgs s_has_negative) (defBody s_has_negative) (defScope s_has_negative) .none kV_has_negative dc_has_negative pm_has_negative an_has_negative cd_has_negative ct_has_negative), sl_has_negative⟩)
    (c_has_negative : PySem.W.codeIn K cd_has_negative "has_negative" = true)
    (k_has_negative : PySem.W.keepIn K (.ref f_has_negative) = true)
    (a_check_words : PySem.W.nsIn K mainGlobals "_check_words" = some (some (.ref f_check_words)))
    (l_check_words : K.lookup f_check_words = some ⟨oc_check_words, od_check_words, .func (PySem.W.fnOf "_check_words" "_check_words" (defArgs s_check_words) (defBody s_check_words) (defScope s_check_words) .none kV_check_words dc_check_words pm_check_words an_check_words cd_check_words ct_check_words), sl_check_words⟩)
    (c_check_words : PySem.W.codeIn K cd_check_words "_check_words" = true)
    (k_check_words : PySem.W.keepIn K (.ref f_check_words) = true)
    (a_copied : PySem.W.nsIn K mainGlobals "_copied" = some (some (.ref f_copied)))
    (l_copied : K.lookup f_copied = some ⟨oc_copied, od_copied, .func (PySem.W.fnOf "_copied" "_copied" (defArgs s_copied) (defBody s_copied) (defScope s_copied) .none kV_copied dc_copied pm_copied an_copied cd_copied ct_copied), sl_copied⟩)
    (c_copied : PySem.W.codeIn K cd_copied "_copied" = true)
    (k_copied : PySem.W.keepIn K (.ref f_copied) = true)
    (a_Formula___init : PySem.W.findIn K (.ref C_Formula) "__init__" = some (some (.ref f_Formula___init)))
    (i_Formula___init : PySem.W.isFn K (.ref f_Formula___init) = true)
    (l_Formula___init : K.lookup f_Formula___init = some ⟨oc_Formula___init, od_Formula___init, .func (PySem.W.fnOf "__init__" "Formula.__init__" (defArgs s_Formula___init) (defBody s_Formula___init) (defScope s_Formula___init) .none kV_Formula___init dc_Formula___init pm_Formula___init an_Formula___init cd_Formula___init ct_Formula___init), sl_Formula___init⟩)
    (c_Formula___init : PySem.W.codeIn K cd_Formula___init "Formula.__init__" = true)
    (k_Formula___init : PySem.W.keepIn K (.ref f_Formula___init) = true)
    (a_law_made : PySem.W.nsIn K mainGlobals "_law_made" = some (some (.ref f_law_made)))
    (l_law_made : K.lookup f_law_made = some ⟨oc_law_made, od_law_made, .func (PySem.W.fnOf "_law_made" "_law_made" (defArgs s_law_made) (defBody s_law_made) (defScope s_law_made) .none kV_law_made dc_law_made pm_law_made an_law_made cd_law_made ct_law_made), sl_law_made⟩)
    (c_law_made : PySem.W.codeIn K cd_law_made "_law_made" = true)
    (k_law_made : PySem.W.keepIn K (.ref f_law_made) = true)
    (a_law_unknowns : PySem.W.nsIn K mainGlobals "_law_unknowns" = some (some (.ref f_law_unknowns)))
    (l_law_unknowns : K.lookup f_law_unknowns = some ⟨oc_law_unknowns, od_law_unknowns, .func (PySem.W.fnOf "_law_unknowns" "_law_unknowns" (defArgs s_law_unknowns) (defBody s_law_unknowns) (defScope s_law_unknowns) .none kV_law_unknowns dc_law_unknowns pm_law_unknowns an_law_unknowns cd_law_unknowns ct_law_unknowns), sl_law_unknowns⟩)
    (c_law_unknowns : PySem.W.codeIn K cd_law_unknowns "_law_unknowns" = true)
    (k_law_unknowns : PySem.W.keepIn K (.ref f_law_unknowns) = true)
    (a_Formula_terms : PySem.W.findIn K (.ref C_Formula) "terms" = some (some (.ref p_Formula_terms)))
    (pg_Formula_terms : PySem.W.specialIn K (.ref p_Formula_terms) "__get__" = some (some (.builtin "property.__get__")))
    (pt_Formula_terms : PySem.W.takesIn K (.ref p_Formula_terms) = some true)
    (pr_Formula_terms : PySem.W.recIn K p_Formula_terms "property" = some (.ref f_Formula_terms :: rest_Formula_terms))
    (l_Formula_terms : K.lookup f_Formula_terms = some ⟨oc_Formula_terms, od_Formula_terms, .func (PySem.W.fnOf "terms" "Formula.terms" (defArgs s_Formula_terms) (defBody s_Formula_terms) (defScope s_Formula_terms) .none kV_Formula_terms dc_Formula_terms pm_Formula_terms an_Formula_terms cd_Formula_terms ct_Formula_terms), sl_Formula_terms⟩)
    (c_Formula_terms : PySem.W.codeIn K cd_Formula_terms "Formula.terms" = true)
    (k_Formula_terms : PySem.W.keepIn K (.ref f_Formula_terms) = true)
    (a_plain : PySem.W.nsIn K mainGlobals "plain" = some (some (.ref f_plain)))
    (l_plain : K.lookup f_plain = some ⟨oc_plain, od_plain, .func (PySem.W.fnOf "plain" "plain" (defArgs s_plain) (defBody s_plain) (defScope s_plain) .none kV_plain dc_plain pm_plain an_plain cd_plain ct_plain), sl_plain⟩)
    (c_plain : PySem.W.codeIn K cd_plain "plain" = true)
    (k_plain : PySem.W.keepIn K (.ref f_plain) = true)
    (a_Formula___eq : PySem.W.findIn K (.ref C_Formula) "__eq__" = some (some (.ref f_Formula___eq)))
    (i_Formula___eq : PySem.W.isFn K (.ref f_Formula___eq) = true)
    (l_Formula___eq : K.lookup f_Formula___eq = some ⟨oc_Formula___eq, od_Formula___eq, .func (PySem.W.fnOf "__eq__" "Formula.__eq__" (defArgs s_Formula___eq) (defBody s_Formula___eq) (defScope s_Formula___eq) .none kV_Formula___eq dc_Formula___eq pm_Formula___eq an_Formula___eq cd_Formula___eq ct_Formula___eq), sl_Formula___eq⟩)
    (c_Formula___eq : PySem.W.codeIn K cd_Formula___eq "Formula.__eq__" = true)
    (k_Formula___eq : PySem.W.keepIn K (.ref f_Formula___eq) = true)
    (a_are_alike : PySem.W.nsIn K mainGlobals "are_alike" = some (some (.ref f_are_alike)))
    (l_are_alike : K.lookup f_are_alike = some ⟨oc_are_alike, od_are_alike, .func (PySem.W.fnOf "are_alike" "are_alike" (defArgs s_are_alike) (defBody s_are_alike) (defScope s_are_alike) .none kV_are_alike dc_are_alike pm_are_alike an_are_alike cd_are_alike ct_are_alike), sl_are_alike⟩)
    (c_are_alike : PySem.W.codeIn K cd_are_alike "are_alike" = true)
    (k_are_alike : PySem.W.keepIn K (.ref f_are_alike) = true)
    (a_law_right : PySem.W.nsIn K mainGlobals "_law_right" = some (some (.ref f_law_right)))
    (l_law_right : K.lookup f_law_right = some ⟨oc_law_right, od_law_right, .func (PySem.W.fnOf "_law_right" "_law_right" (defArgs s_law_right) (defBody s_law_right) (defScope s_law_right) .none kV_law_right dc_law_right pm_law_right an_law_right cd_law_right ct_law_right), sl_law_right⟩)
    (c_law_right : PySem.W.codeIn K cd_law_right "_law_right" = true)
    (k_law_right : PySem.W.keepIn K (.ref f_law_right) = true)
    (a_law : PySem.W.nsIn K mainGlobals "law" = some (some (.ref f_law)))
    (l_law : K.lookup f_law = some ⟨oc_law, od_law, .func (PySem.W.fnOf "law" "law" (defArgs s_law) (defBody s_law) (defScope s_law) .none kV_law dc_law pm_law an_law cd_law ct_law), sl_law⟩)
    (c_law : PySem.W.codeIn K cd_law "law" = true)
    (k_law : PySem.W.keepIn K (.ref f_law) = true)
    (pg_Formula : PySem.W.plainGet K C_Formula Str.empty = true)
    (hd_Formula : PySem.W.hasDictIn K C_Formula = true)
    (po_Formula : PySem.W.plainOver K C_Formula = true)
    (sa_Formula : PySem.W.findIn K (.ref C_Formula) "__setattr__" = some (some (.builtin "object.__setattr__")))
    (mk_Formula : PySem.W.makesIn K C_Formula = true)
    (kc_Formula : PySem.W.keepIn K (.ref C_Formula) = true)
    (ih_ : PySem.W.specialIn K (.builtin "object.__class__") "__get__" = some (some (.builtin "getset_descriptor.__get__")))
    (it_ : PySem.W.takesIn K (.builtin "object.__class__") = some true)
    (ia_Formula : PySem.W.findIn K (.ref C_Formula) "__class__" = some (some (.builtin "object.__class__")))
    (im_Formula : PySem.W.mroIn K C_Formula (.type "object") = some true)
    (n_Formula__terms : PySem.W.findIn K (.ref C_Formula) "_terms" = some none)
    (z_abs : PySem.W.nsIn K mainGlobals "abs" = some none)
    (z_any : PySem.W.nsIn K mainGlobals "any" = some none)
    (z_dict : PySem.W.nsIn K mainGlobals "dict" = some none)
    (z_enumerate : PySem.W.nsIn K mainGlobals "enumerate" = some none)
    (z_int : PySem.W.nsIn K mainGlobals "int" = some none)
    (z_isinstance : PySem.W.nsIn K mainGlobals "isinstance" = some none)
    (z_len : PySem.W.nsIn K mainGlobals "len" = some none)
    (z_list : PySem.W.nsIn K mainGlobals "list" = some none)
    (z_max : PySem.W.nsIn K mainGlobals "max" = some none)
    (z_min : PySem.W.nsIn K mainGlobals "min" = some none)
    (z_range : PySem.W.nsIn K mainGlobals "range" = some none)
    (z_repr : PySem.W.nsIn K mainGlobals "repr" = some none)
    (z_sorted : PySem.W.nsIn K mainGlobals "sorted" = some none)
    (z_tuple : PySem.W.nsIn K mainGlobals "tuple" = some none) :
    ∃ (fd : FuncData) (T : Tb), (∀ (s : Shared) (v : Value), BindsTo s fd ⟨[v], []⟩ [("script", v)]) ∧ ∀ base : Heap, K.In base → base.Ns mainGlobals mg → DFn l.prog w K mg base T CX0 8 fa fd ["script"] S_law := by
  have e : f_law = fa := by
    have := (PySem.W.mg_of X G a_law).symm.trans hfa
    cases this; rfl
  subst e
  let a_ : Nat → Addr := fun n => match n with | 0 => C_Formula | _ => 0
  have F_law_pool := fun_mk (st := s_law_pool) l_law_pool c_law_pool k_law_pool
  have b_law_pool := F_law_pool.binds (ps := ["script", "spot"]) fun _ _ _ _ _ _ us hl => match us, hl with | [_, _], _ => rfl
  have H_law_pool : FnH K mg "_law_pool" f_law_pool _ ["script", "spot"] := ⟨⟨b_law_pool, k_law_pool⟩, PySem.W.mg_of X G a_law_pool⟩
  have F_law_draw := fun_mk (st := s_law_draw) l_law_draw c_law_draw k_law_draw
  have b_law_draw := F_law_draw.binds (ps := ["pool", "amount"]) fun _ _ _ _ _ _ us hl => match us, hl with | [_, _], _ => rfl
  have H_law_draw : FnH K mg "_law_draw" f_law_draw _ ["pool", "amount"] := ⟨⟨b_law_draw, k_law_draw⟩, PySem.W.mg_of X G a_law_draw⟩
  have F_law_letters := fun_mk (st := s_law_letters) l_law_letters c_law_letters k_law_letters
  have b_law_letters := F_law_letters.binds (ps := ["pool", "longest", "great"]) fun _ _ _ _ _ _ us hl => match us, hl with | [_, _, _], _ => rfl
  have H_law_letters : FnH K mg "_law_letters" f_law_letters _ ["pool", "longest", "great"] := ⟨⟨b_law_letters, k_law_letters⟩, PySem.W.mg_of X G a_law_letters⟩
  have F_law_factor := fun_mk (st := s_law_factor) l_law_factor c_law_factor k_law_factor
  have b_law_factor := F_law_factor.binds (ps := ["pool"]) fun _ _ _ _ _ _ us hl => match us, hl with | [_], _ => rfl
  have H_law_factor : FnH K mg "_law_factor" f_law_factor _ ["pool"] := ⟨⟨b_law_factor, k_law_factor⟩, PySem.W.mg_of X G a_law_factor⟩
  have F_law_lot := fun_mk (st := s_law_lot) l_law_lot c_law_lot k_law_lot
  have b_law_lot := F_law_lot.binds (ps := ["pool", "amount", "longest", "great"]) fun _ _ _ _ _ _ us hl => match us, hl with | [_, _, _, _], _ => rfl
  have H_law_lot : FnH K mg "_law_lot" f_law_lot _ ["pool", "amount", "longest", "great"] := ⟨⟨b_law_lot, k_law_lot⟩, PySem.W.mg_of X G a_law_lot⟩
  have F_law_mate := fun_mk (st := s_law_mate) l_law_mate c_law_mate k_law_mate
  have b_law_mate := F_law_mate.binds (ps := ["pool", "lot"]) fun _ _ _ _ _ _ us hl => match us, hl with | [_, _], _ => rfl
  have H_law_mate : FnH K mg "_law_mate" f_law_mate _ ["pool", "lot"] := ⟨⟨b_law_mate, k_law_mate⟩, PySem.W.mg_of X G a_law_mate⟩
  have F_has_negative := fun_mk (st := s_has_negative) l_has_negative c_has_negative k_has_negative
  have b_has_negative := F_has_negative.binds (ps := ["word"]) fun _ _ _ _ _ _ us hl => match us, hl with | [_], _ => rfl
  have H_has_negative : FnH K mg "has_negative" f_has_negative _ ["word"] := ⟨⟨b_has_negative, k_has_negative⟩, PySem.W.mg_of X G a_has_negative⟩
  have F_check_words := fun_mk (st := s_check_words) l_check_words c_check_words k_check_words
  have b_check_words := F_check_words.binds (ps := ["terms"]) fun _ _ _ _ _ _ us hl => match us, hl with | [_], _ => rfl
  have H_check_words : FnH K mg "_check_words" f_check_words _ ["terms"] := ⟨⟨b_check_words, k_check_words⟩, PySem.W.mg_of X G a_check_words⟩
  have F_copied := fun_mk (st := s_copied) l_copied c_copied k_copied
  have b_copied := F_copied.binds (ps := ["terms"]) fun _ _ _ _ _ _ us hl => match us, hl with | [_], _ => rfl
  have H_copied : FnH K mg "_copied" f_copied _ ["terms"] := ⟨⟨b_copied, k_copied⟩, PySem.W.mg_of X G a_copied⟩
  have F_Formula___init := fun_mk (st := s_Formula___init) l_Formula___init c_Formula___init k_Formula___init
  have b_Formula___init := F_Formula___init.binds (ps := ["self", "terms"]) fun _ _ _ _ _ _ us hl => match us, hl with | [_, _], _ => rfl
  have H_Formula___init : FnB K f_Formula___init _ ["self", "terms"] := ⟨b_Formula___init, k_Formula___init⟩
  have F_law_made := fun_mk (st := s_law_made) l_law_made c_law_made k_law_made
  have b_law_made := F_law_made.binds (ps := ["lot"]) fun _ _ _ _ _ _ us hl => match us, hl with | [_], _ => rfl
  have H_law_made : FnH K mg "_law_made" f_law_made _ ["lot"] := ⟨⟨b_law_made, k_law_made⟩, PySem.W.mg_of X G a_law_made⟩
  have F_law_unknowns := fun_mk (st := s_law_unknowns) l_law_unknowns c_law_unknowns k_law_unknowns
  have b_law_unknowns := F_law_unknowns.binds (ps := ["lot", "size"]) fun _ _ _ _ _ _ us hl => match us, hl with | [_, _], _ => rfl
  have H_law_unknowns : FnH K mg "_law_unknowns" f_law_unknowns _ ["lot", "size"] := ⟨⟨b_law_unknowns, k_law_unknowns⟩, PySem.W.mg_of X G a_law_unknowns⟩
  have F_Formula_terms := fun_mk (st := s_Formula_terms) l_Formula_terms c_Formula_terms k_Formula_terms
  have b_Formula_terms := F_Formula_terms.binds (ps := ["self"]) fun _ _ _ _ _ _ us hl => match us, hl with | [_], _ => rfl
  have H_Formula_terms : FnB K f_Formula_terms _ ["self"] := ⟨b_Formula_terms, k_Formula_terms⟩
  have F_plain := fun_mk (st := s_plain) l_plain c_plain k_plain
  have b_plain := F_plain.binds (ps := ["formula"]) fun _ _ _ _ _ _ us hl => match us, hl with | [_], _ => rfl
  have H_plain : FnH K mg "plain" f_plain _ ["formula"] := ⟨⟨b_plain, k_plain⟩, PySem.W.mg_of X G a_plain⟩
  have F_Formula___eq := fun_mk (st := s_Formula___eq) l_Formula___eq c_Formula___eq k_Formula___eq
  have b_Formula___eq := F_Formula___eq.binds (ps := ["self", "other"]) fun _ _ _ _ _ _ us hl => match us, hl with | [_, _], _ => rfl
  have H_Formula___eq : FnB K f_Formula___eq _ ["self", "other"] := ⟨b_Formula___eq, k_Formula___eq⟩
  have F_are_alike := fun_mk (st := s_are_alike) l_are_alike c_are_alike k_are_alike
  have b_are_alike := F_are_alike.binds (ps := ["formula", "other_formula"]) fun _ _ _ _ _ _ us hl => match us, hl with | [_, _], _ => rfl
  have H_are_alike : FnH K mg "are_alike" f_are_alike _ ["formula", "other_formula"] := ⟨⟨b_are_alike, k_are_alike⟩, PySem.W.mg_of X G a_are_alike⟩
  have F_law_right := fun_mk (st := s_law_right) l_law_right c_law_right k_law_right
  have b_law_right := F_law_right.binds (ps := ["pool"]) fun _ _ _ _ _ _ us hl => match us, hl with | [_], _ => rfl
  have H_law_right : FnH K mg "_law_right" f_law_right _ ["pool"] := ⟨⟨b_law_right, k_law_right⟩, PySem.W.mg_of X G a_law_right⟩
  have F_law := fun_mk (st := s_law) l_law c_law k_law
  have b_law := F_law.binds (ps := ["script"]) fun _ _ _ _ _ _ us hl => match us, hl with | [_], _ => rfl
  have H_law : FnH K mg "law" f_law _ ["script"] := ⟨⟨b_law, k_law⟩, PySem.W.mg_of X G a_law⟩
  have c_Formula : Cls K ((TBof a_).cl 0) := ⟨pg_Formula, hd_Formula, po_Formula, sa_Formula⟩
  have nn_Formula__terms : NoAttr K ((TBof a_).cl 0) "_terms" := n_Formula__terms
  have h_Formula___eq__ : Meth K ((TBof a_).cl 0) "__eq__" f_Formula___eq := ⟨a_Formula___eq, i_Formula___eq, k_Formula___eq⟩
  have pp_Formula_terms : PropOf K ((TBof a_).cl 0) "terms" p_Formula_terms f_Formula_terms := ⟨a_Formula_terms, pg_Formula_terms, pt_Formula_terms, ⟨rest_Formula_terms, pr_Formula_terms⟩⟩
  have M_Formula : Mk K ((TBof a_).cl 0) f_Formula___init := ⟨mk_Formula, a_Formula___init, i_Formula___init, kc_Formula⟩
  have g_Formula : mg "Formula" = some (.ref ((TBof a_).cl 0)) := PySem.W.mg_of X G aC_Formula
  have kb_are_alike_0_other_formula_formula : KB K _ ["formula", "other_formula"] ["other_formula", "formula"] 0 0 [1, 0] := fun_kb F_are_alike fun _ _ _ _ _ _ fi us ws h1 h2 h3 => match fi, us, ws, h1, h2, h3 with | [], [], [_, _], _, _, _ => rfl
  have ic_Formula : C8.InsC K ((TBof a_).cl 0) := ⟨c_Formula, ia_Formula, ih_, it_, im_Formula, kit_self⟩
  have gc_Formula : mg "Formula" = some (.ref ((TBof a_).cl 0)) := PySem.W.mg_of X G aC_Formula
  have zz_abs : mg "abs" = none := PySem.W.mg_none_of X G z_abs
  have zz_any : mg "any" = none := PySem.W.mg_none_of X G z_any
  have zz_dict : mg "dict" = none := PySem.W.mg_none_of X G z_dict
  have zz_enumerate : mg "enumerate" = none := PySem.W.mg_none_of X G z_enumerate
  have zz_int : mg "int" = none := PySem.W.mg_none_of X G z_int
  have zz_isinstance : mg "isinstance" = none := PySem.W.mg_none_of X G z_isinstance
  have zz_len : mg "len" = none := PySem.W.mg_none_of X G z_len
  have zz_list : mg "list" = none := PySem.W.mg_none_of X G z_list
  have zz_max : mg "max" = none := PySem.W.mg_none_of X G z_max
  have zz_min : mg "min" = none := PySem.W.mg_none_of X G z_min
  have zz_range : mg "range" = none := PySem.W.mg_none_of X G z_range
  have zz_repr : mg "repr" = none := PySem.W.mg_none_of X G z_repr
  have zz_sorted : mg "sorted" = none := PySem.W.mg_none_of X G z_sorted
  have zz_tuple : mg "tuple" = none := PySem.W.mg_none_of X G z_tuple
  refine ⟨PySem.W.fnOf "law" "law" (defArgs s_law) (defBody s_law) (defScope s_law) .none kV_law dc_law pm_law an_law cd_law ct_law, TBof a_, fun s v => .of_eq rfl, fun base _ _ => ?_⟩
  have G_law_pool := ok_law_pool (P := l.prog) (w := w) (mg := mg) (base := base) (a_ := a_) F_law_pool zz_abs zz_int zz_len zz_max
  have G_law_draw := ok_law_draw (P := l.prog) (w := w) (mg := mg) (base := base) (a_ := a_) F_law_draw zz_int
  have G_law_letters := ok_law_letters (P := l.prog) (w := w) (mg := mg) (base := base) (a_ := a_) F_law_letters G_law_draw H_law_draw zz_range
  have G_law_factor := ok_law_factor (P := l.prog) (w := w) (mg := mg) (base := base) (a_ := a_) F_law_factor G_law_draw H_law_draw
  have G_law_lot := ok_law_lot (P := l.prog) (w := w) (mg := mg) (base := base) (a_ := a_) F_law_lot G_law_draw H_law_draw G_law_letters H_law_letters G_law_factor H_law_factor zz_list zz_range
  have G_law_mate := ok_law_mate (P := l.prog) (w := w) (mg := mg) (base := base) (a_ := a_) F_law_mate G_law_draw H_law_draw G_law_letters H_law_letters G_law_factor H_law_factor G_law_lot H_law_lot zz_list
  have G_has_negative := ok_has_negative (P := l.prog) (w := w) (mg := mg) (base := base) (a_ := a_) F_has_negative zz_any
  have G_check_words := ok_check_words (P := l.prog) (w := w) (mg := mg) (base := base) (a_ := a_) F_check_words G_has_negative H_has_negative zz_enumerate
  have G_copied := ok_copied (P := l.prog) (w := w) (mg := mg) (base := base) (a_ := a_) F_copied zz_list
  have G_Formula___init := ok_Formula___init (P := l.prog) (w := w) (mg := mg) (base := base) (a_ := a_) F_Formula___init G_check_words H_check_words G_copied H_copied c_Formula nn_Formula__terms
  have G_law_made := ok_law_made (P := l.prog) (w := w) (mg := mg) (base := base) (a_ := a_) F_law_made G_Formula___init H_Formula___init zz_list c_Formula M_Formula g_Formula
  have G_law_unknowns := ok_law_unknowns (P := l.prog) (w := w) (mg := mg) (base := base) (a_ := a_) F_law_unknowns zz_dict zz_len zz_range
  have G_Formula_terms := ok_Formula_terms (P := l.prog) (w := w) (mg := mg) (base := base) (a_ := a_) F_Formula_terms G_copied H_copied c_Formula nn_Formula__terms
  have G_plain := ok_plain (P := l.prog) (w := w) (mg := mg) (base := base) (a_ := a_) F_plain G_Formula_terms H_Formula_terms G_Formula___init H_Formula___init zz_len zz_list zz_sorted zz_tuple c_Formula pp_Formula_terms M_Formula g_Formula
  have G_Formula___eq := ok_Formula___eq (P := l.prog) (w := w) (mg := mg) (base := base) (a_ := a_) F_Formula___eq zz_isinstance c_Formula nn_Formula__terms ic_Formula gc_Formula
  have G_are_alike := ok_are_alike (P := l.prog) (w := w) (mg := mg) (base := base) (a_ := a_) F_are_alike G_plain H_plain G_Formula___eq H_Formula___eq c_Formula h_Formula___eq__
  have G_law_right := ok_law_right (P := l.prog) (w := w) (mg := mg) (base := base) (a_ := a_) F_law_right G_law_lot H_law_lot G_law_mate H_law_mate G_law_made H_law_made G_law_unknowns H_law_unknowns G_are_alike H_are_alike G_plain H_plain G_Formula___eq H_Formula___eq zz_range zz_repr c_Formula h_Formula___eq__ kb_are_alike_0_other_formula_formula
  have G_law := ok_law (P := l.prog) (w := w) (mg := mg) (base := base) (a_ := a_) F_law G_law_pool H_law_pool G_law_right H_law_right zz_len zz_max zz_min zz_range
  exact G_law
end DL
open PySem PySem.W PyProof.Rows
set_option maxRecDepth 100000 in
set_option maxHeartbeats 0 in
theorem PySem.Challenge.cw_nestsums_k07_alike_formulas_holds : PySem.Challenge.rw_nestsums_k07_alike_formulas.Holds := by
  w_on; o_law; k_head; (case hw => w_witness2)
  k_fill
  refine DL.walkG (l := PySem.Challenge.rw_nestsums_k07_alike_formulas) (n := 63) (k := 8) (x := "script") (S := DL.S_law) rfl (by decide) rfl ⟨rfl, by decide, by decide⟩ (fun w h Y => PySem.W.kIn_of Y) ?F DL.law_end
  case F =>
    intro w mg fa h KX G hmg
    refine' DL.all_mk KX G hmg ?aC_Formula ?a_law_pool ?l_law_pool ?c_law_pool ?k_law_pool ?a_law_draw ?l_law_draw ?c_law_draw ?k_law_draw ?a_law_letters ?l_law_letters ?c_law_letters ?k_law_letters ?a_law_factor ?l_law_factor ?c_law_factor ?k_law_factor ?a_law_lot ?l_law_lot ?c_law_lot ?k_law_lot ?a_law_mate ?l_law_mate ?c_law_mate ?k_law_mate ?a_has_negative ?l_has_negative ?c_has_negative ?k_has_negative ?a_check_words ?l_check_words ?c_check_words ?k_check_words ?a_copied ?l_copied ?c_copied ?k_copied ?a_Formula___init ?i_Formula___init ?l_Formula___init ?c_Formula___init ?k_Formula___init ?a_law_made ?l_law_made ?c_law_made ?k_law_made ?a_law_unknowns ?l_law_unknowns ?c_law_unknowns ?k_law_unknowns ?a_Formula_terms ?pg_Formula_terms ?pt_Formula_terms ?pr_Formula_terms ?l_Formula_terms ?c_Formula_terms ?k_Formula_terms ?a_plain ?l_plain ?c_plain ?k_plain ?a_Formula___eq ?i_Formula___eq ?l_Formula___eq ?c_Formula___eq ?k_Formula___eq ?a_are_alike ?l_are_alike ?c_are_alike ?k_are_alike ?a_law_right ?l_law_right ?c_law_right ?k_law_right ?a_law ?l_law ?c_law ?k_law ?pg_Formula ?hd_Formula ?po_Formula ?sa_Formula ?mk_Formula ?kc_Formula ?ih_ ?it_ ?ia_Formula ?im_Formula ?n_Formula__terms ?z_abs ?z_any ?z_dict ?z_enumerate ?z_int ?z_isinstance ?z_len ?z_list ?z_max ?z_min ?z_range ?z_repr ?z_sorted ?z_tuple
    (case aC_Formula => k_is)
    (case a_law_pool => k_is)
    (case l_law_pool => k_is)
    (case c_law_pool => k_is)
    (case k_law_pool => k_is)
    (case a_law_draw => k_is)
    (case l_law_draw => k_is)
    (case c_law_draw => k_is)
    (case k_law_draw => k_is)
    (case a_law_letters => k_is)
    (case l_law_letters => k_is)
    (case c_law_letters => k_is)
    (case k_law_letters => k_is)
    (case a_law_factor => k_is)
    (case l_law_factor => k_is)
    (case c_law_factor => k_is)
    (case k_law_factor => k_is)
    (case a_law_lot => k_is)
    (case l_law_lot => k_is)
    (case c_law_lot => k_is)
    (case k_law_lot => k_is)
    (case a_law_mate => k_is)
    (case l_law_mate => k_is)
    (case c_law_mate => k_is)
    (case k_law_mate => k_is)
    (case a_has_negative => k_is)
    (case l_has_negative => k_is)
    (case c_has_negative => k_is)
    (case k_has_negative => k_is)
    (case a_check_words => k_is)
    (case l_check_words => k_is)
    (case c_check_words => k_is)
    (case k_check_words => k_is)
    (case a_copied => k_is)
    (case l_copied => k_is)
    (case c_copied => k_is)
    (case k_copied => k_is)
    (case a_Formula___init => k_is)
    (case i_Formula___init => k_is)
    (case l_Formula___init => k_is)
    (case c_Formula___init => k_is)
    (case k_Formula___init => k_is)
    (case a_law_made => k_is)
    (case l_law_made => k_is)
    (case c_law_made => k_is)
    (case k_law_made => k_is)
    (case a_law_unknowns => k_is)
    (case l_law_unknowns => k_is)
    (case c_law_unknowns => k_is)
    (case k_law_unknowns => k_is)
    (case a_Formula_terms => k_is)
    (case pg_Formula_terms => k_is)
    (case pt_Formula_terms => k_is)
    (case pr_Formula_terms => k_is)
    (case l_Formula_terms => k_is)
    (case c_Formula_terms => k_is)
    (case k_Formula_terms => k_is)
    (case a_plain => k_is)
    (case l_plain => k_is)
    (case c_plain => k_is)
    (case k_plain => k_is)
    (case a_Formula___eq => k_is)
    (case i_Formula___eq => k_is)
    (case l_Formula___eq => k_is)
    (case c_Formula___eq => k_is)
    (case k_Formula___eq => k_is)
    (case a_are_alike => k_is)
    (case l_are_alike => k_is)
    (case c_are_alike => k_is)
    (case k_are_alike => k_is)
    (case a_law_right => k_is)
    (case l_law_right => k_is)
    (case c_law_right => k_is)
    (case k_law_right => k_is)
    (case a_law => k_is)
    (case l_law => k_is)
    (case c_law => k_is)
    (case k_law => k_is)
    (case pg_Formula => k_is)
    (case hd_Formula => k_is)
    (case po_Formula => k_is)
    (case sa_Formula => k_is)
    (case mk_Formula => k_is)
    (case kc_Formula => k_is)
    (case ih_ => k_is)
    (case it_ => k_is)
    (case ia_Formula => k_is)
    (case im_Formula => k_is)
    (case n_Formula__terms => k_is)
    (case z_abs => k_is)
    (case z_any => k_is)
    (case z_dict => k_is)
    (case z_enumerate => k_is)
    (case z_int => k_is)
    (case z_isinstance => k_is)
    (case z_len => k_is)
    (case z_list => k_is)
    (case z_max => k_is)
    (case z_min => k_is)
    (case z_range => k_is)
    (case z_repr => k_is)
    (case z_sorted => k_is)
    (case z_tuple => k_is)
