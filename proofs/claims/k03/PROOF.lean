import PyProof.Rows.All
import Wide.All
import OpenK.AllK
import Wide.FinOn
import HandS.ForMost
import HandS.ForExc
import HandS.ExcInit
import HandS.Evl
import HandS.Flow
import HandS.NoneIn
import HandS.TupAny
import HandS.IsInst
import HandS.SortInts
import HandS.SortRule
import HandS.Conv
import HandS.WordsDict
import PySem.Challenge.RW_keptnights_k03_whole_loads
/-! from DL1.lean -/
set_option Elab.async false
set_option linter.all false
set_option maxRecDepth 100000
set_option maxHeartbeats 2000000
/-! A layer of data over the hand layer: what a def does, told by a function of plain data (D) and of a store of things that change (O). -/
namespace DL
open PySem L2

inductive D where
  | non | bl (b : Bool) | int (i : Int) | str (s : Str)
  | lst (ds : List D) | tup (ds : List D)
  /-- a list that is only read (the script) -/
  | rdl (ds : List D)
  | dct (kvs : List (Key × D))
  | ins (C : Addr) (fs : List (Str × D))
  | loc (i : Nat)
  | ty (n : String)
  | adr (a : Addr)

inductive O where
  | lst (ds : List D) | dct (kvs : List (Key × D)) | ins (C : Addr) (fs : List (Str × D))

abbrev Frg := PySem.W.Frag
abbrev Store := List (Option O)

mutual
inductive Has (K : Frg) (F : Hp) (α : List Addr) : V → D → Prop
  | non : Has K F α .non .non
  | bl (b : Bool) : Has K F α (.bl b) (.bl b)
  | int (i : Int) : Has K F α (.int i) (.int i)
  | str (x : Str) : Has K F α (.str x) (.str x)
  | ty (n : String) : Has K F α (.ty n) (.ty n)
  | adr (a : Addr) : Has K F α (.ref a) (.adr a)
  | lst {a : Addr} {xs : List V} {ds : List D} : F a = some (.lst xs) → HasL K F α xs ds → Has K F α (.ref a) (.lst ds)
  | rdl {a : Addr} {xs : List V} {ds : List D} : SqL K F a xs → HasL K F α xs ds → Has K F α (.ref a) (.rdl ds)
  | tup {a : Addr} {xs : List V} {ds : List D} : SqT K F a xs → HasL K F α xs ds → Has K F α (.ref a) (.tup ds)
  | dct {a : Addr} {kvs : List (Key × V)} {ms : List (Key × D)} : F a = some (.dK kvs) → kvs.map (·.1) = ms.map (·.1) → HasL K F α (kvs.map (·.2)) (ms.map (·.2)) → Has K F α (.ref a) (.dct ms)
  | ins {a C dx : Addr} {fs : List (Str × V)} {gs : List (Str × D)} : F a = some (.ins C dx fs) → fs.map (·.1) = gs.map (·.1) → HasL K F α (fs.map (·.2)) (gs.map (·.2)) → Has K F α (.ref a) (.ins C gs)
  | loc {a : Addr} {i : Nat} : α[i]? = some a → Has K F α (.ref a) (.loc i)
inductive HasL (K : Frg) (F : Hp) (α : List Addr) : List V → List D → Prop
  | nil : HasL K F α [] []
  | cons {v : V} {d : D} {vs : List V} {ds : List D} : Has K F α v d → HasL K F α vs ds → HasL K F α (v :: vs) (d :: ds)
end

section
variable {K : Frg} {F F' : Hp} {α α' : List Addr}
theorem pre_get {l l' : List Addr} (h : l <+: l') {i : Nat} {a : Addr} (e : l[i]? = some a) : l'[i]? = some a := by
  obtain ⟨t, rfl⟩ := h
  have hi : i < l.length := (List.getElem?_eq_some_iff.mp e).1
  rw [List.getElem?_append_left hi]
  exact e
mutual
theorem Has.mono (e : Same F F') (p : α <+: α') : ∀ {v : V} {d : D}, Has K F α v d → Has K F' α' v d
  | _, _, .non => .non
  | _, _, .bl b => .bl b
  | _, _, .int i => .int i
  | _, _, .str x => .str x
  | _, _, .ty n => .ty n
  | _, _, .adr a => .adr a
  | _, _, .lst h r => .lst (e _ _ h) (HasL.mono e p r)
  | _, _, .rdl h r => .rdl (e.seq h) (HasL.mono e p r)
  | _, _, .tup h r => .tup (by
      rcases h with (h | ⟨o, h⟩) | h
      · exact .inl (.inl (e _ _ h))
      · exact .inl (.inr ⟨o, e _ _ h⟩)
      · exact .inr h) (HasL.mono e p r)
  | _, _, .dct h k r => .dct (e _ _ h) k (HasL.mono e p r)
  | _, _, .ins h k r => .ins (e _ _ h) k (HasL.mono e p r)
  | _, _, .loc h => .loc (pre_get p h)
theorem HasL.mono (e : Same F F') (p : α <+: α') : ∀ {vs : List V} {ds : List D}, HasL K F α vs ds → HasL K F' α' vs ds
  | _, _, .nil => .nil
  | _, _, .cons h r => .cons (Has.mono e p h) (HasL.mono e p r)
end
theorem HasL.len : ∀ {vs : List V} {ds : List D}, HasL K F α vs ds → vs.length = ds.length
  | _, _, .nil => rfl
  | _, _, .cons _ r => by rw [List.length_cons, List.length_cons, r.len]
theorem HasL.get : ∀ {vs : List V} {ds : List D} {i : Nat} {d : D}, HasL K F α vs ds → ds[i]? = some d → ∃ v, vs[i]? = some v ∧ Has K F α v d
  | _, _, 0, d, .cons h _, e => by simp at e; subst e; exact ⟨_, rfl, h⟩
  | _, _, i + 1, d, .cons _ r, e => by
    obtain ⟨v, h1, h2⟩ := HasL.get (i := i) (d := d) r (by simpa using e)
    exact ⟨v, by simpa using h1, h2⟩
  | _, _, i, d, .nil, e => by simp at e
theorem HasL.getV : ∀ {vs : List V} {ds : List D} {i : Nat} {v : V}, HasL K F α vs ds → vs[i]? = some v → ∃ d, ds[i]? = some d ∧ Has K F α v d
  | _, _, 0, v, .cons h _, e => by simp at e; subst e; exact ⟨_, rfl, h⟩
  | _, _, i + 1, v, .cons _ r, e => by
    obtain ⟨d, h1, h2⟩ := HasL.getV (i := i) (v := v) r (by simpa using e)
    exact ⟨d, by simpa using h1, h2⟩
  | _, _, i, v, .nil, e => by simp at e
theorem HasL.app : ∀ {vs ws : List V} {ds es : List D}, HasL K F α vs ds → HasL K F α ws es → HasL K F α (vs ++ ws) (ds ++ es)
  | _, _, _, _, .nil, r => r
  | _, _, _, _, .cons h r, r' => .cons h (r.app r')
theorem HasL.set {v : V} {d : D} (h : Has K F α v d) : ∀ {vs : List V} {ds : List D} (i : Nat), HasL K F α vs ds → HasL K F α (vs.set i v) (ds.set i d)
  | _, _, _, .nil => .nil
  | _, _, 0, .cons _ r => .cons h r
  | _, _, i + 1, .cons q r => .cons q (HasL.set h i r)
theorem HasL.take : ∀ {vs : List V} {ds : List D} (n : Nat), HasL K F α vs ds → HasL K F α (vs.take n) (ds.take n)
  | _, _, 0, _ => .nil
  | _, _, n + 1, .nil => .nil
  | _, _, n + 1, .cons h r => .cons h (HasL.take n r)
theorem HasL.drop : ∀ {vs : List V} {ds : List D} (n : Nat), HasL K F α vs ds → HasL K F α (vs.drop n) (ds.drop n)
  | _, _, 0, r => r
  | _, _, n + 1, .nil => .nil
  | _, _, n + 1, .cons h r => HasL.drop n r
theorem HasL.rev {vs : List V} {ds : List D} (h : HasL K F α vs ds) : HasL K F α vs.reverse ds.reverse := by
  suffices ∀ {vs : List V} {ds : List D}, HasL K F α vs ds → ∀ {ws : List V} {es : List D}, HasL K F α ws es → HasL K F α (vs.reverse ++ ws) (ds.reverse ++ es) by
    have q := this h HasL.nil
    rwa [List.append_nil, List.append_nil] at q
  intro vs ds h
  induction vs generalizing ds with
  | nil => cases h; intro ws es r; exact r
  | cons v vs ih =>
    cases h with
    | cons h1 h2 =>
      intro ws es r
      rw [List.reverse_cons, List.reverse_cons, List.append_assoc, List.append_assoc]
      exact ih h2 (.cons h1 r)
theorem HasL.ints : ∀ {vs : List V} {ns : List Int}, HasL K F α vs (ns.map .int) → vs = ns.map .int
  | _, [], .nil => rfl
  | _, n :: ns, .cons h r => by cases h; rw [HasL.ints r]; rfl
theorem hasL_ints : ∀ (ns : List Int), HasL K F α (ns.map .int) (ns.map .int)
  | [] => .nil
  | n :: ns => .cons (.int n) (hasL_ints ns)
end

/-! ### no loc in it -/
mutual
def D.flat : D → Bool
  | .lst ds => flatL ds
  | .rdl ds => flatL ds
  | .tup ds => flatL ds
  | .dct kvs => flatM kvs
  | .ins _ fs => flatN fs
  | .loc _ => false
  | _ => true
def flatL : List D → Bool
  | [] => true
  | d :: ds => d.flat && flatL ds
def flatM : List (Key × D) → Bool
  | [] => true
  | p :: ds => flatP p && flatM ds
def flatP : Key × D → Bool
  | (_, d) => d.flat
def flatN : List (Str × D) → Bool
  | [] => true
  | p :: ds => flatQ p && flatN ds
def flatQ : Str × D → Bool
  | (_, d) => d.flat
end
theorem flatM_eq : ∀ ms : List (Key × D), flatM ms = flatL (ms.map (·.2))
  | [] => by simp [flatM, flatL]
  | (k, d) :: r => by simp [flatM, flatL, flatP, flatM_eq r]
theorem flatN_eq : ∀ ms : List (Str × D), flatN ms = flatL (ms.map (·.2))
  | [] => by simp [flatN, flatL]
  | (k, d) :: r => by simp [flatN, flatL, flatQ, flatN_eq r]
theorem flatL_all (ds : List D) : flatL ds = ds.all D.flat := by
  induction ds with
  | nil => rfl
  | cons d r ih => simp [flatL, ih]
section
variable {K : Frg} {F : Hp} {α α' : List Addr}
mutual
theorem Has.anyα : ∀ {v : V} {d : D}, Has K F α v d → d.flat = true → Has K F α' v d
  | _, _, .non, _ => .non
  | _, _, .bl b, _ => .bl b
  | _, _, .int i, _ => .int i
  | _, _, .str x, _ => .str x
  | _, _, .ty n, _ => .ty n
  | _, _, .adr a, _ => .adr a
  | _, _, .lst h r, e => .lst h (HasL.anyα r (by simpa [D.flat] using e))
  | _, _, .rdl h r, e => .rdl h (HasL.anyα r (by simpa [D.flat] using e))
  | _, _, .tup h r, e => .tup h (HasL.anyα r (by simpa [D.flat] using e))
  | _, _, .dct h k r, e => .dct h k (HasL.anyα r (by rw [← flatM_eq]; simpa [D.flat] using e))
  | _, _, .ins h k r, e => .ins h k (HasL.anyα r (by rw [← flatN_eq]; simpa [D.flat] using e))
  | _, _, .loc h, e => by simp [D.flat] at e
theorem HasL.anyα : ∀ {vs : List V} {ds : List D}, HasL K F α vs ds → flatL ds = true → HasL K F α' vs ds
  | _, _, .nil, _ => .nil
  | _, _, .cons h r, e => .cons (Has.anyα h (by simp [flatL] at e; exact e.1)) (HasL.anyα r (by simp [flatL] at e; exact e.2))
end
end

/-! ### the store -/
def HObj (K : Frg) (F : Hp) (α : List Addr) : HO → O → Prop
  | .lst xs, .lst ds => HasL K F α xs ds
  | .dK kvs, .dct ms => kvs.map (·.1) = ms.map (·.1) ∧ HasL K F α (kvs.map (·.2)) (ms.map (·.2))
  | .ins C _ fs, .ins C' gs => C = C' ∧ fs.map (·.1) = gs.map (·.1) ∧ HasL K F α (fs.map (·.2)) (gs.map (·.2))
  | _, _ => False
theorem HObj.mono {K : Frg} {F F' : Hp} {α α' : List Addr} (e : Same F F') (p : α <+: α') : ∀ {h : HO} {o : O}, HObj K F α h o → HObj K F' α' h o := by
  intro h o q
  cases h <;> cases o <;> simp only [HObj] at q ⊢
  · exact q.mono e p
  · exact ⟨q.1, q.2.mono e p⟩
  · exact ⟨q.1, q.2.1, q.2.2.mono e p⟩

structure Rel0 (K : Frg) (G F H : Hp) (α : List Addr) (ς : Store) : Prop where
  ex : Same F H
  gx : Same G H
  len : α.length = ς.length
  obj : ∀ (i : Nat) (o : O), ς[i]? = some (some o) → ∃ a h, α[i]? = some a ∧ H a = some h ∧ F a = none ∧ HObj K F α h o
  fg : ∀ (a : Addr) (o : HO), G a = some o → F a = none
  gn : ∀ (i : Nat) (o : O) (a : Addr), ς[i]? = some (some o) → α[i]? = some a → G a = none
  inj : ∀ (i j : Nat) (oi oj : O) (a : Addr), ς[i]? = some (some oi) → ς[j]? = some (some oj) → α[i]? = some a → α[j]? = some a → i = j

def O.flat : O → Bool
  | .lst ds => flatL ds
  | .dct kvs => flatM kvs
  | .ins _ fs => flatN fs
def sflat : Store → Bool
  | [] => true
  | none :: r => sflat r
  | some o :: r => o.flat && sflat r
theorem sflat_get : ∀ {ς : Store} {i : Nat} {o : O}, sflat ς = true → ς[i]? = some (some o) → o.flat = true
  | none :: r, 0, o, h, e => by simp at e
  | some u :: r, 0, o, h, e => by
    simp only [List.getElem?_cons_zero, Option.some.injEq] at e
    subst e
    simp only [sflat, Bool.and_eq_true] at h
    exact h.1
  | none :: r, i + 1, o, h, e => sflat_get (ς := r) (i := i) h (by simpa using e)
  | some u :: r, i + 1, o, h, e => sflat_get (ς := r) (i := i) (by simp only [sflat, Bool.and_eq_true] at h; exact h.2) (by simpa using e)
  | [], i, o, h, e => by simp at e
theorem HObj.anyα {K : Frg} {F : Hp} {α α' : List Addr} : ∀ {h : HO} {o : O}, HObj K F α h o → o.flat = true → HObj K F α' h o := by
  intro h o q f
  cases h <;> cases o <;> simp only [HObj] at q ⊢
  · exact q.anyα (by simpa [O.flat] using f)
  · exact ⟨q.1, q.2.anyα (by rw [← flatM_eq]; simpa [O.flat] using f)⟩
  · exact ⟨q.1, q.2.1, q.2.2.anyα (by rw [← flatN_eq]; simpa [O.flat] using f)⟩

structure Ext (F : Hp) (α : List Addr) (F' : Hp) (α' : List Addr) : Prop where
  f : Same F F'
  a : α <+: α'
theorem Ext.refl (F : Hp) (α : List Addr) : Ext F α F α := ⟨Same.refl F, List.prefix_refl α⟩
theorem Ext.trans {F F1 F2 : Hp} {α α1 α2 : List Addr} (h : Ext F α F1 α1) (k : Ext F1 α1 F2 α2) : Ext F α F2 α2 := ⟨h.f.trans k.f, h.a.trans k.a⟩
theorem Has.ext {K : Frg} {F F' : Hp} {α α' : List Addr} {v : V} {d : D} (h : Has K F α v d) (x : Ext F α F' α') : Has K F' α' v d := h.mono x.f x.a
theorem HasL.ext {K : Frg} {F F' : Hp} {α α' : List Addr} {v : List V} {d : List D} (h : HasL K F α v d) (x : Ext F α F' α') : HasL K F' α' v d := h.mono x.f x.a

section
variable {K : Frg} {G F H : Hp} {α : List Addr} {ς : Store}
theorem Rel0.fnone (R : Rel0 K G F H α ς) {p : Addr} (h : H p = none) : F p = none := R.ex.free h
theorem same_upd {F : Hp} {p : Addr} {o : HO} (h : F p = none) : Same F (upd F p o) := fun a u e => by
  rw [upd_ne (ne_of_none e h)]
  exact e
theorem Rel0.imm (R : Rel0 K G F H α ς) {p : Addr} (hp : H p = none) (o : HO) : Rel0 K G (upd F p o) (upd H p o) α ς := by
  have fp := R.fnone hp
  refine ⟨fun a u e => ?_, fun a u e => ?_, R.len, fun i ob e => ?_, fun a o e => by rw [upd_ne (ne_of_none (R.gx a o e) hp)]; exact R.fg a o e, R.gn, R.inj⟩
  rotate_left
  · rw [upd_ne (ne_of_none (R.gx a u e) hp)]
    exact R.gx a u e
  rotate_left
  · by_cases q : a = p
    · subst q
      rw [upd_same] at e ⊢
      exact e
    · rw [upd_ne q] at e ⊢
      exact R.ex a u e
  · obtain ⟨a, h, h1, h2, h3, h4⟩ := R.obj i ob e
    have q : a ≠ p := ne_of_none h2 hp
    exact ⟨a, h, h1, by rw [upd_ne q]; exact h2, by rw [upd_ne q]; exact h3, h4.mono (same_upd fp) (List.prefix_refl α)⟩
theorem Rel0.immX (R : Rel0 K G F H α ς) {p : Addr} (hp : H p = none) (o : HO) : Ext F α (upd F p o) α := ⟨same_upd (R.fnone hp), List.prefix_refl α⟩
theorem pre_app (α : List Addr) (p : Addr) : α <+: α ++ [p] := ⟨[p], rfl⟩
theorem Rel0.new (R : Rel0 K G F H α ς) {p : Addr} (hp : H p = none) {h : HO} {o : O} (k : HObj K F α h o) : Rel0 K G F (upd H p h) (α ++ [p]) (ς ++ [some o]) := by
  have len := R.len
  have low : ∀ {i : Nat} {oi : O}, (ς ++ [some o])[i]? = some (some oi) → (i < ς.length ∧ ς[i]? = some (some oi)) ∨ i = ς.length := fun {i oi} q => by
    by_cases hi : i < ς.length
    · rw [List.getElem?_append_left hi] at q
      exact .inl ⟨hi, q⟩
    · have := (List.getElem?_eq_some_iff.mp q).1
      simp at this
      exact .inr (by omega)
  have old : ∀ {i : Nat} {oi : O}, ς[i]? = some (some oi) → ∀ {a : Addr}, (α ++ [p])[i]? = some a → α[i]? = some a ∧ a ≠ p := fun {i oi} q {a} w => by
    obtain ⟨b, g, h1, h2, h3, h4⟩ := R.obj i oi q
    have z := pre_get (pre_app α p) h1
    rw [w] at z
    cases z
    exact ⟨h1, ne_of_none h2 hp⟩
  have top : ∀ {a : Addr}, (α ++ [p])[ς.length]? = some a → a = p := fun {a} w => by
    rw [← len] at w
    simp at w
    exact w.symm
  refine ⟨fun a u e => ?_, fun a u e => ?_, by simp [len], fun i ob e => ?_, R.fg, fun i oi a e1 e2 => ?_, fun i j oi oj a e1 e2 e3 e4 => ?_⟩
  · rw [upd_ne (ne_of_none (R.ex a u e) hp)]
    exact R.ex a u e
  · rw [upd_ne (ne_of_none (R.gx a u e) hp)]
    exact R.gx a u e
  · by_cases hi : i < ς.length
    · rw [List.getElem?_append_left hi] at e
      obtain ⟨a, g, h1, h2, h3, h4⟩ := R.obj i ob e
      exact ⟨a, g, pre_get (pre_app α p) h1, by rw [upd_ne (ne_of_none h2 hp)]; exact h2, h3, h4.mono (Same.refl F) (pre_app α p)⟩
    · have hi2 : i = ς.length := by
        have := (List.getElem?_eq_some_iff.mp e).1
        simp at this
        omega
      subst hi2
      simp at e
      subst e
      exact ⟨p, h, by rw [← len]; simp, upd_same, R.fnone hp, k.mono (Same.refl F) (pre_app α p)⟩
  · rcases low e1 with ⟨l1, q1⟩ | q1
    · exact R.gn i oi a q1 (old q1 e2).1
    · subst q1
      rw [top e2]
      exact R.gx.free hp
  · rcases low e1 with ⟨l1, q1⟩ | q1 <;> rcases low e2 with ⟨l2, q2⟩ | q2
    · exact R.inj i j oi oj a q1 q2 (old q1 e3).1 (old q2 e4).1
    · subst q2
      exact absurd (top e4) (old q1 e3).2
    · subst q1
      exact absurd (top e3) (old q2 e4).2
    · omega
theorem set_some {ς : Store} {i j : Nat} {x : Option O} {o : O} (e : (ς.set i x)[j]? = some (some o)) : (i = j ∧ x = some o) ∨ (i ≠ j ∧ ς[j]? = some (some o)) := by
  by_cases q : i = j
  · subst q
    rw [List.getElem?_set_self'] at e
    cases z : ς[i]? with
    | none => rw [z] at e; cases e
    | some u => rw [z] at e; simp at e; exact .inl ⟨rfl, e⟩
  · rw [List.getElem?_set_ne q] at e
    exact .inr ⟨q, e⟩
theorem Rel0.put (R : Rel0 K G F H α ς) {i : Nat} {o o' : O} {a : Addr} {h' : HO} (e : ς[i]? = some (some o)) (ea : α[i]? = some a) (k : HObj K F α h' o') : Rel0 K G F (upd H a h') α (ς.set i (some o')) := by
  obtain ⟨b, h, h1, h2, h3, h4⟩ := R.obj i o e
  rw [ea] at h1
  cases h1
  have live : ∀ {j : Nat} {oi : O}, (ς.set i (some o'))[j]? = some (some oi) → ∃ q, ς[j]? = some (some q) := fun {j oi} q => by
    rcases set_some q with ⟨rfl, _⟩ | ⟨_, w⟩
    · exact ⟨o, e⟩
    · exact ⟨_, w⟩
  refine ⟨fun c u q => ?_, fun c u q => ?_, by rw [List.length_set]; exact R.len, fun j ob q => ?_, R.fg, fun j oi c e1 e2 => ?_, fun j l oi oj c e1 e2 e3 e4 => ?_⟩
  · rw [upd_ne (ne_of_none q h3)]
    exact R.ex c u q
  · rw [upd_ne (ne_of_none q (R.gn i o a e ea))]
    exact R.gx c u q
  · rcases set_some q with ⟨rfl, z⟩ | ⟨z, w⟩
    · cases z
      exact ⟨a, h', ea, upd_same, h3, k⟩
    · obtain ⟨b, g, g1, g2, g3, g4⟩ := R.obj j ob w
      have n : b ≠ a := fun y => z (by subst y; exact R.inj i j o ob b e w ea g1)
      exact ⟨b, g, g1, by rw [upd_ne n]; exact g2, g3, g4⟩
  · obtain ⟨q1, z1⟩ := live e1
    exact R.gn j q1 c z1 e2
  · obtain ⟨q1, z1⟩ := live e1
    obtain ⟨q2, z2⟩ := live e2
    exact R.inj j l q1 q2 c z1 z2 e3 e4
theorem Rel0.frz (R : Rel0 K G F H α ς) {i : Nat} {o : O} {a : Addr} {h : HO} (e : ς[i]? = some (some o)) (ea : α[i]? = some a) (eh : H a = some h) : Rel0 K G (upd F a h) H α (ς.set i none) ∧ Ext F α (upd F a h) α := by
  obtain ⟨b, g, h1, h2, h3, h4⟩ := R.obj i o e
  rw [ea] at h1
  cases h1
  refine ⟨⟨fun c u q => ?_, R.gx, by rw [List.length_set]; exact R.len, fun j ob q => ?_, fun b u q => by rw [upd_ne (fun z => by subst z; rw [R.gn i o b e ea] at q; cases q)]; exact R.fg b u q, fun j oi c e1 e2 => ?_, fun j l oi oj c e1 e2 e3 e4 => ?_⟩, ⟨same_upd h3, List.prefix_refl α⟩⟩
  · by_cases z : c = a
    · subst z
      rw [upd_same] at q
      rw [eh]
      exact q
    · rw [upd_ne z] at q
      exact R.ex c u q
  · rcases set_some q with ⟨rfl, z⟩ | ⟨z, w⟩
    · cases z
    · obtain ⟨b, g, g1, g2, g3, g4⟩ := R.obj j ob w
      have n : b ≠ a := fun y => z (by subst y; exact R.inj i j o ob b e w ea g1)
      exact ⟨b, g, g1, g2, by rw [upd_ne n]; exact g3, g4.mono (same_upd h3) (List.prefix_refl α)⟩
  · rcases set_some e1 with ⟨_, z⟩ | ⟨_, w1⟩
    · cases z
    · exact R.gn j oi c w1 e2
  · rcases set_some e1 with ⟨_, z⟩ | ⟨_, w1⟩
    · cases z
    · rcases set_some e2 with ⟨_, z⟩ | ⟨_, w2⟩
      · cases z
      · exact R.inj j l oi oj c w1 w2 e3 e4
/-- a further thing that stands -/
theorem Rel0.track (R : Rel0 K G F H α ς) {p : Addr} (hp : H p = none) (o : HO) : Rel0 K (upd G p o) F (upd H p o) α ς := by
  refine ⟨fun a u e => ?_, fun a u e => ?_, R.len, fun i ob e => ?_, fun a u e => ?_, fun i oi a e1 e2 => ?_, R.inj⟩
  · rw [upd_ne (ne_of_none (R.ex a u e) hp)]
    exact R.ex a u e
  · by_cases q : a = p
    · subst q
      rw [upd_same] at e ⊢
      exact e
    · rw [upd_ne q] at e ⊢
      exact R.gx a u e
  · obtain ⟨a, h, h1, h2, h3, h4⟩ := R.obj i ob e
    exact ⟨a, h, h1, by rw [upd_ne (ne_of_none h2 hp)]; exact h2, h3, h4⟩
  · by_cases q : a = p
    · subst q
      exact R.ex.free hp
    · rw [upd_ne q] at e
      exact R.fg a u e
  · obtain ⟨b, h, h1, h2, h3, h4⟩ := R.obj i oi e1
    rw [e2] at h1
    cases h1
    rw [upd_ne (ne_of_none h2 hp)]
    exact R.gn i oi a e1 e2
/-- it changes -/
theorem Rel0.retrack {p : Addr} {o o' : HO} (R : Rel0 K (upd G p o) F H α ς) : Rel0 K (upd G p o') F (upd H p o') α ς := by
  have fp : F p = none := R.fg p o upd_same
  have live : ∀ (i : Nat) (ob : O) (a : Addr), ς[i]? = some (some ob) → α[i]? = some a → a ≠ p := fun i ob a e1 e2 z => by
    subst z
    have := R.gn i ob a e1 e2
    rw [upd_same] at this
    cases this
  refine ⟨fun a u e => ?_, fun a u e => ?_, R.len, fun i ob e => ?_, fun a u e => ?_, fun i oi a e1 e2 => ?_, R.inj⟩
  · rw [upd_ne (ne_of_none e fp)]
    exact R.ex a u e
  · by_cases q : a = p
    · subst q
      rw [upd_same] at e ⊢
      exact e
    · rw [upd_ne q] at e ⊢
      exact R.gx a u (by rw [upd_ne q]; exact e)
  · obtain ⟨a, h, h1, h2, h3, h4⟩ := R.obj i ob e
    exact ⟨a, h, h1, by rw [upd_ne (live i ob a e h1)]; exact h2, h3, h4⟩
  · by_cases q : a = p
    · subst q
      exact fp
    · exact R.fg a u (by rw [upd_ne q] at e ⊢; exact e)
  · have n := live i oi a e1 e2
    have z := R.gn i oi a e1 e2
    rw [upd_ne n] at z ⊢
    exact z
theorem Rel0.untrack {p : Addr} {o : HO} (R : Rel0 K (upd G p o) F H α ς) (gp : G p = none) : Rel0 K G F H α ς := by
  have up : ∀ {a : Addr} {u : HO}, G a = some u → upd G p o a = some u := fun {a u} e => by
    rw [upd_ne (ne_of_none e gp)]
    exact e
  refine ⟨R.ex, fun a u e => R.gx a u (up e), R.len, R.obj, fun a u e => R.fg a u (up e), fun i oi a e1 e2 => ?_, R.inj⟩
  have z := R.gn i oi a e1 e2
  cases q : G a with
  | none => rfl
  | some u => rw [up q] at z; cases z
/-- it is kept for good -/
theorem Rel0.settle {p : Addr} {o : HO} (R : Rel0 K (upd G p o) F H α ς) (gp : G p = none) : Rel0 K G (upd F p o) H α ς ∧ Ext F α (upd F p o) α := by
  have fp : F p = none := R.fg p o upd_same
  have hp : H p = some o := R.gx p o upd_same
  have U := R.untrack gp
  refine ⟨⟨fun a u e => ?_, U.gx, U.len, fun i ob e => ?_, fun a u e => ?_, U.gn, U.inj⟩, ⟨same_upd fp, List.prefix_refl α⟩⟩
  · by_cases q : a = p
    · subst q
      rw [upd_same] at e
      rw [hp]
      exact e
    · rw [upd_ne q] at e
      exact R.ex a u e
  · obtain ⟨a, h, h1, h2, h3, h4⟩ := U.obj i ob e
    have n : a ≠ p := fun z => by
      subst z
      have := R.gn i ob a e h1
      rw [upd_same] at this
      cases this
    exact ⟨a, h, h1, h2, by rw [upd_ne n]; exact h3, h4.mono (same_upd fp) (List.prefix_refl α)⟩
  · rw [upd_ne (ne_of_none e gp)]
    exact U.fg a u e
/-- it is kept, to be changed -/
theorem Rel0.adopt {p : Addr} {o : HO} {ob : O} (R : Rel0 K (upd G p o) F H α ς) (gp : G p = none) (k : HObj K F α o ob) : Rel0 K G F H (α ++ [p]) (ς ++ [some ob]) := by
  have fp : F p = none := R.fg p o upd_same
  have hp : H p = some o := R.gx p o upd_same
  have U := R.untrack gp
  have len := R.len
  have notp : ∀ {i : Nat} {oi : O} {a : Addr}, ς[i]? = some (some oi) → α[i]? = some a → a ≠ p := fun {i oi a} e1 e2 z => by
    subst z
    have := R.gn i oi a e1 e2
    rw [upd_same] at this
    cases this
  have low : ∀ {i : Nat} {oi : O}, (ς ++ [some ob])[i]? = some (some oi) → (i < ς.length ∧ ς[i]? = some (some oi)) ∨ i = ς.length := fun {i oi} q => by
    by_cases hi : i < ς.length
    · rw [List.getElem?_append_left hi] at q
      exact .inl ⟨hi, q⟩
    · have := (List.getElem?_eq_some_iff.mp q).1
      simp at this
      exact .inr (by omega)
  have back : ∀ {i : Nat} {a : Addr}, i < ς.length → (α ++ [p])[i]? = some a → α[i]? = some a := fun {i a} hi q => by
    rw [List.getElem?_append_left (by rw [len]; exact hi)] at q
    exact q
  have top : ∀ {a : Addr}, (α ++ [p])[ς.length]? = some a → a = p := fun {a} w => by
    rw [← len] at w
    simp at w
    exact w.symm
  refine ⟨U.ex, U.gx, by simp [len], fun i oi e => ?_, U.fg, fun i oi a e1 e2 => ?_, fun i j oi oj a e1 e2 e3 e4 => ?_⟩
  · rcases low e with ⟨l, q⟩ | q
    · obtain ⟨a, g, h1, h2, h3, h4⟩ := U.obj i oi q
      exact ⟨a, g, pre_get (pre_app α p) h1, h2, h3, h4.mono (Same.refl F) (pre_app α p)⟩
    · subst q
      simp at e
      subst e
      exact ⟨p, o, by rw [← len]; simp, hp, fp, k.mono (Same.refl F) (pre_app α p)⟩
  · rcases low e1 with ⟨l, q⟩ | q
    · exact U.gn i oi a q (back l e2)
    · subst q
      rw [top e2]
      exact gp
  · rcases low e1 with ⟨l1, q1⟩ | q1 <;> rcases low e2 with ⟨l2, q2⟩ | q2
    · exact U.inj i j oi oj a q1 q2 (back l1 e3) (back l2 e4)
    · subst q2
      exact absurd (top e4) (notp q1 (back l1 e3))
    · subst q1
      exact absurd (top e3) (notp q2 (back l2 e4))
    · omega
/-- the store's older part alone -/
theorem Rel0.cut (R : Rel0 K G F H α ς) {α0 : List Addr} (p : α0 <+: α) (hf : ∀ (i : Nat) (h : HO) (o : O), i < α0.length → ς[i]? = some (some o) → HObj K F α h o → HObj K F α0 h o) : Rel0 K G F H α0 (ς.take α0.length) := by
  have low : ∀ {i : Nat} {o : O}, (ς.take α0.length)[i]? = some (some o) → i < α0.length ∧ ς[i]? = some (some o) := fun {i o} q => by
    have hl := (List.getElem?_eq_some_iff.mp q).1
    rw [List.length_take] at hl
    have hi : i < α0.length := by omega
    rw [List.getElem?_take_of_lt hi] at q
    exact ⟨hi, q⟩
  have pl : α0.length ≤ α.length := p.length_le
  have back : ∀ {i : Nat} {a : Addr}, i < α0.length → α[i]? = some a → α0[i]? = some a := fun {i a} hi q => by
    obtain ⟨t, rfl⟩ := p
    rw [List.getElem?_append_left hi] at q
    exact q
  refine ⟨R.ex, R.gx, by rw [List.length_take, ← R.len]; omega, fun i o q => ?_, R.fg, fun i oi a e1 e2 => R.gn i oi a (low e1).2 (pre_get p e2), fun i j oi oj a e1 e2 e3 e4 => ?_⟩
  · obtain ⟨hi, w⟩ := low q
    obtain ⟨a, h, h1, h2, h3, h4⟩ := R.obj i o w
    exact ⟨a, h, back hi h1, h2, h3, hf i h o hi w h4⟩
  · exact R.inj i j oi oj a (low e1).2 (low e2).2 (pre_get p e3) (pre_get p e4)
end
end DL

/-! from DL2.lean -/
set_option Elab.async false
set_option linter.all false
set_option maxRecDepth 100000
set_option maxHeartbeats 2000000
namespace DL
open PySem L2

/-! ### functions of data -/
structure S where
  e : List (Option D)
  s : Store
inductive Out (β : Type) where
  | ok (b : β) (s : S)
  | exc (C : Addr) (fs : List (Str × D)) (ς : Store)
abbrev M (β : Type) := S → Option (Out β)
def ret {β : Type} (b : β) : M β := fun s => some (.ok b s)
def fail {β : Type} : M β := fun _ => none
def bnd {β γ : Type} (m : M β) (f : β → M γ) : M γ := fun s => match m s with
  | none => none
  | some (.exc C fs ς) => some (.exc C fs ς)
  | some (.ok b s') => f b s'
def ite' {β : Type} (b : Bool) (m n : M β) : M β := fun s => match b with
  | true => m s
  | false => n s

structure RelS (K : Frg) (G F H : Hp) (α : List Addr) (σ : L2.St) (s : S) : Prop where
  st : Rel0 K G F H α s.s
  len : s.e.length = σ.length
  sl : ∀ (i : Nat) (d : D), s.e[i]? = some (some d) → ∃ v, σ[i]? = some (some v) ∧ Has K F α v d

/-- an exception's own dict, and what it holds -/
def ExcAt (K : Frg) (F : Hp) (α : List Addr) (od : Option Addr) (fs : List (Str × D)) : Prop :=
  match od with
  | none => fs = []
  | some d => ∃ xs, F d = some (.xd xs) ∧ xs.map (·.1) = fs.map (·.1) ∧ HasL K F α (xs.map (·.2)) (fs.map (·.2))

def Wp (K : Frg) (G : Hp) (E : XK) (F : Hp) (α : List Addr) {β : Type} (out : Option (Out β)) (P : Hp → List Addr → Hp → β → S → Prop) : Prop :=
  match out with
  | none => False
  | some (.exc C fs ς) => ∀ F' α' H' od, Ext F α F' α' → Rel0 K G F' H' α' ς → ExcAt K F' α' od fs → E (.ref C) od H'
  | some (.ok b s') => ∀ F' α' H', Ext F α F' α' → P F' α' H' b s'
theorem Wp.bind {K : Frg} {E : XK} {F : Hp} {α : List Addr} {β γ : Type} {m : M β} {f : β → M γ} {s : S} {P : Hp → List Addr → Hp → γ → S → Prop} (h : Wp K G E F α (bnd m f s) P) :
    Wp K G E F α (m s) (fun F1 α1 _ b s1 => Wp K G E F1 α1 (f b s1) P) := by
  unfold bnd at h
  cases q : m s with
  | none => rw [q] at h; exact h
  | some o =>
    rw [q] at h
    cases o with
    | exc C fs ς => exact h
    | ok b s1 =>
      intro F1 α1 H1 x
      show Wp K G E F1 α1 (f b s1) P
      have h : Wp K G E F α (f b s1) P := h
      cases z : f b s1 with
      | none => rw [z] at h; exact h
      | some o =>
        rw [z] at h
        cases o with
        | exc C fs ς => exact fun F' α' H' od y => h F' α' H' od (x.trans y)
        | ok c s2 => exact fun F' α' H' y => h F' α' H' (x.trans y)
theorem Wp.mono {K : Frg} {E : XK} {F : Hp} {α : List Addr} {β : Type} {out : Option (Out β)} {P P' : Hp → List Addr → Hp → β → S → Prop} (h : Wp K G E F α out P) (k : ∀ F' α' H' b s', Ext F α F' α' → P F' α' H' b s' → P' F' α' H' b s') : Wp K G E F α out P' := by
  unfold Wp at h ⊢
  cases out with
  | none => exact h
  | some o =>
    cases o with
    | exc C fs ς => exact h
    | ok b s' => exact fun F' α' H' x => k F' α' H' b s' x (h F' α' H' x)
/-- a smaller ground -/
theorem Wp.ext {K : Frg} {E : XK} {F F1 : Hp} {α α1 : List Addr} {β : Type} {out : Option (Out β)} {P : Hp → List Addr → Hp → β → S → Prop} (h : Wp K G E F α out P) (x : Ext F α F1 α1) : Wp K G E F1 α1 out P := by
  unfold Wp at h ⊢
  cases out with
  | none => exact h
  | some o =>
    cases o with
    | exc C fs ς => exact fun F' α' H' od y => h F' α' H' od (x.trans y)
    | ok b s' => exact fun F' α' H' y => h F' α' H' (x.trans y)

/-! ### readings -/
def pV (K : Frg) (G : Hp) (σ : L2.St) (Q : VK) : Hp → List Addr → Hp → D → S → Prop := fun F' α' H' d s' => ∀ v, RelS K G F' H' α' σ s' → Has K F' α' v d → Q v H'
def pB (K : Frg) (G : Hp) (σ : L2.St) (Q : Bool → Hp → Prop) : Hp → List Addr → Hp → Bool → S → Prop := fun F' α' H' b s' => RelS K G F' H' α' σ s' → Q b H'
def pA (K : Frg) (G : Hp) (σ : L2.St) (Q : List V → Hp → Prop) : Hp → List Addr → Hp → List D → S → Prop := fun F' α' H' ds s' => ∀ vs, RelS K G F' H' α' σ s' → HasL K F' α' vs ds → Q vs H'
inductive Fl where
  | nx | rt (d : D) | bk | ct
def pS (K : Frg) (G : Hp) (D : Ends) : Hp → List Addr → Hp → Fl → S → Prop := fun F' α' H' fl s' => match fl with
  | .nx => ∀ σ', RelS K G F' H' α' σ' s' → D.nx σ' H'
  | .rt d => ∀ v, Rel0 K G F' H' α' s'.s → Has K F' α' v d → D.rt v H'
  | .bk => ∀ σ', RelS K G F' H' α' σ' s' → D.bk σ' H'
  | .ct => ∀ σ', RelS K G F' H' α' σ' s' → D.ct σ' H'
def rE (K : Frg) (E : XK) (m : M D) : TE := fun σ H Q => ∃ G F α s, RelS K G F H α σ s ∧ Wp K G E F α (m s) (pV K G σ Q)
def rT (K : Frg) (E : XK) (m : M Bool) : TT := fun σ H Q => ∃ G F α s, RelS K G F H α σ s ∧ Wp K G E F α (m s) (pB K G σ Q)
def rA (K : Frg) (E : XK) (m : M (List D)) : TA := fun σ H Q => ∃ G F α s, RelS K G F H α σ s ∧ Wp K G E F α (m s) (pA K G σ Q)
def rS (K : Frg) (E : XK) (m : M Fl) : TS := fun D σ H => ∃ G F α s, RelS K G F H α σ s ∧ Wp K G E F α (m s) (pS K G D)

section
variable {X : Cx} {e : Expr} {st : Stmt} {sts : List Stmt} {es : List Expr}
theorem PE.weak {t t' : TE} (h : PE X e t) (k : ∀ σ H Q, t' σ H Q → t σ H Q) : PE X e t' := ⟨fun pins s σ H Q I q => h.run pins s σ H Q I (k σ H Q q)⟩
theorem PT.weak {t t' : TT} (h : PT X e t) (k : ∀ σ H Q, t' σ H Q → t σ H Q) : PT X e t' := ⟨fun pins s σ H Q I q => h.run pins s σ H Q I (k σ H Q q)⟩
theorem PW.weak {t t' : TT} (h : PW X e t) (k : ∀ σ H Q, t' σ H Q → t σ H Q) : PW X e t' := ⟨fun w pins s σ H Q I q => h.run w pins s σ H Q I (k σ H Q q)⟩
theorem PA.weak {t t' : TA} (h : PA X es t) (k : ∀ σ H Q, t' σ H Q → t σ H Q) : PA X es t' := ⟨fun p pins s σ H Q I q => h.run p pins s σ H Q I (k σ H Q q)⟩
theorem PS.weak {t t' : TS} (h : PS X st t) (k : ∀ D σ H, t' D σ H → t D σ H) : PS X st t' := ⟨fun pins s σ H D I q => h.run pins s σ H D I (k D σ H q)⟩
theorem PSs.weak {t t' : TS} (h : PSs X sts t) (k : ∀ D σ H, t' D σ H → t D σ H) : PSs X sts t' := ⟨fun pins s σ H D I q => h.run pins s σ H D I (k D σ H q)⟩
end

/-! ### operations on data: their readings -/
section
variable {K : Frg} {E : XK} {G F H : Hp} {α : List Addr} {σ : L2.St} {s : S} {Q : VK}
theorem fin (h : Wp K G E F α (ret (β := D) d s) (pV K G σ Q)) (R : RelS K G F H α σ s) {v : V} (k : Has K F α v d) : Q v H := h F α H (Ext.refl F α) v R k
theorem RelS.imm (R : RelS K G F H α σ s) {p : Addr} (hp : H p = none) (o : HO) : RelS K G (upd F p o) (upd H p o) α σ s :=
  ⟨R.st.imm hp o, R.len, fun i d e => let ⟨v, h1, h2⟩ := R.sl i d e; ⟨v, h1, h2.ext (R.st.immX hp o)⟩⟩
theorem RelS.new (R : RelS K G F H α σ s) {p : Addr} (hp : H p = none) {h : HO} {o : O} (k : HObj K F α h o) : RelS K G F (upd H p h) (α ++ [p]) σ { s with s := s.s ++ [some o] } :=
  ⟨R.st.new hp k, R.len, fun i d e => let ⟨v, h1, h2⟩ := R.sl i d e; ⟨v, h1, h2.mono (Same.refl F) (pre_app α p)⟩⟩
/-- a new object, kept for good or to be changed -/
def mk (own : Bool) (ds : List D) : M D := fun s => match own with
  | false => some (.ok (.lst ds) s)
  | true => some (.ok (.loc s.s.length) { s with s := s.s ++ [some (.lst ds)] })
theorem fin_lst {own : Bool} {xs : List V} {ds : List D} (h : Wp K G E F α (mk own ds s) (pV K G σ Q)) (R : RelS K G F H α σ s) (k : HasL K F α xs ds) : ∀ p, H p = none → Q (.ref p) (upd H p (.lst xs)) := by
  intro p hp
  cases own with
  | false => exact h _ _ _ (R.st.immX hp (.lst xs)) _ (R.imm hp _) (.lst upd_same (k.ext (R.st.immX hp _)))
  | true =>
    refine h F (α ++ [p]) _ ⟨Same.refl F, pre_app α p⟩ _ (R.new hp (o := .lst ds) k) (.loc ?_)
    rw [← R.st.len]
    simp
theorem fin_tup {xs : List V} {ds : List D} (h : Wp K G E F α (ret (.tup ds) s) (pV K G σ Q)) (R : RelS K G F H α σ s) (k : HasL K F α xs ds) : ∀ p, H p = none → Q (.ref p) (upd H p (.tup xs)) := by
  intro p hp
  exact h _ _ _ (R.st.immX hp (.tup xs)) _ (R.imm hp _) (.tup (SqT.of upd_same) (k.ext (R.st.immX hp _)))

/-- a sequence's kind (true: a list) and items -/
def seqD (ς : Store) : D → Option (Bool × List D)
  | .lst ds => some (true, ds)
  | .rdl ds => some (true, ds)
  | .tup ds => some (false, ds)
  | .loc i => match ς[i]? with
    | some (some (.lst ds)) => some (true, ds)
    | _ => none
  | _ => none
theorem HObj.lst {h : HO} {ds : List D} (k : HObj K F α h (.lst ds)) : ∃ xs, h = .lst xs ∧ HasL K F α xs ds := by
  cases h <;> simp only [HObj] at k
  exact ⟨_, rfl, k⟩
theorem seq_at (R : Rel0 K G F H α ς) {v : V} {d : D} {b : Bool} {ds : List D} (h : Has K F α v d) (e : seqD ς d = some (b, ds)) : ∃ a xs, v = .ref a ∧ HasL K F α xs ds ∧ (b = true → SqL K H a xs) ∧ (b = false → SqT K H a xs) := by
  cases h <;> simp only [seqD] at e <;> try (cases e; done)
  · cases e
    rename_i a xs h1 h2
    exact ⟨a, xs, rfl, h2, fun _ => SqL.of (R.ex _ _ h1), fun z => by cases z⟩
  · cases e
    rename_i a xs h1 h2
    exact ⟨a, xs, rfl, h2, fun _ => R.ex.seq h1, fun z => by cases z⟩
  · cases e
    rename_i a xs h1 h2
    refine ⟨a, xs, rfl, h2, (fun z => by cases z), fun _ => ?_⟩
    rcases h1 with (h | ⟨o, h⟩) | h
    · exact .inl (.inl (R.ex _ _ h))
    · exact .inl (.inr ⟨o, R.ex _ _ h⟩)
    · exact .inr h
  · rename_i a i ha
    split at e
    · rename_i ds' q
      cases e
      obtain ⟨a', h, h1, h2, h3, h4⟩ := R.obj i _ q
      rw [ha] at h1
      cases h1
      obtain ⟨xs, rfl, h5⟩ := h4.lst
      exact ⟨a, xs, rfl, h5, fun _ => SqL.of h2, fun z => by cases z⟩
    · cases e
/-- a list that stands by itself -/
def lstD (ς : Store) : D → Option (List D)
  | .lst ds => some ds
  | .loc i => match ς[i]? with
    | some (some (.lst ds)) => some ds
    | _ => none
  | _ => none
theorem lst_at (R : Rel0 K G F H α ς) {v : V} {d : D} {ds : List D} (h : Has K F α v d) (e : lstD ς d = some ds) : ∃ a xs, v = .ref a ∧ HasL K F α xs ds ∧ H a = some (.lst xs) := by
  cases h <;> simp only [lstD] at e <;> try (cases e; done)
  · cases e
    rename_i a xs h1 h2
    exact ⟨a, xs, rfl, h2, R.ex _ _ h1⟩
  · rename_i a i ha
    split at e
    · rename_i ds' q
      cases e
      obtain ⟨a', h, h1, h2, h3, h4⟩ := R.obj i _ q
      rw [ha] at h1
      cases h1
      obtain ⟨xs, rfl, h5⟩ := h4.lst
      exact ⟨a, xs, rfl, h5, h2⟩
    · cases e
end

/-- what a two-place reading does on data -/
def Sp2 (K : Frg) (E : XK) (r : R2) (f : D → D → M D) : Prop := ∀ (G F H : Hp) (α : List Addr) (σ : L2.St) (s : S) (x y : V) (d e : D) (Q : VK), RelS K G F H α σ s → Has K F α x d → Has K F α y e → Wp K G E F α (f d e s) (pV K G σ Q) → r x y H Q
def Sp1 (K : Frg) (E : XK) (r : V → Hp → VK → Prop) (f : D → M D) : Prop := ∀ (G F H : Hp) (α : List Addr) (σ : L2.St) (s : S) (x : V) (d : D) (Q : VK), RelS K G F H α σ s → Has K F α x d → Wp K G E F α (f d s) (pV K G σ Q) → r x H Q
def SpA (K : Frg) (E : XK) (r : List V → Hp → VK → Prop) (f : List D → M D) : Prop := ∀ (G F H : Hp) (α : List Addr) (σ : L2.St) (s : S) (xs : List V) (ds : List D) (Q : VK), RelS K G F H α σ s → HasL K F α xs ds → Wp K G E F α (f ds s) (pV K G σ Q) → r xs H Q
def SpM (K : Frg) (E : XK) (r : V → List V → Hp → VK → Prop) (f : D → List D → M D) : Prop := ∀ (G F H : Hp) (α : List Addr) (σ : L2.St) (s : S) (x : V) (d : D) (xs : List V) (ds : List D) (Q : VK), RelS K G F H α σ s → Has K F α x d → HasL K F α xs ds → Wp K G E F α (f d ds s) (pV K G σ Q) → r x xs H Q

section
variable {X : Cx} {E : XK} {e a b : Expr} {es : List Expr} {pos : Pos}
abbrev DE (X : Cx) (E : XK) (e : Expr) (m : M D) : Prop := PE X e (rE X.K E m)
abbrev DT (X : Cx) (E : XK) (e : Expr) (m : M Bool) : Prop := PT X e (rT X.K E m)
abbrev DW (X : Cx) (E : XK) (e : Expr) (m : M Bool) : Prop := PW X e (rT X.K E m)
abbrev DA (X : Cx) (E : XK) (es : List Expr) (m : M (List D)) : Prop := PA X es (rA X.K E m)
abbrev DS (X : Cx) (E : XK) (st : Stmt) (m : M Fl) : Prop := PS X st (rS X.K E m)
abbrev DSs (X : Cx) (E : XK) (sts : List Stmt) (m : M Fl) : Prop := PSs X sts (rS X.K E m)

def name (i : Nat) : M D := fun s => match s.e[i]? with
  | some (some d) => some (.ok d s)
  | _ => none
theorem d_name (i : Nat) {x : Str} (hN : X.N[i]? = some x := by rfl) (hv : Vis X.env.scope x := by first | exact Or.inl rfl | exact Or.inr (Or.inl rfl) | exact Or.inr (Or.inr rfl)) (hd : (x == ("__debug__" : Str)) = false := by decide)
    (hcd : (x == ("__classdict__" : Str)) = false := by decide) : DE X E (.Name x pos) (name i) := by
  refine PE.weak (pe_var hN hv hd hcd) fun σ H Q ⟨G, F, α, s, R, h⟩ => ?_
  unfold name at h
  split at h
  · rename_i d q
    obtain ⟨v, h1, h2⟩ := R.sl i d q
    exact ⟨v, h1, fin h R h2⟩
  · exact h.elim
theorem d_c {v : V} {d : D} (hp : PE X e (tC v)) (hv : ∀ F α, Has X.K F α v d) : DE X E e (ret d) :=
  PE.weak hp fun σ H Q ⟨G, F, α, s, R, h⟩ => fin h R (hv F α)
theorem d_int {i : Int} {j} : DE X E (.Constant (.int i) j pos) (ret (.int i)) := d_c pe_int fun _ _ => .int i
theorem d_bl {b : Bool} {j} : DE X E (.Constant (.bool b) j pos) (ret (.bl b)) := d_c pe_bl fun _ _ => .bl b
theorem d_non {j} : DE X E (.Constant .none j pos) (ret .non) := d_c pe_non fun _ _ => .non
theorem d_str {x : Str} {j} : DE X E (.Constant (.str x) j pos) (ret (.str x)) := d_c pe_str fun _ _ => .str x

/-! two places -/
def op2 (f : D → D → M D) (ma mb : M D) : M D := bnd ma fun x => bnd mb fun y => f x y
theorem r_op2 {K : Frg} {r : R2} {f : D → D → M D} (hr : Sp2 K E r f) {ma mb : M D} : ∀ σ H Q, rE K E (op2 f ma mb) σ H Q → tOp r (rE K E ma) (rE K E mb) σ H Q := by
  rintro σ H Q ⟨G, F, α, s, R, h⟩
  refine ⟨G, F, α, s, R, h.bind.mono fun F1 α1 H1 d s1 x1 h1 v R1 k1 => ?_⟩
  refine ⟨G, F1, α1, s1, R1, h1.bind.mono fun F2 α2 H2 e2 s2 x2 h2 w R2 k2 => ?_⟩
  exact hr G F2 H2 α2 σ s2 v w d e2 Q R2 (k1.ext x2) k2 h2
theorem d_op {op : Operator} {r : R2} {f : D → D → M D} {ma mb : M D} (ho : OpR X (binaryOp op) r) (hr : Sp2 X.K E r f) (ha : DE X E a ma) (hb : DE X E b mb) : DE X E (.BinOp a op b pos) (op2 f ma mb) :=
  PE.weak (pe_op ho ha hb) (r_op2 hr)
theorem d_cmp {op : CmpOp} {r : R2} {f : D → D → M D} {ma mb : M D} (ho : OpR X (compareOp op) r) (hr : Sp2 X.K E r f) (ha : DE X E a ma) (hb : DE X E b mb) (hm : behindInMarks op b = false) : DE X E (.Compare a [op] [b] pos) (op2 f ma mb) :=
  PE.weak (pe_cmpR ho ha hb hm) (r_op2 hr)
theorem d_ix {r : R2} {f : D → D → M D} {ma mb : M D} (ho : IxR X r) (hr : Sp2 X.K E r f) (ha : DE X E a ma) (hb : DE X E b mb) (hs : PlainIx b) : DE X E (.Subscript a b pos) (op2 f ma mb) :=
  PE.weak (pe_ix ho ha hb hs) (r_op2 hr)
/-- a test that is a bool's value -/
def tst (m : M D) : M Bool := bnd m fun d => match d with
  | .bl b => ret b
  | _ => fail
theorem r_tst {K : Frg} {m : M D} {σ : L2.St} {H : Hp} {Q : Bool → Hp → Prop} (h : rT K E (tst m) σ H Q) : rE K E m σ H fun x H' => ∃ k, x = .bl k ∧ Q k H' := by
  obtain ⟨G, F, α, s, R, h⟩ := h
  refine ⟨G, F, α, s, R, h.bind.mono fun F1 α1 H1 d s1 x1 h1 v R1 k1 => ?_⟩
  cases k1 <;> first | exact h1.elim | skip
  rename_i b
  exact ⟨b, rfl, h1 F1 α1 H1 (Ext.refl _ _) R1⟩
theorem d_tcmp {op : CmpOp} {r : R2} {f : D → D → M D} {ma mb : M D} (ho : OpR X (compareOp op) r) (hr : Sp2 X.K E r f) (ha : DE X E a ma) (hb : DE X E b mb) (hm : behindInMarks op b = false) : DT X E (.Compare a [op] [b] pos) (tst (op2 f ma mb)) :=
  PT.weak (pt_cmpR ho ha hb hm) fun σ H Q h => r_op2 hr σ H _ (r_tst h)
theorem d_tst {m : M D} (h : DE X E e m) (he : ∀ whole, isTrue e X.env whole = (do let v ← whole; standAt e.pos; holding [v] (truthy v)) := by intro _; rfl) : DT X E e (tst m) := by
  refine PT.weak (pt_val h he) fun σ H Q ⟨G, F, α, s, R, h⟩ => ?_
  refine ⟨G, F, α, s, R, h.bind.mono fun F1 α1 H1 d s1 x1 h1 v R1 k1 => ?_⟩
  cases k1 <;> first | exact h1.elim | skip
  rename_i b
  exact ⟨b, rfl, h1 F1 α1 H1 (Ext.refl _ _) R1⟩
def andT (m n : M Bool) : M Bool := bnd m fun b => ite' b n (ret false)
def orT (m n : M Bool) : M Bool := bnd m fun b => ite' b (ret true) n
def notT (m : M Bool) : M Bool := bnd m fun b => ret (!b)
theorem d_and1 {m : M Bool} (h : DT X E a m) : DW X E (.BoolOp .And [a] pos) m := pw_and1 h
theorem d_or1 {m : M Bool} (h : DT X E a m) : DW X E (.BoolOp .Or [a] pos) m := pw_or1 h
theorem d_and {m n : M Bool} (h : DT X E a m) (k : DW X E (.BoolOp .And (b :: es) pos) n) : DW X E (.BoolOp .And (a :: b :: es) pos) (andT m n) := by
  refine PW.weak (pw_and h k) fun σ H Q ⟨G, F, α, s, R, h⟩ => ?_
  refine ⟨G, F, α, s, R, h.bind.mono fun F1 α1 H1 c s1 x1 h1 R1 => ?_⟩
  cases c with
  | true => exact iteT ⟨G, F1, α1, s1, R1, h1⟩
  | false => exact iteF (h1 F1 α1 H1 (Ext.refl _ _) R1)
theorem d_or {m n : M Bool} (h : DT X E a m) (k : DW X E (.BoolOp .Or (b :: es) pos) n) : DW X E (.BoolOp .Or (a :: b :: es) pos) (orT m n) := by
  refine PW.weak (pw_or h k) fun σ H Q ⟨G, F, α, s, R, h⟩ => ?_
  refine ⟨G, F, α, s, R, h.bind.mono fun F1 α1 H1 c s1 x1 h1 R1 => ?_⟩
  cases c with
  | true => exact iteT (h1 F1 α1 H1 (Ext.refl _ _) R1)
  | false => exact iteF ⟨G, F1, α1, s1, R1, h1⟩
theorem d_not {m : M Bool} (h : DT X E a m) : DT X E (.UnaryOp .Not a pos) (notT m) := by
  refine PT.weak (pt_not h) fun σ H Q ⟨G, F, α, s, R, h⟩ => ?_
  refine ⟨G, F, α, s, R, h.bind.mono fun F1 α1 H1 c s1 x1 h1 R1 => ?_⟩
  exact h1 F1 α1 H1 (Ext.refl _ _) R1
/-! as values -/
def blOf {β : Type} (d : D) (k : Bool → M β) : M β := match d with
  | .bl b => k b
  | _ => fail
def andV (m n : M D) : M D := bnd m fun d => blOf d fun b => ite' b n (ret (.bl false))
def orV (m n : M D) : M D := bnd m fun d => blOf d fun b => ite' b (ret (.bl true)) n
def notV (m : M D) : M D := bnd m fun d => blOf d fun b => ret (.bl (!b))
theorem d_oneV {op} {m : M D} (h : DE X E a m) : DE X E (.BoolOp op [a] pos) m := pe_one h
theorem d_andV {m n : M D} (h : DE X E a m) (k : DE X E (.BoolOp .And (b :: es) pos) n) : DE X E (.BoolOp .And (a :: b :: es) pos) (andV m n) := by
  refine PE.weak (pe_and h k) fun σ H Q ⟨G, F, α, s, R, h⟩ => ?_
  refine ⟨G, F, α, s, R, h.bind.mono fun F1 α1 H1 d s1 x1 h1 v R1 k1 => ?_⟩
  cases k1 <;> first | exact h1.elim | skip
  rename_i c
  refine ⟨c, rfl, ?_⟩
  cases c with
  | true => exact iteT ⟨G, F1, α1, s1, R1, h1⟩
  | false => exact iteF (fin h1 R1 (.bl false))
theorem d_orV {m n : M D} (h : DE X E a m) (k : DE X E (.BoolOp .Or (b :: es) pos) n) : DE X E (.BoolOp .Or (a :: b :: es) pos) (orV m n) := by
  refine PE.weak (pe_or h k) fun σ H Q ⟨G, F, α, s, R, h⟩ => ?_
  refine ⟨G, F, α, s, R, h.bind.mono fun F1 α1 H1 d s1 x1 h1 v R1 k1 => ?_⟩
  cases k1 <;> first | exact h1.elim | skip
  rename_i c
  refine ⟨c, rfl, ?_⟩
  cases c with
  | true => exact iteT (fin h1 R1 (.bl true))
  | false => exact iteF ⟨G, F1, α1, s1, R1, h1⟩
theorem d_notV {m : M D} (h : DE X E a m) : DE X E (.UnaryOp .Not a pos) (notV m) := by
  refine PE.weak (pe_not h) fun σ H Q ⟨G, F, α, s, R, h⟩ => ?_
  refine ⟨G, F, α, s, R, h.bind.mono fun F1 α1 H1 d s1 x1 h1 v R1 k1 => ?_⟩
  cases k1 <;> first | exact h1.elim | skip
  rename_i c
  exact ⟨c, rfl, fin h1 R1 (.bl (!c))⟩
def ifE (c : M Bool) (m n : M D) : M D := bnd c fun b => ite' b m n
theorem d_ifE {t : Expr} {c : M Bool} {m n : M D} (hc : DT X E t c) (ha : DE X E a m) (hb : DE X E b n) : DE X E (.IfExp t a b pos) (ifE c m n) := by
  refine PE.weak (pe_ifExp hc ha hb) fun σ H Q ⟨G, F, α, s, R, h⟩ => ?_
  refine ⟨G, F, α, s, R, h.bind.mono fun F1 α1 H1 c s1 x1 h1 R1 => ?_⟩
  cases c with
  | true => exact iteT ⟨G, F1, α1, s1, R1, h1⟩
  | false => exact iteF ⟨G, F1, α1, s1, R1, h1⟩
/-! arguments -/
def anil : M (List D) := ret []
def acons (m : M D) (n : M (List D)) : M (List D) := bnd m fun d => bnd n fun ds => ret (d :: ds)
theorem d_anil : DA X E [] anil := PA.weak pa_nil fun σ H Q ⟨G, F, α, s, R, h⟩ => h F α H (Ext.refl _ _) [] R .nil
theorem d_acons {m : M D} {n : M (List D)} (ha : DE X E e m) (hr : DA X E es n) (hs : starEach (e :: es) X.env = (false, eval e X.env) :: starEach es X.env := by rfl) : DA X E (e :: es) (acons m n) := by
  refine PA.weak (pa_cons ha hr hs) fun σ H Q ⟨G, F, α, s, R, h⟩ => ?_
  refine ⟨G, F, α, s, R, h.bind.mono fun F1 α1 H1 d s1 x1 h1 v R1 k1 => ?_⟩
  refine ⟨G, F1, α1, s1, R1, h1.bind.mono fun F2 α2 H2 ds s2 x2 h2 vs R2 k2 => ?_⟩
  exact h2 F2 α2 H2 (Ext.refl _ _) _ R2 (.cons (k1.ext x2) k2)
def small (n : Nat) : Bool := decide (n ≤ 1000000)
theorem small_ok {n : Nat} (h : small n = true) : n ≤ sizeLine := by
  have := of_decide_eq_true h
  have q : sizeLine = 16777216 := sizeLine_eq
  omega
theorem small_lt {n : Nat} (h : small n = true) : n < sizeLine := by
  have := of_decide_eq_true h
  have q : sizeLine = 16777216 := sizeLine_eq
  omega
def guard' {β : Type} (b : Bool) (m : M β) : M β := fun s => match b with
  | true => m s
  | false => none
def tupD (ds : List D) : M D := guard' (small ds.length) (ret (.tup ds))
def lstE (own : Bool) (ds : List D) : M D := guard' (small ds.length) (mk own ds)
theorem wp_guard {K : Frg} {F : Hp} {α : List Addr} {β : Type} {b : Bool} {m : M β} {s : S} {P : Hp → List Addr → Hp → β → S → Prop} (h : Wp K G E F α (guard' b m s) P) : b = true ∧ Wp K G E F α (m s) P := by
  cases b with
  | true => exact ⟨rfl, h⟩
  | false => exact h.elim
theorem d_tup {x1} {n : M (List D)} (h : DA X E es n) : DE X E (.Tuple es x1 pos) (bnd n tupD) := by
  refine PE.weak (pe_tup h) fun σ H Q ⟨G, F, α, s, R, h⟩ => ?_
  refine ⟨G, F, α, s, R, h.bind.mono fun F1 α1 H1 ds s1 x1 h1 vs R1 k1 => ?_⟩
  obtain ⟨g, h2⟩ := wp_guard h1
  exact ⟨by rw [k1.len]; exact small_ok g, fin_tup h2 R1 k1⟩
theorem d_lst (own : Bool) {n : M (List D)} (h : DA X E es n) : DE X E (.List es pos) (bnd n (lstE own)) := by
  refine PE.weak (pe_lst h) fun σ H Q ⟨G, F, α, s, R, h⟩ => ?_
  refine ⟨G, F, α, s, R, h.bind.mono fun F1 α1 H1 ds s1 x1 h1 vs R1 k1 => ?_⟩
  obtain ⟨g, h2⟩ := wp_guard h1
  exact ⟨by rw [k1.len]; exact small_ok g, fin_lst h2 R1 k1⟩
/-! built-ins -/
theorem d_callB {id : String} {x : Str} {p : Pos} {r : List V → Hp → VK → Prop} {f : List D → M D} {n : M (List D)} (hc : CallR X (.builtin id) r) (hr : SpA X.K E r f) (hm : X.mg x = none) (hv : bootBuiltins x = some (.builtin id)) (ha : DA X E (e :: es) n) (hg : Gl X x := by rfl)
    (hn : x ≠ "__name__" := by decide) (hdb : (x == ("__debug__" : Str)) = false := by decide)
    (he : starEach (e :: es) X.env = (false, eval e X.env) :: starEach es X.env := by rfl) (hpl : (backTo pos (starEach es X.env)).any (·.1) = false := by rfl) : DE X E (.Call (.Name x p) (e :: es) [] pos) (bnd n f) := by
  refine PE.weak (pe_callB hc hg hm hv ha hn hdb he hpl) fun σ H Q ⟨G, F, α, s, R, h⟩ => ?_
  refine ⟨G, F, α, s, R, h.bind.mono fun F1 α1 H1 ds s1 x1 h1 vs R1 k1 => ?_⟩
  exact hr G F1 H1 α1 σ s1 vs ds Q R1 k1 h1
theorem d_callTy {T : String} {x : Str} {p : Pos} {r : List V → Hp → VK → Prop} {f : List D → M D} {n : M (List D)} (hc : CallR X (.type T) r) (hr : SpA X.K E r f) (hm : X.mg x = none) (hv : bootBuiltins x = some (.type T)) (ha : DA X E (e :: es) n) (hg : Gl X x := by rfl)
    (hn : x ≠ "__name__" := by decide) (hdb : (x == ("__debug__" : Str)) = false := by decide)
    (he : starEach (e :: es) X.env = (false, eval e X.env) :: starEach es X.env := by rfl) (hpl : (backTo pos (starEach es X.env)).any (·.1) = false := by rfl) : DE X E (.Call (.Name x p) (e :: es) [] pos) (bnd n f) := by
  refine PE.weak (pe_callTy hc hg hm hv ha hn hdb he hpl) fun σ H Q ⟨G, F, α, s, R, h⟩ => ?_
  refine ⟨G, F, α, s, R, h.bind.mono fun F1 α1 H1 ds s1 x1 h1 vs R1 k1 => ?_⟩
  exact hr G F1 H1 α1 σ s1 vs ds Q R1 k1 h1
/-! methods of built-in types -/
def mth (f : D → List D → M D) (m : M D) (n : M (List D)) : M D := bnd m fun d => bnd n fun ds => f d ds
end
end DL

/-! from DL3.lean -/
set_option Elab.async false
set_option linter.all false
set_option maxRecDepth 100000
set_option maxHeartbeats 2000000
namespace DL
open PySem L2
open PyProof.Rows (envOfC)

section
variable {X : Cx} {E : XK} {e a b : Expr} {es : List Expr} {st : Stmt} {sts : List Stmt} {pos : Pos}
def thenF (n : M Fl) (fl : Fl) : M Fl := fun s => match fl with
  | .nx => n s
  | _ => some (.ok fl s)
def sq (m n : M Fl) : M Fl := bnd m (thenF n)
def nxt : M Fl := ret .nx
theorem d_nil : DSs X E [] nxt := PSs.weak pss_nil fun D σ H ⟨G, F, α, s, R, h⟩ => h F α H (Ext.refl _ _) σ R
theorem r_sq {K : Frg} {m n : M Fl} {D : Ends} {σ : L2.St} {H : Hp} (h : rS K E (sq m n) D σ H) : rS K E m { D with nx := rS K E n D } σ H := by
  obtain ⟨G, F, α, s, R, h⟩ := h
  refine ⟨G, F, α, s, R, h.bind.mono fun F1 α1 H1 fl s1 x1 h1 => ?_⟩
  cases fl with
  | nx => exact fun σ' R' => ⟨G, F1, α1, s1, R', h1⟩
  | rt d => exact h1 F1 α1 H1 (Ext.refl _ _)
  | bk => exact h1 F1 α1 H1 (Ext.refl _ _)
  | ct => exact h1 F1 α1 H1 (Ext.refl _ _)
theorem d_cons {m n : M Fl} (h : DS X E st m) (k : DSs X E sts n) : DSs X E (st :: sts) (sq m n) := PSs.weak (pss_cons h k) fun D σ H q => r_sq q
theorem d_one {m : M Fl} (h : DS X E st m) : DSs X E [st] m := pss_one h
theorem d_pass : DS X E (.Pass pos) nxt := PS.weak ps_pass fun D σ H ⟨G, F, α, s, R, h⟩ => h F α H (Ext.refl _ _) σ R
theorem d_break : DS X E (.Break pos) (ret .bk) := PS.weak ps_break fun D σ H ⟨G, F, α, s, R, h⟩ => h F α H (Ext.refl _ _) σ R
theorem d_continue : DS X E (.Continue pos) (ret .ct) := PS.weak ps_continue fun D σ H ⟨G, F, α, s, R, h⟩ => h F α H (Ext.refl _ _) σ R
theorem d_never : DS X E st fail := PS.weak ps_never fun D σ H ⟨G, F, α, s, R, h⟩ => h
def ifS (c : M Bool) (m n : M Fl) : M Fl := bnd c fun b => ite' b m n
theorem d_if {t : Expr} {xs ys : List Stmt} {c : M Bool} {m n : M Fl} (hc : DT X E t c) (ha : DSs X E xs m) (hb : DSs X E ys n) : DS X E (.If t xs ys pos) (ifS c m n) := by
  refine PS.weak (ps_if hc ha hb) fun D σ H ⟨G, F, α, s, R, h⟩ => ?_
  refine ⟨G, F, α, s, R, h.bind.mono fun F1 α1 H1 c s1 x1 h1 R1 => ?_⟩
  cases c with
  | true => exact iteT ⟨G, F1, α1, s1, R1, h1⟩
  | false => exact iteF ⟨G, F1, α1, s1, R1, h1⟩
def retS (m : M D) : M Fl := bnd m fun d => ret (.rt d)
theorem d_ret {m : M D} (h : DE X E e m) : DS X E (.Return (some e) pos) (retS m) := by
  refine PS.weak (ps_ret h) fun D σ H ⟨G, F, α, s, R, h⟩ => ?_
  exact ⟨G, F, α, s, R, h.bind.mono fun F1 α1 H1 d s1 x1 h1 v R1 k1 => h1 F1 α1 H1 (Ext.refl _ _) v R1.st k1⟩
theorem d_retN : DS X E (.Return none pos) (ret (.rt .non)) := PS.weak ps_retN fun D σ H ⟨G, F, α, s, R, h⟩ => h F α H (Ext.refl _ _) .non R.st .non
def exprS (m : M D) : M Fl := bnd m fun _ => nxt
theorem d_expr {m : M D} (h : DE X E e m) (hs : swapsWith e none pos.line X.env = pure false := by rfl) : DS X E (.Expr e pos) (exprS m) := by
  refine PS.weak (ps_expr h hs) fun D σ H ⟨G, F, α, s, R, h⟩ => ?_
  exact ⟨G, F, α, s, R, h.bind.mono fun F1 α1 H1 d s1 x1 h1 v R1 k1 => h1 F1 α1 H1 (Ext.refl _ _) σ R1⟩

/-! ### targets -/
abbrev Tg := D → S → Option S
/-- only the slots js differ -/
structure But (js : List Nat) (σ σ' : L2.St) : Prop where
  len : σ'.length = σ.length
  out : ∀ i, i ∉ js → σ'[i]? = σ[i]?
theorem But.refl (js : List Nat) (σ : L2.St) : But js σ σ := ⟨rfl, fun _ _ => rfl⟩
theorem But.trans {js ks : List Nat} {σ σ1 σ2 : L2.St} (a : But js σ σ1) (b : But ks σ1 σ2) : But (js ++ ks) σ σ2 := ⟨b.len.trans a.len, fun i h => (b.out i fun z => h (List.mem_append_right _ z)).trans (a.out i fun z => h (List.mem_append_left _ z))⟩
def SpG (K : Frg) (t : TG) (g : Tg) (js : List Nat) : Prop := ∀ (G F H : Hp) (α : List Addr) (σ : L2.St) (s : S) (v : V) (d : D) (s' : S) (Q : L2.St → Hp → Prop), RelS K G F H α σ s → Has K F α v d → g d s = some s' → (∀ σ', RelS K G F H α σ' s' → But js σ σ' → Q σ' H) → t v σ H Q
def SpGs (K : Frg) (t : TGs) (g : List D → S → Option S) (js : List Nat) : Prop := ∀ (G F H : Hp) (α : List Addr) (σ : L2.St) (s : S) (vs : List V) (ds : List D) (s' : S) (Q : L2.St → Hp → Prop), RelS K G F H α σ s → HasL K F α vs ds → g ds s = some s' → (∀ σ', RelS K G F H α σ' s' → But js σ σ' → Q σ' H) → t vs σ H Q
structure DG (X : Cx) (e : Expr) (g : Tg) (js : List Nat) (t : TG) : Prop where
  pg : PG X e t
  sp : SpG X.K t g js
structure DGs (X : Cx) (es : List Expr) (g : List D → S → Option S) (js : List Nat) (t : TGs) : Prop where
  pg : PGs X es t
  sp : SpGs X.K t g js
def gset (i : Nat) : Tg := fun d s => some { s with e := s.e.set i (some d) }
theorem set_get {β : Type} {l : List β} {i j : Nat} {x y : β} (h : (l.set i x)[j]? = some y) : (i = j ∧ x = y ∧ i < l.length) ∨ (i ≠ j ∧ l[j]? = some y) := by
  by_cases q : i = j
  · subst q
    by_cases hi : i < l.length
    · rw [List.getElem?_set_self hi] at h
      exact .inl ⟨rfl, Option.some.inj h, hi⟩
    · rw [List.getElem?_eq_none (by simpa using hi)] at h
      cases h
  · rw [List.getElem?_set_ne q] at h
    exact .inr ⟨q, h⟩
theorem RelS.set {K : Frg} {G F H : Hp} {α : List Addr} {σ : L2.St} {s : S} (R : RelS K G F H α σ s) {v : V} {d : D} (k : Has K F α v d) (i : Nat) : RelS K G F H α (σ.set i (some v)) { s with e := s.e.set i (some d) } := by
  refine ⟨R.st, by simp [R.len], fun j d' q => ?_⟩
  rcases set_get q with ⟨rfl, q, hi⟩ | ⟨n, q⟩
  · cases q
    exact ⟨v, List.getElem?_set_self (by rw [← R.len]; exact hi), k⟩
  · obtain ⟨w, h1, h2⟩ := R.sl j d' q
    exact ⟨w, by rw [List.getElem?_set_ne n]; exact h1, h2⟩
theorem But.set (i : Nat) (v : V) (σ : L2.St) : But [i] σ (σ.set i (some v)) := ⟨List.length_set, fun j h => List.getElem?_set_ne (fun z => h (by subst z; exact List.mem_singleton.mpr rfl))⟩
theorem g_name (i : Nat) {x : Str} (hN : X.N.Nodup) (hi : X.N[i]? = some x := by rfl) (hx : Loc X.env.scope x := by first | exact Or.inl rfl | exact Or.inr rfl) (hf : X.fn x = true ∨ X.env.scope.names.lookup x = some .local := by first | exact .inl rfl | exact .inr rfl | assumption) : DG X (.Name x pos) (gset i) [i] (gName i) := by
  refine ⟨pg_name hN hi hx hf, fun G F H α σ s v d s' Q R k e q => ?_⟩
  cases e
  exact q _ (R.set k i) (But.set i v σ)
def gnil : List D → S → Option S := fun ds s => match ds with
  | [] => some s
  | _ => none
def gcons (g : Tg) (r : List D → S → Option S) : List D → S → Option S := fun ds s => match ds with
  | [] => none
  | d :: ds => (g d s).bind (r ds)
theorem g_nil : DGs X [] gnil [] gNil := by
  refine ⟨pgs_nil, fun G F H α σ s vs ds s' Q R k e q => ?_⟩
  cases k with
  | nil => cases e; exact ⟨rfl, q σ R (But.refl _ σ)⟩
  | cons _ _ => cases e
theorem g_cons {g : Tg} {r : List D → S → Option S} {js ks : List Nat} {t : TG} {u : TGs} (h : DG X e g js t) (k : DGs X es r ks u) (hs : (assignEach (e :: es) X.env).map (·.2) = assign e X.env :: (assignEach es X.env).map (·.2) := by rfl) : DGs X (e :: es) (gcons g r) (js ++ ks) (gCons t u) := by
  obtain ⟨h1, h2⟩ := h
  obtain ⟨k1, k2⟩ := k
  refine ⟨pgs_cons h1 k1 hs, fun G F H α σ s vs ds s' Q R k e q => ?_⟩
  cases k with
  | nil => cases e
  | cons hd tl =>
    have e : (g _ s).bind (r _) = some s' := e
    obtain ⟨s1, e1, e2⟩ := Option.bind_eq_some_iff.mp e
    exact ⟨_, _, rfl, h2 G F H α σ s _ _ s1 _ R hd e1 fun σ' R' b1 => k2 G F H α σ' s1 _ _ s' Q R' tl e2 fun σ2 R2 b2 => q σ2 R2 (b1.trans b2)⟩
theorem PG.or {t t' : TG} (h : PG X e t) (h' : PG X e t') : PG X e (fun v σ H Q => t v σ H Q ∨ t' v σ H Q) := ⟨fun pins s σ H v u Q I r q => by
  rcases q with q | q
  · exact h.run pins s σ H v u Q I r q
  · exact h'.run pins s σ H v u Q I r q⟩
def gtup (n : Nat) (r : List D → S → Option S) : Tg := fun d s => match seqD s.s d with
  | some (_, ds) => if ds.length = n then r ds s else none
  | none => none
def gTU (K : Frg) (n : Nat) (u : TGs) : TG := fun v σ H Q => gTup K n u v σ H Q ∨ gUnl K n u v σ H Q
theorem g_tup {k : Nat} {r : List D → S → Option S} {js : List Nat} {u : TGs} (n : Nat) (hc : X.calm = true) (h : DGs X es r js u)
    (hn : (assignEach es X.env).length = n := by rfl) (hst : (assignEach es X.env).findIdx? (·.1) = none := by rfl) : DG X (.Tuple es k pos) (gtup n r) js (gTU X.K n u) := by
  obtain ⟨k1, k2⟩ := h
  refine ⟨DL.PG.or (pg_tup hc k1 hn hst) (pg_unl hc k1 hn hst), fun G F H α σ s v d s' Q R k e q => ?_⟩
  unfold gtup at e
  split at e
  · rename_i kd ds q2
    obtain ⟨a, xs, rfl, hl, h1, h2⟩ := seq_at R.st k q2
    split at e
    · rename_i q3
      have lx : xs.length = n := by rw [hl.len]; exact q3
      cases kd with
      | true => exact .inr ⟨a, xs, rfl, h1 rfl, lx, k2 G F H α σ s xs ds s' Q R hl e q⟩
      | false => exact .inl ⟨a, xs, rfl, h2 rfl, lx, k2 G F H α σ s xs ds s' Q R hl e q⟩
    · cases e
  · cases e
def asg (m : M D) (g : Tg) : M Fl := bnd m fun d s => match g d s with
  | some s' => some (.ok .nx s')
  | none => none
theorem r_asg {K : Frg} {m : M D} {t : TG} {g : Tg} {js : List Nat} (hg : SpG K t g js) {D : Ends} {σ : L2.St} {H : Hp} (h : rS K E (asg m g) D σ H) : tAsg (rE K E m) t D σ H := by
  obtain ⟨G, F, α, s, R, h⟩ := h
  refine ⟨G, F, α, s, R, h.bind.mono fun F1 α1 H1 d s1 x1 h1 v R1 k1 => ?_⟩
  cases e : g d s1 with
  | none => simp only [e] at h1; exact h1.elim
  | some s2 =>
    simp only [e] at h1
    exact hg G F1 H1 α1 σ s1 v d s2 _ R1 k1 e fun σ' R' _ => h1 F1 α1 H1 (Ext.refl _ _) σ' R'
theorem d_asg {tg : Expr} {m : M D} {g : Tg} {js : List Nat} {t : TG} (he : DE X E e m) (hg : DG X tg g js t) (hs : swapsWithSole [tg] e pos.line X.env = pure false := by rfl) (hw : swappedStores [tg] e X.env = pure none := by rfl)
    (h1 : (assignEach [tg] X.env).map (·.2) = [assign tg X.env] := by rfl) : DS X E (.Assign [tg] e pos) (asg m g) :=
  PS.weak (ps_asg he hg.pg hs hw h1) fun D σ H q => r_asg hg.sp q
theorem d_set (i : Nat) {x : Str} {m : M D} {pos' : Pos} (he : DE X E e m) (hN : X.N.Nodup) (hi : X.N[i]? = some x := by rfl) (hx : Loc X.env.scope x := by first | exact Or.inl rfl | exact Or.inr rfl) (hs : swapsWith e (some (.Name x pos')) pos.line X.env = pure false := by rfl) (hf : X.fn x = true ∨ X.env.scope.names.lookup x = some .local := by first | exact .inl rfl | exact .inr rfl | assumption) :
    DS X E (.Assign [.Name x pos'] e pos) (asg m (gset i)) := by
  exact PS.weak (ps_set hN hi hx he hs hf) fun D σ H q => r_asg (g_name (pos := pos') i hN hi hx hf).sp q

/-! ### what is walked -/
/-- J goes over the data ds wherever the facts F stand -/
def Walks (K : Frg) (F : Hp) (α : List Addr) (J : It) (ds : List D) : Prop := ∀ (i : Nat) (F1 H : Hp) (α1 : List Addr), Ext F α F1 α1 → Same F1 H →
  (∀ d, ds[i]? = some d → J.go i H ∧ ∀ x H', J.yld i H x H' → ∃ F2, Ext F1 α1 F2 α1 ∧ (∀ G σ s, RelS K G F1 H α1 σ s → RelS K G F2 H' α1 σ s) ∧ Has K F2 α1 x d) ∧ (ds.length ≤ i → J.stop i H)
def pI (K : Frg) (G : Hp) (σ : L2.St) (Q : It → Hp → Prop) : Hp → List Addr → Hp → List D → S → Prop := fun F' α' H' ds s' => RelS K G F' H' α' σ s' → ∀ J, Walks K F' α' J ds → Q J H'
def rIt (K : Frg) (E : XK) (m : M (List D)) : TI := fun σ H Q => ∃ G F α s, RelS K G F H α σ s ∧ Wp K G E F α (m s) (pI K G σ Q)
abbrev DI (X : Cx) (E : XK) (tg e : Expr) (m : M (List D)) : Prop := PI X tg e (rIt X.K E m)
theorem PI.weak {tg : Expr} {w w' : TI} (h : PI X tg e w) (k : ∀ σ H Q, w' σ H Q → w σ H Q) : PI X tg e w' := ⟨fun pins s σ H R I q => h.run pins s σ H R I (k σ H R q)⟩
theorem PI.or {tg : Expr} {w w' : TI} (h : PI X tg e w) (h' : PI X tg e w') : PI X tg e (fun σ H Q => w σ H Q ∨ w' σ H Q) := ⟨fun pins s σ H R I q => by
  rcases q with q | q
  · exact h.run pins s σ H R I q
  · exact h'.run pins s σ H R I q⟩
/-- a sequence that doesn't change -/
def seqF : D → Option (Bool × List D)
  | .lst ds => some (true, ds)
  | .rdl ds => some (true, ds)
  | .tup ds => some (false, ds)
  | _ => none
theorem seqF_at {K : Frg} {F : Hp} {α : List Addr} {v : V} {d : D} {b : Bool} {ds : List D} (h : Has K F α v d) (e : seqF d = some (b, ds)) : ∃ a xs, v = .ref a ∧ HasL K F α xs ds ∧ (b = true → SqL K F a xs) ∧ (b = false → SqT K F a xs) := by
  cases h <;> simp only [seqF] at e <;> try (cases e; done)
  · cases e
    rename_i a xs h1 h2
    exact ⟨a, xs, rfl, h2, fun _ => SqL.of h1, (fun z => by cases z)⟩
  · cases e
    rename_i a xs h1 h2
    exact ⟨a, xs, rfl, h2, fun _ => h1, (fun z => by cases z)⟩
  · cases e
    rename_i a xs h1 h2
    exact ⟨a, xs, rfl, h2, (fun z => by cases z), fun _ => h1⟩
theorem sqT_seq {K : Frg} {H H' : Hp} {a : Addr} {xs : List V} (e : Same H H') (h : SqT K H a xs) : SqT K H' a xs := by
  rcases h with (h | ⟨o, h⟩) | h
  · exact .inl (.inl (e _ _ h))
  · exact .inl (.inr ⟨o, e _ _ h⟩)
  · exact .inr h
theorem walks_lst {K : Frg} {F : Hp} {α : List Addr} {a : Addr} {xs : List V} {ds : List D} (h : SqL K F a xs) (k : HasL K F α xs ds) : Walks K F α (Itl K a) ds := by
  intro i F1 H α1 x e
  have h1 : SqL K H a xs := e.seq (x.f.seq h)
  refine ⟨fun d q => ?_, fun q => ⟨xs, h1, by rw [k.len]; exact q⟩⟩
  obtain ⟨v, q1, q2⟩ := k.get q
  refine ⟨⟨xs, v, h1, q1⟩, fun y H' z => ?_⟩
  obtain ⟨rfl, z⟩ := z
  have := z xs h1
  rw [q1] at this
  cases this
  exact ⟨F1, Ext.refl _ _, fun _ _ _ R => R, q2.ext x⟩
theorem walks_tup {K : Frg} {F : Hp} {α : List Addr} {a : Addr} {xs : List V} {ds : List D} (h : SqT K F a xs) (k : HasL K F α xs ds) : Walks K F α (Itt K a) ds := by
  intro i F1 H α1 x e
  have h1 : SqT K H a xs := sqT_seq e (sqT_seq x.f h)
  refine ⟨fun d q => ?_, fun q => ⟨xs, h1, by rw [k.len]; exact q⟩⟩
  obtain ⟨v, q1, q2⟩ := k.get q
  refine ⟨⟨xs, v, h1, q1⟩, fun y H' z => ?_⟩
  obtain ⟨rfl, z⟩ := z
  have := z xs h1
  rw [q1] at this
  cases this
  exact ⟨F1, Ext.refl _ _, fun _ _ _ R => R, q2.ext x⟩
def rngL (lo : Int) (n : Nat) : List D := (List.range n).map fun k => .int (lo + (k : Nat))
theorem walks_rng {K : Frg} {F : Hp} {α : List Addr} (lo : Int) (n : Nat) : Walks K F α (Itr lo n) (rngL lo n) := by
  intro i F1 H α1 x e
  have hl : (rngL lo n).length = n := by simp [rngL]
  refine ⟨fun d q => ?_, fun q => by rw [hl] at q; exact q⟩
  have hi : i < n := by rw [← hl]; exact (List.getElem?_eq_some_iff.mp q).1
  refine ⟨hi, fun y H' z => ?_⟩
  obtain ⟨rfl, rfl⟩ := z
  have hd : d = .int (lo + (i : Nat)) := by
    unfold rngL at q
    rw [List.getElem?_map, List.getElem?_range hi] at q
    exact (Option.some.inj q).symm
  subst hd
  exact ⟨F1, Ext.refl _ _, fun _ _ _ R => R, .int _⟩
def seqI (m : M D) : M (List D) := bnd m fun d => match seqF d with
  | some (_, ds) => ret ds
  | none => fail
theorem i_seq {tg : Expr} {m : M D} (h : DE X E e m) : DI X E tg e (seqI m) := by
  refine PI.weak (DL.PI.or (pi_list h) (pi_tup h)) fun σ H Q ⟨G, F, α, s, R, h⟩ => ?_
  have hb := h.bind
  have side : ∀ d s1, m s = some (.ok d s1) → (∃ ds, seqF d = some (true, ds)) ∨ (∃ ds, seqF d = some (false, ds)) := fun d s1 e => by
    rw [e] at hb
    have := hb F α H (Ext.refl _ _)
    dsimp only at this
    cases q : seqF d with
    | none => rw [q] at this; exact this.elim
    | some p =>
      obtain ⟨kd, ds⟩ := p
      cases kd
      · exact .inr ⟨ds, rfl⟩
      · exact .inl ⟨ds, rfl⟩
  have fin : ∀ d s1, m s = some (.ok d s1) → ∀ F1 α1 H1, Ext F α F1 α1 → ∀ v, RelS X.K G F1 H1 α1 σ s1 → Has X.K F1 α1 v d → ∀ kd ds, seqF d = some (kd, ds) → ∃ a xs, v = .ref a ∧ (kd = true → SqL X.K H1 a xs ∧ Q (Itl X.K a) H1) ∧ (kd = false → SqT X.K H1 a xs ∧ Q (Itt X.K a) H1) := fun d s1 e F1 α1 H1 x v R1 k1 kd ds q => by
    rw [e] at hb
    have h1 := hb F1 α1 H1 x
    simp only [q] at h1
    obtain ⟨a, xs, rfl, hl, w1, w2⟩ := seqF_at k1 q
    refine ⟨a, xs, rfl, fun z => ?_, fun z => ?_⟩
    · exact ⟨R1.st.ex.seq (w1 z), h1 F1 α1 H1 (Ext.refl _ _) R1 _ (walks_lst (w1 z) hl)⟩
    · exact ⟨sqT_seq R1.st.ex (w2 z), h1 F1 α1 H1 (Ext.refl _ _) R1 _ (walks_tup (w2 z) hl)⟩
  cases e : m s with
  | none => rw [e] at hb; exact hb.elim
  | some o =>
    cases o with
    | exc C fs ς =>
      refine .inl ⟨G, F, α, s, R, ?_⟩
      rw [e] at hb ⊢
      exact hb
    | ok d s1 =>
      rcases side d s1 e with ⟨ds, q⟩ | ⟨ds, q⟩
      · refine .inl ⟨G, F, α, s, R, ?_⟩
        rw [e]
        intro F1 α1 H1 x v R1 k1
        obtain ⟨a, xs, rfl, w1, w2⟩ := fin d s1 e F1 α1 H1 x v R1 k1 _ ds q
        exact ⟨a, rfl, ⟨xs, (w1 rfl).1⟩, (w1 rfl).2⟩
      · refine .inr ⟨G, F, α, s, R, ?_⟩
        rw [e]
        intro F1 α1 H1 x v R1 k1
        obtain ⟨a, xs, rfl, w1, w2⟩ := fin d s1 e F1 α1 H1 x v R1 k1 _ ds q
        exact ⟨a, rfl, ⟨xs, (w2 rfl).1⟩, (w2 rfl).2⟩
/-- told so that the kernel never counts down from a great literal -/
def intIn (lo hi : Nat) : Int → Bool
  | .ofNat n => Nat.ble n hi
  | .negSucc n => Nat.ble n lo
theorem intIn_of {lo hi : Nat} {i : Int} (h : intIn lo hi i = true) : -(lo : Int) - 1 ≤ i ∧ i ≤ hi := by
  cases i with
  | ofNat n =>
    have q : n ≤ hi := Nat.le_of_ble_eq_true h
    rw [Int.ofNat_eq_natCast]
    exact ⟨by omega, by omega⟩
  | negSucc n =>
    have q : n ≤ lo := Nat.le_of_ble_eq_true h
    exact ⟨by omega, by omega⟩
theorem intIn_to {lo hi : Nat} {i : Int} (h : -(lo : Int) - 1 ≤ i) (h' : i ≤ hi) : intIn lo hi i = true := by
  cases i with
  | ofNat n =>
    rw [Int.ofNat_eq_natCast] at h'
    exact Nat.ble_eq_true_of_le (by omega)
  | negSucc n =>
    exact Nat.ble_eq_true_of_le (by omega)
def rngB (i : Int) : Bool := intIn 4611686018427387903 4611686018427387903 i
theorem two62 : (2 : Int) ^ 62 = 4611686018427387904 := by decide
theorem rngB_ok {i : Int} (h : rngB i = true) : -(2 ^ 62) ≤ i ∧ i < 2 ^ 62 := by
  have q := intIn_of h
  rw [two62]
  exact ⟨by omega, by omega⟩
def rng1 (n : M (List D)) : M (List D) := bnd n fun ds => match ds with
  | [.int j] => guard' (rngB j) (ret (rngL 0 j.toNat))
  | _ => fail
def rng2 (n : M (List D)) : M (List D) := bnd n fun ds => match ds with
  | [.int i, .int j] => guard' (rngB i && rngB j) (ret (rngL i (j - i).toNat))
  | _ => fail
theorem i_rng1 {tg : Expr} {n : M (List D)} {p : Pos} (hm : X.mg "range" = none) (ha : DA X E [a] n) (hg : Gl X "range" := by rfl) (hs : starEach [a] X.env = [(false, eval a X.env)] := by rfl) : DI X E tg (.Call (.Name "range" p) [a] [] pos) (rng1 n) := by
  refine PI.weak (pi_range1 hg hm ha hs) fun σ H Q ⟨G, F, α, s, R, h⟩ => ?_
  refine ⟨G, F, α, s, R, h.bind.mono fun F1 α1 H1 ds s1 x1 h1 vs R1 k1 => ?_⟩
  split at h1
  · rename_i j
    obtain ⟨g, h2⟩ := wp_guard h1
    cases k1 with
    | cons k k' =>
      cases k'
      cases k
      have g := rngB_ok g
      exact ⟨j, rfl, g.1, g.2, h2 F1 α1 H1 (Ext.refl _ _) R1 _ (walks_rng 0 j.toNat)⟩
  · exact h1.elim
theorem i_rng2 {tg : Expr} {n : M (List D)} {p : Pos} (hm : X.mg "range" = none) (ha : DA X E [a, b] n) (hg : Gl X "range" := by rfl) (hs : starEach [a, b] X.env = [(false, eval a X.env), (false, eval b X.env)] := by rfl) (hs2 : starEach [b] X.env = [(false, eval b X.env)] := by rfl) :
    DI X E tg (.Call (.Name "range" p) [a, b] [] pos) (rng2 n) := by
  refine PI.weak (pi_range2 hg hm ha hs hs2) fun σ H Q ⟨G, F, α, s, R, h⟩ => ?_
  refine ⟨G, F, α, s, R, h.bind.mono fun F1 α1 H1 ds s1 x1 h1 vs R1 k1 => ?_⟩
  split at h1
  · rename_i i j
    obtain ⟨g, h2⟩ := wp_guard h1
    cases k1 with
    | cons k k' =>
      cases k' with
      | cons k2 k3 =>
        cases k3
        cases k
        cases k2
        rw [Bool.and_eq_true] at g
        have g1 := rngB_ok g.1
        have g2 := rngB_ok g.2
        exact ⟨i, j, rfl, ⟨g1.1, g1.2, g2.1, g2.2⟩, h2 F1 α1 H1 (Ext.refl _ _) R1 _ (walks_rng i (j - i).toNat)⟩
  · exact h1.elim

/-! ### for -/
def turnF (k : M Fl) (fl : Fl) : M Fl := fun s => match fl with
  | .nx => k s
  | .ct => k s
  | .bk => some (.ok .nx s)
  | .rt d => some (.ok (.rt d) s)
def forD (g : Tg) (body : M Fl) : List D → M Fl
  | [] => nxt
  | d :: ds => fun s => match g d s with
    | some s' => bnd body (turnF (forD g body ds)) s'
    | none => none
def forS (src : M (List D)) (g : Tg) (body : M Fl) : M Fl := bnd src fun ds => forD g body ds
theorem r_turn {K : Frg} {F : Hp} {α : List Addr} {m : M Fl} {k : M Fl} {s : S} {D : Ends} {N : L2.St → Hp → Prop} (h : Wp K G E F α (bnd m (turnF k) s) (pS K G D))
    (hN : ∀ F1 α1 H1 σ1 s1, Ext F α F1 α1 → RelS K G F1 H1 α1 σ1 s1 → Wp K G E F1 α1 (k s1) (pS K G D) → N σ1 H1) : Wp K G E F α (m s) (pS K G { D with nx := N, ct := N, bk := D.nx }) := by
  refine h.bind.mono fun F1 α1 H1 fl s1 x1 h1 => ?_
  cases fl with
  | nx => exact fun σ' R' => hN F1 α1 H1 σ' s1 x1 R' h1
  | ct => exact fun σ' R' => hN F1 α1 H1 σ' s1 x1 R' h1
  | bk => exact fun σ' R' => h1 F1 α1 H1 (Ext.refl _ _) σ' R'
  | rt d => exact h1 F1 α1 H1 (Ext.refl _ _)
theorem r_for {K : Frg} {src : M (List D)} {t : TG} {g : Tg} {js : List Nat} {m : M Fl} (hg : SpG K t g js) {D : Ends} {σ : L2.St} {H : Hp} (h : rS K E (forS src g m) D σ H) : tFor (rIt K E src) t (rS K E m) D σ H := by
  obtain ⟨G, F, α, s, R, h⟩ := h
  refine ⟨G, F, α, s, R, h.bind.mono fun F1 α1 H1 ds s1 x1 h1 R1 J wk => ?_⟩
  refine ⟨fun i n σ' H' => n = ds.length - i ∧ i ≤ ds.length ∧ ∃ F2 α2 s2, Ext F1 α1 F2 α2 ∧ RelS K G F2 H' α2 σ' s2 ∧ Wp K G E F2 α2 (forD g m (ds.drop i) s2) (pS K G D), ⟨ds.length, by simp, Nat.zero_le _, F1, α1, s1, Ext.refl _ _, R1, h1⟩, ?_⟩
  rintro i n σ2 H2 ⟨rfl, hi, F2, α2, s2, x2, R2, h2⟩
  obtain ⟨w1, w2⟩ := wk i F2 H2 α2 x2 R2.st.ex
  by_cases hlt : i < ds.length
  · have hd : ds.drop i = ds[i] :: ds.drop (i + 1) := List.drop_eq_getElem_cons hlt
    obtain ⟨go, yl⟩ := w1 ds[i] (by simp [hlt])
    refine .inr ⟨go, fun σ' H' => ds.length - (i + 1) = ds.length - (i + 1) ∧ i + 1 ≤ ds.length ∧ ∃ F2 α2 s2, Ext F1 α1 F2 α2 ∧ RelS K G F2 H' α2 σ' s2 ∧ Wp K G E F2 α2 (forD g m (ds.drop (i + 1)) s2) (pS K G D), fun σ' H' q => ⟨ds.length - (i + 1), by omega, q⟩, fun x H' y => ?_⟩
    obtain ⟨F3, x3, keep, hx⟩ := yl x H' y
    rw [hd] at h2
    have h3 : Wp K G E F2 α2 (match g ds[i] s2 with | some s' => bnd m (turnF (forD g m (ds.drop (i + 1)))) s' | none => none) (pS K G D) := h2
    cases e : g ds[i] s2 with
    | none => simp only [e] at h3; exact h3.elim
    | some s3 =>
      simp only [e] at h3
      refine hg G F3 H' α2 σ2 s2 x ds[i] s3 _ (keep _ _ _ R2) hx e fun σ3 R3 _ => ?_
      refine ⟨G, F3, α2, s3, R3, r_turn (h3.ext x3) fun F4 α4 H4 σ4 s4 x4 R4 h4 => ?_⟩
      exact ⟨rfl, hlt, F4, α4, s4, x2.trans (x3.trans x4), R4, h4⟩
  · have e : i = ds.length := by omega
    subst e
    refine .inl ⟨w2 (Nat.le_refl _), ?_⟩
    rw [List.drop_length] at h2
    exact h2 F2 α2 H2 (Ext.refl _ _) σ2 R2
theorem d_for {tg iter : Expr} {body : List Stmt} {src : M (List D)} {g : Tg} {js : List Nat} {t : TG} {m : M Fl} (hp : PassesOwn (model X.prog X.w) X.A X.env X.xe) (hc : X.calm = true) (hi : DI X E tg iter src) (hg : DG X tg g js t) (hb : DSs X E body m)
    (hs : ∀ x, foldedSetIterable iter X.env x = pure x := by intro _; rfl) : DS X E (.For tg iter body [] pos) (forS src g m) :=
  PS.weak (ps_for hp hc hi hg.pg hb hs) fun D σ H q => r_for hg.sp q

/-! ### while -/
def whN (c : M Bool) (body : M Fl) : Nat → M Fl
  | 0 => fail
  | n + 1 => bnd c fun k => ite' k (bnd body (turnF (whN c body n))) nxt
open Classical in
noncomputable def whS (c : M Bool) (body : M Fl) : M Fl := fun s => if h : ∃ n r, whN c body n s = some r then some h.choose_spec.choose else none
theorem bnd_mono {β γ : Type} {m : M β} {f f' : β → M γ} {s : S} {r : Out γ} (h : bnd m f s = some r) (k : ∀ b s1 r, f b s1 = some r → f' b s1 = some r) : bnd m f' s = some r := by
  unfold bnd at h ⊢
  cases e : m s with
  | none => rw [e] at h; cases h
  | some o =>
    rw [e] at h
    cases o with
    | exc C fs ς => exact h
    | ok b s1 => exact k b s1 r h
theorem whN_more {c : M Bool} {body : M Fl} : ∀ {n : Nat} {s : S} {r : Out Fl}, whN c body n s = some r → whN c body (n + 1) s = some r
  | 0, s, r, h => by cases h
  | n + 1, s, r, h => by
    refine bnd_mono h fun b s1 r1 h1 => ?_
    cases b with
    | false => exact h1
    | true =>
      refine bnd_mono h1 fun fl s2 r2 h2 => ?_
      cases fl with
      | nx => exact whN_more (n := n) h2
      | ct => exact whN_more (n := n) h2
      | bk => exact h2
      | rt d => exact h2
theorem whN_le {c : M Bool} {body : M Fl} {n k : Nat} {s : S} {r : Out Fl} (h : whN c body n s = some r) (l : n ≤ k) : whN c body k s = some r := by
  induction l with
  | refl => exact h
  | step _ ih => exact whN_more ih
theorem whS_of {c : M Bool} {body : M Fl} {n : Nat} {s : S} {r : Out Fl} (h : whN c body n s = some r) : whS c body s = some r := by
  have ex : ∃ n r, whN c body n s = some r := ⟨n, r, h⟩
  unfold whS
  rw [dif_pos ex]
  have q := ex.choose_spec.choose_spec
  have q1 := whN_le q (Nat.le_max_left ex.choose n)
  have q2 := whN_le h (Nat.le_max_right ex.choose n)
  rw [q1] at q2
  exact q2
theorem whS_ex {c : M Bool} {body : M Fl} {s : S} {r : Out Fl} (h : whS c body s = some r) : ∃ n, whN c body n s = some r := by
  unfold whS at h
  split at h
  · rename_i ex
    cases h
    exact ⟨_, ex.choose_spec.choose_spec⟩
  · cases h
/-- one turn -/
theorem whS_step {c : M Bool} {body : M Fl} {s : S} {r : Out Fl} (h : bnd c (fun k => ite' k (bnd body (turnF (whS c body))) nxt) s = some r) : whS c body s = some r := by
  have h0 : ∃ n, bnd c (fun k => ite' k (bnd body (turnF (whN c body n))) nxt) s = some r := by
    unfold bnd at h ⊢
    cases e : c s with
    | none => rw [e] at h; cases h
    | some o =>
      rw [e] at h
      cases o with
      | exc C fs ς => exact ⟨0, h⟩
      | ok b s1 =>
        cases b with
        | false => exact ⟨0, h⟩
        | true =>
          have h : bnd body (turnF (whS c body)) s1 = some r := h
          show ∃ n, bnd body (turnF (whN c body n)) s1 = some r
          unfold bnd at h ⊢
          cases e2 : body s1 with
          | none => rw [e2] at h; cases h
          | some o =>
            rw [e2] at h
            cases o with
            | exc C fs ς => exact ⟨0, h⟩
            | ok fl s2 =>
              cases fl with
              | nx => exact whS_ex h
              | ct => exact whS_ex h
              | bk => exact ⟨0, h⟩
              | rt d => exact ⟨0, h⟩
  obtain ⟨n, h⟩ := h0
  exact whS_of (n := n + 1) h
theorem r_while {K : Frg} {c : M Bool} {m : M Fl} {D : Ends} {σ : L2.St} {H : Hp} (h : rS K E (whS c m) D σ H) : tWhile (rT K E c) (rS K E m) D σ H := by
  obtain ⟨G, F, α, s, R, h⟩ := h
  have h0 : ∃ n, Wp K G E F α (whN c m n s) (pS K G D) := by
    cases e : whS c m s with
    | none => rw [e] at h; exact h.elim
    | some r =>
      obtain ⟨n, q⟩ := whS_ex e
      rw [e] at h
      exact ⟨n, by rw [q]; exact h⟩
  obtain ⟨n, h⟩ := h0
  refine ⟨fun n σ H => ∃ G F α s, RelS K G F H α σ s ∧ Wp K G E F α (whN c m n s) (pS K G D), ⟨n, G, F, α, s, R, h⟩, ?_⟩
  rintro n σ1 H1 ⟨G, F1, α1, s1, R1, h1⟩
  cases n with
  | zero => exact h1.elim
  | succ n =>
    have h1 : Wp K G E F1 α1 (bnd c (fun k => ite' k (bnd m (turnF (whN c m n))) nxt) s1) (pS K G D) := h1
    refine ⟨G, F1, α1, s1, R1, h1.bind.mono fun F2 α2 H2 b s2 x2 h2 R2 => ?_⟩
    cases b with
    | false => exact iteF (h2 F2 α2 H2 (Ext.refl _ _) σ1 R2)
    | true =>
      refine iteT ⟨fun σ H => ∃ G F α s, RelS K G F H α σ s ∧ Wp K G E F α (whN c m n s) (pS K G D), fun σ' H' q => ⟨n, Nat.lt_succ_self n, q⟩, G, F2, α2, s2, R2, r_turn h2 fun F3 α3 H3 σ3 s3 x3 R3 h3 => ⟨G, F3, α3, s3, R3, h3⟩⟩
theorem d_while {t : Expr} {body : List Stmt} {c : M Bool} {m : M Fl} (hp : PassesOwn (model X.prog X.w) X.A X.env X.xe) (hc : DT X E t c) (hb : DSs X E body m) : DS X E (.While t body [] pos) (whS c m) :=
  PS.weak (ps_while hp hc hb) fun D σ H q => r_while q
end

/-! ### defs -/
inductive OutF where
  | ok (d : D) (ς : Store)
  | exc (C : Addr) (fs : List (Str × D)) (ς : Store)
abbrev DF := List D → Store → Option OutF
def spF (K : Frg) (n : Nat) (f : DF) : Sp := fun vs H Q E => vs.length = n ∧ ∃ G F α ς ds, Rel0 K G F H α ς ∧ HasL K F α vs ds ∧ (match f ds ς with
  | none => False
  | some (.ok d ς') => ∀ F' α' H' v, Ext F α F' α' → Rel0 K G F' H' α' ς' → Has K F' α' v d → Q v H'
  | some (.exc C fs ς') => ∀ F' α' H' od, Ext F α F' α' → Rel0 K G F' H' α' ς' → ExcAt K F' α' od fs → E (.ref C) od H')
/-- at a def's end the things that it made and that nothing leads to are gone -/
def cutS (ς ς' : Store) (b : Bool) : Store := if b && sflat (ς'.take ς.length) then ς'.take ς.length else ς'
def startD (n : Nat) (ds : List D) : List (Option D) := ds.map some ++ List.replicate (n - ds.length) none
def mdef (n : Nat) (body : M Fl) : DF := fun ds ς => match body ⟨startD n ds, ς⟩ with
  | some (.ok .nx s) => some (.ok .non (cutS ς s.s true))
  | some (.ok (.rt d) s) => some (.ok d (cutS ς s.s d.flat))
  | some (.exc C fs ς') => some (.exc C fs (cutS ς ς' (flatN fs)))
  | _ => none
theorem rel_cut {K : Frg} {G F F' H H' : Hp} {α α' : List Addr} {ς ς' : Store} (R : Rel0 K G F H α ς) (x : Ext F α F' α') (R' : Rel0 K G F' H' α' ς') (h : sflat (ς'.take ς.length) = true) : Rel0 K G F' H' α (ς'.take ς.length) := by
  have q := R'.cut x.a fun i h' o hi e k => k.anyα (sflat_get (i := i) h (by rw [List.getElem?_take_of_lt (by rw [← R.len]; exact hi)]; exact e))
  rw [R.len] at q
  exact q
theorem cut_cases {K : Frg} {G F F' H H' : Hp} {α α' : List Addr} {ς ς' : Store} {b : Bool} (R : Rel0 K G F H α ς) (x : Ext F α F' α') (R' : Rel0 K G F' H' α' ς') :
    ∃ α'', Ext F α F' α'' ∧ Rel0 K G F' H' α'' (cutS ς ς' b) ∧ (α'' = α' ∨ b = true) := by
  unfold cutS
  by_cases h : (b && sflat (ς'.take ς.length)) = true
  · rw [if_pos h]
    rw [Bool.and_eq_true] at h
    exact ⟨α, ⟨x.f, List.prefix_refl α⟩, rel_cut R x R' h.2, .inr h.1⟩
  · rw [if_neg h]
    exact ⟨α', x, R', .inl rfl⟩
theorem start_rel {K : Frg} {G F H : Hp} {α : List Addr} {ς : Store} {vs : List V} {ds : List D} {N : List Str} (R : Rel0 K G F H α ς) (k : HasL K F α vs ds) (hl : vs.length ≤ N.length) : RelS K G F H α (L2.start N vs) ⟨startD N.length ds, ς⟩ := by
  refine ⟨R, ?_, fun i d e => ?_⟩
  · show (startD N.length ds).length = (L2.start N vs).length
    unfold startD L2.start
    rw [List.length_append, List.length_append, List.length_map, List.length_map, List.length_replicate, List.length_replicate, k.len]
  · have e : (startD N.length ds)[i]? = some (some d) := e
    unfold startD at e
    by_cases hi : i < ds.length
    · rw [List.getElem?_append_left (by simpa using hi), List.getElem?_map] at e
      cases q : ds[i]? with
      | none => rw [q] at e; cases e
      | some d' =>
        rw [q] at e
        cases e
        obtain ⟨v, h1, h2⟩ := k.get q
        refine ⟨v, ?_, h2⟩
        unfold L2.start
        rw [List.getElem?_append_left (by rw [List.length_map, k.len]; exact hi), List.getElem?_map, h1]
        rfl
    · rw [List.getElem?_append_right (by simpa using hi), List.getElem?_replicate] at e
      split at e <;> cases e
theorem mdef_run {K : Frg} {N : List Str} {body : M Fl} {k : Nat} {vs : List V} {H : Hp} {Q : VK} {E : XK} (hk : k ≤ N.length) (h : spF K k (mdef N.length body) vs H Q E) : rS K E body { nx := fun _ H' => Q .non H', rt := Q } (L2.start N vs) H := by
  obtain ⟨hl, G, F, α, ς, ds, R, hv, h⟩ := h
  refine ⟨G, F, α, ⟨startD N.length ds, ς⟩, start_rel R hv (by omega), ?_⟩
  unfold mdef at h
  cases e : body ⟨startD N.length ds, ς⟩ with
  | none => rw [e] at h; exact h.elim
  | some o =>
    rw [e] at h
    cases o with
    | exc C fs ς' =>
      intro F' α' H' od x R' ke
      obtain ⟨α'', x'', R'', c⟩ := cut_cases (b := flatN fs) R x R'
      refine h F' α'' H' od x'' R'' ?_
      rcases c with rfl | c
      · exact ke
      · unfold ExcAt at ke ⊢
        cases od with
        | none => exact ke
        | some d =>
          obtain ⟨xs, h1, h2, h3⟩ := ke
          exact ⟨xs, h1, h2, h3.anyα (by rw [← flatN_eq]; exact c)⟩
    | ok fl s' =>
      cases fl with
      | nx =>
        intro F' α' H' x σ' R'
        obtain ⟨α'', x'', R'', c⟩ := cut_cases (b := true) R x R'.st
        exact h F' α'' H' .non x'' R'' .non
      | rt d =>
        intro F' α' H' x v R' kv
        obtain ⟨α'', x'', R'', c⟩ := cut_cases (b := d.flat) R x R'
        refine h F' α'' H' v x'' R'' ?_
        rcases c with rfl | c
        · exact kv
        · exact kv.anyα c
      | bk => exact h.elim
      | ct => exact h.elim
/-- THE RULE for a def -/
theorem fn_def {P : Program} {w : World} {K : Frg} {mg : Str → Option Value} {base : Heap} {x qual : Str} {st : Stmt} {f : Addr} {fd : FuncData} {N ps : List Str} {k : Nat} {body : M Fl} (F : Fun K x qual st f fd) (S : FnScope N ps (defScope st))
    (hbody : ∀ (cdv : Value) (A : Around) (outer : List Env) (s : Shared) (H : Hp) (E : XK), Room k (A.deeper (envOfC qual (defScope st) s.heap.objs.size f cdv)) →
      DSs (cxOf (L2.CX P w) P w K mg base N qual (defScope st) f cdv A outer s H E) E (defBody st) body) : FnOk P w K mg base (L2.CX P w) (k + 1) f fd ps (spF K ps.length (mdef N.length body)) := by
  refine F.okX S (fun vs H Q E h => h.1) fun cdv A outer s H vs Q E hr h => ⟨_, hbody cdv A outer s H E hr, ?_⟩
  refine mdef_run ?_ h
  have := congrArg List.length S.pre
  rw [List.length_take] at this
  omega
/-- what a caller knows of a def of the module -/
structure Cal (P : Program) (w : World) (K : Frg) (mg : Str → Option Value) (base : Heap) (k : Nat) (x : Str) (n : Nat) (f : DF) : Prop where
  ex : ∃ (fa : Addr) (fd : FuncData) (ps : List Str), mg x = some (.ref fa) ∧ PySem.W.keepIn K (.ref fa) = true ∧ Binds K fd ps [] ∧ ps.length = n ∧ FnOk P w K mg base (L2.CX P w) k fa fd ps (spF K n f)
def callF (f : DF) (ds : List D) : M D := fun s => match f ds s.s with
  | none => none
  | some (.ok d ς) => some (.ok d { s with s := ς })
  | some (.exc C fs ς) => some (.exc C fs ς)
section
variable {X : Cx} {E : XK} {e : Expr} {es : List Expr} {pos : Pos}
theorem RelS.back {K : Frg} {G F F' H H' : Hp} {α α' : List Addr} {σ : L2.St} {s : S} {ς' : Store} (R : RelS K G F H α σ s) (x : Ext F α F' α') (R' : Rel0 K G F' H' α' ς') : RelS K G F' H' α' σ { s with s := ς' } :=
  ⟨R', R.len, fun i d e => let ⟨v, h1, h2⟩ := R.sl i d e; ⟨v, h1, h2.ext x⟩⟩
theorem spF_of {K : Frg} {n : Nat} {f : DF} {F H : Hp} {α : List Addr} {σ : L2.St} {s : S} {vs : List V} {ds : List D} {Q : VK} (hn : vs.length = n) (R : RelS K G F H α σ s) (k : HasL K F α vs ds) (h : Wp K G E F α (callF f ds s) (pV K G σ Q)) : spF K n f vs H Q E := by
  refine ⟨hn, G, F, α, s.s, ds, R.st, k, ?_⟩
  unfold callF at h
  cases e : f ds s.s with
  | none => simp only [e] at h; exact h.elim
  | some o =>
    simp only [e] at h
    cases o with
    | exc C fs ς => exact h
    | ok d ς => exact fun F' α' H' v x R' kv => h F' α' H' x v (R.back x R') kv
theorem d_call {x : Str} {p : Pos} {k n : Nat} {f : DF} {m : M (List D)} (C : Cal X.prog X.w X.K X.mg X.base k x n f) (hr : Room k X.A) (hx : Passes (L2.CX X.prog X.w) X E) (hn : es.length + 1 = n) (ha : DA X E (e :: es) m) (hg : Gl X x := by rfl)
    (hl : ∀ s ds s', m s = some (.ok ds s') → ds.length = n) (hdb : (x == ("__debug__" : Str)) = false := by decide)
    (he : starEach (e :: es) X.env = (false, eval e X.env) :: starEach es X.env := by rfl) (hpl : (backTo pos (starEach es X.env)).any (·.1) = false := by rfl) : DE X E (.Call (.Name x p) (e :: es) [] pos) (bnd m (callF f)) := by
  obtain ⟨fa, fd, ps, h1, h2, h3, h4, h5⟩ := C.ex
  refine PE.weak (pe_call h5 hr hg h1 h2 h3 .nil hx ha hdb he hpl) fun σ H Q ⟨G, F, α, s, R, h⟩ => ?_
  refine ⟨G, F, α, s, R, ?_⟩
  have hb := h.bind
  cases q : m s with
  | none => rw [q] at hb; exact hb.elim
  | some o =>
    rw [q] at hb
    cases o with
    | exc C fs ς => exact hb
    | ok ds s1 =>
      intro F1 α1 H1 x1 vs R1 k1
      rw [List.append_nil]
      exact spF_of (by rw [k1.len]; exact hl s ds s1 q) R1 k1 (hb F1 α1 H1 x1)
theorem len_nil {s s' : S} {ds : List D} (h : anil s = some (.ok ds s')) : ds.length = 0 := by cases h; rfl
theorem len_cons {m : M D} {n : M (List D)} {k : Nat} (hn : ∀ s ds s', n s = some (.ok ds s') → ds.length = k) : ∀ s ds s', acons m n s = some (.ok ds s') → ds.length = k + 1 := by
  intro s ds s' h
  unfold acons bnd at h
  cases e : m s with
  | none => simp only [e] at h; cases h
  | some o =>
    simp only [e] at h
    cases o with
    | exc C fs ς => cases h
    | ok d s1 =>
      simp only at h
      cases e2 : n s1 with
      | none => simp only [e2] at h; cases h
      | some o =>
        simp only [e2] at h
        cases o with
        | exc C fs ς => cases h
        | ok es s2 =>
          cases h
          rw [List.length_cons, hn _ _ _ e2]
end
end DL

/-! from DL4.lean -/
set_option Elab.async false
set_option linter.all false
set_option maxRecDepth 100000
set_option maxHeartbeats 2000000
namespace DL
open PySem L2
open PyProof.Rows (envOfC)

/-! ### numbers -/
section
variable {K : Frg} {E : XK}
def iop (C : Int → Int → Bool) (g : Int → Int → D) : D → D → M D := fun d e => match d, e with
  | .int i, .int j => guard' (C i j) (ret (g i j))
  | _, _ => fail
theorem s_I {C : Int → Int → Prop} {B : Int → Int → Bool} {g : Int → Int → V} {g' : Int → Int → D} (hB : ∀ i j, B i j = true → C i j) (hg : ∀ i j F α, Has K F α (g i j) (g' i j)) : Sp2 K E (rI C g) (iop B g') := by
  intro G F H α σ s x y d e Q R kx ky h
  cases kx <;> cases ky <;> first | exact h.elim | skip
  rename_i i j
  obtain ⟨c, h1⟩ := wp_guard h
  exact ⟨i, j, rfl, rfl, hB i j c, fin h1 R (hg i j F α)⟩
theorem s_I0 {g : Int → Int → V} {g' : Int → Int → D} (hg : ∀ i j F α, Has K F α (g i j) (g' i j)) : Sp2 K E (rI0 g) (iop (fun _ _ => true) g') := by
  intro G F H α σ s x y d e Q R kx ky h
  cases kx <;> cases ky <;> first | exact h.elim | skip
  rename_i i j
  exact ⟨i, j, rfl, rfl, fin h R (hg i j F α)⟩
abbrev fSub := iop (fun _ _ => true) fun i j => .int (i - j)
def i64 (i : Int) : Bool := intIn 18446744073709551614 18446744073709551615 i
theorem two64 : (2 : Int) ^ 64 = 18446744073709551616 := by decide
theorem i64_ok {i : Int} (h : i64 i = true) : -(2 ^ 64) < i ∧ i < 2 ^ 64 := by
  have q := intIn_of h
  rw [two64]
  exact ⟨by omega, by omega⟩
theorem i64_of {i : Int} (h : -18446744073709551615 ≤ i) (h' : i ≤ 18446744073709551615) : i64 i = true := intIn_to (by omega) h'
def mulB (i j : Int) : Bool := i64 i || i64 j
theorem mulB_ok {i j : Int} (h : mulB i j = true) : (-(2 ^ 64) < i ∧ i < 2 ^ 64) ∨ (-(2 ^ 64) < j ∧ j < 2 ^ 64) := by
  unfold mulB at h
  rw [Bool.or_eq_true] at h
  exact h.imp i64_ok i64_ok
abbrev fMulI := iop mulB fun i j => .int (i * j)
abbrev fDiv := iop (fun _ j => decide (j ≠ 0 ∧ j.natAbs < 1073741824)) fun i j => .int (i.fdiv j)
abbrev fMod := iop (fun _ j => decide (j ≠ 0)) fun i j => .int (i.fmod j)
abbrev fPow := iop (fun i j => decide (0 ≤ j ∧ j ≤ 1000000 ∧ i.natAbs < 2 ^ 64)) fun i j => .int (i ^ j.toNat)
theorem s_sub : Sp2 K E (rI0 fun i j => .int (i - j)) fSub := s_I0 fun _ _ _ _ => .int _
theorem s_mulI : Sp2 K E (rI CMul fun i j => .int (i * j)) fMulI := s_I (fun _ _ h => by unfold CMul; exact mulB_ok h) fun _ _ _ _ => .int _
theorem s_div : Sp2 K E (rI CDivN fun i j => .int (i.fdiv j)) fDiv := s_I (fun _ _ h => by unfold CDivN; exact of_decide_eq_true h) fun _ _ _ _ => .int _
theorem s_mod : Sp2 K E (rI (fun _ j => j ≠ 0) fun i j => .int (i.fmod j)) fMod := s_I (fun _ _ h => of_decide_eq_true h) fun _ _ _ _ => .int _
theorem s_pow : Sp2 K E (rI CPow fun i j => .int (i ^ j.toNat)) fPow := s_I (fun _ _ h => by unfold CPow; exact of_decide_eq_true h) fun _ _ _ _ => .int _
abbrev fLt := iop (fun _ _ => true) fun i j => .bl (decide (i < j))
abbrev fLe := iop (fun _ _ => true) fun i j => .bl (decide (i ≤ j))
abbrev fGt := iop (fun _ _ => true) fun i j => .bl (decide (j < i))
abbrev fGe := iop (fun _ _ => true) fun i j => .bl (decide (j ≤ i))
theorem s_lt : Sp2 K E (rI0 fun i j => .bl (decide (i < j))) fLt := s_I0 fun _ _ _ _ => .bl _
theorem s_le : Sp2 K E (rI0 fun i j => .bl (decide (i ≤ j))) fLe := s_I0 fun _ _ _ _ => .bl _
theorem s_gt : Sp2 K E (rI0 fun i j => .bl (decide (j < i))) fGt := s_I0 fun _ _ _ _ => .bl _
theorem s_ge : Sp2 K E (rI0 fun i j => .bl (decide (j ≤ i))) fGe := s_I0 fun _ _ _ _ => .bl _

/-! sums: of numbers, texts, lists, tuples -/
def fAdd (own : Bool) : D → D → M D := fun d e s => match d, e with
  | .int i, .int j => ret (.int (i + j)) s
  | .str a, .str b => guard' (small (a.length + b.length)) (ret (.str (a ++ b))) s
  | .tup xs, .tup ys => guard' (small (xs.length + ys.length)) (ret (.tup (xs ++ ys))) s
  | d, e => match lstD s.s d, lstD s.s e with
    | some xs, some ys => guard' (small (xs.length + ys.length)) (mk own (xs ++ ys)) s
    | _, _ => none
def rAddA (K : Frg) : R2 := fun x y H Q => rI0 (fun i j => .int (i + j)) x y H Q ∨ (∃ i j, x = .str i ∧ y = .str j ∧ i.length + j.length ≤ sizeLine ∧ Q (.str (i ++ j)) H) ∨ rCat x y H Q ∨ rCatA K x y H Q
theorem op_addA {X : Cx} : OpR X (binaryOp .Add) (rAddA X.K) := op_add.or (op_add_str.or (op_cat.or op_catA))
theorem HasL.nilV {F : Hp} {α : List Addr} {ds : List D} (h : HasL K F α [] ds) : ds = [] := by cases h; rfl
theorem HasL.nilD {F : Hp} {α : List Addr} {vs : List V} (h : HasL K F α vs []) : vs = [] := by cases h; rfl
theorem s_add (own : Bool) : Sp2 K E (rAddA K) (fAdd own) := by
  intro G F H α σ s x y d e Q R kx ky h
  have two : (∃ xs ys, lstD s.s d = some xs ∧ lstD s.s e = some ys ∧ Wp K G E F α (guard' (small (xs.length + ys.length)) (mk own (xs ++ ys)) s) (pV K G σ Q)) → rAddA K x y H Q := by
    rintro ⟨xs, ys, e1, e2, h⟩
    obtain ⟨g, h1⟩ := wp_guard h
    obtain ⟨a, vs, rfl, k1, p1⟩ := lst_at R.st kx e1
    obtain ⟨b, ws, rfl, k2, p2⟩ := lst_at R.st ky e2
    exact .inr (.inr (.inl ⟨a, b, vs, ws, rfl, rfl, p1, p2, by rw [k1.len, k2.len]; exact small_ok g, fin_lst h1 R (k1.app k2)⟩))
  have gen : (match lstD s.s d, lstD s.s e with
    | some xs, some ys => guard' (small (xs.length + ys.length)) (mk own (xs ++ ys)) s
    | _, _ => none) = fAdd own d e s → rAddA K x y H Q := fun z => by
    rw [← z] at h
    cases e1 : lstD s.s d with
    | none => simp only [e1] at h; exact h.elim
    | some xs =>
      cases e2 : lstD s.s e with
      | none => simp only [e1, e2] at h; exact h.elim
      | some ys =>
        simp only [e1, e2] at h
        exact two ⟨xs, ys, e1, e2, h⟩
  cases kx with
  | int i =>
    cases ky with
    | int j => exact .inl ⟨i, j, rfl, rfl, fin h R (.int _)⟩
    | _ => exact gen rfl
  | str a =>
    cases ky with
    | str b =>
      obtain ⟨g, h1⟩ := wp_guard h
      exact .inr (.inl ⟨a, b, rfl, rfl, small_ok g, fin h1 R (.str _)⟩)
    | _ => exact gen rfl
  | tup h1 k1 =>
    cases ky with
    | tup h2 k2 =>
      obtain ⟨g, h3⟩ := wp_guard h
      have e1 := sqT_seq R.st.ex h1
      have e2 := sqT_seq R.st.ex h2
      refine .inr (.inr (.inr ⟨_, _, _, _, rfl, rfl, e1, e2, by rw [k1.len, k2.len]; exact small_ok g, fun z => ?_, fun _ z => ?_, fun _ _ => fin_tup h3 R (k1.app k2)⟩))
      · subst z
        have z := k1.nilV
        subst z
        exact fin h3 R (.tup h2 k2)
      · subst z
        have z := k2.nilV
        subst z
        rw [List.append_nil] at h3
        exact fin h3 R (.tup h1 k1)
    | _ => exact gen rfl
  | _ => exact gen (by cases ky <;> rfl)
/-! products: of numbers, a list as often -/
def fMul (own : Bool) : D → D → M D := fun d e s => match d, e with
  | .int i, .int j => fMulI (.int i) (.int j) s
  | d, .int k => match lstD s.s d with
    | some xs => guard' (rngB k && small (xs.length * k.toNat)) (mk own (List.replicate k.toNat xs).flatten) s
    | none => none
  | _, _ => none
def rMulA : R2 := fun x y H Q => rI CMul (fun i j => .int (i * j)) x y H Q ∨ rRep x y H Q
theorem op_mulA {X : Cx} : OpR X (binaryOp .Mult) rMulA := op_mul.or op_rep
theorem HasL.reps {F : Hp} {α : List Addr} {vs : List V} {ds : List D} (h : HasL K F α vs ds) : ∀ n : Nat, HasL K F α (List.replicate n vs).flatten (List.replicate n ds).flatten
  | 0 => .nil
  | n + 1 => by
    rw [List.replicate_succ, List.replicate_succ, List.flatten_cons, List.flatten_cons]
    exact h.app (h.reps n)
theorem s_mul (own : Bool) : Sp2 K E rMulA (fMul own) := by
  intro G F H α σ s x y d e Q R kx ky h
  cases ky with
  | int k =>
    have gen : (match lstD s.s d with
      | some xs => guard' (rngB k && small (xs.length * k.toNat)) (mk own (List.replicate k.toNat xs).flatten) s
      | none => none) = fMul own d (.int k) s → rMulA x (.int k) H Q := fun z => by
      rw [← z] at h
      cases e1 : lstD s.s d with
      | none => simp only [e1] at h; exact h.elim
      | some xs =>
        simp only [e1] at h
        obtain ⟨g, h1⟩ := wp_guard h
        rw [Bool.and_eq_true] at g
        have g1 : -(2 ^ 63) ≤ k ∧ k < 2 ^ 63 := by
          have := rngB_ok g.1
          omega
        obtain ⟨a, vs, rfl, k1, p1⟩ := lst_at R.st kx e1
        exact .inr ⟨a, k, vs, rfl, rfl, p1, g1.1, g1.2, by rw [k1.len]; exact small_ok g.2, fin_lst h1 R (k1.reps _)⟩
    cases kx with
    | int i => exact .inl (s_mulI G F H α σ s _ _ _ _ Q R (.int i) (.int k) h)
    | _ => exact gen rfl
  | _ => cases kx <;> exact h.elim
/-! minus a number -/
def fNeg : D → M D := fun d => match d with
  | .int i => ret (.int (-i))
  | _ => fail
end

/-! ### data as the library tells it: == -/
mutual
def py0 : D → Option PyData
  | .non => some .none
  | .bl b => some (.bool b)
  | .int i => some (.int i)
  | .str x => some (.str x)
  | .lst ds => (pyL ds).map .list
  | .rdl ds => (pyL ds).map .list
  | .tup ds => (pyL ds).map .tuple
  | _ => none
def pyL : List D → Option (List PyData)
  | [] => some []
  | d :: ds => match py0 d, pyL ds with
    | some p, some ps => some (p :: ps)
    | _, _ => none
end
section
variable {K : Frg} {E : XK} {G F H : Hp} {α : List Addr}
mutual
theorem py0_at (e : Same F H) : ∀ {v : V} {d : D} {p : PyData}, Has K F α v d → py0 d = some p → Dp K H v p
  | _, _, _, .non, q => by simp only [py0] at q; cases q; exact .non
  | _, _, _, .bl b, q => by simp only [py0] at q; cases q; exact .bl b
  | _, _, _, .int i, q => by simp only [py0] at q; cases q; exact .int i
  | _, _, _, .str x, q => by simp only [py0] at q; cases q; exact .str x
  | _, _, _, .ty n, q => by simp only [py0] at q; cases q
  | _, _, _, .adr n, q => by simp only [py0] at q; cases q
  | _, _, _, .dct _ _ _, q => by simp only [py0] at q; cases q
  | _, _, _, .ins _ _ _, q => by simp only [py0] at q; cases q
  | _, _, _, .loc _, q => by simp only [py0] at q; cases q
  | _, _, _, .lst h r, q => by
    simp only [py0] at q
    obtain ⟨ps, q1, q2⟩ := Option.map_eq_some_iff.mp q
    subst q2
    exact .lst (SqL.of (e _ _ h)) (pyL_at e r q1)
  | _, _, _, .rdl h r, q => by
    simp only [py0] at q
    obtain ⟨ps, q1, q2⟩ := Option.map_eq_some_iff.mp q
    subst q2
    exact .lst (e.seq h) (pyL_at e r q1)
  | _, _, _, .tup h r, q => by
    simp only [py0] at q
    obtain ⟨ps, q1, q2⟩ := Option.map_eq_some_iff.mp q
    subst q2
    exact .tup (sqT_seq e h) (pyL_at e r q1)
theorem pyL_at (e : Same F H) : ∀ {vs : List V} {ds : List D} {ps : List PyData}, HasL K F α vs ds → pyL ds = some ps → DpAll K H vs ps
  | _, _, _, .nil, q => by simp only [pyL] at q; cases q; exact .nil
  | _, _, _, .cons h r, q => by
    simp only [pyL] at q
    split at q
    · rename_i p ps q1 q2
      cases q
      exact .cons (py0_at e h q1) (pyL_at e r q2)
    · cases q
end
end
def pyS (ς : Store) (d : D) : Option PyData := match d with
  | .loc i => match ς[i]? with
    | some (some (.lst ds)) => (pyL ds).map .list
    | _ => none
  | d => py0 d
theorem pyS_at {K : Frg} {G F H : Hp} {α : List Addr} {ς : Store} {v : V} {d : D} {p : PyData} (R : Rel0 K G F H α ς) (h : Has K F α v d) (e : pyS ς d = some p) : Dp K H v p := by
  have old : py0 d = some p → Dp K H v p := fun e => py0_at R.ex h e
  cases h with
  | loc ha =>
    simp only [pyS] at e
    split at e
    · rename_i ds q
      obtain ⟨ps, q1, q2⟩ := Option.map_eq_some_iff.mp e
      subst q2
      obtain ⟨a', h', h1, h2, h3, h4⟩ := R.obj _ _ q
      rw [ha] at h1
      cases h1
      obtain ⟨xs, rfl, h5⟩ := h4.lst
      exact .lst (SqL.of h2) (pyL_at R.ex h5 q1)
    · cases e
  | _ => exact old e
def fEq (neg : Bool) : D → D → M D := fun d e s => match pyS s.s d, pyS s.s e with
  | some p, some q => guard' (SeqAt.shaped p && SeqAt.shaped q) (ret (.bl (if neg then !PyData.eqv p q else PyData.eqv p q))) s
  | _, _ => none
section
variable {K : Frg} {E : XK}
theorem s_eq : Sp2 K E (rEqD K) (fEq false) := by
  intro G F H α σ s x y d e Q R kx ky h
  unfold fEq at h
  split at h
  · rename_i p q e1 e2
    obtain ⟨g, h1⟩ := wp_guard h
    rw [Bool.and_eq_true] at g
    exact ⟨p, q, pyS_at R.st kx e1, pyS_at R.st ky e2, g.1, g.2, fin h1 R (.bl _)⟩
  · exact h.elim
theorem s_ne : Sp2 K E (rNeD K) (fEq true) := by
  intro G F H α σ s x y d e Q R kx ky h
  unfold fEq at h
  split at h
  · rename_i p q e1 e2
    obtain ⟨g, h1⟩ := wp_guard h
    rw [Bool.and_eq_true] at g
    exact ⟨p, q, pyS_at R.st kx e1, pyS_at R.st ky e2, g.1, g.2, fin h1 R (.bl _)⟩
  · exact h.elim
/-! is None -/
def D.isN : D → Bool
  | .non => true
  | _ => false
theorem Has.isN {F : Hp} {α : List Addr} {v : V} {d : D} (h : Has K F α v d) : decide (v = .non) = d.isN := by
  cases h <;> rfl
def fIsN (neg : Bool) : D → D → M D := fun d e => match e with
  | .non => ret (.bl (if neg then !d.isN else d.isN))
  | _ => fail
theorem s_isN : Sp2 K E (fun x y H Q => y = .non ∧ Q (.bl (decide (x = .non))) H) (fIsN false) := by
  intro G F H α σ s x y d e Q R kx ky h
  cases ky <;> first | exact h.elim | skip
  refine ⟨rfl, ?_⟩
  rw [kx.isN]
  exact fin h R (.bl _)
theorem s_notN : Sp2 K E (fun x y H Q => y = .non ∧ Q (.bl (!decide (x = .non))) H) (fIsN true) := by
  intro G F H α σ s x y d e Q R kx ky h
  cases ky <;> first | exact h.elim | skip
  refine ⟨rfl, ?_⟩
  rw [kx.isN]
  exact fin h R (.bl _)
/-! in a sequence of flat things -/
def D.flt : D → Bool
  | .non => true
  | .bl _ => true
  | .int _ => true
  | .str _ => true
  | _ => false
def eqD : D → D → Bool
  | .non, .non => true
  | .bl a, .bl b => a == b
  | .bl a, .int b => (if a then 1 else 0) == b
  | .int a, .bl b => a == (if b then 1 else 0)
  | .int a, .int b => a == b
  | .str a, .str b => a == b
  | _, _ => false
theorem Has.flt {F : Hp} {α : List Addr} {v : V} {d : D} (h : Has K F α v d) : flatV v = d.flt := by
  cases h <;> rfl
theorem Has.eqD {F : Hp} {α : List Addr} {v w : V} {d e : D} (h : Has K F α v d) (k : Has K F α w e) : eqV v w = DL.eqD d e := by
  cases h <;> cases k <;> rfl
theorem HasL.flt {F : Hp} {α : List Addr} : ∀ {vs : List V} {ds : List D}, HasL K F α vs ds → vs.all flatV = ds.all D.flt
  | _, _, .nil => rfl
  | _, _, .cons h r => by rw [List.all_cons, List.all_cons, h.flt, r.flt]
theorem HasL.inV {F : Hp} {α : List Addr} {x : V} {d : D} (h : Has K F α x d) : ∀ {vs : List V} {ds : List D}, HasL K F α vs ds → L2.inV x vs = ds.any fun y => DL.eqD y d
  | _, _, .nil => rfl
  | _, _, .cons k r => by
    have ih := HasL.inV h r
    unfold L2.inV at ih ⊢
    rw [List.any_cons, List.any_cons, ih, k.eqD h]
def fIn (neg : Bool) : D → D → M D := fun d e s => match seqD s.s e with
  | some (_, ds) => guard' (d.flt && ds.all D.flt) (ret (.bl (if neg then !(ds.any fun y => eqD y d) else ds.any fun y => eqD y d))) s
  | none => none
theorem s_in (neg : Bool) : Sp2 K E (rIn K neg) (fIn neg) := by
  intro G F H α σ s x y d e Q R kx ky h
  unfold fIn at h
  split at h
  · rename_i kd ds q
    obtain ⟨g, h1⟩ := wp_guard h
    rw [Bool.and_eq_true] at g
    obtain ⟨a, xs, rfl, hl, w1, w2⟩ := seq_at R.st ky q
    refine ⟨a, xs, rfl, ?_, by rw [kx.flt]; exact g.1, by rw [hl.flt]; exact g.2, ?_⟩
    · cases kd with
      | true => exact .inl (w1 rfl)
      | false => exact .inr (w2 rfl)
    · rw [HasL.inV kx hl]
      exact fin h1 R (.bl _)
  · exact h.elim
/-! by an index -/
def fIx : D → D → M D := fun d e s => match seqD s.s d, e with
  | some (_, ds), .int i => match atI ds i with
    | some x => ret x s
    | none => none
  | none, .int i => match d with
    | .str z => match atI z.cps.toList i with
      | some c => guard' (small z.length) (ret (.str ⟨#[c]⟩)) s
      | none => none
    | _ => none
  | _, _ => none
theorem atI_has {F : Hp} {α : List Addr} {xs : List V} {ds : List D} {i : Int} {d : D} (h : HasL K F α xs ds) (e : atI ds i = some d) : ∃ v, atI xs i = some v ∧ Has K F α v d := by
  unfold atI at e ⊢
  rw [← h.len] at e
  cases q : ixN xs.length i with
  | none => rw [q] at e; cases e
  | some j =>
    rw [q] at e
    obtain ⟨v, h1, h2⟩ := h.get (i := j) e
    exact ⟨v, h1, h2⟩
theorem s_ix : Sp2 K E (rIx K) fIx := by
  intro G F H α σ s x y d e Q R kx ky h
  unfold fIx at h
  split at h
  · rename_i kd ds i q
    split at h
    · rename_i z q2
      obtain ⟨a, xs, rfl, hl, w1, w2⟩ := seq_at R.st kx q
      obtain ⟨v, h1, h2⟩ := atI_has hl q2
      cases ky
      cases kd with
      | true => exact .inl ⟨a, xs, i, v, rfl, rfl, w1 rfl, h1, fin h R h2⟩
      | false => exact .inr (.inl ⟨a, xs, i, v, rfl, rfl, w2 rfl, h1, fin h R h2⟩)
    · exact h.elim
  · rename_i i q
    split at h
    · rename_i z
      split at h
      · rename_i c q2
        obtain ⟨g, h1⟩ := wp_guard h
        cases kx
        cases ky
        exact .inr (.inr ⟨z, i, c, rfl, rfl, small_ok g, q2, fin h1 R (.str _)⟩)
      · exact h.elim
    · exact h.elim
  · exact h.elim
end

/-! ### built-in functions -/
section
variable {K : Frg} {E : XK}
theorem HasL.one {F : Hp} {α : List Addr} {vs : List V} {d : D} (h : HasL K F α vs [d]) : ∃ v, vs = [v] ∧ Has K F α v d := by
  cases h with
  | cons h r => cases r; exact ⟨_, rfl, h⟩
theorem HasL.two {F : Hp} {α : List Addr} {vs : List V} {d e : D} (h : HasL K F α vs [d, e]) : ∃ v w, vs = [v, w] ∧ Has K F α v d ∧ Has K F α w e := by
  cases h with
  | cons h r => cases r with
    | cons h2 r2 => cases r2; exact ⟨_, _, rfl, h, h2⟩
def fLen : List D → M D := fun ds s => match ds with
  | [.str z] => guard' (small z.length) (ret (.int z.length)) s
  | [d] => match seqD s.s d with
    | some (_, es) => ret (.int es.length) s
    | none => none
  | _ => none
theorem s_len : SpA K E (fun xs H Q => ∃ x n, xs = [x] ∧ LenV K x H n ∧ Q (.int n) H) fLen := by
  intro G F H α σ s xs ds Q R k h
  unfold fLen at h
  split at h
  · rename_i z
    obtain ⟨v, rfl, k1⟩ := k.one
    obtain ⟨g, h1⟩ := wp_guard h
    cases k1
    exact ⟨_, z.length, rfl, ⟨small_ok g, rfl⟩, fin h1 R (.int _)⟩
  · rename_i d _
    obtain ⟨v, rfl, k1⟩ := k.one
    split at h
    · rename_i kd es q
      obtain ⟨a, ws, rfl, hl, w1, w2⟩ := seq_at R.st k1 q
      refine ⟨_, es.length, rfl, ?_, fin h R (.int _)⟩
      cases kd with
      | true => exact .inl ⟨ws, w1 rfl, hl.len.symm⟩
      | false => exact .inr ⟨ws, w2 rfl, hl.len.symm⟩
    · exact h.elim
  · exact h.elim
def fInt : List D → M D := fun ds => match ds with
  | [.int i] => ret (.int i)
  | [.bl k] => ret (.int (if k then 1 else 0))
  | _ => fail
theorem s_int : SpA K E (fun xs H Q => (∃ i, xs = [.int i] ∧ Q (.int i) H) ∨ ∃ k, xs = [.bl k] ∧ Q (.int (if k then 1 else 0)) H) fInt := by
  intro G F H α σ s xs ds Q R k h
  unfold fInt at h
  split at h
  · obtain ⟨v, rfl, k1⟩ := k.one
    cases k1
    exact .inl ⟨_, rfl, fin h R (.int _)⟩
  · obtain ⟨v, rfl, k1⟩ := k.one
    cases k1
    exact .inr ⟨_, rfl, fin h R (.int _)⟩
  · exact h.elim
def fMax2 : List D → M D := fun ds => match ds with
  | [.int i, .int j] => ret (.int (max i j))
  | _ => fail
def fMin2 : List D → M D := fun ds => match ds with
  | [.int i, .int j] => ret (.int (min i j))
  | _ => fail
theorem s_max2 : SpA K E (fun xs H Q => ∃ i j, xs = [.int i, .int j] ∧ Q (.int (if j > i then j else i)) H) fMax2 := by
  intro G F H α σ s xs ds Q R k h
  unfold fMax2 at h
  split at h
  · rename_i i j
    obtain ⟨v, w, rfl, k1, k2⟩ := k.two
    cases k1
    cases k2
    refine ⟨_, _, rfl, ?_⟩
    have e : (if j > i then j else i) = max i j := by split <;> omega
    rw [e]
    exact fin h R (.int _)
  · exact h.elim
theorem s_min2 : SpA K E (fun xs H Q => ∃ i j, xs = [.int i, .int j] ∧ Q (.int (if j < i then j else i)) H) fMin2 := by
  intro G F H α σ s xs ds Q R k h
  unfold fMin2 at h
  split at h
  · rename_i i j
    obtain ⟨v, w, rfl, k1, k2⟩ := k.two
    cases k1
    cases k2
    refine ⟨_, _, rfl, ?_⟩
    have e : (if j < i then j else i) = min i j := by split <;> omega
    rw [e]
    exact fin h R (.int _)
  · exact h.elim
/-- a row of numbers -/
def intsD : List D → Option (List Int)
  | [] => some []
  | .int i :: ds => (intsD ds).map (i :: ·)
  | _ => none
theorem intsD_map : ∀ ns : List Int, intsD (ns.map .int) = some ns
  | [] => rfl
  | n :: ns => by simp [intsD, intsD_map ns]
theorem intsD_eq : ∀ {ds : List D} {ns : List Int}, intsD ds = some ns → ds = ns.map .int
  | [], ns, h => by simp only [intsD, Option.some.injEq] at h; subst h; rfl
  | d :: ds, ns, h => by
    cases d <;> simp only [intsD] at h <;> try (cases h; done)
    obtain ⟨ms, h1, rfl⟩ := Option.map_eq_some_iff.mp h
    rw [intsD_eq h1]
    rfl
/-- a list's numbers -/
def intsOf (ς : Store) (d : D) : Option (List Int) := match seqD ς d with
  | some (true, ds) => intsD ds
  | _ => none
theorem ints_at {F H : Hp} {α : List Addr} {ς : Store} {v : V} {d : D} {ns : List Int} (R : Rel0 K G F H α ς) (h : Has K F α v d) (e : intsOf ς d = some ns) : ∃ a, v = .ref a ∧ SqL K H a (ns.map V.int) := by
  unfold intsOf at e
  split at e
  · rename_i ds q
    obtain ⟨a, xs, rfl, hl, w1, w2⟩ := seq_at R h q
    have z := intsD_eq e
    subst z
    rw [hl.ints] at w1
    exact ⟨a, rfl, w1 rfl⟩
  · cases e
def fSum : List D → M D := fun ds s => match ds with
  | [d] => match intsOf s.s d with
    | some ns => ret (.int ns.sum) s
    | none => none
  | _ => none
theorem s_sum : SpA K E (rSum K) fSum := by
  intro G F H α σ s xs ds Q R k h
  unfold fSum at h
  split at h
  · obtain ⟨v, rfl, k1⟩ := k.one
    split at h
    · rename_i ns q
      obtain ⟨a, rfl, hs⟩ := ints_at R.st k1 q
      exact ⟨a, ns, rfl, hs, fin h R (.int _)⟩
    · exact h.elim
  · exact h.elim
def maxL (x : Int) (ns : List Int) : Int := ns.foldl max x
def minL (x : Int) (ns : List Int) : Int := ns.foldl min x
theorem maxL_ge (x : Int) (ns : List Int) : x ≤ maxL x ns ∧ (∀ y ∈ ns, y ≤ maxL x ns) ∧ (maxL x ns = x ∨ maxL x ns ∈ ns) := by
  induction ns generalizing x with
  | nil => exact ⟨Int.le_refl x, by simp, .inl rfl⟩
  | cons n ns ih =>
    obtain ⟨h1, h2, h3⟩ := ih (max x n)
    have e : maxL x (n :: ns) = maxL (max x n) ns := rfl
    rw [e]
    refine ⟨by omega, fun y hy => ?_, ?_⟩
    · rcases List.mem_cons.mp hy with rfl | hy
      · omega
      · exact h2 y hy
    · rcases h3 with h3 | h3
      · by_cases c : x ≤ n
        · right; rw [h3]; have : max x n = n := by omega
          rw [this]; exact List.mem_cons_self
        · left; rw [h3]; omega
      · right; exact List.mem_cons_of_mem _ h3
theorem minL_le (x : Int) (ns : List Int) : minL x ns ≤ x ∧ (∀ y ∈ ns, minL x ns ≤ y) ∧ (minL x ns = x ∨ minL x ns ∈ ns) := by
  induction ns generalizing x with
  | nil => exact ⟨Int.le_refl x, by simp, .inl rfl⟩
  | cons n ns ih =>
    obtain ⟨h1, h2, h3⟩ := ih (min x n)
    have e : minL x (n :: ns) = minL (min x n) ns := rfl
    rw [e]
    refine ⟨by omega, fun y hy => ?_, ?_⟩
    · rcases List.mem_cons.mp hy with rfl | hy
      · omega
      · exact h2 y hy
    · rcases h3 with h3 | h3
      · by_cases c : n ≤ x
        · right; rw [h3]; have : min x n = n := by omega
          rw [this]; exact List.mem_cons_self
        · left; rw [h3]; omega
      · right; exact List.mem_cons_of_mem _ h3
def fMax1 : List D → M D := fun ds s => match ds with
  | [d] => match intsOf s.s d with
    | some (n :: ns) => ret (.int (maxL n ns)) s
    | _ => none
  | _ => none
def fMin1 : List D → M D := fun ds s => match ds with
  | [d] => match intsOf s.s d with
    | some (n :: ns) => ret (.int (minL n ns)) s
    | _ => none
  | _ => none
theorem s_max1 : SpA K E (rMax K) fMax1 := by
  intro G F H α σ s xs ds Q R k h
  unfold fMax1 at h
  split at h
  · obtain ⟨v, rfl, k1⟩ := k.one
    split at h
    · rename_i n ns q
      obtain ⟨a, rfl, hs⟩ := ints_at R.st k1 q
      refine ⟨a, n :: ns, rfl, hs, by simp, fun m hm hle => ?_⟩
      obtain ⟨h1, h2, h3⟩ := maxL_ge n ns
      have e : m = maxL n ns := by
        apply Int.le_antisymm
        · rcases List.mem_cons.mp hm with rfl | hm
          · exact h1
          · exact h2 m hm
        · rcases h3 with h3 | h3
          · rw [h3]; exact hle n List.mem_cons_self
          · exact hle _ (List.mem_cons_of_mem _ h3)
      rw [e]
      exact fin h R (.int _)
    · exact h.elim
  · exact h.elim
theorem s_min1 : SpA K E (rMin K) fMin1 := by
  intro G F H α σ s xs ds Q R k h
  unfold fMin1 at h
  split at h
  · obtain ⟨v, rfl, k1⟩ := k.one
    split at h
    · rename_i n ns q
      obtain ⟨a, rfl, hs⟩ := ints_at R.st k1 q
      refine ⟨a, n :: ns, rfl, hs, by simp, fun m hm hle => ?_⟩
      obtain ⟨h1, h2, h3⟩ := minL_le n ns
      have e : m = minL n ns := by
        apply Int.le_antisymm
        · rcases h3 with h3 | h3
          · rw [h3]; exact hle n List.mem_cons_self
          · exact hle _ (List.mem_cons_of_mem _ h3)
        · rcases List.mem_cons.mp hm with rfl | hm
          · exact h1
          · exact h2 m hm
      rw [e]
      exact fin h R (.int _)
    · exact h.elim
  · exact h.elim
/-! list(x), tuple(x) -/
def fList (own : Bool) : List D → M D := fun ds s => match ds with
  | [d] => match seqD s.s d with
    | some (_, es) => mk own es s
    | none => none
  | _ => none
theorem s_list (own : Bool) : SpA K E (fun xs H Q => ∃ p ys, xs = [.ref p] ∧ (SqL K H p ys ∨ SqT K H p ys) ∧ ∀ l, H l = none → Q (.ref l) (upd H l (.lst ys))) (fList own) := by
  intro G F H α σ s xs ds Q R k h
  unfold fList at h
  split at h
  · obtain ⟨v, rfl, k1⟩ := k.one
    split at h
    · rename_i kd es q
      obtain ⟨a, ws, rfl, hl, w1, w2⟩ := seq_at R.st k1 q
      refine ⟨a, ws, rfl, ?_, fin_lst h R hl⟩
      cases kd with
      | true => exact .inl (w1 rfl)
      | false => exact .inr (w2 rfl)
    · exact h.elim
  · exact h.elim
def fTuple : List D → M D := fun ds s => match ds with
  | [d] => match seqD s.s d with
    | some (true, es) => ret (.tup es) s
    | some (false, es) => ret (.tup es) s
    | none => none
  | _ => none
theorem s_tuple : SpA K E (fun xs H Q => ∃ p ys, xs = [.ref p] ∧ ((SqL K H p ys ∧ ∀ l, H l = none → Q (.ref l) (upd H l (.tup ys))) ∨ (SqT K H p ys ∧ Q (.ref p) H))) fTuple := by
  intro G F H α σ s xs ds Q R k h
  unfold fTuple at h
  split at h
  · rename_i d
    obtain ⟨v, rfl, k1⟩ := k.one
    split at h
    · rename_i es q
      obtain ⟨a, ws, rfl, hl, w1, w2⟩ := seq_at R.st k1 q
      exact ⟨a, ws, rfl, .inl ⟨w1 rfl, fin_tup h R hl⟩⟩
    · rename_i es q
      obtain ⟨a, ws, rfl, hl, w1, w2⟩ := seq_at R.st k1 q
      refine ⟨a, ws, rfl, .inr ⟨w2 rfl, ?_⟩⟩
      have z : Has K F α (.ref a) (.tup es) := by
        cases d <;> simp only [seqD] at q <;> try (cases q; done)
        · cases q; exact k1
        · split at q <;> cases q
      exact fin h R z
    · exact h.elim
  · exact h.elim
/-! any, all of truths -/
def blsD : List D → Option (List Bool)
  | [] => some []
  | .bl i :: ds => (blsD ds).map (i :: ·)
  | _ => none
theorem blsD_map : ∀ ns : List Bool, blsD (ns.map .bl) = some ns
  | [] => rfl
  | n :: ns => by simp [blsD, blsD_map ns]
theorem blsD_eq : ∀ {ds : List D} {ns : List Bool}, blsD ds = some ns → ds = ns.map .bl
  | [], ns, h => by simp only [blsD, Option.some.injEq] at h; subst h; rfl
  | d :: ds, ns, h => by
    cases d <;> simp only [blsD] at h <;> try (cases h; done)
    obtain ⟨ms, h1, rfl⟩ := Option.map_eq_some_iff.mp h
    rw [blsD_eq h1]
    rfl
theorem HasL.bls {F : Hp} {α : List Addr} : ∀ {vs : List V} {ns : List Bool}, HasL K F α vs (ns.map .bl) → vs = ns.map .bl
  | _, [], .nil => rfl
  | _, n :: ns, .cons h r => by cases h; rw [HasL.bls r]; rfl
def fAny (all : Bool) : List D → M D := fun ds s => match ds with
  | [d] => match seqD s.s d with
    | some (true, es) => match blsD es with
      | some bs => ret (.bl (if all then bs.all id else bs.any id)) s
      | none => none
    | _ => none
  | _ => none
theorem s_anyall (all : Bool) {r : List V → Hp → VK → Prop} (hr : ∀ vs H Q, (∃ (a : Addr) (bs : List Bool), vs = [V.ref a] ∧ SqL K H a (bs.map V.bl) ∧ Q (.bl (if all then bs.all id else bs.any id)) H) → r vs H Q) : SpA K E r (fAny all) := by
  intro G F H α σ s xs ds Q R k h
  unfold fAny at h
  split at h
  · obtain ⟨v, rfl, k1⟩ := k.one
    split at h
    · rename_i es q
      split at h
      · rename_i bs q2
        obtain ⟨a, ws, rfl, hl, w1, w2⟩ := seq_at R.st k1 q
        have z := blsD_eq q2
        subst z
        rw [hl.bls] at w1
        exact hr _ _ _ ⟨a, bs, rfl, w1 rfl, fin h R (.bl _)⟩
      · exact h.elim
    · exact h.elim
  · exact h.elim
theorem s_any : SpA K E (rAny K) (fAny false) := s_anyall false fun _ _ _ h => h
theorem s_all : SpA K E (rAll K) (fAny true) := s_anyall true fun _ _ _ h => h
/-! sorted: numbers -/
def sortI (ns : List Int) : List Int := ns.mergeSort (fun a b => decide (a ≤ b))
theorem sortI_perm (ns : List Int) : (sortI ns).Perm ns := List.mergeSort_perm ns _
theorem sortI_pw (ns : List Int) : (sortI ns).Pairwise (· ≤ ·) := by
  have h := List.pairwise_mergeSort (le := fun a b : Int => decide (a ≤ b)) (fun a b c h1 h2 => decide_eq_true (Int.le_trans (of_decide_eq_true h1) (of_decide_eq_true h2))) (fun a b => by
    rcases Int.le_total a b with h | h
    · simp [h]
    · simp [h]) ns
  exact h.imp fun h => of_decide_eq_true h
theorem perm_pw_eq : ∀ {xs ys : List Int}, xs.Perm ys → xs.Pairwise (· ≤ ·) → ys.Pairwise (· ≤ ·) → xs = ys := by
  intro xs ys p h1 h2
  exact List.Perm.eq_of_pairwise (fun a b _ _ h3 h4 => Int.le_antisymm h3 h4) h1 h2 p
def fSortI (own : Bool) : List D → M D := fun ds s => match ds with
  | [d] => match intsOf s.s d with
    | some ns => mk own ((sortI ns).map .int) s
    | none => none
  | _ => none
theorem s_sortI (own : Bool) : SpA K E (rSortedI K) (fSortI own) := by
  intro G F H α σ s xs ds Q R k h
  unfold fSortI at h
  split at h
  · obtain ⟨v, rfl, k1⟩ := k.one
    split at h
    · rename_i ns q
      obtain ⟨a, rfl, hs⟩ := ints_at R.st k1 q
      refine ⟨a, ns, rfl, hs, fun ns' p hp pw hn => ?_⟩
      have e : ns' = sortI ns := perm_pw_eq (hp.trans (sortI_perm ns).symm) pw (sortI_pw ns)
      subst e
      exact fin_lst h R (hasL_ints _) p hn
    · exact h.elim
  · exact h.elim
end
end DL

/-! from DL5.lean -/
set_option Elab.async false
set_option linter.all false
set_option maxRecDepth 100000
set_option maxHeartbeats 2000000
namespace DL
open PySem L2
open PyProof.Rows (envOfC)

/-! ### a op b op c -/
def chn (f g : D → D → M D) (ma mb mc : M D) : M D := bnd ma fun x => bnd mb fun y => bnd (f x y) fun k => blOf k fun b => ite' b (bnd mc fun z => g y z) (ret (.bl false))
section
variable {X : Cx} {E : XK} {e a b c o i : Expr} {es : List Expr} {st : Stmt} {pos pos' : Pos}
/-- a two-place reading that gives a truth, on the way -/
def Sp2B (K : Frg) (E : XK) (r : R2) (f : D → D → M D) : Prop := ∀ (G F H : Hp) (α : List Addr) (σ : L2.St) (s : S) (x y : V) (d e : D) (Q : VK), RelS K G F H α σ s → Has K F α x d → Has K F α y e → Wp K G E F α (f d e s) (pV K G σ Q) → r x y H Q
theorem r_chain {K : Frg} {r r' : R2} {f g : D → D → M D} {ma mb mc : M D} (hr : Sp2 K E r f) (hr' : Sp2 K E r' g) {σ : L2.St} {H : Hp} {Q : VK} (h : rE K E (chn f g ma mb mc) σ H Q) : tChain r r' (rE K E ma) (rE K E mb) (rE K E mc) σ H Q := by
  obtain ⟨G, F, α, s, R, h⟩ := h
  refine ⟨G, F, α, s, R, h.bind.mono fun F1 α1 H1 d s1 x1 h1 v R1 k1 => ?_⟩
  refine ⟨G, F1, α1, s1, R1, h1.bind.mono fun F2 α2 H2 e2 s2 x2 h2 w R2 k2 => ?_⟩
  refine hr G F2 H2 α2 σ s2 v w d e2 _ R2 (k1.ext x2) k2 (h2.bind.mono fun F3 α3 H3 k s3 x3 h3 u R3 k3 => ?_)
  cases k3 <;> first | exact h3.elim | skip
  rename_i q
  refine ⟨q, rfl, ?_⟩
  cases q with
  | false => exact iteF (fin h3 R3 (.bl false))
  | true =>
    refine iteT ⟨G, F3, α3, s3, R3, h3.bind.mono fun F4 α4 H4 z s4 x4 h4 y R4 k4 => ?_⟩
    exact hr' G F4 H4 α4 σ s4 w y e2 z Q R4 (k2.ext (x3.trans x4)) k4 h4
theorem d_chain {op op' : CmpOp} {r r' : R2} {f g : D → D → M D} {ma mb mc : M D} (ho : OpR X (compareOp op) r) (ho' : OpR X (compareOp op') r') (hr : Sp2 X.K E r f) (hr' : Sp2 X.K E r' g) (ha : DE X E a ma) (hb : DE X E b mb) (hc : DE X E c mc)
    (hm : lastMarks [op, op'] [b, c] = false := by with_unfolding_all rfl) : DE X E (.Compare a [op, op'] [b, c] pos) (chn f g ma mb mc) :=
  PE.weak (pe_chain ho ho' ha hb hc hm) fun σ H Q h => r_chain hr hr' h
theorem d_tchain {op op' : CmpOp} {r r' : R2} {f g : D → D → M D} {ma mb mc : M D} (ho : OpR X (compareOp op) r) (ho' : OpR X (compareOp op') r') (hr : Sp2 X.K E r f) (hr' : Sp2 X.K E r' g) (ha : DE X E a ma) (hb : DE X E b mb) (hc : DE X E c mc)
    (hm : lastMarks [op, op'] [b, c] = false := by with_unfolding_all rfl) : DT X E (.Compare a [op, op'] [b, c] pos) (tst (chn f g ma mb mc)) :=
  PT.weak (pt_chain ho ho' ha hb hc hm) fun σ H Q h => r_chain hr hr' (r_tst h)

/-! ### a name whose thing is kept for good from here on -/
def frzO : O → D
  | .lst ds => .lst ds
  | .dct ms => .dct ms
  | .ins C fs => .ins C fs
def nameF (i : Nat) : M D := fun s => match s.e[i]? with
  | some (some (.loc j)) => match s.s[j]? with
    | some (some ob) => some (.ok (frzO ob) ⟨s.e.set i (some (frzO ob)), s.s.set j none⟩)
    | _ => none
  | some (some d) => some (.ok d s)
  | _ => none
theorem has_frz {K : Frg} {F : Hp} {α : List Addr} {a : Addr} {h : HO} {ob : O} (k : HObj K F α h ob) (hf : F a = none) : Has K (upd F a h) α (.ref a) (frzO ob) := by
  have x := same_upd (o := h) hf
  cases h <;> cases ob <;> simp only [HObj] at k
  · exact .lst upd_same (k.mono x (List.prefix_refl α))
  · exact .dct upd_same k.1 (k.2.mono x (List.prefix_refl α))
  · obtain ⟨rfl, k1, k2⟩ := k
    exact .ins upd_same k1 (k2.mono x (List.prefix_refl α))
theorem d_nameF (i : Nat) {x : Str} (hN : X.N[i]? = some x := by rfl) (hv : Vis X.env.scope x := by first | exact Or.inl rfl | exact Or.inr (Or.inl rfl) | exact Or.inr (Or.inr rfl)) (hd : (x == ("__debug__" : Str)) = false := by decide)
    (hcd : (x == ("__classdict__" : Str)) = false := by decide) : DE X E (.Name x pos) (nameF i) := by
  refine PE.weak (pe_var hN hv hd hcd) fun σ H Q ⟨G, F, α, s, R, h⟩ => ?_
  unfold nameF at h
  split at h
  · rename_i j q
    split at h
    · rename_i ob q2
      obtain ⟨v, h1, h2⟩ := R.sl i _ q
      cases h2
      rename_i a ha
      refine ⟨.ref a, h1, ?_⟩
      obtain ⟨a', ho, g1, g2, g3, g4⟩ := R.st.obj j ob q2
      rw [ha] at g1
      cases g1
      obtain ⟨R', x⟩ := R.st.frz q2 ha g2
      have hk := has_frz g4 g3
      refine h _ α H x (.ref a) ⟨R', by show (s.e.set i (some (frzO ob))).length = σ.length; rw [List.length_set]; exact R.len, fun l d e => ?_⟩ hk
      rcases set_get e with ⟨rfl, e, _⟩ | ⟨_, e⟩
      · cases e
        exact ⟨_, h1, hk⟩
      · obtain ⟨w, w1, w2⟩ := R.sl l d e
        exact ⟨w, w1, w2.ext x⟩
    · exact h.elim
  · rename_i d _ q
    obtain ⟨v, h1, h2⟩ := R.sl i d q
    exact ⟨v, h1, fin h R h2⟩
  · exact h.elim

/-! ### comprehensions -/
def wipeD (e : List (Option D)) : List Nat → List (Option D)
  | [] => e
  | v :: vs => (wipeD e vs).set v none
theorem wipeD_len (e : List (Option D)) : ∀ vs : List Nat, (wipeD e vs).length = e.length
  | [] => rfl
  | v :: vs => by unfold wipeD; rw [List.length_set, wipeD_len e vs]
theorem wipeD_some {e : List (Option D)} {i : Nat} {d : D} : ∀ {vs : List Nat}, (wipeD e vs)[i]? = some (some d) → e[i]? = some (some d) ∧ i ∉ vs
  | [], h => ⟨h, by simp⟩
  | v :: vs, h => by
    unfold wipeD at h
    rcases set_get h with ⟨_, z, _⟩ | ⟨n, z⟩
    · cases z
    · obtain ⟨h1, h2⟩ := wipeD_some z
      exact ⟨h1, by simp only [List.mem_cons, not_or]; exact ⟨fun e => n e.symm, h2⟩⟩
theorem wipe_in {σ : L2.St} {i : Nat} : ∀ {vs : List Nat}, i ∈ vs → i < σ.length → (wipe σ vs)[i]? = some none
  | v :: vs, h, hi => by
    show ((wipe σ vs).set v none)[i]? = some none
    by_cases q : v = i
    · subst q
      rw [List.getElem?_set_self (by rw [wipe_length]; exact hi)]
    · rw [List.getElem?_set_ne q]
      rcases List.mem_cons.mp h with z | z
      · exact absurd z.symm q
      · exact wipe_in z hi
theorem wipe_but {σ σ' : L2.St} {js vs : List Nat} (b : But js (wipe σ vs) σ') (h : ∀ j ∈ js, j ∈ vs) : wipe σ' vs = wipe σ vs := by
  have hl : σ'.length = σ.length := b.len.trans (wipe_length σ vs)
  apply List.ext_getElem?
  intro i
  by_cases hi : i ∈ vs
  · by_cases hs : i < σ.length
    · rw [wipe_in hi (by rw [hl]; exact hs), wipe_in hi hs]
    · rw [List.getElem?_eq_none (by rw [wipe_length, hl]; omega), List.getElem?_eq_none (by rw [wipe_length]; omega)]
  · rw [wipe_out hi, b.out i fun z => hi (h i z)]
theorem RelS.wipe {K : Frg} {G F H : Hp} {α : List Addr} {σ : L2.St} {s : S} (R : RelS K G F H α σ s) (vs : List Nat) : RelS K G F H α (L2.wipe σ vs) ⟨wipeD s.e vs, s.s⟩ := by
  refine ⟨R.st, by show (wipeD s.e vs).length = _; rw [wipeD_len, wipe_length]; exact R.len, fun i d e => ?_⟩
  obtain ⟨h1, h2⟩ := wipeD_some e
  obtain ⟨v, w1, w2⟩ := R.sl i d h1
  exact ⟨v, by rw [wipe_out h2]; exact w1, w2⟩
/-- the new items -/
def lcR (e0 : List (Option D)) (g : Tg) (tt : M Bool) (te : M D) : List D → Store → Option (List D × Store)
  | [], ς => some ([], ς)
  | d :: ds, ς => (g d ⟨e0, ς⟩).bind fun s1 => match tt s1 with
    | some (.ok true s2) => (match te s2 with
      | some (.ok y s3) => (lcR e0 g tt te ds s3.s).map fun p => (y :: p.1, p.2)
      | _ => none)
    | some (.ok false s2) => lcR e0 g tt te ds s2.s
    | _ => none
def lcK (own : Bool) (vs : List Nat) (g : Tg) (tt : M Bool) (te : M D) (ds : List D) : M D := fun s => match lcR (wipeD s.e vs) g tt te ds s.s with
  | some (ys, ς) => guard' (small ys.length) (mk own ys) ⟨s.e, ς⟩
  | none => none
def lcM (own : Bool) (vs : List Nat) (src : M (List D)) (g : Tg) (tt : M Bool) (te : M D) : M D := bnd src (lcK own vs g tt te)
theorem fin_track {K : Frg} {G F H : Hp} {α : List Addr} {σ : L2.St} {s : S} {Q : VK} {own : Bool} {p : Addr} {acc : List V} {ys : List D} (h : Wp K G E F α (mk own ys s) (pV K G σ Q)) (gp : G p = none) (R : RelS K (upd G p (.lst acc)) F H α σ s) (k : HasL K F α acc ys) : Q (.ref p) H := by
  cases own with
  | false =>
    obtain ⟨R', x⟩ := R.st.settle gp
    exact h _ α H x (.ref p) ⟨R', R.len, fun i d e => let ⟨v, h1, h2⟩ := R.sl i d e; ⟨v, h1, h2.ext x⟩⟩ (.lst upd_same (k.ext x))
  | true =>
    refine h F (α ++ [p]) H ⟨Same.refl F, pre_app α p⟩ (.ref p) ⟨R.st.adopt gp (ob := .lst ys) k, R.len, fun i d e => let ⟨v, h1, h2⟩ := R.sl i d e; ⟨v, h1, h2.mono (Same.refl F) (pre_app α p)⟩⟩ (.loc ?_)
    rw [← R.st.len]
    simp
theorem wp_post {K : Frg} {G : Hp} {F : Hp} {α : List Addr} {β : Type} {b : β} {s : S} {P : Hp → List Addr → Hp → β → S → Prop} (h : ∀ F' α' H', Ext F α F' α' → P F' α' H' b s) : Wp K G E F α (some (.ok b s)) P := h
theorem r_lc {K : Frg} {own : Bool} {vs js : List Nat} {src : M (List D)} {g : Tg} {t : TG} {tt : M Bool} {te : M D} (hg : SpG K t g js) (hj : ∀ j ∈ js, j ∈ vs) {σ : L2.St} {H : Hp} {Q : VK} (h : rE K E (lcM own vs src g tt te) σ H Q) :
    tLc (rIt K E src) t (rT K E0 tt) (rE K E0 te) vs σ H Q := by
  obtain ⟨G, F, α, s, R, h⟩ := h
  refine ⟨G, F, α, s, R, h.bind.mono fun F1 α1 H1 ds s1 x1 h1 R1 J wk p hp => ?_⟩
  have gp : G p = none := R1.st.gx.free hp
  unfold lcK at h1
  cases e0 : lcR (wipeD s1.e vs) g tt te ds s1.s with
  | none => simp only [e0] at h1; exact h1.elim
  | some q0 =>
    obtain ⟨yys, ςe⟩ := q0
    simp only [e0] at h1
    obtain ⟨gs, h2⟩ := wp_guard h1
    have track0 : RelS K (upd G p (.lst [])) F1 (upd H1 p (.lst [])) α1 σ s1 := ⟨R1.st.track hp _, R1.len, R1.sl⟩
    refine ⟨fun i m H' => m = ds.length - i ∧ i ≤ ds.length ∧ ∃ F2 α2 ς2 acc ys zs, Ext F1 α1 F2 α2 ∧ Rel0 K (upd G p (.lst acc)) F2 H' α2 ς2 ∧ HasL K F2 α2 acc ys ∧ lcR (wipeD s1.e vs) g tt te (ds.drop i) ς2 = some (zs, ςe) ∧ yys = ys ++ zs,
      ⟨ds.length, by simp, Nat.zero_le _, F1, α1, s1.s, [], [], yys, Ext.refl _ _, track0.st, .nil, e0, rfl⟩, ?_⟩
    rintro i m H2 ⟨rfl, hi, F2, α2, ς2, acc, ys, zs, x2, R2, k2, e2, ey⟩
    obtain ⟨w1, w2⟩ := wk i F2 H2 α2 x2 R2.ex
    by_cases hlt : i < ds.length
    · have hd : ds.drop i = ds[i] :: ds.drop (i + 1) := List.drop_eq_getElem_cons hlt
      obtain ⟨go, yl⟩ := w1 ds[i] (by simp [hlt])
      refine .inr ⟨go, fun H' => ds.length - (i + 1) = ds.length - (i + 1) ∧ i + 1 ≤ ds.length ∧ ∃ F2 α2 ς2 acc ys zs, Ext F1 α1 F2 α2 ∧ Rel0 K (upd G p (.lst acc)) F2 H' α2 ς2 ∧ HasL K F2 α2 acc ys ∧ lcR (wipeD s1.e vs) g tt te (ds.drop (i + 1)) ς2 = some (zs, ςe) ∧ yys = ys ++ zs,
        fun H' q => ⟨ds.length - (i + 1), by omega, q⟩, fun x H' y => ?_⟩
      obtain ⟨F3, x3, keep, hx⟩ := yl x H' y
      rw [hd] at e2
      have base : RelS K (upd G p (.lst acc)) F2 H2 α2 (L2.wipe σ vs) ⟨wipeD s1.e vs, ς2⟩ := (RelS.wipe (R := ⟨R2, R1.len, fun i d e => let ⟨v, h1, h2⟩ := R1.sl i d e; ⟨v, h1, h2.ext x2⟩⟩) (s := ⟨s1.e, ς2⟩) (σ := σ) vs)
      have e3 : ((g ds[i] ⟨wipeD s1.e vs, ς2⟩).bind fun s1' => match tt s1' with
        | some (.ok true s2) => (match te s2 with
          | some (.ok y s3) => (lcR (wipeD s1.e vs) g tt te (ds.drop (i + 1)) s3.s).map fun p => (y :: p.1, p.2)
          | _ => none)
        | some (.ok false s2) => lcR (wipeD s1.e vs) g tt te (ds.drop (i + 1)) s2.s
        | _ => none) = some (zs, ςe) := e2
      obtain ⟨s3, e4, e5⟩ := Option.bind_eq_some_iff.mp e3
      refine hg (upd G p (.lst acc)) F3 H' α2 (L2.wipe σ vs) _ x ds[i] s3 _ (keep _ _ _ base) hx e4 fun σ3 R3 b3 => ?_
      refine ⟨wipe_but b3 hj, upd G p (.lst acc), F3, α2, s3, R3, ?_⟩
      cases et : tt s3 with
      | none => simp only [et] at e5; cases e5
      | some ot =>
        cases ot with
        | exc C fs ς => simp only [et] at e5; cases e5
        | ok b s4 =>
          refine wp_post fun F4 α4 H4 x4 R4 => ?_
          cases b with
          | false =>
            simp only [et] at e5
            refine iteF ⟨rfl, hlt, F4, α4, s4.s, acc, ys, zs, x2.trans (x3.trans x4), R4.st, k2.ext (x3.trans x4), e5, ey⟩
          | true =>
            simp only [et] at e5
            refine iteT ⟨upd G p (.lst acc), F4, α4, s4, R4, ?_⟩
            cases ee : te s4 with
            | none => simp only [ee] at e5; cases e5
            | some oe =>
              cases oe with
              | exc C fs ς => simp only [ee] at e5; cases e5
              | ok yd s5 =>
                simp only [ee] at e5
                obtain ⟨pr, e6, e7⟩ := Option.map_eq_some_iff.mp e5
                obtain ⟨zs', ςe'⟩ := pr
                cases e7
                refine wp_post fun F5 α5 H5 x5 yv R5 ky => ?_
                have lt : acc.length < sizeLine := by
                  have q := k2.len
                  have q2 := congrArg List.length ey
                  rw [List.length_append, List.length_cons] at q2
                  have q3 := of_decide_eq_true gs
                  have q4 : sizeLine = 16777216 := sizeLine_eq
                  omega
                refine ⟨acc, R5.st.gx p _ upd_same, lt, rfl, hlt, F5, α5, s5.s, acc ++ [yv], ys ++ [yd], zs', x2.trans (x3.trans (x4.trans x5)), R5.st.retrack, (k2.ext (x3.trans (x4.trans x5))).app (.cons ky .nil), e6, by rw [ey, List.append_assoc]; rfl⟩
    · have e : i = ds.length := by omega
      subst e
      refine .inl ⟨w2 (Nat.le_refl _), ?_⟩
      rw [List.drop_length] at e2
      cases e2
      rw [List.append_nil] at ey
      subst ey
      exact fin_track (h2.ext x2) gp (s := ⟨s1.e, ςe⟩) ⟨R2, R1.len, fun i d e => let ⟨v, h1, h2⟩ := R1.sl i d e; ⟨v, h1, h2.ext x2⟩⟩ k2
abbrev DTs (X : Cx) (E : XK) (ifs : List Expr) (m : M Bool) : Prop := PTs X ifs (rT X.K E m)
theorem d_ts0 : DTs X E [] (ret true) := ⟨fun pins s σ H Q I h => pts_nil.run pins s σ H Q I (by
  obtain ⟨G, F, α, s, R, h⟩ := h
  exact h F α H (Ext.refl _ _) R)⟩
theorem d_ts1 {m : M Bool} (h : DT X E c m) : DTs X E [c] m := pts_one h
theorem tLc_mono {wi : TI} {g g' : TG} {tt tt' : TT} {te te' : TE} {vs : List Nat} : True := trivial
theorem d_lc (own : Bool) {elt tg iter : Expr} {ifs : List Expr} {scope : Scope} {ow : List (Str × Nat)} {src : M (List D)} {g : Tg} {js : List Nat} {t : TG} {tt : M Bool} {te : M D} (hc : X.calm = true) (hN : X.N.Nodup) (hi : DI X E tg iter src) (ok : BlkOk X.N X.env.scope scope ow)
    (hg : ∀ (s : Shared) (H : Hp) (C : Addr) (cl : List (Str × Addr)) (fp : List Addr), DG (X.blk s H scope (compEnvC scope cl C X.env) fp) tg g js t) (ht : ∀ (s : Shared) (H : Hp) (C : Addr) (cl : List (Str × Addr)) (fp : List Addr), DTs (X.blk s H scope (compEnvC scope cl C X.env) fp) E0 ifs tt)
    (he : ∀ (s : Shared) (H : Hp) (C : Addr) (cl : List (Str × Addr)) (fp : List Addr), DE (X.blk s H scope (compEnvC scope cl C X.env) fp) E0 elt te) (hj : ∀ j ∈ js, j ∈ ow.map (·.2) := by decide) (hs : ∀ x, foldedSetIterable iter X.env x = pure x := by intro _; rfl) :
    DE X E (.ListComp elt [⟨tg, iter, ifs, 0⟩] scope pos) (lcM own (ow.map (·.2)) src g tt te) := by
  refine ⟨fun pins s σ H Q I h => ?_⟩
  have hsp : SpG X.K t g js := (hg s H 0 [] []).sp
  exact (pe_lc hc hN hi ok (fun s H C cl fp => (hg s H C cl fp).pg) ht he hs).run pins s σ H Q I (r_lc hsp hj h)
theorem d_setLc (i : Nat) (own : Bool) {y : Str} {py spos : Pos} {elt tg iter : Expr} {ifs : List Expr} {scope : Scope} {ow : List (Str × Nat)} {src : M (List D)} {g : Tg} {js : List Nat} {t : TG} {tt : M Bool} {te : M D} (hc : X.calm = true) (hN : X.N.Nodup) (hi : DI X E tg iter src) (ok : BlkOk X.N X.env.scope scope ow)
    (hg : ∀ (s : Shared) (H : Hp) (C : Addr) (cl : List (Str × Addr)) (fp : List Addr), DG (X.blk s H scope (compEnvC scope cl C X.env) fp) tg g js t) (ht : ∀ (s : Shared) (H : Hp) (C : Addr) (cl : List (Str × Addr)) (fp : List Addr), DTs (X.blk s H scope (compEnvC scope cl C X.env) fp) E0 ifs tt)
    (he : ∀ (s : Shared) (H : Hp) (C : Addr) (cl : List (Str × Addr)) (fp : List Addr), DE (X.blk s H scope (compEnvC scope cl C X.env) fp) E0 elt te) (hj : ∀ j ∈ js, j ∈ ow.map (·.2) := by decide)
    (hsw : swapsWith (.ListComp elt [⟨tg, iter, ifs, 0⟩] scope pos) (some (.Name y py)) spos.line X.env = pure true := by exact sw_true rfl rfl rfl (by decide +kernel)) (hy : X.N[i]? = some y := by rfl) (hyl : X.env.scope.names.lookup y = some .local := by rfl) (hs : ∀ x, foldedSetIterable iter X.env x = pure x := by intro _; rfl) :
    DS X E (.Assign [.Name y py] (.ListComp elt [⟨tg, iter, ifs, 0⟩] scope pos) spos) (asg (lcM own (ow.map (·.2)) src g tt te) (gset i)) := by
  refine ⟨fun pins s σ H D I h => ?_⟩
  have hsp : SpG X.K t g js := (hg s H 0 [] []).sp
  refine (ps_setLc (tt := rT X.K E0 tt) (te := rE X.K E0 te) hc hN hy hyl hsw hi ok (fun s H C cl fp => (hg s H C cl fp).pg) ht he hs).run pins s σ H D I ?_
  have q : tAsg (rE X.K E (lcM own (ow.map (·.2)) src g tt te)) (gName i) D σ H := r_asg (js := [i]) (g := gset i) (fun G F H α σ s v d s' Q R k e q => by cases e; exact q _ (R.set k i) (But.set i v σ)) h
  exact r_lc hsp hj q
end

/-! ### things that change -/
section
variable {X : Cx} {E : XK} {e a b c o i : Expr} {es : List Expr} {st : Stmt} {pos pos' : Pos}
theorem RelS.put {K : Frg} {G F H : Hp} {α : List Addr} {σ : L2.St} {s : S} (R : RelS K G F H α σ s) {i : Nat} {ob o' : O} {a : Addr} {h' : HO} (e : s.s[i]? = some (some ob)) (ea : α[i]? = some a) (k : HObj K F α h' o') : RelS K G F (upd H a h') α σ { s with s := s.s.set i (some o') } :=
  ⟨R.st.put e ea k, R.len, R.sl⟩
def putS (s : S) (i : Nat) (ob : O) : S := { s with s := s.s.set i (some ob) }
/-- the list that a loc means -/
def ownL (ς : Store) : D → Option (Nat × List D)
  | .loc i => match ς[i]? with
    | some (some (.lst ds)) => some (i, ds)
    | _ => none
  | _ => none
theorem own_at {K : Frg} {G F H : Hp} {α : List Addr} {ς : Store} {v : V} {d : D} {i : Nat} {ds : List D} (R : Rel0 K G F H α ς) (h : Has K F α v d) (e : ownL ς d = some (i, ds)) : ∃ a xs, v = .ref a ∧ d = .loc i ∧ α[i]? = some a ∧ ς[i]? = some (some (.lst ds)) ∧ HasL K F α xs ds ∧ H a = some (.lst xs) := by
  cases h <;> simp only [ownL] at e <;> try (cases e; done)
  rename_i a j ha
  split at e
  · rename_i ds' q
    cases e
    obtain ⟨a', h, h1, h2, h3, h4⟩ := R.obj i _ q
    rw [ha] at h1
    cases h1
    obtain ⟨xs, rfl, h5⟩ := h4.lst
    exact ⟨a, xs, rfl, rfl, ha, q, h5, h2⟩
  · cases e
def isL (ς : Store) (d : D) : Bool := match seqD ς d with
  | some (true, _) => true
  | _ => false
def chk {β : Type} (p : Store → Bool) (m : M β) : M β := fun s => guard' (p s.s) m s
theorem wp_chk {K : Frg} {G F : Hp} {α : List Addr} {β : Type} {p : Store → Bool} {m : M β} {s : S} {P : Hp → List Addr → Hp → β → S → Prop} (h : Wp K G E F α (chk p m s) P) : p s.s = true ∧ Wp K G E F α (m s) P := wp_guard h
theorem isL_at {K : Frg} {G F H : Hp} {α : List Addr} {ς : Store} {v : V} {d : D} (R : Rel0 K G F H α ς) (h : Has K F α v d) (e : isL ς d = true) : tyV K "list" v H := by
  unfold isL at e
  split at e
  · rename_i ds q
    obtain ⟨a, xs, rfl, hl, w1, w2⟩ := seq_at R h q
    exact .inl ⟨rfl, xs, w1 rfl⟩
  · cases e
/-- a method of a list -/
def mthL (f : D → List D → M D) (m : M D) (n : M (List D)) : M D := bnd m fun d => chk (fun ς => isL ς d) (bnd n (f d))
theorem d_mthL {name : Str} {apos cpos : Pos} {id : String} {r : V → List V → Hp → VK → Prop} {f : D → List D → M D} {m : M D} {n : M (List D)} (slot : Slot "list" name id) (hty : typeOf (.builtin id) = pure (.type "method_descriptor")) (hm : MtR X id r) (hr : SpM X.K E r f) (ho : DE X E o m) (ha : DA X E (e :: es) n)
    (hbase : attributeBase o name X.env (eval o X.env) = eval o X.env := by rfl)
    (hfew : ((backTo cpos (starEach (e :: es) X.env)).all (fun x => !x.1) && (backToKw cpos (keywordEach [] X.env)).all (fun x => x.1.isSome)
      && decide ((e :: es).length + ([] : List Keyword).length + (if ([] : List Keyword).isEmpty then 0 else 1) < 30)) = true := by rfl)
    (hline : (apos.endLine == cpos.line) = true := by rfl) (hs : starEach (e :: es) X.env = (false, eval e X.env) :: starEach es X.env := by rfl) (hplain : (backTo cpos (starEach es X.env)).any (·.1) = false := by rfl) :
    DE X E (.Call (.Attribute o name apos) (e :: es) [] cpos) (mthL f m n) := by
  refine PE.weak (pe_bm PySem.F.plainAttrs_list slot hty hm ho ha hbase hfew hline hs hplain) fun σ H Q ⟨G, F, α, s, R, h⟩ => ?_
  refine ⟨G, F, α, s, R, h.bind.mono fun F1 α1 H1 d s1 x1 h1 v R1 k1 => ?_⟩
  obtain ⟨g, h2⟩ := wp_chk h1
  refine ⟨isL_at R1.st k1 g, G, F1, α1, s1, R1, h2.bind.mono fun F2 α2 H2 ds s2 x2 h3 vs R2 k2 => ?_⟩
  exact hr G F2 H2 α2 σ s2 v d vs ds Q R2 (k1.ext x2) k2 h3
def fAppend : D → List D → M D := fun d ds s => match ownL s.s d, ds with
  | some (i, xs), [y] => guard' (small xs.length) (ret .non) (putS s i (.lst (xs ++ [y])))
  | _, _ => none
theorem s_append {K : Frg} : SpM K E rAppend fAppend := by
  intro G F H α σ s x d xs ds Q R kx ks h
  unfold fAppend at h
  split at h
  · rename_i i ys y q
    obtain ⟨g, h1⟩ := wp_guard h
    obtain ⟨v, rfl, kv⟩ := ks.one
    obtain ⟨a, zs, rfl, rfl, ea, es, hl, hh⟩ := own_at R.st kx q
    refine ⟨a, zs, v, rfl, rfl, hh, by rw [hl.len]; exact small_lt g, ?_⟩
    exact h1 F α _ (Ext.refl _ _) .non (R.put es ea (o' := .lst (ys ++ [y])) (hl.app (.cons kv .nil))) .non
  · exact h.elim
def fExtend : D → List D → M D := fun d ds s => match ownL s.s d, ds with
  | some (i, xs), [y] => match lstD s.s y with
    | some ys => guard' (small (xs.length + ys.length)) (ret .non) (putS s i (.lst (xs ++ ys)))
    | none => none
  | _, _ => none
theorem s_extend {K : Frg} : SpM K E rExtend fExtend := by
  intro G F H α σ s x d xs ds Q R kx ks h
  unfold fExtend at h
  split at h
  · rename_i i ys y q
    split at h
    · rename_i ws q2
      obtain ⟨g, h1⟩ := wp_guard h
      obtain ⟨v, rfl, kv⟩ := ks.one
      obtain ⟨a, zs, rfl, rfl, ea, es, hl, hh⟩ := own_at R.st kx q
      obtain ⟨b, us, rfl, hl2, hh2⟩ := lst_at R.st kv q2
      refine ⟨a, b, zs, us, rfl, rfl, hh, hh2, by rw [hl.len, hl2.len]; exact small_ok g, ?_⟩
      exact h1 F α _ (Ext.refl _ _) .non (R.put es ea (o' := .lst (ys ++ ws)) (hl.app hl2)) .non
    · exact h.elim
  · exact h.elim
/-- the first place of a flat thing -/
def idxD (y : D) : List D → Option Nat
  | [] => none
  | d :: ds => if eqD d y then some 0 else (idxD y ds).map (· + 1)
def fIndex : D → List D → M D := fun d ds s => match seqD s.s d, ds with
  | some (true, xs), [y] => match idxD y xs with
    | some j => guard' (y.flt && xs.all D.flt) (ret (.int j)) s
    | none => none
  | _, _ => none
theorem idxD_some {y : D} : ∀ {xs : List D} {j : Nat}, idxD y xs = some j → ∃ z, xs[j]? = some z ∧ eqD z y = true ∧ ∀ (m : Nat) (z' : D), m < j → xs[m]? = some z' → eqD z' y = false
  | [], j, h => by cases h
  | d :: ds, j, h => by
    unfold idxD at h
    by_cases c : eqD d y = true
    · rw [if_pos c] at h
      cases h
      exact ⟨d, rfl, c, fun m z' q => by omega⟩
    · rw [if_neg c] at h
      obtain ⟨k, h1, h2⟩ := Option.map_eq_some_iff.mp h
      subst h2
      obtain ⟨z, q1, q2, q3⟩ := idxD_some h1
      refine ⟨z, by simpa using q1, q2, fun m z' hm e => ?_⟩
      cases m with
      | zero => simp at e; subst e; simpa using c
      | succ m => exact q3 m z' (by omega) (by simpa using e)
theorem s_index {K : Frg} : SpM K E (rIndex K) fIndex := by
  intro G F H α σ s x d xs ds Q R kx ks h
  unfold fIndex at h
  split at h
  · rename_i ys y q
    split at h
    · rename_i j q2
      obtain ⟨g, h1⟩ := wp_guard h
      rw [Bool.and_eq_true] at g
      obtain ⟨v, rfl, kv⟩ := ks.one
      obtain ⟨a, zs, rfl, hl, w1, w2⟩ := seq_at R.st kx q
      obtain ⟨z, q3, q4, q5⟩ := idxD_some q2
      obtain ⟨zv, q6, q7⟩ := hl.get q3
      refine ⟨a, zs, v, j, zv, rfl, rfl, w1 rfl, by rw [kv.flt]; exact g.1, by rw [hl.flt]; exact g.2, q6, by rw [q7.eqD kv]; exact q4, fun m z' hm e => ?_, fin h1 R (.int _)⟩
      obtain ⟨d', e1, e2⟩ := hl.getV e
      rw [e2.eqD kv]
      exact q5 m d' hm e1
    · exact h.elim
  · exact h.elim
/-! xs[i] = e -/
def setL (mo mi me : M D) : M Fl := bnd me fun v => bnd mo fun d => bnd mi fun k => fun s => match ownL s.s d, k with
  | some (i, xs), .int j => match ixN xs.length j with
    | some n => some (.ok .nx (putS s i (.lst (xs.set n v))))
    | none => none
  | _, _ => none
theorem d_setL {mo mi me : M D} (he : DE X E e me) (ho : DE X E o mo) (hi : DE X E i mi)
    (ha : ∀ v, assign (.Subscript o i pos') X.env v = (do
      let ov ← holding [v] (eval o X.env)
      let iv ← holding [v, ov] (eval i X.env)
      standAt pos'
      holding [v, ov, iv] (setItem ov iv v)
      release [v, ov, iv] []) := by intro _; rfl)
    (hs : swapsWithSole [.Subscript o i pos'] e pos.line X.env = pure false := by rfl) (hw : swappedStores [.Subscript o i pos'] e X.env = pure none := by rfl)
    (h1 : (assignEach [.Subscript o i pos'] X.env).map (·.2) = [assign (.Subscript o i pos') X.env] := by rfl) : DS X E (.Assign [.Subscript o i pos'] e pos) (setL mo mi me) := by
  refine PS.weak (ps_asg he (pg_sub ho hi set_list ha) hs hw h1) fun D σ H ⟨G, F, α, s, R, h⟩ => ?_
  refine ⟨G, F, α, s, R, h.bind.mono fun F1 α1 H1 d s1 x1 h1 v R1 k1 => ?_⟩
  refine ⟨G, F1, α1, s1, R1, h1.bind.mono fun F2 α2 H2 od s2 x2 h2 ov R2 k2 => ?_⟩
  refine ⟨G, F2, α2, s2, R2, h2.bind.mono fun F3 α3 H3 kd s3 x3 h3 kv R3 k3 => ?_⟩
  split at h3
  · rename_i i' xs j q
    split at h3
    · rename_i n q2
      obtain ⟨a, zs, rfl, rfl, ea, es, hl, hh⟩ := own_at R3.st (k2.ext x3) q
      cases k3
      refine ⟨a, zs, j, n, rfl, rfl, hh, by rw [hl.len]; exact q2, ?_⟩
      exact h3 F3 α3 _ (Ext.refl _ _) σ (R3.put es ea (o' := .lst (xs.set n d)) (HasL.set (k1.ext (x2.trans x3)) n hl))
    · exact h3.elim
  · exact h3.elim
/-! xs[i] += e -/
def rGetL (K : Frg) : V → V → Hp → VK → Prop := fun x y H Q => ∃ p xs i v, x = .ref p ∧ y = .int i ∧ SqL K H p xs ∧ atI xs i = some v ∧ Q v H
theorem get_list : PGet X (rGetL X.K) := by
  intro pins s σ H x y v u Q I rx ry h
  obtain ⟨p, xs, i, z, rfl, rfl, hq, he, q⟩ := h
  cases rx
  obtain ⟨t, rfl⟩ := ry
  obtain ⟨its, r, pl, hz⟩ := I.list hq
  obtain ⟨j, h1, h2, h3, h4, h5⟩ := atI_get he
  obtain ⟨w, ew, rw'⟩ := r.get h2
  have hl := r.length
  have hn := line63
  have fin : EP X pins σ Q w s := ⟨z, H, I, rw', q⟩
  by_cases h0 : 0 ≤ i
  · have hj : i.toNat = j := by
      rw [PySem.seqIndex_of h0 h5] at h1
      exact Option.some.inj h1
    exact PySem.wpAny_getItem_list pl.isList h0 (by omega) (by rw [hj]; simpa using ew) fin
  · have hj : (i + (its.toArray.size : Int)).toNat = j := by
      rw [PySem.seqIndex_neg (by omega) h4] at h1
      rw [List.size_toArray, ← hl]
      exact Option.some.inj h1
    exact PySem.wpAny_getItem_list_neg pl.isList (by omega) (by rw [List.size_toArray] <;> omega) (by omega) (by rw [hj]; simpa using ew) fin
end
end DL

/-! from DL6.lean -/
set_option Elab.async false
set_option linter.all false
set_option maxRecDepth 100000
set_option maxHeartbeats 2000000
namespace DL
open PySem L2
open PyProof.Rows (envOfC)

section
variable {X : Cx} {E : XK} {e a b c o i f : Expr} {es : List Expr} {st : Stmt} {pos pos' p2 apos cpos tpos : Pos}
/-! ### xs[i] += e -/
def augL2 (g : Int → Int → Int) (d : D) (j m : Int) : D → M Fl := fun v s => match ownL s.s d, v with
  | some (i, ys), .int n => match ixN ys.length j with
    | some q => some (.ok .nx (putS s i (.lst (ys.set q (.int (g m n))))))
    | none => none
  | _, _ => none
def augL (g : Int → Int → Int) (mo mi me : M D) : M Fl := bnd mo fun d => bnd mi fun k => fun s => match ownL s.s d, k with
  | some (_, xs), .int j => match atI xs j with
    | some (.int m) => bnd me (augL2 g d j m) s
    | _ => none
  | _, _ => none
theorem d_augL {op : Operator} {g : Int → Int → Int} {mo mi me : M D} (hop : PIp X op (ipI g)) (ho : DE X E o mo) (hi : DE X E i mi) (he : DE X E e me)
    (ha : ∀ ov iv new, augStore i ov iv new = (do holding [new, ov, iv] (setItem ov iv new); release [new, ov, iv] []; pure .next) := by intros; rfl) : DS X E (.AugAssign (.Subscript o i tpos) op e pos) (augL g mo mi me) := by
  refine PS.weak (ps_augS ho hi get_list he hop set_list ha) fun D σ H ⟨G, F, α, s, R, h⟩ => ?_
  refine ⟨G, F, α, s, R, h.bind.mono fun F1 α1 H1 d s1 x1 h1 ov R1 k1 => ?_⟩
  refine ⟨G, F1, α1, s1, R1, h1.bind.mono fun F2 α2 H2 kd s2 x2 h2 kv R2 k2 => ?_⟩
  split at h2
  · rename_i i' xs j q
    split at h2
    · rename_i m q2
      obtain ⟨a, zs, rfl, rfl, ea, es, hl, hh⟩ := own_at R2.st (k1.ext x2) q
      obtain ⟨v, e1, e2⟩ := atI_has hl q2
      cases e2
      cases k2
      refine ⟨a, zs, j, _, rfl, rfl, SqL.of hh, e1, ?_⟩
      refine ⟨G, F2, α2, s2, R2, h2.bind.mono fun F3 α3 H3 vd s3 x3 h3 vv R3 k3 => ?_⟩
      unfold augL2 at h3
      split at h3
      · rename_i i2 ys n q3
        split at h3
        · rename_i qn q4
          obtain ⟨a', zs', ea', eb', ea2, es2, hl2, hh2⟩ := own_at R3.st (k1.ext (x2.trans x3)) q3
          cases ea'
          cases eb'
          cases k3
          refine ⟨m, n, rfl, rfl, a, zs', j, qn, rfl, rfl, hh2, by rw [hl2.len]; exact q4, ?_⟩
          exact h3 F3 α3 _ (Ext.refl _ _) σ (R3.put es2 ea2 (o' := .lst (ys.set qn (.int (g m n)))) (HasL.set (.int _) qn hl2))
        · exact h3.elim
      · exact h3.elim
    · exact h2.elim
  · exact h2.elim
/-! ### x += e, a number in a slot -/
def augN (g : Int → Int → Int) (i : Nat) (me : M D) : M Fl := fun s => match s.e[i]? with
  | some (some (.int m)) => bnd me (fun v => fun s => match v with
    | .int n => some (.ok .nx { s with e := s.e.set i (some (.int (g m n))) })
    | _ => none) s
  | _ => none
theorem d_augN {op : Operator} {g : Int → Int → Int} (i : Nat) {x : Str} {me : M D} (hop : PIp X op (ipI g)) (hN : X.N.Nodup) (he : DE X E e me) (hi : X.N[i]? = some x := by rfl) (hx : Loc X.env.scope x := by first | exact Or.inl rfl | exact Or.inr rfl) (hf : X.fn x = true ∨ X.env.scope.names.lookup x = some .local := by first | exact .inl rfl | exact .inr rfl | assumption) :
    DS X E (.AugAssign (.Name x pos') op e pos) (augN g i me) := by
  refine PS.weak (ps_aug hN hi hx he hop hf) fun D σ H ⟨G, F, α, s, R, h⟩ => ?_
  unfold augN at h
  split at h
  · rename_i m q
    obtain ⟨v, e1, e2⟩ := R.sl i _ q
    cases e2
    refine ⟨_, e1, G, F, α, s, R, h.bind.mono fun F1 α1 H1 vd s1 x1 h1 vv R1 k1 => ?_⟩
    split at h1
    · cases k1
      exact ⟨_, _, rfl, rfl, h1 F1 α1 H1 (Ext.refl _ _) _ (R1.set (.int _) i)⟩
    · exact h1.elim
  · exact h.elim

/-! ### dicts -/
def keyD : D → Option Key
  | .int i => some (.inl i)
  | .str x => some (.inr x)
  | _ => none
def valD (ms : List (Key × D)) (k : Key) : Option D := (ms.find? fun kv => decide (kv.1 = k)).map (·.2)
def putD (ms : List (Key × D)) (k : Key) (v : D) : List (Key × D) :=
  if (ms.any fun kv => decide (kv.1 = k)) = true then ms.map (fun kv => if kv.1 = k then (kv.1, v) else kv) else ms ++ [(k, v)]
/-- a dict, its place in the store if it may change -/
def dctD (ς : Store) : D → Option (List (Key × D))
  | .dct ms => some ms
  | .loc i => match ς[i]? with
    | some (some (.dct ms)) => some ms
    | _ => none
  | _ => none
def ownD (ς : Store) : D → Option (Nat × List (Key × D))
  | .loc i => match ς[i]? with
    | some (some (.dct ms)) => some (i, ms)
    | _ => none
  | _ => none
structure HasM (K : Frg) (F : Hp) (α : List Addr) (kvs : List (Key × V)) (ms : List (Key × D)) : Prop where
  ks : kvs.map (·.1) = ms.map (·.1)
  vs : HasL K F α (kvs.map (·.2)) (ms.map (·.2))
theorem HasM.cases {K : Frg} {F : Hp} {α : List Addr} {P : List (Key × V) → List (Key × D) → Prop} (h0 : P [] []) (h1 : ∀ k v d kvs ms, Has K F α v d → HasM K F α kvs ms → P kvs ms → P ((k, v) :: kvs) ((k, d) :: ms)) : ∀ {kvs : List (Key × V)} {ms : List (Key × D)}, HasM K F α kvs ms → P kvs ms
  | [], [], _ => h0
  | (k, v) :: kvs, (l, d) :: ms, ⟨ks, vs⟩ => by
    simp only [List.map_cons, List.cons.injEq] at ks
    obtain ⟨rfl, ks⟩ := ks
    cases vs with
    | cons hv hr => exact h1 k v d kvs ms hv ⟨ks, hr⟩ (HasM.cases h0 h1 ⟨ks, hr⟩)
  | [], _ :: _, ⟨ks, _⟩ => by simp at ks
  | _ :: _, [], ⟨ks, _⟩ => by simp at ks
theorem HasM.val {K : Frg} {F : Hp} {α : List Addr} {kvs : List (Key × V)} {ms : List (Key × D)} (h : HasM K F α kvs ms) (k : Key) : (valD ms k = none ∧ valV kvs k = none) ∨ ∃ v d, valD ms k = some d ∧ valV kvs k = some v ∧ Has K F α v d := by
  refine HasM.cases (P := fun kvs ms => (valD ms k = none ∧ valV kvs k = none) ∨ ∃ v d, valD ms k = some d ∧ valV kvs k = some v ∧ Has K F α v d) (.inl ⟨rfl, rfl⟩) (fun l v d kvs ms hv _ ih => ?_) h
  by_cases c : l = k
  · subst c
    exact .inr ⟨v, d, by simp [valD], by simp [valV], hv⟩
  · have e1 : valD ((l, d) :: ms) k = valD ms k := by simp [valD, List.find?_cons, c]
    have e2 : valV ((l, v) :: kvs) k = valV kvs k := by simp [valV, List.find?_cons, c]
    rw [e1, e2]
    exact ih
theorem HasM.any {K : Frg} {F : Hp} {α : List Addr} {kvs : List (Key × V)} {ms : List (Key × D)} (h : HasM K F α kvs ms) (k : Key) : (kvs.any fun kv => decide (kv.1 = k)) = ms.any fun kv => decide (kv.1 = k) := by
  refine HasM.cases (P := fun kvs ms => (kvs.any fun kv => decide (kv.1 = k)) = ms.any fun kv => decide (kv.1 = k)) rfl (fun l v d kvs ms _ _ ih => ?_) h
  rw [List.any_cons, List.any_cons, ih]
theorem HasM.app {K : Frg} {F : Hp} {α : List Addr} {kvs : List (Key × V)} {ms : List (Key × D)} (h : HasM K F α kvs ms) {k : Key} {v : V} {d : D} (hv : Has K F α v d) : HasM K F α (kvs ++ [(k, v)]) (ms ++ [(k, d)]) :=
  ⟨by rw [List.map_append, List.map_append, h.ks]; rfl, by rw [List.map_append, List.map_append]; exact h.vs.app (.cons hv .nil)⟩
theorem HasM.over {K : Frg} {F : Hp} {α : List Addr} {kvs : List (Key × V)} {ms : List (Key × D)} (h : HasM K F α kvs ms) {k : Key} {v : V} {d : D} (hv : Has K F α v d) : HasM K F α (kvs.map fun kv => if kv.1 = k then (kv.1, v) else kv) (ms.map fun kv => if kv.1 = k then (kv.1, d) else kv) := by
  refine HasM.cases (P := fun kvs ms => HasM K F α (kvs.map fun kv => if kv.1 = k then (kv.1, v) else kv) (ms.map fun kv => if kv.1 = k then (kv.1, d) else kv)) ⟨rfl, .nil⟩ (fun l w e kvs ms hw _ ih => ?_) h
  rw [List.map_cons, List.map_cons]
  by_cases c : l = k
  · rw [if_pos c, if_pos c]
    exact ⟨by simpa using ih.ks, .cons hv ih.vs⟩
  · rw [if_neg c, if_neg c]
    exact ⟨by simpa using ih.ks, .cons hw ih.vs⟩
theorem HasM.put {K : Frg} {F : Hp} {α : List Addr} {kvs : List (Key × V)} {ms : List (Key × D)} (h : HasM K F α kvs ms) (k : Key) {v : V} {d : D} (hv : Has K F α v d) : HasM K F α (putK kvs k v) (putD ms k d) := by
  unfold putK putD
  rw [h.any k]
  by_cases c : (ms.any fun kv => decide (kv.1 = k)) = true
  · rw [if_pos c, if_pos c]
    exact h.over hv
  · rw [if_neg c, if_neg c]
    exact h.app hv
theorem HasM.len {K : Frg} {F : Hp} {α : List Addr} {kvs : List (Key × V)} {ms : List (Key × D)} (h : HasM K F α kvs ms) : kvs.length = ms.length := by
  have := congrArg List.length h.ks
  simpa using this
theorem HObj.dct {K : Frg} {F : Hp} {α : List Addr} {h : HO} {ms : List (Key × D)} (k : HObj K F α h (.dct ms)) : ∃ kvs, h = .dK kvs ∧ HasM K F α kvs ms := by
  cases h <;> simp only [HObj] at k
  exact ⟨_, rfl, k.1, k.2⟩
theorem dct_at {K : Frg} {G F H : Hp} {α : List Addr} {ς : Store} {v : V} {d : D} {ms : List (Key × D)} (R : Rel0 K G F H α ς) (h : Has K F α v d) (e : dctD ς d = some ms) : ∃ a kvs, v = .ref a ∧ HasM K F α kvs ms ∧ H a = some (.dK kvs) := by
  cases h <;> simp only [dctD] at e <;> try (cases e; done)
  · cases e
    rename_i a kvs h1 h2 h3
    exact ⟨a, kvs, rfl, ⟨h2, h3⟩, R.ex _ _ h1⟩
  · rename_i a j ha
    split at e
    · rename_i ms' q
      cases e
      obtain ⟨a', h, h1, h2, h3, h4⟩ := R.obj j _ q
      rw [ha] at h1
      cases h1
      obtain ⟨kvs, rfl, h5⟩ := h4.dct
      exact ⟨a, kvs, rfl, h5, h2⟩
    · cases e
theorem ownD_at {K : Frg} {G F H : Hp} {α : List Addr} {ς : Store} {v : V} {d : D} {i : Nat} {ms : List (Key × D)} (R : Rel0 K G F H α ς) (h : Has K F α v d) (e : ownD ς d = some (i, ms)) : ∃ a kvs, v = .ref a ∧ d = .loc i ∧ α[i]? = some a ∧ ς[i]? = some (some (.dct ms)) ∧ HasM K F α kvs ms ∧ H a = some (.dK kvs) := by
  cases h <;> simp only [ownD] at e <;> try (cases e; done)
  rename_i a j ha
  split at e
  · rename_i ms' q
    cases e
    obtain ⟨a', h, h1, h2, h3, h4⟩ := R.obj i _ q
    rw [ha] at h1
    cases h1
    obtain ⟨kvs, rfl, h5⟩ := h4.dct
    exact ⟨a, kvs, rfl, rfl, ha, q, h5, h2⟩
  · cases e
theorem key_at {K : Frg} {F : Hp} {α : List Addr} {v : V} {d : D} {k : Key} (h : Has K F α v d) (e : keyD d = some k) : v = kV k := by
  cases h <;> simp only [keyD] at e <;> try (cases e; done)
  · cases e; rfl
  · cases e; rfl
/-- {} -/
def newD : M D := fun s => some (.ok (.loc s.s.length) { s with s := s.s ++ [some (.dct [])] })
theorem d_newD : DE X E (.Dict [] [] pos) newD := by
  refine PE.weak pe_dnewK fun σ H Q ⟨G, F, α, s, R, h⟩ p hp => ?_
  refine h F (α ++ [p]) _ ⟨Same.refl F, pre_app α p⟩ (.ref p) (R.new hp (o := .dct []) ⟨rfl, .nil⟩) (.loc ?_)
  rw [← R.st.len]
  simp
/-- d[k] -/
def getD' (md mk : M D) : M D := bnd md fun d => bnd mk fun k => fun s => match dctD s.s d, keyD k with
  | some ms, some k => match valD ms k with
    | some v => some (.ok v s)
    | none => none
  | _, _ => none
theorem d_getD {md mk : M D} (hu : X.A.units + 1 < cLine) (ho : DE X E o md) (hi : DE X E i mk) (hs : NoSl i := by intro _ _; rfl) : DE X E (.Subscript o i pos) (getD' md mk) := by
  refine PE.weak (pe_dget hu ho hi hs) fun σ H Q ⟨G, F, α, s, R, h⟩ => ?_
  refine ⟨G, F, α, s, R, h.bind.mono fun F1 α1 H1 d s1 x1 h1 v R1 k1 => ?_⟩
  refine ⟨G, F1, α1, s1, R1, h1.bind.mono fun F2 α2 H2 kd s2 x2 h2 kv R2 k2 => ?_⟩
  split at h2
  · rename_i ms k q1 q2
    split at h2
    · rename_i w q3
      obtain ⟨a, kvs, rfl, hm, hh⟩ := dct_at R2.st (k1.ext x2) q1
      rw [key_at k2 q2]
      rcases hm.val k with ⟨z, _⟩ | ⟨v, d', z1, z2, z3⟩
      · rw [q3] at z; cases z
      · rw [q3] at z1
        cases z1
        refine ⟨a, v, rfl, ?_, fin h2 R2 z3⟩
        rw [← z2]
        exact DGet.k hh
    · exact h2.elim
  · exact h2.elim
/-- k in d -/
def inD (neg : Bool) (mk md : M D) : M D := bnd mk fun k => bnd md fun d => fun s => match dctD s.s d, keyD k with
  | some ms, some k => some (.ok (.bl (if neg then !(valD ms k).isSome else (valD ms k).isSome)) s)
  | _, _ => none
theorem isSome_val {K : Frg} {F : Hp} {α : List Addr} {kvs : List (Key × V)} {ms : List (Key × D)} (h : HasM K F α kvs ms) (k : Key) : (valV kvs k).isSome = (valD ms k).isSome := by
  rcases h.val k with ⟨z1, z2⟩ | ⟨v, d, z1, z2, _⟩ <;> rw [z1, z2] <;> rfl
theorem r_inD {K : Frg} {md mk : M D} {σ : L2.St} {H : Hp} {Q : VK} (h : rE K E (inD false mk md) σ H Q) : tDIn (rE K E mk) (rE K E md) σ H Q := by
  obtain ⟨G, F, α, s, R, h⟩ := h
  refine ⟨G, F, α, s, R, h.bind.mono fun F1 α1 H1 d s1 x1 h1 v R1 k1 => ?_⟩
  refine ⟨G, F1, α1, s1, R1, h1.bind.mono fun F2 α2 H2 kd s2 x2 h2 kv R2 k2 => ?_⟩
  split at h2
  · rename_i ms k q1 q2
    obtain ⟨a, kvs, rfl, hm, hh⟩ := dct_at R2.st k2 q1
    rw [key_at k1 q2]
    refine ⟨a, _, rfl, DGet.k hh, ?_⟩
    rw [isSome_val hm k]
    exact fin h2 R2 (.bl _)
  · exact h2.elim
theorem d_inD {md mk : M D} (hu : X.A.units + 1 < cLine) (hi : DE X E i mk) (ho : DE X E o md) (hm : behindInMarks .In o = false := by rfl) : DE X E (.Compare i [.In] [o] pos) (inD false mk md) :=
  PE.weak (pe_cmp (pc_din hu hi ho) hm) fun σ H Q h => r_inD h
theorem d_tinD {md mk : M D} (hu : X.A.units + 1 < cLine) (hi : DE X E i mk) (ho : DE X E o md) (hm : behindInMarks .In o = false := by rfl) : DT X E (.Compare i [.In] [o] pos) (tst (inD false mk md)) :=
  PT.weak (pt_cmp (pc_din hu hi ho) hm) fun σ H Q h => r_inD (r_tst h)
theorem r_notInD {K : Frg} {md mk : M D} {σ : L2.St} {H : Hp} {Q : VK} (h : rE K E (inD true mk md) σ H Q) : tDNotIn (rE K E mk) (rE K E md) σ H Q := by
  obtain ⟨G, F, α, s, R, h⟩ := h
  refine ⟨G, F, α, s, R, h.bind.mono fun F1 α1 H1 d s1 x1 h1 v R1 k1 => ?_⟩
  refine ⟨G, F1, α1, s1, R1, h1.bind.mono fun F2 α2 H2 kd s2 x2 h2 kv R2 k2 => ?_⟩
  split at h2
  · rename_i ms k q1 q2
    obtain ⟨a, kvs, rfl, hm, hh⟩ := dct_at R2.st k2 q1
    rw [key_at k1 q2]
    refine ⟨a, _, rfl, DGet.k hh, ?_⟩
    rw [isSome_val hm k]
    exact fin h2 R2 (.bl _)
  · exact h2.elim
theorem d_notInD {md mk : M D} (hu : X.A.units + 1 < cLine) (hi : DE X E i mk) (ho : DE X E o md) (hm : behindInMarks .NotIn o = false := by rfl) : DE X E (.Compare i [.NotIn] [o] pos) (inD true mk md) :=
  PE.weak (pe_cmp (pc_dnotin hu hi ho) hm) fun σ H Q h => r_notInD h
theorem d_tnotInD {md mk : M D} (hu : X.A.units + 1 < cLine) (hi : DE X E i mk) (ho : DE X E o md) (hm : behindInMarks .NotIn o = false := by rfl) : DT X E (.Compare i [.NotIn] [o] pos) (tst (inD true mk md)) :=
  PT.weak (pt_cmp (pc_dnotin hu hi ho) hm) fun σ H Q h => r_notInD (r_tst h)
/-- d.get(k, x) -/
def get2D (md mk mx : M D) : M D := bnd md fun d => chk (fun ς => (dctD ς d).isSome) (bnd mk fun k => bnd mx fun x => fun s => match dctD s.s d, keyD k with
  | some ms, some k => some (.ok ((valD ms k).getD x) s)
  | _, _ => none)
theorem d_get2D {md mk mx : M D} (hu : X.A.units + 1 < cLine) (ho : DE X E o md) (he : DE X E e mk) (hf : DE X E f mx) (m : M2 X o "get" apos e f cpos := by exact ⟨rfl, rfl, rfl, rfl⟩) : DE X E (.Call (.Attribute o "get" apos) [e, f] [] cpos) (get2D md mk mx) := by
  refine PE.weak (pe_dget2 hu ho he hf m) fun σ H Q ⟨G, F, α, s, R, h⟩ => ?_
  refine ⟨G, F, α, s, R, h.bind.mono fun F1 α1 H1 d s1 x1 h1 v R1 k1 => ?_⟩
  obtain ⟨g, h1⟩ := wp_chk h1
  obtain ⟨ms0, g⟩ := Option.isSome_iff_exists.mp g
  obtain ⟨a, kvs0, rfl, hm0, hh0⟩ := dct_at R1.st k1 g
  refine ⟨a, rfl, .inl ⟨kvs0, .inl hh0⟩, ?_⟩
  refine ⟨G, F1, α1, s1, R1, h1.bind.mono fun F2 α2 H2 kd s2 x2 h2 kv R2 k2 => ?_⟩
  refine ⟨G, F2, α2, s2, R2, h2.bind.mono fun F3 α3 H3 xd s3 x3 h3 xv R3 k3 => ?_⟩
  split at h3
  · rename_i ms k q1 q2
    obtain ⟨a', kvs, ea, hm, hh⟩ := dct_at R3.st (k1.ext (x2.trans x3)) q1
    cases ea
    rw [key_at (k2.ext x3) q2]
    refine ⟨_, DGet.k hh, ?_⟩
    rcases hm.val k with ⟨z1, z2⟩ | ⟨v, d', z1, z2, z3⟩
    · rw [z1] at h3
      rw [z2]
      exact fin h3 R3 k3
    · rw [z1] at h3
      rw [z2]
      exact fin h3 R3 z3
  · exact h3.elim
/-- d[k] = v -/
def putDS (md mk mv : M D) : M Fl := bnd mv fun v => bnd md fun d => bnd mk fun k => fun s => match ownD s.s d, keyD k with
  | some (i, ms), some k => guard' (small ms.length) (ret .nx) (putS s i (.dct (putD ms k v)))
  | _, _ => none
theorem d_putD {md mk mv : M D} (hu : X.A.units + 1 < cLine) (hv : DE X E e mv) (ho : DE X E o md) (hi : DE X E i mk) (hs : swapsWith e (some (.Subscript o i pos')) pos.line X.env = pure false := by rfl) : DS X E (.Assign [.Subscript o i pos'] e pos) (putDS md mk mv) := by
  refine PS.weak (ps_dput hu ho hi hv hs) fun D σ H ⟨G, F, α, s, R, h⟩ => ?_
  refine ⟨G, F, α, s, R, h.bind.mono fun F1 α1 H1 d s1 x1 h1 v R1 k1 => ?_⟩
  refine ⟨G, F1, α1, s1, R1, h1.bind.mono fun F2 α2 H2 od s2 x2 h2 ov R2 k2 => ?_⟩
  refine ⟨G, F2, α2, s2, R2, h2.bind.mono fun F3 α3 H3 kd s3 x3 h3 kv R3 k3 => ?_⟩
  split at h3
  · rename_i j ms k q1 q2
    obtain ⟨g, h3⟩ := wp_guard h3
    obtain ⟨a, kvs, rfl, rfl, ea, es, hm, hh⟩ := ownD_at R3.st (k2.ext x3) q1
    rw [key_at k3 q2]
    refine ⟨a, _, rfl, DPut.k hh (by rw [hm.len]; exact small_lt g), ?_⟩
    have hp := hm.put k (k1.ext (x2.trans x3))
    exact h3 F3 α3 _ (Ext.refl _ _) σ (R3.put es ea (o' := .dct (putD ms k d)) ⟨hp.ks, hp.vs⟩)
  · exact h3.elim
/-- list(d): its keys -/
def kD : Key → D
  | .inl i => .int i
  | .inr x => .str x
theorem has_kD {K : Frg} {F : Hp} {α : List Addr} (k : Key) : Has K F α (kV k) (kD k) := by
  cases k with
  | inl i => exact .int i
  | inr x => exact .str x
theorem has_keys {K : Frg} {F : Hp} {α : List Addr} {kvs : List (Key × V)} {ms : List (Key × D)} (h : HasM K F α kvs ms) : HasL K F α (kvs.map fun (kv : Key × V) => kV kv.1) (ms.map fun (kv : Key × D) => kD kv.1) :=
  HasM.cases (P := fun (kvs : List (Key × V)) (ms : List (Key × D)) => HasL K F α (kvs.map fun (kv : Key × V) => kV kv.1) (ms.map fun (kv : Key × D) => kD kv.1)) .nil (fun k v d kvs ms _ _ ih => show HasL K F α (kV k :: kvs.map fun (kv : Key × V) => kV kv.1) (kD k :: ms.map fun (kv : Key × D) => kD kv.1) from .cons (has_kD k) ih) h
def fListDD (own : Bool) : List D → M D := fun ds s => match ds with
  | [d] => match dctD s.s d with
    | some ms => mk own (ms.map fun (kv : Key × D) => kD kv.1) s
    | none => none
  | _ => none
theorem s_listD {K : Frg} (own : Bool) : SpA K E rListD (fListDD own) := by
  intro G F H α σ s xs ds Q R k h
  unfold fListDD at h
  split at h
  · obtain ⟨v, rfl, k1⟩ := k.one
    split at h
    · rename_i ms q
      obtain ⟨a, kvs, rfl, hm, hh⟩ := dct_at R.st k1 q
      exact ⟨a, kvs, rfl, hh, fin_lst h R (has_keys hm)⟩
    · exact h.elim
  · exact h.elim

/-! ### slices -/
def rO (K : Frg) (E : XK) (m : M (Option Int)) : TO := fun σ H Q => ∃ G F α s, RelS K G F H α σ s ∧ Wp K G E F α (m s) (fun F' α' H' k s' => RelS K G F' H' α' σ s' → Q k H')
abbrev DO (X : Cx) (E : XK) (x : Option Expr) (m : M (Option Int)) : Prop := PO X x (rO X.K E m)
theorem PO.weak {x : Option Expr} {t t' : TO} (h : PO X x t) (k : ∀ σ H Q, t' σ H Q → t σ H Q) : PO X x t' := ⟨fun pins s σ H Q I q => h.run pins s σ H Q I (k σ H Q q)⟩
theorem d_o0 : DO X E none (ret none) := PO.weak po_none fun σ H Q ⟨G, F, α, s, R, h⟩ => h F α H (Ext.refl _ _) R
def oInt (m : M D) : M (Option Int) := bnd m fun d => match d with
  | .int i => ret (some i)
  | _ => fail
theorem d_o1 {m : M D} (h : DE X E e m) : DO X E (some e) (oInt m) := by
  refine PO.weak (po_some h) fun σ H Q ⟨G, F, α, s, R, h⟩ => ?_
  refine ⟨G, F, α, s, R, h.bind.mono fun F1 α1 H1 d s1 x1 h1 v R1 k1 => ?_⟩
  split at h1
  · cases k1
    exact ⟨_, rfl, h1 F1 α1 H1 (Ext.refl _ _) R1⟩
  · exact h1.elim
def cutL (xs : List D) (lo hi : Option Int) : List D := (xs.drop (HT.sIx xs.length 0 lo)).take (HT.sIx xs.length xs.length hi - HT.sIx xs.length 0 lo)
theorem cut_has {K : Frg} {F : Hp} {α : List Addr} {vs : List V} {ds : List D} (h : HasL K F α vs ds) (lo hi : Option Int) : HasL K F α (cutV vs lo hi) (cutL ds lo hi) := by
  unfold cutV cutL
  rw [h.len]
  exact (h.drop _).take _
def slL (own : Bool) (m : M D) (ml mh : M (Option Int)) : M D := bnd m fun d => bnd ml fun lo => bnd mh fun hi => fun s => match seqD s.s d with
  | some (true, ds) => mk own (cutL ds lo hi) s
  | _ => none
theorem d_slL (own : Bool) {lo hi : Option Expr} {m : M D} {ml mh : M (Option Int)} (he : DE X E e m) (hl : DO X E lo ml) (hh : DO X E hi mh) : DE X E (.Subscript e (.Slice lo hi none p2) pos) (slL own m ml mh) := by
  refine PE.weak (pe_slice sl_list he hl hh) fun σ H Q ⟨G, F, α, s, R, h⟩ => ?_
  refine ⟨G, F, α, s, R, h.bind.mono fun F1 α1 H1 d s1 x1 h1 v R1 k1 => ?_⟩
  refine ⟨G, F1, α1, s1, R1, h1.bind.mono fun F2 α2 H2 l s2 x2 h2 R2 => ?_⟩
  refine ⟨G, F2, α2, s2, R2, h2.bind.mono fun F3 α3 H3 u s3 x3 h3 R3 => ?_⟩
  split at h3
  · rename_i ds q
    obtain ⟨a, xs, rfl, hl, w1, w2⟩ := seq_at R3.st (k1.ext (x2.trans x3)) q
    exact ⟨a, xs, rfl, w1 rfl, fin_lst h3 R3 (cut_has hl l u)⟩
  · exact h3.elim

/-! ### isinstance, built-in types -/
def tyN (ς : Store) : D → Option String
  | .non => some "NoneType"
  | .bl _ => some "bool"
  | .int _ => some "int"
  | .str _ => some "str"
  | .lst _ => some "list"
  | .rdl _ => some "list"
  | .tup _ => some "tuple"
  | .dct _ => some "dict"
  | .loc i => match ς[i]? with
    | some (some (.lst _)) => some "list"
    | some (some (.dct _)) => some "dict"
    | _ => none
  | _ => none
theorem tyX_lst {K : Frg} {H : Hp} {a : Addr} {xs : List V} (h : SqL K H a xs) : TyX K H (.ref a) (.type "list") := by
  rcases h with (h | ⟨o, h⟩) | ⟨o, its, n, h1, h2, _⟩
  · exact .base (.lst h)
  · exact .base (.frz h)
  · exact .kList h1 h2
theorem tyX_tup {K : Frg} {H : Hp} {a : Addr} {xs : List V} (h : SqT K H a xs) : TyX K H (.ref a) (.type "tuple") := by
  rcases h with (h | ⟨o, h⟩) | ⟨o, its, n, h1, h2, _⟩
  · exact .base (.tup h)
  · exact .fTuple h
  · exact .kTuple h1 h2
theorem tyX_at {K : Frg} {G F H : Hp} {α : List Addr} {ς : Store} {v : V} {d : D} {T : String} (R : Rel0 K G F H α ς) (h : Has K F α v d) (e : tyN ς d = some T) : TyX K H v (.type T) := by
  cases h <;> simp only [tyN] at e <;> try (cases e; done)
  · cases e; exact .base .non
  · cases e; exact .base (.bl _)
  · cases e; exact .base (.int _)
  · cases e; exact .base (.str _)
  · cases e
    rename_i h1 h2
    exact tyX_lst (SqL.of (R.ex _ _ h1))
  · cases e
    rename_i h1 h2
    exact tyX_lst (R.ex.seq h1)
  · cases e
    rename_i h1 h2
    exact tyX_tup (sqT_seq R.ex h1)
  · cases e
    rename_i h1 h2 h3
    exact .base (.dK (R.ex _ _ h1))
  · rename_i a j ha
    split at e
    · rename_i ds q
      cases e
      obtain ⟨a', h, h1, h2, h3, h4⟩ := R.obj j _ q
      rw [ha] at h1
      cases h1
      obtain ⟨xs, rfl, h5⟩ := h4.lst
      exact .base (.lst h2)
    · rename_i ds q
      cases e
      obtain ⟨a', h, h1, h2, h3, h4⟩ := R.obj j _ q
      rw [ha] at h1
      cases h1
      obtain ⟨xs, rfl, h5⟩ := h4.dct
      exact .base (.dK h2)
    · cases e
def isiD (ς : Store) (d : D) (T : String) : Option Bool := (tyN ς d).bind fun t => kitB t T
def fIsi : List D → M D := fun ds s => match ds with
  | [d, .ty T] => match isiD s.s d T with
    | some b => ret (.bl b) s
    | none => none
  | _ => none
theorem s_isi {K : Frg} : SpA K E (rIsi K) fIsi := by
  intro G F H α σ s xs ds Q R k h
  unfold fIsi at h
  split at h
  · rename_i d T
    obtain ⟨v, w, rfl, k1, k2⟩ := k.two
    split at h
    · rename_i b q
      obtain ⟨t, q1, q2⟩ := Option.bind_eq_some_iff.mp q
      cases k2
      exact ⟨v, .ty T, _, _, b, rfl, .ty T, tyX_at R.st k1 q1, kit_ty q2, fin h R (.bl b)⟩
    · exact h.elim
  · exact h.elim
/-- isinstance(x, (T, U)) -/
def tysD : List D → Option (List String)
  | [] => some []
  | .ty T :: ds => (tysD ds).map (T :: ·)
  | _ => none
theorem tysD_eq : ∀ {ds : List D} {Ts : List String}, tysD ds = some Ts → ds = Ts.map .ty
  | [], ns, h => by simp only [tysD, Option.some.injEq] at h; subst h; rfl
  | d :: ds, ns, h => by
    cases d <;> simp only [tysD] at h <;> try (cases h; done)
    obtain ⟨ms, h1, rfl⟩ := Option.map_eq_some_iff.mp h
    rw [tysD_eq h1]
    rfl
def anyTy (t : String) : List String → Option Bool
  | [] => some false
  | T :: r => match kitB t T with
    | some true => some true
    | some false => anyTy t r
    | none => none
theorem anyTy_kit {K : Frg} (t : String) : ∀ Ts : List String, PySem.W.kitAny K (.type t) (Ts.map .type) = anyTy t Ts
  | [] => rfl
  | T :: r => by
    have ih := anyTy_kit (K := K) t r
    have e : PySem.W.kitOne K (.type t) (.type T) = kitB t T := rfl
    show PySem.W.kitAny K (.type t) (.type T :: r.map .type) = _
    unfold PySem.W.kitAny anyTy
    rw [e, ih]
    cases kitB t T with
    | none => rfl
    | some b => cases b <;> rfl
theorem clsV_tys {K : Frg} {F : Hp} {α : List Addr} : ∀ {vs : List V} {Ts : List String}, HasL K F α vs (Ts.map .ty) → vs = Ts.map .ty ∧ Paired ClsV vs (Ts.map .type)
  | _, [], .nil => ⟨rfl, .nil⟩
  | _, T :: Ts, .cons h r => by
    cases h
    obtain ⟨e, p⟩ := clsV_tys r
    exact ⟨by rw [e]; rfl, .cons (.ty T) p⟩
/-- the tuple of types is one that the call makes -/
def isiT (m : M D) (ts : List String) : M D := bnd m fun d s => match tyN s.s d with
  | some t => match anyTy t ts with
    | some b => ret (.bl b) s
    | none => none
  | none => none
theorem paired_tys : ∀ Ts : List String, Paired ClsV (Ts.map V.ty) (Ts.map Value.type)
  | [] => .nil
  | T :: Ts => .cons (.ty T) (paired_tys Ts)
def tTys (ts : List String) : TA := fun _ H Q => Q (ts.map V.ty) H
theorem pa_tys0 : PA X [] (tTys []) := pa_nil
theorem pa_tys {x : Str} {T : String} {p : Pos} {ts : List String} (hm : X.mg x = none) (hv : bootBuiltins x = some (.type T)) (hr : PA X es (tTys ts)) (hg : Gl X x := by rfl) (hn : x ≠ "__name__" := by decide) (hd : (x == ("__debug__" : Str)) = false := by decide)
    (hs : starEach (.Name x p :: es) X.env = (false, eval (.Name x p) X.env) :: starEach es X.env := by rfl) : PA X (.Name x p :: es) (tTys (T :: ts)) :=
  PA.weak (pa_cons (pe_bltn (v := .ty T) hg hm hv rfl hn hd) hr hs) fun _ _ _ q => q
theorem d_isiT {p tp : Pos} {kx : Nat} {m : M D} {ts : List String} (hm : X.mg "isinstance" = none) (ha : DE X E e m) (ht : PA X es (tTys ts)) (hl : ts.length ≤ 1000 := by decide) (hg : Gl X "isinstance" := by rfl)
    (hs1 : starEach [.Tuple es kx tp] X.env = (false, eval (.Tuple es kx tp) X.env) :: starEach [] X.env := by rfl) (hs2 : starEach [e, .Tuple es kx tp] X.env = (false, eval e X.env) :: starEach [.Tuple es kx tp] X.env := by rfl)
    (hpl : (backTo pos (starEach [.Tuple es kx tp] X.env)).any (·.1) = false := by rfl) :
    DE X E (.Call (.Name "isinstance" p) [e, .Tuple es kx tp] [] pos) (isiT m ts) := by
  refine PE.weak (pe_callB call_isiT hg hm (by decide +kernel) (pa_cons ha (pa_cons (pe_tup ht) pa_nil hs1) hs2) (by decide) (by decide) hs2 hpl) fun σ H Q ⟨G, F, α, s, R, h⟩ => ?_
  refine ⟨G, F, α, s, R, h.bind.mono fun F1 α1 H1 d s1 x1 h1 v R1 k1 => ?_⟩
  refine ⟨?_, fun q hq => ?_⟩
  · have : (ts.map V.ty).length ≤ 1000 := by rw [List.length_map]; exact hl
    have q : sizeLine = 16777216 := sizeLine_eq
    omega
  · split at h1
    · rename_i t q1
      split at h1
      · rename_i b q2
        have R2 := R1.imm hq (.tup (ts.map .ty))
        have k2 := k1.ext (R1.st.immX hq (.tup (ts.map .ty)))
        refine ⟨v, q, ts.map .ty, .type t, ts.map .type, b, rfl, upd_same, paired_tys ts, tyX_at R2.st k2 q1, by rw [anyTy_kit]; exact q2, ?_⟩
        exact h1 _ _ _ (R1.st.immX hq _) (.bl b) R2 (.bl b)
      · exact h1.elim
    · exact h1.elim
theorem d_ty {x : Str} {T : String} (hm : X.mg x = none) (hv : bootBuiltins x = some (.type T)) (hg : Gl X x := by rfl) (hn : x ≠ "__name__" := by decide) (hd : (x == ("__debug__" : Str)) = false := by decide) : DE X E (.Name x pos) (ret (.ty T)) :=
  d_c (pe_bltn (v := .ty T) hg hm hv rfl hn hd) fun _ _ => .ty T
end
end DL

namespace DL
open PySem L2
section
variable {X : Cx} {E : XK} {e a b : Expr} {es : List Expr} {pos : Pos}
/-- a, b = x, y -/
def parS (i j : Nat) (n : M (List D)) : M Fl := bnd n fun ds s => match ds with
  | [v, w] => some (.ok .nx { s with e := (s.e.set i (some v)).set j (some w) })
  | _ => none
theorem d_par (i j : Nat) {x y : Str} {px py pt : Pos} {kt k2 : Nat} {pt2 : Pos} {n : M (List D)} (hc : X.calm = true) (hN : X.N.Nodup) (ha : DA X E [a, b] n) (h : ∀ {ta : TA}, PA X [a, b] ta → PS X st (tPar i j ta)) : DS X E st (parS i j n) := by
  refine PS.weak (h ha) fun D σ H ⟨G, F, α, s, R, h⟩ => ?_
  refine ⟨G, F, α, s, R, h.bind.mono fun F1 α1 H1 ds s1 x1 h1 vs R1 k1 => ?_⟩
  split at h1
  · obtain ⟨v, w, rfl, kv, kw⟩ := k1.two
    exact ⟨v, w, rfl, h1 F1 α1 H1 (Ext.refl _ _) _ ((R1.set kv i).set kw j)⟩
  · exact h1.elim
end
/-- a call leaves the law: nothing is raised -/
theorem walk_DL {l : PySem.W.OpenLaw} {n k : Nat} {q : Program} {loose : List Str} {XP : (Str → Option Value) → Heap → Prop} {YP : World → Heap → Prop} {d : DefRec} {K : Params → Frg} {x : Str} {f : DF}
    (hn : l.most = some n) (hn2 : n ≤ sizeLine) (hdf : d.params.defaults = []) (hr : Room k callerA)
    (hY : ∀ (w : World) (h : Heap), YP w h → (K w.params).In h)
    (F : ∀ (w : World) (mg : Str → Option Value) (fa : Addr) (h : Heap), (K w.params).In h → h.Ns mainGlobals mg → mg d.name = some (.ref fa) →
      ∃ fd : FuncData, (∀ (s : Shared) (u : Value), BindsTo s fd ⟨[u], []⟩ [(x, u)]) ∧
        ∀ base : Heap, (K w.params).In base → base.Ns mainGlobals mg → FnOk l.prog w (K w.params) mg base (L2.CX l.prog w) k fa fd [x] (spF (K w.params) 1 f))
    (hf : ∀ ns : List Int, ns.length ≤ n → ∃ ς, f [.rdl (ns.map .int)] [] = some (.ok (.bl true) ς)) :
    PySem.W.WalkO q loose XP YP l.row.toRowW d [] (fun f vs => PySem.call f vs) := by
  refine L2.walk_of (CX := fun w => L2.CX l.prog w) (sp := fun w => spF (K w.params) 1 f) hn hn2 hdf hr hY F (fun w H a ns hl ho hS => ?_) fun w H s e s' z => ?_
  · obtain ⟨ς, e⟩ := hf ns hl
    refine ⟨rfl, fun _ => none, H, [], [], [.rdl (ns.map .int)], ⟨Same.refl H, fun a o e => (nomatch e), rfl, fun i o e => by simp at e, fun a o e => (nomatch e), fun i o a e => by simp at e, fun i j oi oj a e => by simp at e⟩, .cons (.rdl hS (hasL_ints ns)) .nil, ?_⟩
    rw [e]
    intro F' α' H' v _ _ kv
    cases kv
    rfl
  · obtain ⟨_, _, _, _, _, _, _, _, _, _, _, _, z⟩ := z
    exact z.elim
end DL

/-! from DL7.lean -/
set_option Elab.async false
set_option linter.all false
set_option maxRecDepth 100000
set_option maxHeartbeats 2000000
namespace DL
open PySem L2
section
variable {X : Cx} {E : XK} {K : Frg} {e a b : Expr} {es : List Expr} {pos p p2 : Pos}
/-! minus -/
def un1 (f : D → M D) (m : M D) : M D := bnd m f
theorem s_neg : Sp1 K E (rU fun i => .int (-i)) fNeg := by
  intro G F H α σ s x d Q R k h
  unfold fNeg at h
  split at h
  · cases k
    exact ⟨_, rfl, fin h R (.int _)⟩
  · exact h.elim
theorem d_un {op : UnaryOp} {r : V → Hp → VK → Prop} {f : D → M D} {m : M D} (ho : UnR X (unaryOp op) r) (hr : Sp1 X.K E r f) (ha : DE X E a m) : DE X E (.UnaryOp op a pos) (un1 f m) := by
  refine PE.weak (pe_un ho ha) fun σ H Q ⟨G, F, α, s, R, h⟩ => ?_
  refine ⟨G, F, α, s, R, h.bind.mono fun F1 α1 H1 d s1 x1 h1 v R1 k1 => ?_⟩
  exact hr G F1 H1 α1 σ s1 v d Q R1 k1 h1
/-! slices of lists, tuples, texts -/
def cutQ (n : Nat) (lo hi : Option Int) : Bool := decide (HT.sIx n 0 lo = 0 ∧ HT.sIx n n hi = n)
def slAf (own : Bool) (d : D) (lo hi : Option Int) : M D := fun s => match d with
  | .str z => guard' (small z.length) (ret (.str (L2.cutS z lo hi))) s
  | d => match seqD s.s d with
    | some (true, ds) => mk own (cutL ds lo hi) s
    | some (false, ds) => ret (.tup (cutL ds lo hi)) s
    | none => none
def slA (own : Bool) (m : M D) (ml mh : M (Option Int)) : M D := bnd m fun d => bnd ml fun lo => bnd mh fun hi => slAf own d lo hi
theorem cutL_all {ds : List D} {lo hi : Option Int} (h : HT.sIx ds.length 0 lo = 0 ∧ HT.sIx ds.length ds.length hi = ds.length) : cutL ds lo hi = ds := by
  unfold cutL
  rw [h.1, h.2]
  simp
theorem d_slA (own : Bool) {lo hi : Option Expr} {m : M D} {ml mh : M (Option Int)} (he : DE X E e m) (hl : DO X E lo ml) (hh : DO X E hi mh) : DE X E (.Subscript e (.Slice lo hi none p2) pos) (slA own m ml mh) := by
  refine PE.weak (pe_slice (SlR.or sl_list (SlR.or sl_tupA sl_str)) he hl hh) fun σ H Q ⟨G, F, α, s, R, h⟩ => ?_
  refine ⟨G, F, α, s, R, h.bind.mono fun F1 α1 H1 d s1 x1 h1 v R1 k1 => ?_⟩
  refine ⟨G, F1, α1, s1, R1, h1.bind.mono fun F2 α2 H2 l s2 x2 h2 R2 => ?_⟩
  refine ⟨G, F2, α2, s2, R2, h2.bind.mono fun F3 α3 H3 u s3 x3 h3 R3 => ?_⟩
  have k3 := k1.ext (x2.trans x3)
  unfold slAf at h3
  split at h3
  · rename_i z
    obtain ⟨g, h4⟩ := wp_guard h3
    cases k3
    exact .inr (.inr ⟨z, rfl, small_ok g, fin h4 R3 (.str _)⟩)
  · split at h3
    · rename_i ds q
      obtain ⟨a, xs, rfl, hl, w1, w2⟩ := seq_at R3.st k3 q
      exact .inl ⟨a, xs, rfl, w1 rfl, fin_lst h3 R3 (cut_has hl l u)⟩
    · rename_i ds q
      obtain ⟨a, xs, rfl, hl, w1, w2⟩ := seq_at R3.st k3 q
      refine .inr (.inl ⟨a, xs, rfl, w2 rfl, fun c => ?_, fun _ => fin_tup h3 R3 (cut_has hl l u)⟩)
      have z : Has X.K F3 α3 (.ref a) (.tup ds) := by
        cases d <;> simp only [seqD] at q <;> try (cases q; done)
        · cases q; exact k3
        · split at q <;> cases q
      rw [hl.len] at c
      rw [cutL_all c] at h3
      exact fin h3 R3 z
    · exact h3.elim
/-! list(range(..)), tuple(range(..)) -/
def rgN (i j : Int) : Bool := rngB i && rngB j && small (j - i).toNat
theorem rgV_has {F : Hp} {α : List Addr} (i j : Int) : HasL K F α (rgV i j) (rngL i (j - i).toNat) := by
  unfold rgV rngL
  generalize (List.range (j - i).toNat) = l
  induction l with
  | nil => exact .nil
  | cons n l ih => exact .cons (.int _) ih
theorem rgN_ok {i j : Int} (h : rgN i j = true) : RgOk i j := by
  unfold rgN at h
  rw [Bool.and_eq_true, Bool.and_eq_true] at h
  have h1 := rngB_ok h.1.1
  have h2 := rngB_ok h.1.2
  exact ⟨h1.1, h1.2, h2.1, h2.2, by have := of_decide_eq_true h.2; omega⟩
def listRgF (own : Bool) (i j : Int) : M D := guard' (rgN i j) (mk own (rngL i (j - i).toNat))
def tupRgF (i j : Int) : M D := guard' (rgN i j) (ret (.tup (rngL i (j - i).toNat)))
def rg1 (f : Int → Int → M D) (n : M (List D)) : M D := bnd n fun ds => match ds with
  | [.int j] => f 0 j
  | _ => fail
def rg2 (f : Int → Int → M D) (n : M (List D)) : M D := bnd n fun ds => match ds with
  | [.int i, .int j] => f i j
  | _ => fail
abbrev listRg1 (own : Bool) := rg1 (listRgF own)
abbrev listRg2 (own : Bool) := rg2 (listRgF own)
abbrev tupRg1 := rg1 tupRgF
abbrev tupRg2 := rg2 tupRgF
theorem acons_one {K : Frg} {G F : Hp} {α : List Addr} {n : M D} {β : Type} {f : List D → M β} {s : S} {P : Hp → List Addr → Hp → β → S → Prop} (h : Wp K G E F α (bnd (acons n anil) f s) P) : Wp K G E F α (n s) (fun F1 α1 _ d s1 => Wp K G E F1 α1 (f [d] s1) P) := by
  refine h.bind.bind.mono fun F1 α1 H1 d s1 x1 h1 => ?_
  exact h1 F1 α1 H1 (Ext.refl _ _)
theorem acons_two {K : Frg} {G F : Hp} {α : List Addr} {n n' : M D} {β : Type} {f : List D → M β} {s : S} {P : Hp → List Addr → Hp → β → S → Prop} (h : Wp K G E F α (bnd (acons n (acons n' anil)) f s) P) : Wp K G E F α (n s) (fun F1 α1 _ d s1 => Wp K G E F1 α1 (n' s1) (fun F2 α2 _ d' s2 => Wp K G E F2 α2 (f [d, d'] s2) P)) := by
  refine h.bind.bind.mono fun F1 α1 H1 d s1 x1 h1 => ?_
  refine h1.bind.bind.mono fun F2 α2 H2 d2 s2 x2 h2 => ?_
  exact h2 F2 α2 H2 (Ext.refl _ _) F2 α2 H2 (Ext.refl _ _)
def rg1f (f : Int → Int → M D) : List D → M D := fun ds => match ds with
  | [.int j] => f 0 j
  | _ => fail
theorem r_rg1 {f : Int → Int → M D} {n : M D} {k : Int → Int → Hp → VK → Prop} (hk : ∀ (G F H : Hp) (α : List Addr) (σ : L2.St) (s : S) (i j : Int) (Q : VK), RelS K G F H α σ s → Wp K G E F α (f i j s) (pV K G σ Q) → k i j H Q) {σ : L2.St} {H : Hp} {Q : VK} (h : rE K E (rg1 f (acons n anil)) σ H Q) : tRg1 (rE K E n) σ H (fun i j H1 => k i j H1 Q) := by
  obtain ⟨G, F, α, s, R, h⟩ := h
  refine ⟨G, F, α, s, R, (acons_one h).mono fun F1 α1 H1 d s1 x1 h1 v R1 k1 => ?_⟩
  cases k1 <;> first | exact h1.elim | skip
  exact ⟨_, rfl, hk G F1 H1 α1 σ s1 0 _ Q R1 h1⟩
theorem r_rg2 {f : Int → Int → M D} {n n' : M D} {k : Int → Int → Hp → VK → Prop} (hk : ∀ (G F H : Hp) (α : List Addr) (σ : L2.St) (s : S) (i j : Int) (Q : VK), RelS K G F H α σ s → Wp K G E F α (f i j s) (pV K G σ Q) → k i j H Q) {σ : L2.St} {H : Hp} {Q : VK} (h : rE K E (rg2 f (acons n (acons n' anil))) σ H Q) : tRg2 (rE K E n) (rE K E n') σ H (fun i j H1 => k i j H1 Q) := by
  obtain ⟨G, F, α, s, R, h⟩ := h
  refine ⟨G, F, α, s, R, (acons_two h).mono fun F1 α1 H1 d s1 x1 h1 v R1 k1 => ?_⟩
  refine ⟨G, F1, α1, s1, R1, h1.mono fun F2 α2 H2 d2 s2 x2 h2 v2 R2 k2 => ?_⟩
  cases k1 <;> cases k2 <;> first | exact h2.elim | skip
  exact ⟨_, _, rfl, rfl, hk G F2 H2 α2 σ s2 _ _ Q R2 h2⟩
theorem k_listRg (own : Bool) (G F H : Hp) (α : List Addr) (σ : L2.St) (s : S) (i j : Int) (Q : VK) (R : RelS K G F H α σ s) (h : Wp K G E F α (listRgF own i j s) (pV K G σ Q)) : RgOk i j ∧ ∀ q, H q = none → Q (.ref q) (upd H q (.lst (rgV i j))) := by
  obtain ⟨g, h1⟩ := wp_guard h
  exact ⟨rgN_ok g, fin_lst h1 R (rgV_has i j)⟩
theorem k_tupRg (G F H : Hp) (α : List Addr) (σ : L2.St) (s : S) (i j : Int) (Q : VK) (R : RelS K G F H α σ s) (h : Wp K G E F α (tupRgF i j s) (pV K G σ Q)) : RgOk i j ∧ ∀ q, H q = none → Q (.ref q) (upd H q (.tup (rgV i j))) := by
  obtain ⟨g, h1⟩ := wp_guard h
  exact ⟨rgN_ok g, fin_tup h1 R (rgV_has i j)⟩
variable {p1 : Pos}
theorem d_listRg1 (own : Bool) {n : M D} (hc : X.calm = true) (hl : X.mg "list" = none) (hm : X.mg "range" = none) (ha : DE X E a n) (g1 : Gl X "list" := by rfl) (g2 : Gl X "range" := by rfl)
    (na : starEach [a] X.env = (false, eval a X.env) :: starEach [] X.env := by rfl) (nb : starEach [.Call (.Name "range" p1) [a] [] p2] X.env = (false, eval (.Call (.Name "range" p1) [a] [] p2) X.env) :: starEach [] X.env := by rfl) :
    DE X E (.Call (.Name "list" p) [.Call (.Name "range" p1) [a] [] p2] [] pos) (listRg1 own (acons n anil)) :=
  PE.weak (pe_listRg hc g1 hl (prg_1 g2 hm ha na) nb) fun σ H Q h => r_rg1 (k := fun i j H1 Q => RgOk i j ∧ ∀ q, H1 q = none → Q (.ref q) (upd H1 q (.lst (rgV i j)))) (k_listRg own) h
theorem d_listRg2 (own : Bool) {n n' : M D} (hc : X.calm = true) (hl : X.mg "list" = none) (hm : X.mg "range" = none) (ha : DE X E a n) (hb : DE X E b n') (g1 : Gl X "list" := by rfl) (g2 : Gl X "range" := by rfl)
    (na : starEach [a, b] X.env = (false, eval a X.env) :: starEach [b] X.env := by rfl) (na2 : starEach [b] X.env = (false, eval b X.env) :: starEach [] X.env := by rfl) (hp : (backTo p2 (starEach [b] X.env)).any (·.1) = false := by rfl) (nb : starEach [.Call (.Name "range" p1) [a, b] [] p2] X.env = (false, eval (.Call (.Name "range" p1) [a, b] [] p2) X.env) :: starEach [] X.env := by rfl) :
    DE X E (.Call (.Name "list" p) [.Call (.Name "range" p1) [a, b] [] p2] [] pos) (listRg2 own (acons n (acons n' anil))) :=
  PE.weak (pe_listRg hc g1 hl (prg_2 g2 hm ha hb na na2 hp) nb) fun σ H Q h => r_rg2 (k := fun i j H1 Q => RgOk i j ∧ ∀ q, H1 q = none → Q (.ref q) (upd H1 q (.lst (rgV i j)))) (k_listRg own) h
theorem d_tupRg1 {n : M D} (hc : X.calm = true) (hl : X.mg "tuple" = none) (hm : X.mg "range" = none) (ha : DE X E a n) (g1 : Gl X "tuple" := by rfl) (g2 : Gl X "range" := by rfl)
    (na : starEach [a] X.env = (false, eval a X.env) :: starEach [] X.env := by rfl) (nb : starEach [.Call (.Name "range" p1) [a] [] p2] X.env = (false, eval (.Call (.Name "range" p1) [a] [] p2) X.env) :: starEach [] X.env := by rfl) :
    DE X E (.Call (.Name "tuple" p) [.Call (.Name "range" p1) [a] [] p2] [] pos) (tupRg1 (acons n anil)) :=
  PE.weak (pe_tupRg hc g1 hl (prg_1 g2 hm ha na) nb) fun σ H Q h => r_rg1 (k := fun i j H1 Q => RgOk i j ∧ ∀ q, H1 q = none → Q (.ref q) (upd H1 q (.tup (rgV i j)))) k_tupRg h
theorem d_tupRg2 {n n' : M D} (hc : X.calm = true) (hl : X.mg "tuple" = none) (hm : X.mg "range" = none) (ha : DE X E a n) (hb : DE X E b n') (g1 : Gl X "tuple" := by rfl) (g2 : Gl X "range" := by rfl)
    (na : starEach [a, b] X.env = (false, eval a X.env) :: starEach [b] X.env := by rfl) (na2 : starEach [b] X.env = (false, eval b X.env) :: starEach [] X.env := by rfl) (hp : (backTo p2 (starEach [b] X.env)).any (·.1) = false := by rfl) (nb : starEach [.Call (.Name "range" p1) [a, b] [] p2] X.env = (false, eval (.Call (.Name "range" p1) [a, b] [] p2) X.env) :: starEach [] X.env := by rfl) :
    DE X E (.Call (.Name "tuple" p) [.Call (.Name "range" p1) [a, b] [] p2] [] pos) (tupRg2 (acons n (acons n' anil))) :=
  PE.weak (pe_tupRg hc g1 hl (prg_2 g2 hm ha hb na na2 hp) nb) fun σ H Q h => r_rg2 (k := fun i j H1 Q => RgOk i j ∧ ∀ q, H1 q = none → Q (.ref q) (upd H1 q (.tup (rgV i j)))) k_tupRg h
end
end DL

/-! from DM.lean -/
set_option Elab.async false
set_option linter.all false
set_option maxRecDepth 100000
set_option maxHeartbeats 4000000
/-! What mirrors evaluate to: rows for simp. -/
namespace DL
open PySem L2
section
variable {β γ : Type} {s s' : S} {ς : Store}
@[simp] theorem ret_s (b : β) : ret b s = some (.ok b s) := rfl
@[simp] theorem fail_s : (fail : M β) s = none := rfl
@[simp] theorem bnd_s (m : M β) (f : β → M γ) : bnd m f s = (match m s with
  | none => none
  | some (.exc C fs ς) => some (.exc C fs ς)
  | some (.ok b s') => f b s') := rfl
@[simp] theorem ite_t (m n : M β) : ite' true m n s = m s := rfl
@[simp] theorem ite_f (m n : M β) : ite' false m n s = n s := rfl
@[simp] theorem guard_t (m : M β) : guard' true m s = m s := rfl
@[simp] theorem guard_f (m : M β) : guard' false m s = none := rfl
theorem guard_of {b : Bool} (h : b = true) (m : M β) : guard' b m s = m s := by subst h; rfl
@[simp] theorem name_s (i : Nat) : name i s = (match s.e[i]? with
  | some (some d) => some (.ok d s)
  | _ => none) := rfl
@[simp] theorem gset_s (i : Nat) (d : D) : gset i d s = some ⟨s.e.set i (some d), s.s⟩ := rfl
@[simp] theorem sq_s (m n : M Fl) : sq m n s = bnd m (thenF n) s := rfl
@[simp] theorem thenF_nx (n : M Fl) : thenF n .nx s = n s := rfl
@[simp] theorem thenF_rt (n : M Fl) (d : D) : thenF n (.rt d) s = some (.ok (.rt d) s) := rfl
@[simp] theorem thenF_bk (n : M Fl) : thenF n .bk s = some (.ok .bk s) := rfl
@[simp] theorem thenF_ct (n : M Fl) : thenF n .ct s = some (.ok .ct s) := rfl
@[simp] theorem nxt_s : nxt s = some (.ok .nx s) := rfl
@[simp] theorem retS_s (m : M D) : retS m s = bnd m (fun d => ret (.rt d)) s := rfl
@[simp] theorem exprS_s (m : M D) : exprS m s = bnd m (fun _ => nxt) s := rfl
@[simp] theorem ifS_s (c : M Bool) (m n : M Fl) : ifS c m n s = bnd c (fun b => ite' b m n) s := rfl
@[simp] theorem ifE_s (c : M Bool) (m n : M D) : ifE c m n s = bnd c (fun b => ite' b m n) s := rfl
@[simp] theorem asg_s (m : M D) (g : Tg) : asg m g s = bnd m (fun d s => match g d s with
  | some s' => some (.ok .nx s')
  | none => none) s := rfl
@[simp] theorem tst_s (m : M D) : tst m s = bnd m (fun d => match d with
  | .bl b => ret b
  | _ => fail) s := rfl
@[simp] theorem op2_s (f : D → D → M D) (a b : M D) : op2 f a b s = bnd a (fun x => bnd b fun y => f x y) s := rfl
@[simp] theorem un1_s (f : D → M D) (a : M D) : un1 f a s = bnd a f s := rfl
@[simp] theorem andT_s (m n : M Bool) : andT m n s = bnd m (fun b => ite' b n (ret false)) s := rfl
@[simp] theorem orT_s (m n : M Bool) : orT m n s = bnd m (fun b => ite' b (ret true) n) s := rfl
@[simp] theorem notT_s (m : M Bool) : notT m s = bnd m (fun b => ret (!b)) s := rfl
@[simp] theorem blOf_bl (b : Bool) (k : Bool → M β) : blOf (.bl b) k = k b := rfl
@[simp] theorem andV_s (m n : M D) : andV m n s = bnd m (fun d => blOf d fun b => ite' b n (ret (.bl false))) s := rfl
@[simp] theorem orV_s (m n : M D) : orV m n s = bnd m (fun d => blOf d fun b => ite' b (ret (.bl true)) n) s := rfl
@[simp] theorem notV_s (m : M D) : notV m s = bnd m (fun d => blOf d fun b => ret (.bl (!b))) s := rfl
@[simp] theorem anil_s : anil s = some (.ok [] s) := rfl
@[simp] theorem acons_s (m : M D) (n : M (List D)) : acons m n s = bnd m (fun d => bnd n fun ds => ret (d :: ds)) s := rfl
@[simp] theorem chn_s (f g : D → D → M D) (a b c : M D) : chn f g a b c s = bnd a (fun x => bnd b fun y => bnd (f x y) fun k => blOf k fun q => ite' q (bnd c fun z => g y z) (ret (.bl false))) s := rfl
@[simp] theorem tupD_s (ds : List D) : tupD ds s = guard' (small ds.length) (ret (.tup ds)) s := rfl
@[simp] theorem lstE_s (o : Bool) (ds : List D) : lstE o ds s = guard' (small ds.length) (mk o ds) s := rfl
@[simp] theorem mk_f (ds : List D) : mk false ds s = some (.ok (.lst ds) s) := rfl
@[simp] theorem mk_t (ds : List D) : mk true ds s = some (.ok (.loc s.s.length) ⟨s.e, s.s ++ [some (.lst ds)]⟩) := rfl
theorem iop_s (C : Int → Int → Bool) (g : Int → Int → D) (i j : Int) : iop C g (.int i) (.int j) s = guard' (C i j) (ret (g i j)) s := rfl
@[simp] theorem iop_t (g : Int → Int → D) (i j : Int) : iop (fun _ _ => true) g (.int i) (.int j) s = some (.ok (g i j) s) := rfl
@[simp] theorem iop_div (i j : Int) : iop (fun _ j => decide (j ≠ 0 ∧ j.natAbs < 1073741824)) (fun i j => .int (i.fdiv j)) (.int i) (.int j) s = guard' (decide (j ≠ 0 ∧ j.natAbs < 1073741824)) (ret (.int (i.fdiv j))) s := rfl
@[simp] theorem iop_mod (i j : Int) : iop (fun _ j => decide (j ≠ 0)) (fun i j => .int (i.fmod j)) (.int i) (.int j) s = guard' (decide (j ≠ 0)) (ret (.int (i.fmod j))) s := rfl
@[simp] theorem iop_pow (i j : Int) : iop (fun i j => decide (0 ≤ j ∧ j ≤ 1000000 ∧ i.natAbs < 2 ^ 64)) (fun i j => .int (i ^ j.toNat)) (.int i) (.int j) s = guard' (decide (0 ≤ j ∧ j ≤ 1000000 ∧ i.natAbs < 2 ^ 64)) (ret (.int (i ^ j.toNat))) s := rfl
@[simp] theorem fAdd_i (o : Bool) (i j : Int) : fAdd o (.int i) (.int j) s = some (.ok (.int (i + j)) s) := rfl
@[simp] theorem fMul_i (o : Bool) (i j : Int) : fMul o (.int i) (.int j) s = fMulI (.int i) (.int j) s := rfl
@[simp] theorem i64_iff (i : Int) : (i64 i = true) = (-18446744073709551615 ≤ i ∧ i ≤ 18446744073709551615) := by
  apply propext
  constructor
  · intro h
    have q := intIn_of h
    exact ⟨by omega, by omega⟩
  · intro h
    exact i64_of h.1 h.2
@[simp] theorem mulI_r (i j : Int) (h : i64 j = true) : fMulI (.int i) (.int j) s = some (.ok (.int (i * j)) s) := by
  show guard' (mulB i j) _ s = _
  unfold mulB
  rw [h, Bool.or_true]
  rfl
@[simp] theorem mulI_l (i j : Int) (h : i64 i = true) : fMulI (.int i) (.int j) s = some (.ok (.int (i * j)) s) := by
  show guard' (mulB i j) _ s = _
  unfold mulB
  rw [h, Bool.true_or]
  rfl
@[simp] theorem seqD_lst (ds : List D) : seqD ς (.lst ds) = some (true, ds) := rfl
@[simp] theorem seqD_rdl (ds : List D) : seqD ς (.rdl ds) = some (true, ds) := rfl
@[simp] theorem seqD_tup (ds : List D) : seqD ς (.tup ds) = some (false, ds) := rfl
@[simp] theorem seqD_loc (i : Nat) : seqD ς (.loc i) = (match ς[i]? with
    | some (some (.lst ds)) => some (true, ds)
    | _ => none) := rfl
@[simp] theorem seqF_lst (ds : List D) : seqF (.lst ds) = some (true, ds) := rfl
@[simp] theorem seqF_rdl (ds : List D) : seqF (.rdl ds) = some (true, ds) := rfl
@[simp] theorem seqF_tup (ds : List D) : seqF (.tup ds) = some (false, ds) := rfl
@[simp] theorem lstD_lst (ds : List D) : lstD ς (.lst ds) = some ds := rfl
@[simp] theorem lstD_loc (i : Nat) : lstD ς (.loc i) = (match ς[i]? with
    | some (some (.lst ds)) => some ds
    | _ => none) := rfl
@[simp] theorem ownL_loc (i : Nat) : ownL ς (.loc i) = (match ς[i]? with
    | some (some (.lst ds)) => some (i, ds)
    | _ => none) := rfl
@[simp] theorem seqI_s (m : M D) : seqI m s = bnd m (fun d => match seqF d with
  | some (_, ds) => ret ds
  | none => fail) s := rfl
def rng1F : List D → M (List D) := fun ds => match ds with
  | [.int j] => guard' (rngB j) (ret (rngL 0 j.toNat))
  | _ => fail
def rng2F : List D → M (List D) := fun ds => match ds with
  | [.int i, .int j] => guard' (rngB i && rngB j) (ret (rngL i (j - i).toNat))
  | _ => fail
@[simp] theorem rng1_s (n : M (List D)) : rng1 n s = bnd n rng1F s := rfl
@[simp] theorem rng2_s (n : M (List D)) : rng2 n s = bnd n rng2F s := rfl
theorem rngB_of {i : Int} (h : -1000000000 ≤ i) (h' : i ≤ 1000000000) : rngB i = true := intIn_to (by omega) (by omega)
theorem rng1F_i {j : Int} (h : -1000000000 ≤ j) (h' : j ≤ 1000000000) : rng1F [.int j] s = some (.ok (rngL 0 j.toNat) s) := by
  show guard' (rngB j) (ret (rngL 0 j.toNat)) s = _
  rw [rngB_of h h']
  rfl
theorem rng1F_n {j : Nat} (h' : j ≤ 1000000000) : rng1F [.int j] s = some (.ok (rngL 0 j) s) := rng1F_i (by omega) (by omega)
theorem rng2F_i {i j : Int} (h : -1000000000 ≤ i) (h' : i ≤ 1000000000) (k : -1000000000 ≤ j) (k' : j ≤ 1000000000) : rng2F [.int i, .int j] s = some (.ok (rngL i (j - i).toNat) s) := by
  show guard' (rngB i && rngB j) (ret (rngL i (j - i).toNat)) s = _
  rw [rngB_of h h', rngB_of k k']
  rfl
@[simp] theorem forS_s (src : M (List D)) (g : Tg) (m : M Fl) : forS src g m s = bnd src (fun ds => forD g m ds) s := rfl
@[simp] theorem forD_nil (g : Tg) (m : M Fl) : forD g m [] s = some (.ok .nx s) := rfl
theorem forD_cons (g : Tg) (m : M Fl) (d : D) (ds : List D) : forD g m (d :: ds) s = (match g d s with
    | some s' => bnd m (turnF (forD g m ds)) s'
    | none => none) := rfl
@[simp] theorem turnF_nx (k : M Fl) : turnF k .nx s = k s := rfl
@[simp] theorem turnF_ct (k : M Fl) : turnF k .ct s = k s := rfl
@[simp] theorem turnF_bk (k : M Fl) : turnF k .bk s = some (.ok .nx s) := rfl
@[simp] theorem turnF_rt (k : M Fl) (d : D) : turnF k (.rt d) s = some (.ok (.rt d) s) := rfl
@[simp] theorem gnil_s : gnil [] s = some s := rfl
@[simp] theorem gcons_s (g : Tg) (r : List D → S → Option S) (d : D) (ds : List D) : gcons g r (d :: ds) s = (g d s).bind (r ds) := rfl
@[simp] theorem gtup_s (n : Nat) (r : List D → S → Option S) (d : D) : gtup n r d s = (match seqD s.s d with
  | some (_, ds) => if ds.length = n then r ds s else none
  | none => none) := rfl
@[simp] theorem parS_s (i j : Nat) (n : M (List D)) : parS i j n s = bnd n (fun ds s => match ds with
  | [v, w] => some (.ok .nx { s with e := (s.e.set i (some v)).set j (some w) })
  | _ => none) s := rfl
def optD (o : Option D) : M D := fun s => match o with
  | some x => some (.ok x s)
  | none => none
@[simp] theorem optD_some (x : D) : optD (some x) s = some (.ok x s) := rfl
theorem fIx_of (d : D) (i : Int) {k : Bool} {ds : List D} (h : seqD s.s d = some (k, ds)) : fIx d (.int i) s = optD (atI ds i) s := by
  unfold fIx
  rw [h]
  dsimp only
  cases atI ds i <;> rfl
@[simp] theorem fIx_lst (ds : List D) (i : Int) : fIx (.lst ds) (.int i) s = optD (atI ds i) s := fIx_of _ i (k := true) rfl
@[simp] theorem fIx_rdl (ds : List D) (i : Int) : fIx (.rdl ds) (.int i) s = optD (atI ds i) s := fIx_of _ i (k := true) rfl
@[simp] theorem fIx_tup (ds : List D) (i : Int) : fIx (.tup ds) (.int i) s = optD (atI ds i) s := fIx_of _ i (k := false) rfl
theorem fIx_loc {l : Nat} {ds : List D} (h : s.s[l]? = some (some (.lst ds))) (i : Int) : fIx (.loc l) (.int i) s = optD (atI ds i) s := fIx_of (.loc l) i (k := true) (by simp [h])
@[simp] theorem fIx_loc0 {ds : List D} {e : List (Option D)} {r : Store} (i : Int) : fIx (.loc 0) (.int i) ⟨e, some (.lst ds) :: r⟩ = optD (atI ds i) ⟨e, some (.lst ds) :: r⟩ := fIx_loc rfl i
/-! an item by a literal index -/
theorem atI_n {α : Type} (xs : List α) (n : Nat) : atI xs (n : Int) = xs[n]? := by
  unfold atI ixN
  by_cases h : n < xs.length
  · rw [if_pos (by omega), if_pos (by omega)]
    rfl
  · rw [if_pos (by omega), if_neg (by omega), List.getElem?_eq_none (by omega)]
    rfl
@[simp] theorem atI_0 {α : Type} (xs : List α) : atI xs 0 = xs[0]? := atI_n xs 0
@[simp] theorem atI_2 {α : Type} (xs : List α) : atI xs 2 = xs[2]? := atI_n xs 2
@[simp] theorem atI_3 {α : Type} (xs : List α) : atI xs 3 = xs[3]? := atI_n xs 3
@[simp] theorem atI_4 {α : Type} (xs : List α) : atI xs 4 = xs[4]? := atI_n xs 4
@[simp] theorem atI_5 {α : Type} (xs : List α) : atI xs 5 = xs[5]? := atI_n xs 5
@[simp] theorem atI_6 {α : Type} (xs : List α) : atI xs 6 = xs[6]? := atI_n xs 6
@[simp] theorem atI_7 {α : Type} (xs : List α) : atI xs 7 = xs[7]? := atI_n xs 7
@[simp] theorem atI_8 {α : Type} (xs : List α) : atI xs 8 = xs[8]? := atI_n xs 8
@[simp] theorem atI_9 {α : Type} (xs : List α) : atI xs 9 = xs[9]? := atI_n xs 9
@[simp] theorem atI_10 {α : Type} (xs : List α) : atI xs 10 = xs[10]? := atI_n xs 10
@[simp] theorem atI_11 {α : Type} (xs : List α) : atI xs 11 = xs[11]? := atI_n xs 11
@[simp] theorem atI_12 {α : Type} (xs : List α) : atI xs 12 = xs[12]? := atI_n xs 12
@[simp] theorem atI_13 {α : Type} (xs : List α) : atI xs 13 = xs[13]? := atI_n xs 13
@[simp] theorem atI_14 {α : Type} (xs : List α) : atI xs 14 = xs[14]? := atI_n xs 14
@[simp] theorem atI_15 {α : Type} (xs : List α) : atI xs 15 = xs[15]? := atI_n xs 15
@[simp] theorem atI_16 {α : Type} (xs : List α) : atI xs 16 = xs[16]? := atI_n xs 16
@[simp] theorem atI_17 {α : Type} (xs : List α) : atI xs 17 = xs[17]? := atI_n xs 17
@[simp] theorem atI_18 {α : Type} (xs : List α) : atI xs 18 = xs[18]? := atI_n xs 18
@[simp] theorem atI_19 {α : Type} (xs : List α) : atI xs 19 = xs[19]? := atI_n xs 19
@[simp] theorem atI_20 {α : Type} (xs : List α) : atI xs 20 = xs[20]? := atI_n xs 20
theorem ixN_nat {n j : Nat} (h : j < n) : ixN n (j : Int) = some j := by
  unfold ixN
  rw [if_pos (by omega), if_pos (by omega)]
  rfl
@[simp] theorem ixN_0 {n : Nat} : ixN (n + 1) 0 = some 0 := ixN_nat (j := 0) (by omega)
@[simp] theorem ixN_1 {n : Nat} : ixN (n + 2) 1 = some 1 := ixN_nat (j := 1) (by omega)
@[simp] theorem ixN_2 {n : Nat} : ixN (n + 3) 2 = some 2 := ixN_nat (j := 2) (by omega)
@[simp] theorem ixN_3 {n : Nat} : ixN (n + 4) 3 = some 3 := ixN_nat (j := 3) (by omega)
@[simp] theorem ixN_4 {n : Nat} : ixN (n + 5) 4 = some 4 := ixN_nat (j := 4) (by omega)
@[simp] theorem ixN_5 {n : Nat} : ixN (n + 6) 5 = some 5 := ixN_nat (j := 5) (by omega)
@[simp] theorem ixN_6 {n : Nat} : ixN (n + 7) 6 = some 6 := ixN_nat (j := 6) (by omega)
@[simp] theorem ixN_7 {n : Nat} : ixN (n + 8) 7 = some 7 := ixN_nat (j := 7) (by omega)
@[simp] theorem atI_1 {α : Type} (xs : List α) : atI xs 1 = xs[1]? := atI_n xs 1
@[simp] theorem fInt_i (i : Int) : fInt [.int i] s = some (.ok (.int i) s) := rfl
@[simp] theorem fMax2_i (i j : Int) : fMax2 [.int i, .int j] s = some (.ok (.int (max i j)) s) := rfl
@[simp] theorem fMin2_i (i j : Int) : fMin2 [.int i, .int j] s = some (.ok (.int (min i j)) s) := rfl
theorem fTuple_of (d : D) {k : Bool} {ds : List D} (h : seqD s.s d = some (k, ds)) : fTuple [d] s = some (.ok (.tup ds) s) := by
  unfold fTuple
  cases k <;> simp [h]
@[simp] theorem fTuple_lst (ds : List D) : fTuple [.lst ds] s = some (.ok (.tup ds) s) := fTuple_of _ (k := true) rfl
@[simp] theorem fTuple_rdl (ds : List D) : fTuple [.rdl ds] s = some (.ok (.tup ds) s) := fTuple_of _ (k := true) rfl
@[simp] theorem fTuple_tup (ds : List D) : fTuple [.tup ds] s = some (.ok (.tup ds) s) := fTuple_of _ (k := false) rfl
theorem fList_of (o : Bool) (d : D) {k : Bool} {ds : List D} (h : seqD s.s d = some (k, ds)) : fList o [d] s = mk o ds s := by
  unfold fList
  simp [h]
@[simp] theorem fList_lst (o : Bool) (ds : List D) : fList o [.lst ds] s = mk o ds s := fList_of o _ (k := true) rfl
@[simp] theorem fList_rdl (o : Bool) (ds : List D) : fList o [.rdl ds] s = mk o ds s := fList_of o _ (k := true) rfl
@[simp] theorem fList_tup (o : Bool) (ds : List D) : fList o [.tup ds] s = mk o ds s := fList_of o _ (k := false) rfl
theorem fLen_s (d : D) {k : Bool} {ds : List D} (h : seqD s.s d = some (k, ds)) : fLen [d] s = some (.ok (.int ds.length) s) := by
  cases d <;> simp only [seqD] at h <;> first | cases h | skip
  all_goals first | rfl | (unfold fLen; simp only [seqD]; split at h <;> first | (cases h; rfl) | cases h) 
@[simp] theorem fLen_lst (ds : List D) : fLen [.lst ds] s = some (.ok (.int ds.length) s) := rfl
@[simp] theorem fLen_rdl (ds : List D) : fLen [.rdl ds] s = some (.ok (.int ds.length) s) := rfl
@[simp] theorem fLen_tup (ds : List D) : fLen [.tup ds] s = some (.ok (.int ds.length) s) := rfl
@[simp] theorem intsOf_map (ns : List Int) : intsOf ς (.lst (ns.map .int)) = some ns := by unfold intsOf; simp [intsD_map]
@[simp] theorem fSum_map (ns : List Int) : fSum [.lst (ns.map .int)] s = some (.ok (.int ns.sum) s) := by unfold fSum; simp
@[simp] theorem fIsN_non (neg : Bool) (d : D) : fIsN neg d .non s = some (.ok (.bl (if neg then !d.isN else d.isN)) s) := rfl
@[simp] theorem isN_non : D.isN .non = true := rfl
@[simp] theorem isN_int (i : Int) : D.isN (.int i) = false := rfl
@[simp] theorem isN_bl (i : Bool) : D.isN (.bl i) = false := rfl
@[simp] theorem isN_str (i : Str) : D.isN (.str i) = false := rfl
@[simp] theorem isN_lst (i : List D) : D.isN (.lst i) = false := rfl
@[simp] theorem isN_tup (i : List D) : D.isN (.tup i) = false := rfl
@[simp] theorem isN_loc (i : Nat) : D.isN (.loc i) = false := rfl
@[simp] theorem callF_s (f : DF) (ds : List D) : callF f ds s = (match f ds s.s with
  | none => none
  | some (.ok d ς) => some (.ok d { s with s := ς })
  | some (.exc C fs ς) => some (.exc C fs ς)) := rfl
def setF (d k v : D) : M Fl := fun s => match ownL s.s d, k with
  | some (i, xs), .int j => match ixN xs.length j with
    | some n => some (.ok .nx (putS s i (.lst (xs.set n v))))
    | none => none
  | _, _ => none
@[simp] theorem setL_s (mo mi me : M D) : setL mo mi me s = bnd me (fun v => bnd mo fun d => bnd mi fun k => setF d k v) s := rfl
theorem setF_loc {l : Nat} {xs : List D} (h : s.s[l]? = some (some (.lst xs))) {j : Int} {n : Nat} (hn : ixN xs.length j = some n) (v : D) : setF (.loc l) (.int j) v s = some (.ok .nx ⟨s.e, s.s.set l (some (.lst (xs.set n v)))⟩) := by
  unfold setF
  simp [h, hn, putS]
@[simp] theorem setF_loc0 {xs : List D} {e : List (Option D)} {r : Store} {j : Int} (v : D) : setF (.loc 0) (.int j) v ⟨e, some (.lst xs) :: r⟩ = (match ixN xs.length j with
    | some n => some (.ok .nx ⟨e, some (.lst (xs.set n v)) :: r⟩)
    | none => none) := rfl
/-! a list of one's own, the last in the store -/
@[simp] theorem append_last {ς : Store} {e : List (Option D)} {acc : List D} {y : D} (h : small acc.length = true) : fAppend (.loc ς.length) [y] ⟨e, ς ++ [some (.lst acc)]⟩ = some (.ok .non ⟨e, ς ++ [some (.lst (acc ++ [y]))]⟩) := by
  unfold fAppend
  simp [h, putS]
theorem mthL_s (f : D → List D → M D) (m : M D) (n : M (List D)) : mthL f m n s = bnd m (fun d => chk (fun ς => isL ς d) (bnd n (f d))) s := rfl
theorem chk_s {β : Type} (p : Store → Bool) (m : M β) : chk p m s = guard' (p s.s) m s := rfl
@[simp] theorem isL_lst (ds : List D) : isL ς (.lst ds) = true := rfl
theorem isL_loc {i : Nat} {ds : List D} (h : ς[i]? = some (some (.lst ds))) : isL ς (.loc i) = true := by
  unfold isL
  simp [h]
@[simp] theorem isL_last {acc : List D} : isL (ς ++ [some (.lst acc)]) (.loc ς.length) = true := isL_loc (ds := acc) (by simp)
theorem nameF_last {e : List (Option D)} {acc : List D} {i : Nat} (h : e[i]? = some (some (.loc ς.length))) : nameF i ⟨e, ς ++ [some (.lst acc)]⟩ = some (.ok (.lst acc) ⟨e.set i (some (.lst acc)), ς ++ [none]⟩) := by
  unfold nameF
  simp [h, frzO]
@[simp] theorem sflat_nil : sflat [] = true := rfl
@[simp] theorem sflat_none (r : Store) : sflat (none :: r) = sflat r := rfl
@[simp] theorem sflat_lst (ds : List D) (r : Store) : sflat (some (.lst ds) :: r) = (ds.all D.flat && sflat r) := by
  show (O.flat (.lst ds) && sflat r) = _
  simp [O.flat, flatL_all]
/-! isinstance -/
@[simp] theorem kit_NoneType_bool : L2.kitB "NoneType" "bool" = some false := by rfl
@[simp] theorem kit_NoneType_int : L2.kitB "NoneType" "int" = some false := by rfl
@[simp] theorem kit_NoneType_str : L2.kitB "NoneType" "str" = some false := by rfl
@[simp] theorem kit_NoneType_list : L2.kitB "NoneType" "list" = some false := by rfl
@[simp] theorem kit_NoneType_tuple : L2.kitB "NoneType" "tuple" = some false := by rfl
@[simp] theorem kit_NoneType_dict : L2.kitB "NoneType" "dict" = some false := by rfl
@[simp] theorem kit_bool_bool : L2.kitB "bool" "bool" = some true := by rfl
@[simp] theorem kit_bool_int : L2.kitB "bool" "int" = some true := by rfl
@[simp] theorem kit_bool_str : L2.kitB "bool" "str" = some false := by rfl
@[simp] theorem kit_bool_list : L2.kitB "bool" "list" = some false := by rfl
@[simp] theorem kit_bool_tuple : L2.kitB "bool" "tuple" = some false := by rfl
@[simp] theorem kit_bool_dict : L2.kitB "bool" "dict" = some false := by rfl
@[simp] theorem kit_int_bool : L2.kitB "int" "bool" = some false := by rfl
@[simp] theorem kit_int_int : L2.kitB "int" "int" = some true := by rfl
@[simp] theorem kit_int_str : L2.kitB "int" "str" = some false := by rfl
@[simp] theorem kit_int_list : L2.kitB "int" "list" = some false := by rfl
@[simp] theorem kit_int_tuple : L2.kitB "int" "tuple" = some false := by rfl
@[simp] theorem kit_int_dict : L2.kitB "int" "dict" = some false := by rfl
@[simp] theorem kit_str_bool : L2.kitB "str" "bool" = some false := by rfl
@[simp] theorem kit_str_int : L2.kitB "str" "int" = some false := by rfl
@[simp] theorem kit_str_str : L2.kitB "str" "str" = some true := by rfl
@[simp] theorem kit_str_list : L2.kitB "str" "list" = some false := by rfl
@[simp] theorem kit_str_tuple : L2.kitB "str" "tuple" = some false := by rfl
@[simp] theorem kit_str_dict : L2.kitB "str" "dict" = some false := by rfl
@[simp] theorem kit_list_bool : L2.kitB "list" "bool" = some false := by rfl
@[simp] theorem kit_list_int : L2.kitB "list" "int" = some false := by rfl
@[simp] theorem kit_list_str : L2.kitB "list" "str" = some false := by rfl
@[simp] theorem kit_list_list : L2.kitB "list" "list" = some true := by rfl
@[simp] theorem kit_list_tuple : L2.kitB "list" "tuple" = some false := by rfl
@[simp] theorem kit_list_dict : L2.kitB "list" "dict" = some false := by rfl
@[simp] theorem kit_tuple_bool : L2.kitB "tuple" "bool" = some false := by rfl
@[simp] theorem kit_tuple_int : L2.kitB "tuple" "int" = some false := by rfl
@[simp] theorem kit_tuple_str : L2.kitB "tuple" "str" = some false := by rfl
@[simp] theorem kit_tuple_list : L2.kitB "tuple" "list" = some false := by rfl
@[simp] theorem kit_tuple_tuple : L2.kitB "tuple" "tuple" = some true := by rfl
@[simp] theorem kit_tuple_dict : L2.kitB "tuple" "dict" = some false := by rfl
@[simp] theorem kit_dict_bool : L2.kitB "dict" "bool" = some false := by rfl
@[simp] theorem kit_dict_int : L2.kitB "dict" "int" = some false := by rfl
@[simp] theorem kit_dict_str : L2.kitB "dict" "str" = some false := by rfl
@[simp] theorem kit_dict_list : L2.kitB "dict" "list" = some false := by rfl
@[simp] theorem kit_dict_tuple : L2.kitB "dict" "tuple" = some false := by rfl
@[simp] theorem kit_dict_dict : L2.kitB "dict" "dict" = some true := by rfl
def isiF (d : D) (ts : List String) : M D := fun s => match tyN s.s d with
  | some t => match anyTy t ts with
    | some b => some (.ok (.bl b) s)
    | none => none
  | none => none
@[simp] theorem isiT_s (m : M D) (ts : List String) : isiT m ts s = bnd m (fun d => isiF d ts) s := rfl
@[simp] theorem isiF_non  (ts : List String) : isiF .non ts s = (match anyTy "NoneType" ts with
    | some b => some (.ok (.bl b) s)
    | none => none) := rfl
@[simp] theorem fIsi_non  (T : String) : fIsi [.non, .ty T] s = (match L2.kitB "NoneType" T with
    | some b => some (.ok (.bl b) s)
    | none => none) := rfl
@[simp] theorem isiF_bl (b : Bool) (ts : List String) : isiF (.bl b) ts s = (match anyTy "bool" ts with
    | some b => some (.ok (.bl b) s)
    | none => none) := rfl
@[simp] theorem fIsi_bl (b : Bool) (T : String) : fIsi [(.bl b), .ty T] s = (match L2.kitB "bool" T with
    | some b => some (.ok (.bl b) s)
    | none => none) := rfl
@[simp] theorem isiF_int (i : Int) (ts : List String) : isiF (.int i) ts s = (match anyTy "int" ts with
    | some b => some (.ok (.bl b) s)
    | none => none) := rfl
@[simp] theorem fIsi_int (i : Int) (T : String) : fIsi [(.int i), .ty T] s = (match L2.kitB "int" T with
    | some b => some (.ok (.bl b) s)
    | none => none) := rfl
@[simp] theorem isiF_str (x : Str) (ts : List String) : isiF (.str x) ts s = (match anyTy "str" ts with
    | some b => some (.ok (.bl b) s)
    | none => none) := rfl
@[simp] theorem fIsi_str (x : Str) (T : String) : fIsi [(.str x), .ty T] s = (match L2.kitB "str" T with
    | some b => some (.ok (.bl b) s)
    | none => none) := rfl
@[simp] theorem isiF_lst (ds : List D) (ts : List String) : isiF (.lst ds) ts s = (match anyTy "list" ts with
    | some b => some (.ok (.bl b) s)
    | none => none) := rfl
@[simp] theorem fIsi_lst (ds : List D) (T : String) : fIsi [(.lst ds), .ty T] s = (match L2.kitB "list" T with
    | some b => some (.ok (.bl b) s)
    | none => none) := rfl
@[simp] theorem isiF_rdl (ds : List D) (ts : List String) : isiF (.rdl ds) ts s = (match anyTy "list" ts with
    | some b => some (.ok (.bl b) s)
    | none => none) := rfl
@[simp] theorem fIsi_rdl (ds : List D) (T : String) : fIsi [(.rdl ds), .ty T] s = (match L2.kitB "list" T with
    | some b => some (.ok (.bl b) s)
    | none => none) := rfl
@[simp] theorem isiF_tup (ds : List D) (ts : List String) : isiF (.tup ds) ts s = (match anyTy "tuple" ts with
    | some b => some (.ok (.bl b) s)
    | none => none) := rfl
@[simp] theorem fIsi_tup (ds : List D) (T : String) : fIsi [(.tup ds), .ty T] s = (match L2.kitB "tuple" T with
    | some b => some (.ok (.bl b) s)
    | none => none) := rfl
@[simp] theorem isiF_dct (kv : List (Key × D)) (ts : List String) : isiF (.dct kv) ts s = (match anyTy "dict" ts with
    | some b => some (.ok (.bl b) s)
    | none => none) := rfl
@[simp] theorem fIsi_dct (kv : List (Key × D)) (T : String) : fIsi [(.dct kv), .ty T] s = (match L2.kitB "dict" T with
    | some b => some (.ok (.bl b) s)
    | none => none) := rfl
@[simp] theorem anyTy_nil (t : String) : anyTy t [] = some false := rfl
@[simp] theorem anyTy_cons (t T : String) (r : List String) : anyTy t (T :: r) = (match L2.kitB t T with
  | some true => some true
  | some false => anyTy t r
  | none => none) := rfl
/-! == -/
theorem shaped_i (i : Int) : SeqAt.shaped (.int i) = true := by simp [SeqAt.shaped, PyData.canLay0, PyData.depth]
theorem shaped_b (i : Bool) : SeqAt.shaped (.bool i) = true := by simp [SeqAt.shaped, PyData.canLay0, PyData.depth]
theorem shaped_n : SeqAt.shaped .none = true := by simp [SeqAt.shaped, PyData.canLay0, PyData.depth]
theorem shaped_s {x : Str} (h : PyData.strOk x = true) : SeqAt.shaped (.str x) = true := by simp [SeqAt.shaped, PyData.canLay0, PyData.depth, h]
theorem shaped_l0 : SeqAt.shaped (.list []) = true := by simp [SeqAt.shaped, PyData.canLay0, PyData.canLayAll0, PyData.depth, PyData.depthAll]
theorem pyL_ints (ns : List Int) : pyL (ns.map .int) = some (ns.map .int) := by
  induction ns with
  | nil => rfl
  | cons n r ih => simp [pyL, py0, ih]
@[simp] theorem fEq_i (neg : Bool) (i j : Int) : fEq neg (.int i) (.int j) s = some (.ok (.bl (if neg then !(i == j) else i == j)) s) := by
  simp [fEq, pyS, py0, shaped_i, PyData.eqv]
@[simp] theorem fEq_b (neg : Bool) (i j : Bool) : fEq neg (.bl i) (.bl j) s = some (.ok (.bl (if neg then !(i == j) else i == j)) s) := by
  simp [fEq, pyS, py0, shaped_b, PyData.eqv]
@[simp] theorem fEq_n (neg : Bool) : fEq neg .non .non s = some (.ok (.bl (!neg)) s) := by
  cases neg <;> simp [fEq, pyS, py0, shaped_n, PyData.eqv]
theorem fEq_s (neg : Bool) {x y : Str} (hx : PyData.strOk x = true) (hy : PyData.strOk y = true) : fEq neg (.str x) (.str y) s = some (.ok (.bl (if neg then !(x == y) else x == y)) s) := by
  simp [fEq, pyS, py0, shaped_s hx, shaped_s hy, PyData.eqv]
@[simp] theorem fEq_l0 (neg : Bool) : fEq neg (.lst []) (.lst []) s = some (.ok (.bl (!neg)) s) := by
  cases neg <;> simp [fEq, pyS, py0, pyL, shaped_l0, PyData.eqv, PyData.eqvAll]
/-! a def -/
theorem mdef_s (n : Nat) (m : M Fl) (ds : List D) : mdef n m ds ς = (match m ⟨startD n ds, ς⟩ with
  | some (.ok .nx s) => some (.ok .non (cutS ς s.s true))
  | some (.ok (.rt d) s) => some (.ok d (cutS ς s.s d.flat))
  | some (.exc C fs ς') => some (.exc C fs (cutS ς ς' (flatN fs)))
  | _ => none) := rfl
@[simp] theorem cut_self (b : Bool) : cutS ς ς b = ς := by
  unfold cutS
  split
  · exact List.take_length
  · rfl
theorem cut_same {ς' : Store} (b : Bool) (h : ς'.length = ς.length) : cutS ς ς' b = ς' := by
  unfold cutS
  split
  · rw [← h]; exact List.take_length
  · rfl
theorem cut_app {ς' r : Store} (h : ς'.length = ς.length) (f : sflat ς' = true) : cutS ς (ς' ++ r) true = ς' := by
  unfold cutS
  rw [← h, List.take_left' rfl, f]
  rfl
theorem cut_back {ς' : Store} {x : Option O} (h : ς'.length = ς.length) (f : sflat ς' = true) : cutS ς (ς' ++ [x]) true = ς' := cut_app h f
/-! flat -/
@[simp] theorem flat_int (i : Int) : (D.int i).flat = true := by simp [D.flat]
@[simp] theorem flat_bl (i : Bool) : (D.bl i).flat = true := by simp [D.flat]
@[simp] theorem flat_non : D.non.flat = true := by simp [D.flat]
@[simp] theorem flat_str (x : Str) : (D.str x).flat = true := by simp [D.flat]
@[simp] theorem flat_lst (ds : List D) : (D.lst ds).flat = ds.all D.flat := by simp [D.flat, flatL_all]
@[simp] theorem flat_rdl (ds : List D) : (D.rdl ds).flat = ds.all D.flat := by simp [D.flat, flatL_all]
@[simp] theorem flat_tup (ds : List D) : (D.tup ds).flat = ds.all D.flat := by simp [D.flat, flatL_all]
@[simp] theorem small_of {n : Nat} (h : n ≤ 1000000) : small n = true := decide_eq_true h
/-! new lists -/
theorem lcM_s (own : Bool) (vs : List Nat) (src : M (List D)) (g : Tg) (tt : M Bool) (te : M D) : lcM own vs src g tt te s = bnd src (lcK own vs g tt te) s := rfl
theorem rngL_0 (n : Nat) : rngL 0 n = (List.range n).map fun (k : Nat) => D.int (k : Int) := by
  unfold rngL
  congr 1
  funext k
  rw [Int.zero_add]
theorem lcR_g {α : Type} {e0 : List (Option D)} {i : Nat} {tt : M Bool} {te : M D} {f out : α → D} {P : α → Bool} : ∀ {xs : List α},
    (∀ x ∈ xs, tt ⟨e0.set i (some (f x)), ς⟩ = some (.ok (P x) ⟨e0.set i (some (f x)), ς⟩)) →
    (∀ x ∈ xs, P x = true → te ⟨e0.set i (some (f x)), ς⟩ = some (.ok (out x) ⟨e0.set i (some (f x)), ς⟩)) →
    lcR e0 (gset i) tt te (xs.map f) ς = some ((xs.filter P).map out, ς)
  | [], _, _ => rfl
  | x :: xs, h1, h2 => by
    have ih := lcR_g (xs := xs) (fun y hy => h1 y (List.mem_cons_of_mem _ hy)) (fun y hy => h2 y (List.mem_cons_of_mem _ hy))
    have q := h1 x (List.mem_cons_self ..)
    have q2 := h2 x (List.mem_cons_self ..)
    rw [List.map_cons]
    unfold lcR
    rw [gset_s]
    show (match tt ⟨e0.set i (some (f x)), ς⟩ with | some (.ok true s2) => _ | some (.ok false s2) => _ | _ => _) = _
    rw [q]
    cases hp : P x with
    | false =>
      rw [List.filter_cons, hp]
      exact ih
    | true =>
      rw [List.filter_cons, hp]
      show (match te ⟨e0.set i (some (f x)), ς⟩ with | some (.ok y s3) => _ | _ => _) = _
      rw [q2 hp]
      show Option.map _ (lcR e0 (gset i) tt te (xs.map f) ς) = _
      rw [ih]
      rfl
theorem lcK_g {α : Type} {e : List (Option D)} {i : Nat} {tt : M Bool} {te : M D} {f out : α → D} {P : α → Bool} {xs : List α} (hs : small xs.length = true)
    (h1 : ∀ x ∈ xs, tt ⟨e.set i (some (f x)), ς⟩ = some (.ok (P x) ⟨e.set i (some (f x)), ς⟩))
    (h2 : ∀ x ∈ xs, P x = true → te ⟨e.set i (some (f x)), ς⟩ = some (.ok (out x) ⟨e.set i (some (f x)), ς⟩)) :
    lcK false [i] (gset i) tt te (xs.map f) ⟨e, ς⟩ = some (.ok (.lst ((xs.filter P).map out)) ⟨e, ς⟩) := by
  have z : wipeD e [i] = e.set i none := rfl
  have q := lcR_g (e0 := wipeD e [i]) (i := i) (tt := tt) (te := te) (f := f) (out := out) (P := P) (xs := xs) (ς := ς) (by
    intro x hx
    rw [z, List.set_set]
    exact h1 x hx) (by
    intro x hx
    rw [z, List.set_set]
    exact h2 x hx)
  unfold lcK
  rw [q]
  have hl : small ((xs.filter P).map out).length = true := by
    have := of_decide_eq_true hs
    have := List.length_filter_le P xs
    exact small_of (by rw [List.length_map]; omega)
  show guard' (small ((xs.filter P).map out).length) _ _ = _
  rw [hl]
  rfl
/-- all of them -/
theorem lcK_m {α : Type} {e : List (Option D)} {i : Nat} {te : M D} {f out : α → D} {xs : List α} (hs : small xs.length = true)
    (h2 : ∀ x ∈ xs, te ⟨e.set i (some (f x)), ς⟩ = some (.ok (out x) ⟨e.set i (some (f x)), ς⟩)) :
    lcK false [i] (gset i) (ret true) te (xs.map f) ⟨e, ς⟩ = some (.ok (.lst (xs.map out)) ⟨e, ς⟩) := by
  have q := lcK_g (tt := ret true) (te := te) (P := fun _ => true) (f := f) (out := out) (ς := ς) (e := e) hs (fun x _ => rfl) (fun x hx _ => h2 x hx)
  rw [q, List.filter_eq_self.mpr (by simp)]
/-! dicts -/
@[simp] theorem newD_s : newD s = some (.ok (.loc s.s.length) ⟨s.e, s.s ++ [some (.dct [])]⟩) := rfl
@[simp] theorem keyD_i (i : Int) : keyD (.int i) = some (.inl i) := rfl
@[simp] theorem keyD_s (x : Str) : keyD (.str x) = some (.inr x) := rfl
def getF (d k : D) : M D := fun s => match dctD s.s d, keyD k with
  | some ms, some k => optD (valD ms k) s
  | _, _ => none
theorem getD_s (md mk : M D) : getD' md mk s = bnd md (fun d => bnd mk fun k => getF d k) s := by
  have e : (fun (d k : D) (s : S) => (match dctD s.s d, keyD k with
    | some ms, some k => (match valD ms k with
      | some v => some (.ok v s)
      | none => none)
    | _, _ => none : Option (Out D))) = getF := by
    funext d k s
    unfold getF
    cases dctD s.s d with
    | none => rfl
    | some ms =>
      cases keyD k with
      | none => rfl
      | some k =>
        dsimp only
        cases valD ms k <;> rfl
  rw [← e]
  rfl
def get2F (d k x : D) : M D := fun s => match dctD s.s d, keyD k with
  | some ms, some k => some (.ok ((valD ms k).getD x) s)
  | _, _ => none
theorem get2D_s (md mk mx : M D) : get2D md mk mx s = bnd md (fun d => chk (fun ς => (dctD ς d).isSome) (bnd mk fun k => bnd mx fun x => get2F d k x)) s := rfl
def putF (d k v : D) : M Fl := fun s => match ownD s.s d, keyD k with
  | some (i, ms), some k => guard' (small ms.length) (ret .nx) (putS s i (.dct (putD ms k v)))
  | _, _ => none
theorem putDS_s (md mk mv : M D) : putDS md mk mv s = bnd mv (fun v => bnd md fun d => bnd mk fun k => putF d k v) s := rfl
theorem dctD_loc {i : Nat} {ms : List (Key × D)} (h : ς[i]? = some (some (.dct ms))) : dctD ς (.loc i) = some ms := by
  unfold dctD
  simp [h]
theorem get2F_loc {i : Nat} {e : List (Option D)} {ms : List (Key × D)} (h : ς[i]? = some (some (.dct ms))) {k : D} {q : Key} (hk : keyD k = some q) (x : D) : get2F (.loc i) k x ⟨e, ς⟩ = some (.ok ((valD ms q).getD x) ⟨e, ς⟩) := by
  unfold get2F
  rw [dctD_loc h, hk]
theorem getF_loc {i : Nat} {e : List (Option D)} {ms : List (Key × D)} (h : ς[i]? = some (some (.dct ms))) {k : D} {q : Key} (hk : keyD k = some q) : getF (.loc i) k ⟨e, ς⟩ = optD (valD ms q) ⟨e, ς⟩ := by
  unfold getF
  rw [dctD_loc h, hk]
theorem putF_loc {i : Nat} {e : List (Option D)} {ms : List (Key × D)} (h : ς[i]? = some (some (.dct ms))) {k : D} {q : Key} (hk : keyD k = some q) (hs : small ms.length = true) (v : D) : putF (.loc i) k v ⟨e, ς⟩ = some (.ok .nx ⟨e, ς.set i (some (.dct (putD ms q v)))⟩) := by
  unfold putF ownD
  simp [h, hk, hs, putS]
theorem fListDD_loc {i : Nat} {e : List (Option D)} {ms : List (Key × D)} (o : Bool) (h : ς[i]? = some (some (.dct ms))) : fListDD o [.loc i] ⟨e, ς⟩ = mk o (ms.map fun (kv : Key × D) => kD kv.1) ⟨e, ς⟩ := by
  show (match dctD ς (.loc i) with
    | some ms => mk o (ms.map fun (kv : Key × D) => kD kv.1) ⟨e, ς⟩
    | none => none) = _
  rw [dctD_loc h]
theorem append_of {i : Nat} {e : List (Option D)} {acc : List D} (h : ς[i]? = some (some (.lst acc))) (hs : small acc.length = true) (y : D) : fAppend (.loc i) [y] ⟨e, ς⟩ = some (.ok .non ⟨e, ς.set i (some (.lst (acc ++ [y])))⟩) := by
  unfold fAppend
  simp [h, hs, putS]
/-! dicts of numbers by numbers -/
abbrev DI' := List (Int × Int)
def dI (Δ : DI') : List (Key × D) := Δ.map fun p => ((.inl p.1 : Key), D.int p.2)
def lk (Δ : DI') (i : Int) : Option Int := (Δ.find? fun p => decide (p.1 = i)).map (·.2)
def gt0 (Δ : DI') (i : Int) : Int := (lk Δ i).getD 0
def putI (Δ : DI') (k v : Int) : DI' := if (Δ.any fun p => decide (p.1 = k)) = true then Δ.map (fun p => if p.1 = k then (p.1, v) else p) else Δ ++ [(k, v)]
@[simp] theorem dI_len (Δ : DI') : (dI Δ).length = Δ.length := List.length_map ..
theorem valD_dI (Δ : DI') (i : Int) : valD (dI Δ) (.inl i) = (lk Δ i).map .int := by
  unfold valD lk dI
  induction Δ with
  | nil => rfl
  | cons p r ih =>
    rw [List.map_cons, List.find?_cons, List.find?_cons]
    by_cases h : p.1 = i
    · simp [h]
    · have h2 : ¬ ((.inl p.1 : Key) = .inl i) := fun e => h (Sum.inl.inj e)
      simp only [decide_eq_false h, decide_eq_false h2]
      exact ih
theorem getD_dI (Δ : DI') (i : Int) : (valD (dI Δ) (.inl i)).getD (.int 0) = .int (gt0 Δ i) := by
  rw [valD_dI]
  unfold gt0
  cases lk Δ i <;> rfl
theorem putD_dI (Δ : DI') (k v : Int) : putD (dI Δ) (.inl k) (.int v) = dI (putI Δ k v) := by
  have e : ((dI Δ).any fun kv => decide (kv.1 = (.inl k : Key))) = (Δ.any fun p => decide (p.1 = k)) := by
    unfold dI
    rw [List.any_map]
    congr 1
    funext p
    show decide ((.inl p.1 : Key) = .inl k) = decide (p.1 = k)
    by_cases h : p.1 = k
    · simp [h]
    · have h2 : ¬ ((.inl p.1 : Key) = .inl k) := fun e => h (Sum.inl.inj e)
      rw [decide_eq_false h, decide_eq_false h2]
  unfold putD putI
  rw [e]
  by_cases h : (Δ.any fun p => decide (p.1 = k)) = true
  · rw [if_pos h, if_pos h]
    unfold dI
    rw [List.map_map, List.map_map]
    congr 1
    funext p
    show (if (.inl p.1 : Key) = .inl k then ((.inl p.1 : Key), D.int v) else ((.inl p.1 : Key), D.int p.2)) = _
    by_cases h : p.1 = k
    · simp [h]
    · have h2 : ¬ ((.inl p.1 : Key) = .inl k) := fun e => h (Sum.inl.inj e)
      rw [if_neg h2]
      simp [h]
  · rw [if_neg h, if_neg h]
    unfold dI
    rw [List.map_append]
    rfl
theorem lk_some_iff {Δ : DI'} {i : Int} : (lk Δ i).isSome = true ↔ i ∈ Δ.map (·.1) := by
  unfold lk
  simp [List.find?_isSome]
theorem lk_map (k v i : Int) : ∀ Δ : DI', lk (Δ.map fun p => if p.1 = k then (p.1, v) else p) i = if i = k then (lk Δ i).map (fun _ => v) else lk Δ i
  | [] => by unfold lk; simp
  | p :: r => by
    have ih := lk_map k v i r
    unfold lk at ih ⊢
    rw [List.map_cons, List.find?_cons, List.find?_cons]
    by_cases h : p.1 = k
    · rw [if_pos h]
      by_cases h2 : i = k
      · rw [if_pos h2]
        have h3 : p.1 = i := by omega
        simp [h3]
      · rw [if_neg h2] at ih ⊢
        have h3 : ¬ p.1 = i := by omega
        simp only [decide_eq_false h3]
        exact ih
    · rw [if_neg h]
      by_cases h3 : p.1 = i
      · have h2 : ¬ i = k := by omega
        simp [h3, h2]
      · simp only [decide_eq_false h3]
        exact ih
theorem lk_app (Δ : DI') (k v i : Int) (h : ¬ k ∈ Δ.map (·.1)) : lk (Δ ++ [(k, v)]) i = if i = k then some v else lk Δ i := by
  unfold lk
  rw [List.find?_append]
  by_cases h2 : i = k
  · subst h2
    have e : Δ.find? (fun p => decide (p.1 = i)) = none := by
      rw [List.find?_eq_none]
      intro p hp q
      exact h (List.mem_map.mpr ⟨p, hp, of_decide_eq_true q⟩)
    simp [e]
  · rw [if_neg h2]
    have h3 : ¬ k = i := fun e => h2 e.symm
    cases Δ.find? (fun p => decide (p.1 = i)) <;> simp [h3]
theorem any_key (Δ : DI') (k : Int) : (Δ.any fun p => decide (p.1 = k)) = true ↔ k ∈ Δ.map (·.1) := by
  simp
theorem lk_put (Δ : DI') (k v i : Int) : lk (putI Δ k v) i = if i = k then some v else lk Δ i := by
  unfold putI
  by_cases h : (Δ.any fun p => decide (p.1 = k)) = true
  · rw [if_pos h, lk_map]
    by_cases h2 : i = k
    · subst h2
      rw [if_pos rfl, if_pos rfl]
      have := lk_some_iff.mpr ((any_key Δ i).mp h)
      cases e : lk Δ i with
      | none => rw [e] at this; cases this
      | some w => rfl
    · rw [if_neg h2, if_neg h2]
  · rw [if_neg h]
    exact lk_app Δ k v i fun q => h ((any_key Δ k).mpr q)
theorem gt0_put (Δ : DI') (k v i : Int) : gt0 (putI Δ k v) i = if i = k then v else gt0 Δ i := by
  unfold gt0
  rw [lk_put]
  by_cases h : i = k
  · rw [if_pos h, if_pos h]; rfl
  · rw [if_neg h, if_neg h]
theorem keys_put (Δ : DI') (k v : Int) : (putI Δ k v).map (·.1) = if k ∈ Δ.map (·.1) then Δ.map (·.1) else Δ.map (·.1) ++ [k] := by
  unfold putI
  by_cases h : (Δ.any fun p => decide (p.1 = k)) = true
  · rw [if_pos h, if_pos ((any_key Δ k).mp h), List.map_map]
    congr 1
    funext p
    show (if p.1 = k then (p.1, v) else p).1 = p.1
    by_cases h : p.1 = k <;> simp [h]
  · rw [if_neg h, if_neg fun q => h ((any_key Δ k).mpr q), List.map_append]
    rfl
theorem keys_put_mem (Δ : DI') (k v i : Int) : i ∈ (putI Δ k v).map (·.1) ↔ i ∈ Δ.map (·.1) ∨ i = k := by
  rw [keys_put]
  by_cases h : k ∈ Δ.map (·.1)
  · rw [if_pos h]
    exact ⟨.inl, fun q => q.elim id fun e => by rw [e]; exact h⟩
  · rw [if_neg h, List.mem_append, List.mem_singleton]
theorem keys_put_nodup {Δ : DI'} {k v : Int} (h : (Δ.map (·.1)).Nodup) : ((putI Δ k v).map (·.1)).Nodup := by
  rw [keys_put]
  by_cases q : k ∈ Δ.map (·.1)
  · rw [if_pos q]; exact h
  · rw [if_neg q, List.nodup_append]
    refine ⟨h, by simp, ?_⟩
    intro a ha b hb e
    rw [List.mem_singleton.mp hb] at e
    exact q (e ▸ ha)
theorem put_len (Δ : DI') (k v : Int) : (putI Δ k v).length ≤ Δ.length + 1 := by
  have e := congrArg List.length (keys_put Δ k v)
  rw [List.length_map] at e
  rw [e]
  split <;> simp
end
end DL

/-! from k03M.lean -/
set_option Elab.async false
set_option linter.all false
set_option maxRecDepth 100000
set_option maxHeartbeats 4000000
namespace Lw
open PySem L2 DL
def m_span_length : DF := mdef 1
    (retS (op2 fSub (op2 fIx (name 0) (ret (.int 1))) (op2 fIx (name 0) (ret (.int 0)))))
def m_has_night : DF := mdef 2
    (retS (chn fLe fLt (op2 fIx (name 0) (ret (.int 0))) (name 1) (op2 fIx (name 0) (ret (.int 1)))))
def m_load : DF := mdef 3
    (retS (bnd (acons (lcM false [2] (seqI (name 0)) (gset 2) (tst (bnd (acons (name 2) (acons (name 1) anil)) (callF m_has_night))) (ret (.int 1))) anil) fSum))
def m_load_steps : DF := mdef 7
    (sq (asg newD (gset 1))
    (sq (forS (seqI (name 0)) (gtup 2 (gcons (gset 5) (gcons (gset 6) gnil)))
    (sq (putDS (name 1) (name 5) (op2 (fAdd false) (get2D (name 1) (name 5) (ret (.int 0))) (ret (.int 1))))
    (putDS (name 1) (name 6) (op2 fSub (get2D (name 1) (name 6) (ret (.int 0))) (ret (.int 1))))))
    (sq (asg (bnd anil (lstE true)) (gset 2))
    (sq (asg (ret (.int 0)) (gset 3))
    (sq (forS (seqI (bnd (acons (bnd (acons (name 1) anil) (fListDD false)) anil) (fSortI false))) (gset 4)
    (ifS (tst (op2 (fEq true) (getD' (name 1) (name 4)) (ret (.int 0))))
    (sq (asg (op2 (fAdd false) (name 3) (getD' (name 1) (name 4))) (gset 3))
    (exprS (mthL fAppend (name 2) (acons (bnd (acons (name 4) (acons (name 3) anil)) tupD) anil))))
    nxt))
    (retS (bnd (acons (name 2) anil) fTuple)))))))
def m_peak : DF := mdef 5
    (sq (asg (ret (.int 0)) (gset 1))
    (sq (asg (ret .non) (gset 2))
    (sq (forS (seqI (bnd (acons (name 0) anil) (callF m_load_steps))) (gtup 2 (gcons (gset 3) (gcons (gset 4) gnil)))
    (ifS (tst (op2 fGt (name 4) (name 1)))
    (sq (asg (name 4) (gset 1))
    (asg (name 3) (gset 2)))
    nxt))
    (retS (bnd (acons (name 1) (acons (name 2) anil)) tupD)))))
def m_first_over : DF := mdef 4
    (sq (forS (seqI (bnd (acons (name 0) anil) (callF m_load_steps))) (gtup 2 (gcons (gset 2) (gcons (gset 3) gnil)))
    (ifS (tst (op2 fGt (name 3) (name 1)))
    (retS (name 2))
    nxt))
    (retS (ret .non)))
def m_over_spans : DF := mdef 6
    (sq (asg (bnd anil (lstE true)) (gset 2))
    (sq (asg (ret .non) (gset 3))
    (sq (forS (seqI (bnd (acons (name 0) anil) (callF m_load_steps))) (gtup 2 (gcons (gset 4) (gcons (gset 5) gnil)))
    (ifS (andT (tst (op2 fGt (name 5) (name 1))) (tst (op2 (fIsN false) (name 3) (ret .non))))
    (asg (name 4) (gset 3))
    (ifS (andT (tst (op2 fLe (name 5) (name 1))) (tst (op2 (fIsN true) (name 3) (ret .non))))
    (sq (exprS (mthL fAppend (name 2) (acons (bnd (acons (name 3) (acons (name 4) anil)) tupD) anil)))
    (asg (ret .non) (gset 3)))
    nxt)))
    (retS (bnd (acons (name 2) anil) fTuple)))))
def m_nights_sold : DF := mdef 2
    (retS (bnd (acons (lcM false [1] (seqI (name 0)) (gset 1) (ret true) (bnd (acons (name 1) anil) (callF m_span_length))) anil) fSum))
def m_load_row : DF := mdef 9
    (sq (asg (op2 (fMul true) (bnd (acons (ret (.int 0)) anil) (lstE false)) (op2 (fAdd false) (op2 fSub (name 2) (name 1)) (ret (.int 1)))) (gset 3))
    (sq (forS (seqI (name 0)) (gtup 2 (gcons (gset 7) (gcons (gset 8) gnil)))
    (sq (asg (bnd (acons (name 7) (acons (name 1) anil)) fMax2) (gset 7))
    (sq (asg (bnd (acons (name 8) (acons (name 2) anil)) fMin2) (gset 8))
    (ifS (tst (op2 fLt (name 7) (name 8)))
    (sq (augL (fun i j => i + j) (name 3) (op2 fSub (name 7) (name 1)) (ret (.int 1)))
    (augL (fun i j => i - j) (name 3) (op2 fSub (name 8) (name 1)) (ret (.int 1))))
    nxt))))
    (sq (asg (bnd anil (lstE true)) (gset 4))
    (sq (asg (ret (.int 0)) (gset 5))
    (sq (forS (rng1 (acons (op2 fSub (name 2) (name 1)) anil)) (gset 6)
    (sq (asg (op2 (fAdd false) (name 5) (op2 fIx (name 3) (name 6))) (gset 5))
    (exprS (mthL fAppend (name 4) (acons (name 5) anil)))))
    (retS (bnd (acons (name 4) anil) fTuple)))))))
def m__law_taken : DF := mdef 4
    (sq (ifS (tst (op2 fGt (op2 fIx (name 0) (ret (.int 3))) (ret (.int 0))))
    (sq (asg (op2 fMod (bnd (acons (op2 fIx (name 0) (ret (.int 3))) anil) fInt) (name 1)) (gset 3))
    (sq (setL (name 0) (ret (.int 3)) (op2 fDiv (op2 fIx (name 0) (ret (.int 3))) (name 1)))
    (retS (name 3))))
    nxt)
    (sq (setL (name 0) (ret (.int 1)) (op2 (fAdd false) (op2 fIx (name 0) (ret (.int 1))) (ret (.int 1))))
    (sq (ifS (tst (op2 fGt (op2 fIx (name 0) (ret (.int 1))) (bnd (acons (op2 fIx (name 0) (ret (.int 0))) anil) fLen)))
    (sq (setL (name 0) (ret (.int 2)) (op2 fMod (bnd (acons (op2 (fAdd false) (op2 (fMul false) (op2 fIx (name 0) (ret (.int 2))) (ret (.int 48271))) (ret (.int 11))) anil) fInt) (ret (.int 2147483647))))
    (retS (op2 fMod (bnd (acons (op2 fDiv (op2 fIx (name 0) (ret (.int 2))) (ret (.int 7))) anil) fInt) (name 1))))
    nxt)
    (sq (asg (op2 fIx (op2 fIx (name 0) (ret (.int 0))) (op2 fSub (op2 fIx (name 0) (ret (.int 1))) (ret (.int 1)))) (gset 2))
    (sq (setL (name 0) (ret (.int 2)) (op2 fMod (bnd (acons (op2 (fAdd false) (op2 (fAdd false) (op2 (fMul false) (op2 fIx (name 0) (ret (.int 2))) (ret (.int 48271))) (name 2)) (ret (.int 11))) anil) fInt) (ret (.int 2147483647))))
    (sq (ifS (tst (op2 fGe (name 2) (op2 fPow (ret (.int 10)) (ret (.int 18)))))
    (setL (name 0) (ret (.int 3)) (op2 fDiv (name 2) (name 1)))
    nxt)
    (retS (op2 fMod (bnd (acons (name 2) anil) fInt) (name 1)))))))))
def m__law_pick : DF := mdef 2
    (retS (op2 fIx (name 1) (bnd (acons (name 0) (acons (bnd (acons (name 1) anil) fLen) anil)) (callF m__law_taken))))
def m__law_alike : Nat → DF
  | 0 => fun _ _ => none
  | n + 1 => mdef 3
    (sq (ifS (tst (isiT (name 1) ["tuple", "list"]))
    (sq (ifS (orT (notT (tst (isiT (name 0) ["tuple", "list"]))) (tst (op2 (fEq true) (bnd (acons (name 0) (acons (ret (.ty "list")) anil)) fIsi) (bnd (acons (name 1) (acons (ret (.ty "list")) anil)) fIsi))))
    (retS (ret (.bl false)))
    nxt)
    (sq (ifS (tst (op2 (fEq true) (bnd (acons (name 0) anil) fLen) (bnd (acons (name 1) anil) fLen)))
    (retS (ret (.bl false)))
    nxt)
    (retS (op2 (fEq false) (lcM false [2] (rng1 (acons (bnd (acons (name 1) anil) fLen) anil)) (gset 2) (notT (tst (bnd (acons (op2 fIx (name 0) (name 2)) (acons (op2 fIx (name 1) (name 2)) anil)) (callF (m__law_alike n))))) (name 2)) (bnd anil (lstE false))))))
    nxt)
    (sq (ifS (orT (tst (op2 (fIsN false) (name 1) (ret .non))) (tst (bnd (acons (name 1) (acons (ret (.ty "str")) anil)) fIsi)))
    (retS (andV (op2 (fEq false) (name 0) (name 1)) (op2 (fEq false) (bnd (acons (name 0) (acons (ret (.ty "str")) anil)) fIsi) (bnd (acons (name 1) (acons (ret (.ty "str")) anil)) fIsi))))
    nxt)
    (retS (andV (bnd (acons (name 0) (acons (ret (.ty "int")) anil)) fIsi) (andV (op2 (fEq false) (bnd (acons (name 0) (acons (ret (.ty "bool")) anil)) fIsi) (bnd (acons (name 1) (acons (ret (.ty "bool")) anil)) fIsi)) (op2 (fEq false) (name 0) (name 1)))))))
def m__law_span : DF := mdef 4
    (sq (asg (bnd (acons (name 0) (acons (name 1) anil)) (callF m__law_taken)) (gset 3))
    (retS (bnd (acons (name 3) (acons (bnd (acons (name 1) (acons (op2 (fAdd false) (op2 (fAdd false) (name 3) (ret (.int 1))) (bnd (acons (name 0) (acons (name 2) anil)) (callF m__law_taken))) anil)) fMin2) anil)) tupD)))
def m__law_spans : DF := mdef 6
    (sq (asg (bnd anil (lstE true)) (gset 4))
    (sq (forS (rng1 (acons (name 1) anil)) (gset 5)
    (exprS (mthL fAppend (name 4) (acons (bnd (acons (name 0) (acons (name 2) (acons (name 3) anil))) (callF m__law_span)) anil))))
    (retS (nameF 4))))
def m__law_load : DF := mdef 3
    (retS (bnd (acons (lcM false [2] (seqI (name 0)) (gset 2) (tst (chn fLe fLt (op2 fIx (name 2) (ret (.int 0))) (name 1) (op2 fIx (name 2) (ret (.int 1))))) (ret (.int 1))) anil) fLen))
def m__law_mixed : DF := mdef 2
    (sq (ifS (tst (op2 (fEq false) (bnd (acons (name 0) (acons (ret (.int 2)) anil)) (callF m__law_taken)) (ret (.int 0))))
    (retS (bnd (acons (name 1) anil) (fList false)))
    nxt)
    (retS (bnd (acons (name 1) anil) fTuple)))
def m__law_handed : DF := mdef 3
    (retS (bnd (acons (name 0) (acons (lcM false [2] (seqI (name 1)) (gset 2) (ret true) (bnd (acons (name 0) (acons (name 2) anil)) (callF m__law_mixed))) anil)) (callF m__law_mixed)))
def m_law : DF := mdef 17
    (sq (asg (bnd (acons (name 0) (acons (ret (.int 0)) (acons (ret (.int 31)) (acons (ret (.int 0)) anil)))) (lstE true)) (gset 1))
    (sq (asg (op2 (fAdd false) (ret (.int 1)) (bnd (acons (name 1) (acons (ret (.int 60)) anil)) (callF m__law_taken))) (gset 2))
    (sq (asg (bnd (acons (name 1) (acons (bnd (acons (name 1) (acons (ret (.int 31)) anil)) (callF m__law_taken)) (acons (name 2) (acons (op2 (fAdd false) (ret (.int 1)) (bnd (acons (name 1) (acons (ret (.int 20)) anil)) (callF m__law_taken))) anil)))) (callF m__law_spans)) (gset 3))
    (sq (asg (bnd (acons (name 1) (acons (name 3) anil)) (callF m__law_handed)) (gset 4))
    (sq (asg (lcM false [15] (rng1 (acons (op2 (fAdd false) (name 2) (ret (.int 1))) anil)) (gset 15) (ret true) (bnd (acons (name 3) (acons (name 15) anil)) (callF m__law_load))) (gset 5))
    (sq (ifS (tst (op2 (fEq true) (lcM false [15] (rng1 (acons (op2 (fAdd false) (name 2) (ret (.int 1))) anil)) (gset 15) (notT (tst (bnd (acons (bnd (acons (name 4) (acons (name 15) anil)) (callF m_load)) (acons (op2 fIx (name 5) (name 15)) anil)) (callF (m__law_alike 8))))) (name 15)) (bnd anil (lstE false))))
    (retS (ret (.bl false)))
    nxt)
    (sq (asg (op2 (fAdd false) (bnd (acons (ret (.int 0)) anil) (lstE false)) (name 5)) (gset 6))
    (sq (asg (lcM false [15] (rng1 (acons (op2 (fAdd false) (name 2) (ret (.int 1))) anil)) (gset 15) (tst (op2 (fEq true) (op2 fIx (name 5) (name 15)) (op2 fIx (name 6) (name 15)))) (bnd (acons (name 15) (acons (op2 fIx (name 5) (name 15)) anil)) tupD)) (gset 7))
    (sq (ifS (notT (tst (bnd (acons (bnd (acons (name 4) anil) (callF m_load_steps)) (acons (bnd (acons (name 7) anil) fTuple) anil)) (callF (m__law_alike 8)))))
    (retS (ret (.bl false)))
    nxt)
    (sq (asg (bnd (acons (name 5) anil) fMax1) (gset 8))
    (sq (asg (bnd (acons (ret (.int 0)) (acons (ret .non) anil)) tupD) (gset 9))
    (sq (ifS (tst (op2 fGt (name 8) (ret (.int 0))))
    (asg (bnd (acons (name 8) (acons (mthL fIndex (name 5) (acons (name 8) anil)) anil)) tupD) (gset 9))
    nxt)
    (sq (ifS (notT (tst (bnd (acons (bnd (acons (name 4) anil) (callF m_peak)) (acons (name 9) anil)) (callF (m__law_alike 8)))))
    (retS (ret (.bl false)))
    nxt)
    (sq (asg (bnd (acons (name 1) (acons (bnd (acons (ret (.int 0)) (acons (bnd (acons (ret (.int 0)) (acons (op2 fSub (name 8) (ret (.int 1))) anil)) fMax2) (acons (name 8) (acons (op2 (fAdd false) (name 8) (ret (.int 1))) (acons (bnd (acons (name 1) (acons (ret (.int 31)) anil)) (callF m__law_taken)) anil))))) (lstE false)) anil)) (callF m__law_pick)) (gset 10))
    (sq (asg (lcM false [15] (rng1 (acons (op2 (fAdd false) (name 2) (ret (.int 1))) anil)) (gset 15) (tst (op2 fGt (op2 fIx (name 5) (name 15)) (name 10))) (name 15)) (gset 11))
    (sq (ifS (notT (tst (bnd (acons (bnd (acons (name 4) (acons (name 10) anil)) (callF m_first_over)) (acons (op2 fIx (op2 (fAdd false) (name 11) (bnd (acons (ret .non) anil) (lstE false))) (ret (.int 0))) anil)) (callF (m__law_alike 8)))))
    (retS (ret (.bl false)))
    nxt)
    (sq (asg (lcM false [15] (seqI (name 11)) (gset 15) (tst (op2 (fIn true) (op2 fSub (name 15) (ret (.int 1))) (name 11))) (name 15)) (gset 12))
    (sq (asg (lcM false [15] (seqI (name 11)) (gset 15) (tst (op2 (fIn true) (op2 (fAdd false) (name 15) (ret (.int 1))) (name 11))) (name 15)) (gset 13))
    (sq (ifS (notT (tst (bnd (acons (bnd (acons (name 4) (acons (name 10) anil)) (callF m_over_spans)) (acons (bnd (acons (lcM false [16] (rng1 (acons (bnd (acons (name 12) anil) fLen) anil)) (gset 16) (ret true) (bnd (acons (op2 fIx (name 12) (name 16)) (acons (op2 (fAdd false) (op2 fIx (name 13) (name 16)) (ret (.int 1))) anil)) tupD)) anil) fTuple) anil)) (callF (m__law_alike 8)))))
    (retS (ret (.bl false)))
    nxt)
    (sq (ifS (notT (tst (bnd (acons (bnd (acons (name 4) anil) (callF m_nights_sold)) (acons (bnd (acons (name 5) anil) fSum) anil)) (callF (m__law_alike 8)))))
    (retS (ret (.bl false)))
    nxt)
    (sq (asg (bnd (acons (name 1) (acons (name 2) (acons (name 2) anil))) (callF m__law_span)) (gset 14))
    (retS (bnd (acons (bnd (acons (name 4) (acons (op2 fIx (name 14) (ret (.int 0))) (acons (op2 fIx (name 14) (ret (.int 1))) anil))) (callF m_load_row)) (acons (bnd (acons (slA false (name 5) (oInt (op2 fIx (name 14) (ret (.int 0)))) (oInt (op2 fIx (name 14) (ret (.int 1))))) anil) fTuple) anil)) (callF (m__law_alike 8)))))))))))))))))))))))))
end Lw

/-! from LC.lean -/
set_option Elab.async false
set_option linter.all false
set_option maxRecDepth 100000
set_option maxHeartbeats 4000000
namespace Lw
open PySem L2 DL
/-! what all the laws share -/
def RowO (sc : List Int) (a b c : Int) : Option O := some (.lst [.rdl (sc.map .int), .int a, .int b, .int c])
theorem taken_ev (sc : List Int) (a b c : Int) (many : Int) (r : Store) (ha : 0 ≤ a) (hm : 0 < many) (hs : many < 1073741824) :
    ∃ v a' b' c', 0 ≤ v ∧ v < many ∧ 0 ≤ a' ∧ m__law_taken [.loc 0, .int many] (RowO sc a b c :: r) = some (.ok (.int v) (RowO sc a' b' c' :: r)) := by
  have h0 : many ≠ 0 := by omega
  have hn : many.natAbs < 1073741824 := by omega
  have w1 : ∀ x : Int, 0 ≤ x.fmod many := fun x => Int.fmod_nonneg_of_pos _ hm
  have w2 : ∀ x : Int, x.fmod many < many := fun x => Int.fmod_lt_of_pos _ hm
  unfold RowO
  by_cases h : 0 < c
  · refine ⟨c.fmod many, a, b, c.fdiv many, w1 _, w2 _, ha, ?_⟩
    simp [m__law_taken, mdef_s, startD, h, h0, hn, cut_same]
  · by_cases h2 : (sc.length : Int) < a + 1
    · refine ⟨(((b * 48271 + 11).fmod 2147483647).fdiv 7).fmod many, a + 1, (b * 48271 + 11).fmod 2147483647, c, w1 _, w2 _, by omega, ?_⟩
      simp [m__law_taken, mdef_s, startD, h, h0, hn, h2, cut_same]
    · obtain ⟨n, rfl⟩ := Int.eq_ofNat_of_zero_le ha
      have hl : n < sc.length := by omega
      have e : atI (sc.map D.int) (n : Int) = some (.int sc[n]) := by rw [atI_n]; simp [hl]
      have e2 : ((n : Int) + 1 - 1) = n := by omega
      by_cases h3 : (10 : Int) ^ 18 ≤ sc[n]
      · refine ⟨sc[n].fmod many, n + 1, (b * 48271 + sc[n] + 11).fmod 2147483647, sc[n].fdiv many, w1 _, w2 _, by omega, ?_⟩
        have h3' : (1000000000000000000 : Int) ≤ sc[n] := by simpa using h3
        simp [m__law_taken, mdef_s, startD, h, h0, hn, h2, e2, e, h3, h3', cut_same]
      · refine ⟨sc[n].fmod many, n + 1, (b * 48271 + sc[n] + 11).fmod 2147483647, c, w1 _, w2 _, by omega, ?_⟩
        have h3' : ¬ (1000000000000000000 : Int) ≤ sc[n] := by simpa using h3
        simp [m__law_taken, mdef_s, startD, h, h0, hn, h2, e2, e, h3, h3', cut_same]
theorem pick_ev (sc : List Int) (a b c : Int) (ds : List D) (r : Store) (ha : 0 ≤ a) (hm : 0 < ds.length) (hs : ds.length < 1073741824) :
    ∃ n a' b' c', ∃ h : n < ds.length, 0 ≤ a' ∧ m__law_pick [.loc 0, .lst ds] (RowO sc a b c :: r) = some (.ok ds[n] (cutS (RowO sc a b c :: r) (RowO sc a' b' c' :: r) ds[n].flat)) := by
  obtain ⟨v, a', b', c', h1, h2, h3, h4⟩ := taken_ev sc a b c ds.length r ha (by omega) (by omega)
  obtain ⟨n, rfl⟩ := Int.eq_ofNat_of_zero_le h1
  have hl : n < ds.length := by omega
  refine ⟨n, a', b', c', hl, h3, ?_⟩
  have e : atI ds (n : Int) = some ds[n] := by rw [atI_n]; simp [hl]
  simp [m__law_pick, mdef_s, startD, h4, e]
theorem cut_app1 (x : Option O) (r : Store) (b : Bool) {y : Option O} : cutS (x :: r) (y :: r) b = y :: r := cut_same b rfl
/-! alike: what is plain is alike to itself -/
def plD : Nat → D → Bool
  | _, .non => true
  | _, .bl _ => true
  | _, .int _ => true
  | _, .str x => PyData.strOk x
  | n + 1, .lst ds => small ds.length && ds.all (plD n)
  | n + 1, .tup ds => small ds.length && ds.all (plD n)
  | _, _ => false
theorem alike_seq {n : Nat} {ds : List D} {ς : Store} (ih : ∀ d ∈ ds, m__law_alike n [d, d] ς = some (.ok (.bl true) ς)) (L : D) (hL : ∀ i : Int, fIx L (.int i) ⟨[some L, some L, some (.int i)], ς⟩ = optD (atI ds i) ⟨[some L, some L, some (.int i)], ς⟩) :
    ∀ ks : List D, (∀ k ∈ ks, ∃ j : Nat, k = .int j ∧ j < ds.length) → lcR [some L, some L, none] (gset 2) (notT (tst (bnd (acons (op2 fIx (name 0) (name 2)) (acons (op2 fIx (name 1) (name 2)) anil)) (callF (m__law_alike n))))) (name 2) ks ς = some ([], ς)
  | [], _ => rfl
  | k :: ks, h => by
    obtain ⟨j, rfl, hj⟩ := h k (List.mem_cons_self ..)
    have e : atI ds (j : Int) = some ds[j] := by rw [DL.atI_n]; simp [hj]
    have q := ih ds[j] (List.getElem_mem hj)
    have q1 := alike_seq ih L hL ks fun k hk => h k (List.mem_cons_of_mem _ hk)
    unfold lcR
    simp [hL, e, q, q1]
theorem alike_lc {n : Nat} {ds : List D} {ς : Store} (ih : ∀ d ∈ ds, m__law_alike n [d, d] ς = some (.ok (.bl true) ς)) (L : D) (hL : ∀ i : Int, fIx L (.int i) ⟨[some L, some L, some (.int i)], ς⟩ = optD (atI ds i) ⟨[some L, some L, some (.int i)], ς⟩) :
    lcK false [2] (gset 2) (notT (tst (bnd (acons (op2 fIx (name 0) (name 2)) (acons (op2 fIx (name 1) (name 2)) anil)) (callF (m__law_alike n))))) (name 2) (rngL 0 ds.length) ⟨[some L, some L, none], ς⟩ = some (.ok (.lst []) ⟨[some L, some L, none], ς⟩) := by
  have q := alike_seq ih L hL (rngL 0 ds.length) (by
    intro k hk
    unfold rngL at hk
    simp only [List.mem_map, List.mem_range] at hk
    obtain ⟨j, hj, rfl⟩ := hk
    exact ⟨j, by simp, hj⟩)
  unfold lcK
  simp [wipeD, q]
theorem alike_flat (n : Nat) (ς : Store) : (m__law_alike (n + 1) [.non, .non] ς = some (.ok (.bl true) ς)) ∧ (∀ i : Int, m__law_alike (n + 1) [.int i, .int i] ς = some (.ok (.bl true) ς)) ∧ (∀ i : Bool, m__law_alike (n + 1) [.bl i, .bl i] ς = some (.ok (.bl true) ς)) ∧ (∀ i : Str, PyData.strOk i = true → m__law_alike (n + 1) [.str i, .str i] ς = some (.ok (.bl true) ς)) := by
  refine ⟨?_, fun i => ?_, fun i => ?_, fun i h => ?_⟩ <;> unfold m__law_alike
  · simp [mdef_s, startD]
  · simp [mdef_s, startD]
  · simp [mdef_s, startD]
  · simp [mdef_s, startD, fEq_s, h]
theorem alike_lst {n : Nat} {ds : List D} {ς : Store} (hs : small ds.length = true) (ih : ∀ d ∈ ds, m__law_alike n [d, d] ς = some (.ok (.bl true) ς)) : m__law_alike (n + 1) [.lst ds, .lst ds] ς = some (.ok (.bl true) ς) := by
  have q := alike_lc ih (.lst ds) (by simp)
  have h1 := of_decide_eq_true hs
  have hr : ds.length ≤ 1000000000 := by omega
  unfold m__law_alike
  simp [mdef_s, startD, lcM_s, rng1F_n hr, q]
theorem alike_tup {n : Nat} {ds : List D} {ς : Store} (hs : small ds.length = true) (ih : ∀ d ∈ ds, m__law_alike n [d, d] ς = some (.ok (.bl true) ς)) : m__law_alike (n + 1) [.tup ds, .tup ds] ς = some (.ok (.bl true) ς) := by
  have q := alike_lc ih (.tup ds) (by simp)
  have h1 := of_decide_eq_true hs
  have hr : ds.length ≤ 1000000000 := by omega
  unfold m__law_alike
  simp [mdef_s, startD, lcM_s, rng1F_n hr, q]
theorem alike_refl (n : Nat) : ∀ (d : D) (ς : Store), plD n d = true → m__law_alike (n + 1) [d, d] ς = some (.ok (.bl true) ς) := by
  induction n with
  | zero =>
    intro d ς h
    have q := alike_flat 0 ς
    cases d with
    | non => exact q.1
    | int i => exact q.2.1 i
    | bl i => exact q.2.2.1 i
    | str i => exact q.2.2.2 i (by simpa [plD] using h)
    | _ => simp [plD] at h
  | succ n ih =>
    intro d ς h
    have q := alike_flat (n + 1) ς
    cases d with
    | non => exact q.1
    | int i => exact q.2.1 i
    | bl i => exact q.2.2.1 i
    | str i => exact q.2.2.2 i (by simpa [plD] using h)
    | lst ds =>
      simp only [plD, Bool.and_eq_true, List.all_eq_true] at h
      exact alike_lst h.1 fun d hd => ih d ς (h.2 d hd)
    | tup ds =>
      simp only [plD, Bool.and_eq_true, List.all_eq_true] at h
      exact alike_tup h.1 fun d hd => ih d ς (h.2 d hd)
    | _ => simp [plD] at h
end Lw

/-! from LS.lean -/
set_option Elab.async false
set_option linter.all false
set_option maxRecDepth 100000
set_option maxHeartbeats 4000000
namespace Lw
open PySem L2 DL
def SpOk (top : Int) (p : Int × Int) : Prop := 0 ≤ p.1 ∧ p.1 < p.2 ∧ p.2 ≤ top
def tupI (p : Int × Int) : D := .tup [.int p.1, .int p.2]
def shp (b : Bool) (ds : List D) : D := match b with
  | true => .lst ds
  | false => .tup ds
def spD (q : Bool × Int × Int) : D := shp q.1 [.int q.2.1, .int q.2.2]
theorem tupI_shp (p : Int × Int) : tupI p = spD (false, p) := rfl
@[simp] theorem row_len (sc : List Int) (a b c : Int) (r : Store) : (RowO sc a b c :: r).length = r.length + 1 := rfl
theorem row_flat (sc : List Int) (a b c : Int) {r : Store} (h : sflat r = true) : sflat (RowO sc a b c :: r) = true := by
  unfold RowO
  simp [h]
theorem span_ev (sc : List Int) (a b c : Int) (top lo : Int) (r : Store) (ha : 0 ≤ a) (hm : 0 < top) (hs : top < 1073741824) (hl : 0 < lo) (hk : lo < 1073741824) :
    ∃ p a' b' c', SpOk top p ∧ 0 ≤ a' ∧ m__law_span [.loc 0, .int top, .int lo] (RowO sc a b c :: r) = some (.ok (tupI p) (RowO sc a' b' c' :: r)) := by
  obtain ⟨v, a1, b1, c1, h1, h2, h3, h4⟩ := taken_ev sc a b c top r ha hm hs
  obtain ⟨w, a2, b2, c2, k1, k2, k3, k4⟩ := taken_ev sc a1 b1 c1 lo r h3 hl hk
  refine ⟨(v, min top (v + 1 + w)), a2, b2, c2, ⟨h1, by dsimp only; omega, by dsimp only; omega⟩, k3, ?_⟩
  simp [m__law_span, mdef_s, startD, h4, k4, tupI, cut_same]
theorem spans_loop (sc : List Int) (top lo : Int) (r : Store) (many : D) (hm : 0 < top) (hs : top < 1073741824) (hl : 0 < lo) (hk : lo < 1073741824) :
    ∀ (ks : List D) (acc : List (Int × Int)) (a b c : Int) (o : Option D), 0 ≤ a → acc.length + ks.length ≤ 1000000 → (∀ p ∈ acc, SpOk top p) →
    ∃ (ps : List (Int × Int)) (a' b' c' : Int) (o' : Option D), (∀ p ∈ ps, SpOk top p) ∧ ps.length = acc.length + ks.length ∧ 0 ≤ a' ∧
      forD (gset 5) (exprS (mthL fAppend (name 4) (acons (bnd (acons (name 0) (acons (name 2) (acons (name 3) anil))) (callF m__law_span)) anil))) ks
        ⟨[some (.loc 0), some many, some (.int top), some (.int lo), some (.loc (r.length + 1)), o], (RowO sc a b c :: r) ++ [some (.lst (acc.map tupI))]⟩
      = some (.ok .nx ⟨[some (.loc 0), some many, some (.int top), some (.int lo), some (.loc (r.length + 1)), o'], (RowO sc a' b' c' :: r) ++ [some (.lst (ps.map tupI))]⟩)
  | [], acc, a, b, c, o, ha, hn, hp => ⟨acc, a, b, c, o, hp, rfl, ha, rfl⟩
  | k :: ks, acc, a, b, c, o, ha, hn, hp => by
    rw [List.length_cons] at hn
    obtain ⟨p, a1, b1, c1, h1, h2, h3⟩ := span_ev sc a b c top lo (r ++ [some (.lst (acc.map tupI))]) ha hm hs hl hk
    obtain ⟨ps, a2, b2, c2, o2, k1, k2, k3, k4⟩ := spans_loop sc top lo r many hm hs hl hk ks (acc ++ [p]) a1 b1 c1 (some k) h2 (by simp; omega) (by
      intro q hq
      rcases List.mem_append.mp hq with h | h
      · exact hp q h
      · rw [List.mem_singleton.mp h]; exact h1)
    refine ⟨ps, a2, b2, c2, o2, k1, by simp at k2 ⊢; omega, k3, ?_⟩
    have e := append_last (ς := RowO sc a1 b1 c1 :: r) (e := [some (.loc 0), some many, some (.int top), some (.int lo), some (.loc (r.length + 1)), some k]) (acc := acc.map tupI) (y := tupI p) (small_of (by simp; omega))
    have g := isL_last (ς := RowO sc a b c :: r) (acc := acc.map tupI)
    simp only [row_len, List.cons_append] at e g
    rw [List.map_append, List.map_singleton] at k4
    rw [List.cons_append] at k4
    rw [← k4, forD_cons]
    simp [mthL_s, chk_s, g, h3, e]
theorem spans_ev (sc : List Int) (a b c : Int) (many top lo : Int) (r : Store) (hf : sflat r = true) (ha : 0 ≤ a) (h0 : 0 ≤ many) (hn : many ≤ 1000000) (hm : 0 < top) (hs : top < 1073741824) (hl : 0 < lo) (hk : lo < 1073741824) :
    ∃ (ps : List (Int × Int)) (a' b' c' : Int), (∀ p ∈ ps, SpOk top p) ∧ ps.length = many.toNat ∧ 0 ≤ a' ∧ m__law_spans [.loc 0, .int many, .int top, .int lo] (RowO sc a b c :: r) = some (.ok (.lst (ps.map tupI)) (RowO sc a' b' c' :: r)) := by
  obtain ⟨ps, a', b', c', o', h1, h2, h3, h4⟩ := spans_loop sc top lo r (.int many) hm hs hl hk (rngL 0 many.toNat) [] a b c none ha (by simp [rngL]; omega) (by simp)
  refine ⟨ps, a', b', c', h1, by simpa [rngL] using h2, h3, ?_⟩
  have e := rng1F_i (s := ⟨[some (.loc 0), some (.int many), some (.int top), some (.int lo), some (.loc (r.length + 1)), none], (RowO sc a b c :: r) ++ [some (.lst [])]⟩) (j := many) (by omega) (by omega)
  have g := nameF_last (ς := RowO sc a' b' c' :: r) (e := [some (.loc 0), some (.int many), some (.int top), some (.int lo), some (.loc (r.length + 1)), o']) (acc := ps.map tupI) (i := 4) rfl
  have ct := cut_back (ς := RowO sc a b c :: r) (ς' := RowO sc a' b' c' :: r) (x := none) rfl (row_flat sc a' b' c' hf)
  simp only [List.map_nil, List.cons_append] at h4 e g ct
  have fl : (List.map tupI ps).all D.flat = true := by
    rw [List.all_eq_true]
    intro x hx
    obtain ⟨p, _, rfl⟩ := List.mem_map.mp hx
    simp [tupI]
  simp [m__law_spans, mdef_s, startD, e, h4, g, fl, ct]

theorem shp_t (ds : List D) : shp true ds = .lst ds := rfl
theorem shp_f (ds : List D) : shp false ds = .tup ds := rfl
@[simp] theorem seqF_shp (b : Bool) (ds : List D) : seqF (shp b ds) = some (b, ds) := by cases b <;> rfl
@[simp] theorem seqD_shp (ς : Store) (b : Bool) (ds : List D) : seqD ς (shp b ds) = some (b, ds) := by cases b <;> rfl
@[simp] theorem fTuple_shp (s : S) (b : Bool) (ds : List D) : fTuple [shp b ds] s = some (.ok (.tup ds) s) := fTuple_of _ (seqD_shp _ b ds)
@[simp] theorem fList_shp (s : S) (o b : Bool) (ds : List D) : fList o [shp b ds] s = mk o ds s := fList_of o _ (seqD_shp _ b ds)
@[simp] theorem fIx_shp (s : S) (b : Bool) (ds : List D) (i : Int) : fIx (shp b ds) (.int i) s = optD (atI ds i) s := fIx_of _ i (seqD_shp _ b ds)
@[simp] theorem fLen_shp (s : S) (b : Bool) (ds : List D) : fLen [shp b ds] s = some (.ok (.int ds.length) s) := by cases b <;> rfl
theorem mixed_ev (sc : List Int) (a b c : Int) (k : Bool) (ds : List D) (r : Store) (ha : 0 ≤ a) :
    ∃ (q : Bool) (a' b' c' : Int), 0 ≤ a' ∧ m__law_mixed [.loc 0, shp k ds] (RowO sc a b c :: r) = some (.ok (shp q ds) (RowO sc a' b' c' :: r)) := by
  obtain ⟨v, a1, b1, c1, h1, h2, h3, h4⟩ := taken_ev sc a b c 2 r ha (by omega) (by omega)
  by_cases h : v = 0
  · subst h
    refine ⟨true, a1, b1, c1, h3, ?_⟩
    simp [m__law_mixed, mdef_s, startD, h4, shp_t, cut_same]
  · refine ⟨false, a1, b1, c1, h3, ?_⟩
    have hb : (v == 0) = false := by simp [h]
    simp [m__law_mixed, mdef_s, startD, h4, hb, shp_f, cut_same]
theorem handed_loop (sc : List Int) (r : Store) (x y : Option D) : ∀ (ps : List (Bool × Int × Int)) (a b c : Int), 0 ≤ a →
    ∃ (qs : List (Bool × Int × Int)) (a' b' c' : Int), qs.map (·.2) = ps.map (·.2) ∧ 0 ≤ a' ∧
      lcR [some (.loc 0), x, none] (gset 2) (ret true) (bnd (acons (name 0) (acons (name 2) anil)) (callF m__law_mixed)) (ps.map spD) (RowO sc a b c :: r) = some (qs.map spD, RowO sc a' b' c' :: r)
  | [], a, b, c, ha => ⟨[], a, b, c, rfl, ha, rfl⟩
  | (k, p) :: ps, a, b, c, ha => by
    obtain ⟨q, a1, b1, c1, h1, h2⟩ := mixed_ev sc a b c k [.int p.1, .int p.2] r ha
    obtain ⟨qs, a2, b2, c2, k1, k2, k3⟩ := handed_loop sc r x y ps a1 b1 c1 h1
    refine ⟨(q, p) :: qs, a2, b2, c2, by simp [k1], k2, ?_⟩
    rw [List.map_cons]
    unfold lcR
    simp [spD, h2, k3]
theorem handed_ev (sc : List Int) (a b c : Int) (ps : List (Int × Int)) (r : Store) (ha : 0 ≤ a) (hn : ps.length ≤ 1000000) :
    ∃ (q : Bool) (qs : List (Bool × Int × Int)) (a' b' c' : Int), qs.map (·.2) = ps ∧ 0 ≤ a' ∧ m__law_handed [.loc 0, .lst (ps.map tupI)] (RowO sc a b c :: r) = some (.ok (shp q (qs.map spD)) (RowO sc a' b' c' :: r)) := by
  obtain ⟨qs, a1, b1, c1, h1, h2, h3⟩ := handed_loop sc r (some (.lst (ps.map tupI))) none (ps.map fun p => (false, p)) a b c ha
  have e : (ps.map fun p => (false, p)).map spD = ps.map tupI := by
    rw [List.map_map]
    rfl
  have e2 : (ps.map fun p => (false, p)).map (·.2) = ps := by
    rw [List.map_map]
    exact List.map_id ps
  rw [e] at h3
  rw [e2] at h1
  obtain ⟨q, a2, b2, c2, k1, k2⟩ := mixed_ev sc a1 b1 c1 true (qs.map spD) r h2
  have hl : qs.length = ps.length := by rw [← h1, List.length_map]
  refine ⟨q, qs, a2, b2, c2, h1, k1, ?_⟩
  have sm : small qs.length = true := small_of (by omega)
  have k2' : m__law_mixed [.loc 0, .lst (qs.map spD)] (RowO sc a1 b1 c1 :: r) = _ := k2
  simp [m__law_handed, mdef_s, startD, lcM_s, lcK, wipeD, h3, sm, k2', cut_same]
end Lw

/-! from k03.lean -/
set_option Elab.async false
set_option linter.all false
set_option maxRecDepth 100000
set_option maxHeartbeats 4000000
namespace Lw
open PySem L2 DL
def inSp (n : Int) (p : Int × Int) : Bool := decide (p.1 ≤ n) && decide (n < p.2)
def cnt (ps : List (Int × Int)) (n : Int) : Nat := ps.countP (inSp n)
theorem has_night_ev (q : Bool × Int × Int) (n : Int) (ς : Store) : m_has_night [spD q, .int n] ς = some (.ok (.bl (inSp n q.2)) ς) := by
  unfold inSp
  by_cases c : q.2.1 ≤ n <;> simp [m_has_night, mdef_s, startD, spD, c]
theorem span_length_ev (q : Bool × Int × Int) (ς : Store) : m_span_length [spD q] ς = some (.ok (.int (q.2.2 - q.2.1)) ς) := by
  simp [m_span_length, mdef_s, startD, spD]
theorem sum_ones (α : Type) (xs : List α) : (xs.map fun _ => (1 : Int)).sum = xs.length := by
  induction xs with
  | nil => rfl
  | cons x xs ih => rw [List.map_cons, List.sum_cons, ih, List.length_cons]; omega
theorem load_ev (B : Bool) (qs : List (Bool × Int × Int)) (n : Int) (ς : Store) (hn : qs.length ≤ 1000000) : m_load [shp B (qs.map spD), .int n] ς = some (.ok (.int (cnt (qs.map (·.2)) n)) ς) := by
  have q := lcK_g (ς := ς) (e := [some (shp B (qs.map spD)), some (.int n), none]) (i := 2) (tt := tst (bnd (acons (name 2) (acons (name 1) anil)) (callF m_has_night))) (te := ret (.int 1)) (f := spD) (out := fun _ => .int 1) (P := fun q => inSp n q.2) (xs := qs) (small_of hn) (by
    intro x _
    simp [has_night_ev]) (by
    intro x _ _
    simp)
  have e : List.map (fun _ => D.int 1) (qs.filter fun q => inSp n q.2) = ((qs.filter fun q => inSp n q.2).map fun _ => (1 : Int)).map D.int := by
    rw [List.map_map]
    rfl
  rw [e] at q
  have e2 : cnt (qs.map (·.2)) n = (qs.filter fun q => inSp n q.2).length := by
    unfold cnt
    rw [List.countP_map, List.countP_eq_length_filter]
    rfl
  simp only [m_load, mdef_s, startD, retS_s, bnd_s, acons_s, lcM_s, seqI_s]
  simp [q, sum_ones, e2, -List.map_map, -List.map_const_fun, -List.map_const]
theorem lawload_ev (ps : List (Int × Int)) (n : Int) (ς : Store) (hn : ps.length ≤ 1000000) : m__law_load [.lst (ps.map tupI), .int n] ς = some (.ok (.int (cnt ps n)) ς) := by
  have q := lcK_g (ς := ς) (e := [some (.lst (ps.map tupI)), some (.int n), none]) (i := 2) (tt := tst (chn fLe fLt (op2 fIx (name 2) (ret (.int 0))) (name 1) (op2 fIx (name 2) (ret (.int 1))))) (te := ret (.int 1)) (f := tupI) (out := fun _ => .int 1) (P := inSp n) (xs := ps) (small_of hn) (by
    intro x _
    unfold inSp
    by_cases c : x.1 ≤ n <;> simp [tupI, c]) (by
    intro x _ _
    simp)
  simp only [m__law_load, mdef_s, startD, retS_s, bnd_s, acons_s, lcM_s, seqI_s]
  simp [q, cnt, List.countP_eq_length_filter]
theorem sold_ev (B : Bool) (qs : List (Bool × Int × Int)) (ς : Store) (hn : qs.length ≤ 1000000) : m_nights_sold [shp B (qs.map spD)] ς = some (.ok (.int (qs.map fun q => q.2.2 - q.2.1).sum) ς) := by
  have q := lcK_m (ς := ς) (e := [some (shp B (qs.map spD)), none]) (i := 1) (te := bnd (acons (name 1) anil) (callF m_span_length)) (f := spD) (out := fun q => .int (q.2.2 - q.2.1)) (xs := qs) (small_of hn) (by
    intro x _
    simp [span_length_ev])
  have e : List.map (fun (q : Bool × Int × Int) => D.int (q.2.2 - q.2.1)) qs = (qs.map fun q => q.2.2 - q.2.1).map D.int := by
    rw [List.map_map]
    rfl
  rw [e] at q
  simp only [m_nights_sold, mdef_s, startD, retS_s, bnd_s, acons_s, lcM_s, seqI_s]
  simp [q, -List.map_map]

end Lw

/-! from k03b.lean -/
set_option Elab.async false
set_option linter.all false
set_option maxRecDepth 100000
set_option maxHeartbeats 4000000
namespace Lw
open PySem L2 DL
/-! load_steps -/
def chg1 (Δ : DI') (p : Int × Int) : DI' := putI (putI Δ p.1 (gt0 Δ p.1 + 1)) p.2 (gt0 (putI Δ p.1 (gt0 Δ p.1 + 1)) p.2 - 1)
theorem last_get {ς : Store} {o : Option O} : (ς ++ [o])[ς.length]? = some o := by simp
theorem last_set {ς : Store} {o o' : Option O} : (ς ++ [o]).set ς.length o' = ς ++ [o'] := by simp
theorem chg1_len (Δ : DI') (p : Int × Int) : (chg1 Δ p).length ≤ Δ.length + 2 := by
  unfold chg1
  have h1 := put_len Δ p.1 (gt0 Δ p.1 + 1)
  have h2 := put_len (putI Δ p.1 (gt0 Δ p.1 + 1)) p.2 (gt0 (putI Δ p.1 (gt0 Δ p.1 + 1)) p.2 - 1)
  omega
theorem steps_loop1 (x : Option D) (ς : Store) : ∀ (qs : List (Bool × Int × Int)) (Δ : DI') (o5 o6 : Option D), Δ.length + 2 * qs.length ≤ 1000000 →
    ∃ (o5' o6' : Option D), forD (gtup 2 (gcons (gset 5) (gcons (gset 6) gnil))) (sq (putDS (name 1) (name 5) (op2 (fAdd false) (get2D (name 1) (name 5) (ret (.int 0))) (ret (.int 1))))
    (putDS (name 1) (name 6) (op2 fSub (get2D (name 1) (name 6) (ret (.int 0))) (ret (.int 1))))) (qs.map spD) ⟨[x, some (.loc ς.length), none, none, none, o5, o6], ς ++ [some (.dct (dI Δ))]⟩
    = some (.ok .nx ⟨[x, some (.loc ς.length), none, none, none, o5', o6'], ς ++ [some (.dct (dI (qs.foldl (fun Δ q => chg1 Δ q.2) Δ)))]⟩)
  | [], Δ, o5, o6, h => ⟨o5, o6, rfl⟩
  | q :: qs, Δ, o5, o6, h => by
    rw [List.length_cons] at h
    have hl := chg1_len Δ q.2
    obtain ⟨o5', o6', ih⟩ := steps_loop1 x ς qs (chg1 Δ q.2) (some (.int q.2.1)) (some (.int q.2.2)) (by omega)
    refine ⟨o5', o6', ?_⟩
    rw [List.map_cons, List.foldl_cons, ← ih, forD_cons]
    have s1 : small Δ.length = true := small_of (by omega)
    have s2 : small (putI Δ q.2.1 (gt0 Δ q.2.1 + 1)).length = true := small_of (by
      have := put_len Δ q.2.1 (gt0 Δ q.2.1 + 1)
      omega)
    have d1 : ∀ Δ : DI', dctD (ς ++ [some (.dct (dI Δ))]) (.loc ς.length) = some (dI Δ) := fun Δ => dctD_loc last_get
    have g1 : ∀ (e : List (Option D)) (Δ : DI') (i : Int), get2F (.loc ς.length) (.int i) (.int 0) ⟨e, ς ++ [some (.dct (dI Δ))]⟩ = some (.ok (.int (gt0 Δ i)) ⟨e, ς ++ [some (.dct (dI Δ))]⟩) := fun e Δ i => by
      rw [get2F_loc last_get rfl, getD_dI]
    have p1 : ∀ (e : List (Option D)) (Δ : DI') (i v : Int), small Δ.length = true → putF (.loc ς.length) (.int i) (.int v) ⟨e, ς ++ [some (.dct (dI Δ))]⟩ = some (.ok .nx ⟨e, ς ++ [some (.dct (dI (putI Δ i v)))]⟩) := fun e Δ i v hs => by
      rw [putF_loc last_get rfl (by rw [dI_len]; exact hs), putD_dI, last_set]
    have e1 : gtup 2 (gcons (gset 5) (gcons (gset 6) gnil)) (spD q) ⟨[x, some (.loc ς.length), none, none, none, o5, o6], ς ++ [some (.dct (dI Δ))]⟩ = some ⟨[x, some (.loc ς.length), none, none, none, some (.int q.2.1), some (.int q.2.2)], ς ++ [some (.dct (dI Δ))]⟩ := by
      simp [spD]
    rw [e1]
    simp [putDS_s, get2D_s, chk_s, d1, g1, p1, s1, s2, chg1]
/-- the steps that a walk over sorted nights finds -/
def stp (g : Int → Int) : Int → List Int → List (Int × Int)
  | _, [] => []
  | p, k :: ks => if g k = 0 then stp g p ks else (k, p + g k) :: stp g (p + g k) ks
theorem stp_len (g : Int → Int) : ∀ (p : Int) (ks : List Int), (stp g p ks).length ≤ ks.length
  | _, [] => Nat.le_refl _
  | p, k :: ks => by
    unfold stp
    have h1 := stp_len g p ks
    have h2 := stp_len g (p + g k) ks
    split <;> simp <;> omega
theorem two_get0 {ς : Store} {o o' : Option O} : (ς ++ [o, o'])[ς.length]? = some o := by simp
theorem two_get1 {ς : Store} {o o' : Option O} : (ς ++ [o, o'])[ς.length + 1]? = some o' := by
  rw [List.getElem?_append_right (by omega)]
  simp
theorem two_set1 {ς : Store} {o o' o'' : Option O} : (ς ++ [o, o']).set (ς.length + 1) o'' = ς ++ [o, o''] := by
  rw [List.set_append, if_neg (by omega)]
  simp
theorem steps_loop2 (x o5 o6 : Option D) (ς : Store) (Δ : DI') : ∀ (ks : List Int) (acc : List (Int × Int)) (p : Int) (o4 : Option D), acc.length + ks.length ≤ 1000000 → (∀ k ∈ ks, k ∈ Δ.map (·.1)) →
    ∃ (p' : Int) (o4' : Option D), forD (gset 4) (ifS (tst (op2 (fEq true) (getD' (name 1) (name 4)) (ret (.int 0))))
    (sq (asg (op2 (fAdd false) (name 3) (getD' (name 1) (name 4))) (gset 3))
    (exprS (mthL fAppend (name 2) (acons (bnd (acons (name 4) (acons (name 3) anil)) tupD) anil))))
    nxt) (ks.map .int) ⟨[x, some (.loc ς.length), some (.loc (ς.length + 1)), some (.int p), o4, o5, o6], ς ++ [some (.dct (dI Δ)), some (.lst (acc.map tupI))]⟩
    = some (.ok .nx ⟨[x, some (.loc ς.length), some (.loc (ς.length + 1)), some (.int p'), o4', o5, o6], ς ++ [some (.dct (dI Δ)), some (.lst ((acc ++ stp (gt0 Δ) p ks).map tupI))]⟩)
  | [], acc, p, o4, hn, hk => ⟨p, o4, by unfold stp; rw [List.append_nil]; rfl⟩
  | k :: ks, acc, p, o4, hn, hk => by
    rw [List.length_cons] at hn
    have hv : valD (dI Δ) (.inl k) = some (.int (gt0 Δ k)) := by
      rw [valD_dI]
      have := lk_some_iff.mpr (hk k (List.mem_cons_self ..))
      unfold gt0
      cases e : lk Δ k with
      | none => rw [e] at this; cases this
      | some v => rfl
    have g1 : ∀ (e : List (Option D)) (acc : List D), getF (.loc ς.length) (.int k) ⟨e, ς ++ [some (.dct (dI Δ)), some (.lst acc)]⟩ = some (.ok (.int (gt0 Δ k)) ⟨e, ς ++ [some (.dct (dI Δ)), some (.lst acc)]⟩) := fun e acc => by
      rw [getF_loc two_get0 rfl, hv]
      rfl
    have l1 : ∀ acc : List D, isL (ς ++ [some (.dct (dI Δ)), some (.lst acc)]) (.loc (ς.length + 1)) = true := fun acc => isL_loc two_get1
    have hs : small (acc.map tupI).length = true := small_of (by rw [List.length_map]; omega)
    have a1 : ∀ (e : List (Option D)) (y : D), fAppend (.loc (ς.length + 1)) [y] ⟨e, ς ++ [some (.dct (dI Δ)), some (.lst (acc.map tupI))]⟩ = some (.ok .non ⟨e, ς ++ [some (.dct (dI Δ)), some (.lst (acc.map tupI ++ [y]))]⟩) := fun e y => by
      rw [append_of two_get1 hs, two_set1]
    rw [List.map_cons]
    unfold stp
    by_cases h : gt0 Δ k = 0
    · obtain ⟨p', o4', ih⟩ := steps_loop2 x o5 o6 ς Δ ks acc p (some (.int k)) (by omega) fun k hk' => hk k (List.mem_cons_of_mem _ hk')
      refine ⟨p', o4', ?_⟩
      rw [if_pos h, ← ih, forD_cons]
      simp [getD_s, g1, h]
    · obtain ⟨p', o4', ih⟩ := steps_loop2 x o5 o6 ς Δ ks (acc ++ [(k, p + gt0 Δ k)]) (p + gt0 Δ k) (some (.int k)) (by simp; omega) fun k hk' => hk k (List.mem_cons_of_mem _ hk')
      refine ⟨p', o4', ?_⟩
      rw [List.append_assoc, List.singleton_append] at ih
      rw [if_neg h, ← ih, forD_cons]
      have hb : (gt0 Δ k == 0) = false := by simp [h]
      simp [getD_s, g1, h, hb, mthL_s, chk_s, l1, a1, tupI]

theorem load_steps_ev (B : Bool) (qs : List (Bool × Int × Int)) (ς : Store) (hf : sflat ς = true) (hn : 2 * qs.length ≤ 100000) (hk : (qs.foldl (fun Δ q => chg1 Δ q.2) []).length ≤ 100000) :
    m_load_steps [shp B (qs.map spD)] ς = some (.ok (.tup ((stp (gt0 (qs.foldl (fun Δ q => chg1 Δ q.2) [])) 0 (sortI ((qs.foldl (fun Δ q => chg1 Δ q.2) []).map (·.1)))).map tupI)) ς) := by
  obtain ⟨o5, o6, h1⟩ := steps_loop1 (some (shp B (qs.map spD))) ς qs [] none none (by simp; omega)
  generalize eΔ : qs.foldl (fun Δ q => chg1 Δ q.2) [] = Δ at h1 hk ⊢
  have hp : (sortI (Δ.map (·.1))).Perm (Δ.map (·.1)) := List.mergeSort_perm _ _
  have hl : (sortI (Δ.map (·.1))).length = Δ.length := by rw [hp.length_eq, List.length_map]
  obtain ⟨p', o4, h2⟩ := steps_loop2 (some (shp B (qs.map spD))) o5 o6 ς Δ (sortI (Δ.map (·.1))) [] 0 none (by simp; omega) (fun k hk => hp.mem_iff.mp hk)
  have e1 : ∀ e, fListDD false [.loc ς.length] ⟨e, ς ++ [some (.dct (dI Δ)), some (.lst [])]⟩ = some (.ok (.lst ((Δ.map (·.1)).map .int)) ⟨e, ς ++ [some (.dct (dI Δ)), some (.lst [])]⟩) := fun e => by
    rw [fListDD_loc false two_get0, mk_f]
    unfold dI
    rw [List.map_map, List.map_map]
    rfl
  have e2 : ∀ (e : List (Option D)) (ς : Store), fSortI false [.lst ((Δ.map (·.1)).map .int)] ⟨e, ς⟩ = some (.ok (.lst ((sortI (Δ.map (·.1))).map .int)) ⟨e, ς⟩) := fun e ς => by
    unfold fSortI
    simp only [intsOf_map]
    rfl
  have e3 : ∀ (e : List (Option D)) (acc : List D), fTuple [.loc (ς.length + 1)] ⟨e, ς ++ [some (.dct (dI Δ)), some (.lst acc)]⟩ = some (.ok (.tup acc) ⟨e, ς ++ [some (.dct (dI Δ)), some (.lst acc)]⟩) := fun e acc => fTuple_of _ (k := true) (by
    show seqD (ς ++ [some (.dct (dI Δ)), some (.lst acc)]) (.loc (ς.length + 1)) = _
    rw [seqD_loc, two_get1])
  have c1 : ∀ (a b : Option O), cutS ς (ς ++ [a, b]) true = ς := fun a b => cut_app rfl hf
  have fa : ∀ l : List (Int × Int), l.all (D.flat ∘ tupI) = true := fun l => by
    rw [List.all_eq_true]
    intro p _
    simp [tupI]
  simp only [List.nil_append, List.map_nil] at h2
  have h1' : dI [] = [] := rfl
  rw [h1'] at h1
  simp only [m_load_steps, mdef_s, sq_s, asg_s, forS_s, retS_s, bnd_s, acons_s, seqI_s, startD]
  simp [h1, h2, e1, e2, e3, fa, c1, -List.map_map]
end Lw

/-! from k03c.lean -/
set_option Elab.async false
set_option linter.all false
set_option maxRecDepth 100000
set_option maxHeartbeats 4000000
namespace Lw
open PySem L2 DL
/-! what the steps are -/
abbrev Sps := List (Int × Int)
def dif1 (i : Int) (p : Int × Int) : Int := (if p.1 = i then 1 else 0) - (if p.2 = i then 1 else 0)
def dif (ps : Sps) (i : Int) : Int := (ps.map (dif1 i)).sum
theorem gt0_chg1 (Δ : DI') (p : Int × Int) (i : Int) : gt0 (chg1 Δ p) i = gt0 Δ i + dif1 i p := by
  unfold chg1 dif1
  rw [gt0_put, gt0_put, gt0_put]
  by_cases h1 : i = p.2
  · subst h1
    by_cases h2 : p.2 = p.1
    · simp [h2]
    · have h3 : ¬ p.1 = p.2 := fun e => h2 e.symm
      simp [h2, h3]; omega
  · have h1' : ¬ p.2 = i := fun e => h1 e.symm
    by_cases h2 : i = p.1
    · subst h2
      simp [h1, h1']
    · have h3 : ¬ p.1 = i := fun e => h2 e.symm
      simp [h1, h1', h2, h3]
theorem fold_gt0 (i : Int) : ∀ (qs : List (Bool × Int × Int)) (Δ : DI'), gt0 (qs.foldl (fun Δ q => chg1 Δ q.2) Δ) i = gt0 Δ i + dif (qs.map (·.2)) i
  | [], Δ => by show gt0 Δ i = gt0 Δ i + 0; omega
  | q :: qs, Δ => by
    rw [List.foldl_cons, fold_gt0 i qs, gt0_chg1]
    unfold dif
    rw [List.map_cons, List.map_cons, List.sum_cons]
    omega
theorem ex_cons {α : Type} {P : α → Prop} {a : α} {l : List α} : (∃ p ∈ a :: l, P p) ↔ P a ∨ ∃ p ∈ l, P p := by
  simp
theorem fold_keys (i : Int) : ∀ (qs : List (Bool × Int × Int)) (Δ : DI'), i ∈ (qs.foldl (fun Δ q => chg1 Δ q.2) Δ).map (·.1) ↔ i ∈ Δ.map (·.1) ∨ ∃ p ∈ qs.map (·.2), i = p.1 ∨ i = p.2
  | [], Δ => by simp
  | q :: qs, Δ => by
    rw [List.foldl_cons, fold_keys i qs]
    unfold chg1
    rw [keys_put_mem, keys_put_mem, List.map_cons]
    rw [ex_cons]
    constructor
    · rintro (((h | h) | h) | h)
      · exact .inl h
      · exact .inr (.inl (.inl h))
      · exact .inr (.inl (.inr h))
      · exact .inr (.inr h)
    · rintro (h | (h | h) | h)
      · exact .inl (.inl (.inl h))
      · exact .inl (.inl (.inr h))
      · exact .inl (.inr h)
      · exact .inr h
theorem fold_nodup : ∀ (qs : List (Bool × Int × Int)) (Δ : DI'), (Δ.map (·.1)).Nodup → ((qs.foldl (fun Δ q => chg1 Δ q.2) Δ).map (·.1)).Nodup
  | [], Δ, h => h
  | q :: qs, Δ, h => by
    rw [List.foldl_cons]
    exact fold_nodup qs _ (keys_put_nodup (keys_put_nodup h))
theorem fold_len : ∀ (qs : List (Bool × Int × Int)) (Δ : DI'), (qs.foldl (fun Δ q => chg1 Δ q.2) Δ).length ≤ Δ.length + 2 * qs.length
  | [], Δ => by simp
  | q :: qs, Δ => by
    rw [List.foldl_cons, List.length_cons]
    have h1 := fold_len qs (chg1 Δ q.2)
    have h2 := chg1_len Δ q.2
    omega
/-- how many at most one night have come, less how many have gone -/
def cum (ps : Sps) (n : Int) : Int := (ps.map fun p => (if p.1 ≤ n then 1 else 0) - (if p.2 ≤ n then 1 else 0)).sum
theorem cum_step {m n : Int} (hmn : m < n) : ∀ {ps : Sps}, (∀ p ∈ ps, (p.1 ≤ m ∨ n ≤ p.1) ∧ (p.2 ≤ m ∨ n ≤ p.2)) → cum ps n = cum ps m + dif ps n
  | [], _ => rfl
  | p :: ps, h => by
    have ih := cum_step hmn (ps := ps) fun p hp => h p (List.mem_cons_of_mem _ hp)
    have hp := h p (List.mem_cons_self ..)
    unfold cum dif dif1 at ih ⊢
    simp only [List.map_cons, List.sum_cons]
    rw [ih]
    have e1 : (if p.1 ≤ n then (1 : Int) else 0) = (if p.1 ≤ m then 1 else 0) + (if p.1 = n then 1 else 0) := by
      rcases hp.1 with q | q
      · rw [if_pos (by omega), if_pos q, if_neg (by omega)]; rfl
      · by_cases e : p.1 = n
        · rw [if_pos (by omega), if_neg (by omega), if_pos e]; rfl
        · rw [if_neg (by omega), if_neg (by omega), if_neg e]; rfl
    have e2 : (if p.2 ≤ n then (1 : Int) else 0) = (if p.2 ≤ m then 1 else 0) + (if p.2 = n then 1 else 0) := by
      rcases hp.2 with q | q
      · rw [if_pos (by omega), if_pos q, if_neg (by omega)]; rfl
      · by_cases e : p.2 = n
        · rw [if_pos (by omega), if_neg (by omega), if_pos e]; rfl
        · rw [if_neg (by omega), if_neg (by omega), if_neg e]; rfl
    rw [e1, e2]
    omega
theorem cum_cnt (n : Int) : ∀ {ps : Sps}, (∀ p ∈ ps, p.1 < p.2) → cum ps n = cnt ps n
  | [], _ => rfl
  | p :: ps, h => by
    have ih := cum_cnt n (ps := ps) fun p hp => h p (List.mem_cons_of_mem _ hp)
    have hp := h p (List.mem_cons_self ..)
    unfold cum cnt at ih ⊢
    rw [List.map_cons, List.sum_cons, ih, List.countP_cons]
    unfold inSp
    by_cases c1 : p.1 ≤ n
    · by_cases c2 : n < p.2
      · have c3 : ¬ p.2 ≤ n := by omega
        simp [c1, c2, c3]; omega
      · have c3 : p.2 ≤ n := by omega
        simp [c1, c2, c3]
    · have c3 : ¬ p.2 ≤ n := by omega
      simp [c1, c3]
theorem cum_lo {m : Int} : ∀ {ps : Sps}, (∀ p ∈ ps, m < p.1 ∧ m < p.2) → cum ps m = 0
  | [], _ => rfl
  | p :: ps, h => by
    have ih := cum_lo (ps := ps) fun p hp => h p (List.mem_cons_of_mem _ hp)
    have hp := h p (List.mem_cons_self ..)
    unfold cum at ih ⊢
    rw [List.map_cons, List.sum_cons, ih, if_neg (by omega), if_neg (by omega)]
    rfl
theorem dif_out {i : Int} : ∀ {ps : Sps}, (∀ p ∈ ps, p.1 ≠ i ∧ p.2 ≠ i) → dif ps i = 0
  | [], _ => rfl
  | p :: ps, h => by
    have ih := dif_out (ps := ps) fun p hp => h p (List.mem_cons_of_mem _ hp)
    have hp := h p (List.mem_cons_self ..)
    unfold dif dif1 at ih ⊢
    rw [List.map_cons, List.sum_cons, ih, if_neg hp.1, if_neg hp.2]
    rfl
theorem stp_eq (ps : Sps) (g : Int → Int) (hg : ∀ i, g i = dif ps i) : ∀ (ks : List Int) (m : Int), ks.Pairwise (· < ·) → (∀ k ∈ ks, m < k) → (∀ p ∈ ps, (p.1 ≤ m ∨ p.1 ∈ ks) ∧ (p.2 ≤ m ∨ p.2 ∈ ks)) →
    stp g (cum ps m) ks = (ks.filter fun k => decide (dif ps k ≠ 0)).map fun k => (k, cum ps k)
  | [], m, _, _, _ => rfl
  | k :: ks, m, hs, hm, hp => by
    have hk := List.pairwise_cons.mp hs
    have hmk := hm k (List.mem_cons_self ..)
    have step : cum ps k = cum ps m + dif ps k := cum_step hmk fun p h => by
      have q := hp p h
      refine ⟨q.1.imp id fun z => ?_, q.2.imp id fun z => ?_⟩
      · rcases List.mem_cons.mp z with e | e
        · omega
        · have := hk.1 _ e; omega
      · rcases List.mem_cons.mp z with e | e
        · omega
        · have := hk.1 _ e; omega
    have ih := stp_eq ps g hg ks k hk.2 (fun j hj => hk.1 j hj) fun p h => by
      have q := hp p h
      refine ⟨?_, ?_⟩
      · rcases q.1 with z | z
        · exact .inl (by omega)
        · rcases List.mem_cons.mp z with e | e
          · exact .inl (by omega)
          · exact .inr e
      · rcases q.2 with z | z
        · exact .inl (by omega)
        · rcases List.mem_cons.mp z with e | e
          · exact .inl (by omega)
          · exact .inr e
    unfold stp
    rw [hg k, List.filter_cons]
    by_cases h : dif ps k = 0
    · rw [if_pos h]
      have e : cum ps k = cum ps m := by omega
      rw [e] at ih
      rw [ih]
      simp [h]
    · rw [if_neg h, ← step, ih]
      simp [h]
theorem strict_ext : ∀ {xs ys : List Int}, xs.Pairwise (· < ·) → ys.Pairwise (· < ·) → (∀ x, x ∈ xs ↔ x ∈ ys) → xs = ys
  | [], [], _, _, _ => rfl
  | [], y :: ys, _, _, h => by have := (h y).mpr (List.mem_cons_self ..); cases this
  | x :: xs, [], _, _, h => by have := (h x).mp (List.mem_cons_self ..); cases this
  | x :: xs, y :: ys, hx, hy, h => by
    have h1 := List.pairwise_cons.mp hx
    have h2 := List.pairwise_cons.mp hy
    have e : x = y := by
      rcases List.mem_cons.mp ((h x).mp (List.mem_cons_self ..)) with q | q
      · exact q
      · rcases List.mem_cons.mp ((h y).mpr (List.mem_cons_self ..)) with z | z
        · exact z.symm
        · have a := h2.1 _ q
          have b := h1.1 _ z
          omega
    subst e
    congr 1
    apply strict_ext h1.2 h2.2
    intro z
    constructor
    · intro hz
      rcases List.mem_cons.mp ((h z).mp (List.mem_cons_of_mem _ hz)) with q | q
      · have := h1.1 _ hz; omega
      · exact q
    · intro hz
      rcases List.mem_cons.mp ((h z).mpr (List.mem_cons_of_mem _ hz)) with q | q
      · have := h2.1 _ hz; omega
      · exact q
def nts (n : Nat) : List Int := (List.range n).map fun (k : Nat) => (k : Int)
theorem nts_pw (n : Nat) : (nts n).Pairwise (· < ·) := by
  unfold nts
  rw [List.pairwise_map]
  exact List.pairwise_lt_range.imp fun h => by omega
theorem nts_mem {n : Nat} {x : Int} : x ∈ nts n ↔ 0 ≤ x ∧ x < n := by
  unfold nts
  simp only [List.mem_map, List.mem_range]
  constructor
  · rintro ⟨k, h, rfl⟩
    exact ⟨by omega, by omega⟩
  · rintro ⟨h1, h2⟩
    exact ⟨x.toNat, by omega, by omega⟩
def stepsN (ps : Sps) (size : Nat) : Sps := ((nts (size + 1)).filter fun k => decide (dif ps k ≠ 0)).map fun k => (k, cum ps k)
theorem steps_eq (qs : List (Bool × Int × Int)) (size : Nat) (h : ∀ p ∈ qs.map (·.2), SpOk size p) :
    stp (gt0 (qs.foldl (fun Δ q => chg1 Δ q.2) [])) 0 (sortI ((qs.foldl (fun Δ q => chg1 Δ q.2) []).map (·.1))) = stepsN (qs.map (·.2)) size := by
  have hg : ∀ i, gt0 (qs.foldl (fun Δ q => chg1 Δ q.2) []) i = dif (qs.map (·.2)) i := fun i => by
    rw [fold_gt0]
    show 0 + _ = _
    omega
  have hk : ∀ i, i ∈ (qs.foldl (fun Δ q => chg1 Δ q.2) []).map (·.1) ↔ ∃ p ∈ qs.map (·.2), i = p.1 ∨ i = p.2 := fun i => by
    rw [fold_keys]
    simp
  have hn : ((qs.foldl (fun Δ q => chg1 Δ q.2) []).map (·.1)).Nodup := fold_nodup qs [] List.nodup_nil
  generalize (qs.foldl (fun Δ q => chg1 Δ q.2) []) = Δ at hg hk hn ⊢
  generalize eps : qs.map (·.2) = ps at h hg hk ⊢
  have hp := sortI_perm (Δ.map (·.1))
  have hpw : (sortI (Δ.map (·.1))).Pairwise (· < ·) := by
    have h1 := sortI_pw (Δ.map (·.1))
    have h2 : (sortI (Δ.map (·.1))).Pairwise (· ≠ ·) := hp.nodup_iff.mpr hn
    exact h1.imp₂ (fun a b x y => by omega) h2
  have hm : ∀ k ∈ sortI (Δ.map (·.1)), 0 ≤ k ∧ k ≤ size := fun k q => by
    obtain ⟨p, z, e⟩ := (hk k).mp (hp.mem_iff.mp q)
    have := h p z
    unfold SpOk at this
    omega
  have z : cum ps (-1) = 0 := cum_lo fun p q => by
    have := h p q
    unfold SpOk at this
    omega
  have e := stp_eq ps (gt0 Δ) hg (sortI (Δ.map (·.1))) (-1) hpw (fun k q => by have := hm k q; omega) fun p q =>
    ⟨.inr (hp.mem_iff.mpr ((hk _).mpr ⟨p, q, .inl rfl⟩)), .inr (hp.mem_iff.mpr ((hk _).mpr ⟨p, q, .inr rfl⟩))⟩
  rw [z] at e
  rw [e]
  unfold stepsN
  congr 1
  apply strict_ext (hpw.filter _) ((nts_pw _).filter _)
  intro x
  rw [List.mem_filter, List.mem_filter]
  constructor
  · rintro ⟨a, b⟩
    have := hm x a
    exact ⟨nts_mem.mpr ⟨by omega, by omega⟩, b⟩
  · rintro ⟨a, b⟩
    refine ⟨?_, b⟩
    apply Classical.byContradiction
    intro c
    have : dif ps x = 0 := dif_out fun p q => by
      have c1 := fun (r : ∃ p ∈ ps, x = p.1 ∨ x = p.2) => c (hp.mem_iff.mpr ((hk x).mpr r))
      exact ⟨fun r => c1 ⟨p, q, .inl r.symm⟩, fun r => c1 ⟨p, q, .inr r.symm⟩⟩
    simp [this] at b
end Lw

/-! from k03d.lean -/
set_option Elab.async false
set_option linter.all false
set_option maxRecDepth 100000
set_option maxHeartbeats 4000000
namespace Lw
open PySem L2 DL
theorem load_steps_ev' (B : Bool) (qs : List (Bool × Int × Int)) (size : Nat) (ς : Store) (hf : sflat ς = true) (hn : qs.length ≤ 10000) (h : ∀ p ∈ qs.map (·.2), SpOk size p) :
    m_load_steps [shp B (qs.map spD)] ς = some (.ok (.tup ((stepsN (qs.map (·.2)) size).map tupI)) ς) := by
  have hk := fold_len qs []
  have e := load_steps_ev B qs ς hf (by omega) (by simp at hk; omega)
  rw [steps_eq qs size h] at e
  exact e
def optN : Option Int → D
  | none => .non
  | some n => .int n
@[simp] theorem isN_optN (b : Option Int) : (optN b).isN = b.isNone := by cases b <;> rfl
@[simp] theorem flat_optN (b : Option Int) : (optN b).flat = true := by cases b <;> simp [optN]
theorem gtup2_tupI (i j : Nat) (p : Int × Int) (s : S) : gtup 2 (gcons (gset i) (gcons (gset j) gnil)) (tupI p) s = some ⟨(s.e.set i (some (.int p.1))).set j (some (.int p.2)), s.s⟩ := by
  simp [tupI]
/-! peak -/
def pkF : Int × Option Int → Sps → Int × Option Int
  | s, [] => s
  | s, p :: r => pkF (if s.1 < p.2 then (p.2, some p.1) else s) r
theorem peak_loop (x : Option D) (ς : Store) : ∀ (st : Sps) (m : Int × Option Int) (o3 o4 : Option D), ∃ (o3' o4' : Option D), forD (gtup 2 (gcons (gset 3) (gcons (gset 4) gnil)))
    (ifS (tst (op2 fGt (name 4) (name 1))) (sq (asg (name 4) (gset 1)) (asg (name 3) (gset 2))) nxt) (st.map tupI) ⟨[x, some (.int m.1), some (optN m.2), o3, o4], ς⟩
    = some (.ok .nx ⟨[x, some (.int (pkF m st).1), some (optN (pkF m st).2), o3', o4'], ς⟩)
  | [], m, o3, o4 => ⟨o3, o4, rfl⟩
  | p :: st, m, o3, o4 => by
    obtain ⟨o3', o4', ih⟩ := peak_loop x ς st (if m.1 < p.2 then (p.2, some p.1) else m) (some (.int p.1)) (some (.int p.2))
    refine ⟨o3', o4', ?_⟩
    unfold pkF
    rw [List.map_cons, ← ih, forD_cons, gtup2_tupI]
    by_cases c : m.1 < p.2
    · simp [c, optN]
    · simp [c]
theorem peak_ev (B : Bool) (qs : List (Bool × Int × Int)) (size : Nat) (ς : Store) (hf : sflat ς = true) (hn : qs.length ≤ 10000) (h : ∀ p ∈ qs.map (·.2), SpOk size p) :
    m_peak [shp B (qs.map spD)] ς = some (.ok (.tup [.int (pkF (0, none) (stepsN (qs.map (·.2)) size)).1, optN (pkF (0, none) (stepsN (qs.map (·.2)) size)).2]) ς) := by
  have e := load_steps_ev' B qs size ς hf hn h
  obtain ⟨o3, o4, e2⟩ := peak_loop (some (shp B (qs.map spD))) ς (stepsN (qs.map (·.2)) size) (0, none) none none
  have e2' : forD _ _ _ ⟨[some (shp B (qs.map spD)), some (.int 0), some .non, none, none], ς⟩ = _ := e2
  simp only [m_peak, mdef_s, sq_s, asg_s, forS_s, retS_s, bnd_s, acons_s, seqI_s, startD]
  simp [e, e2', -List.map_map]
/-! first_over -/
theorem first_loop (x : Option D) (r : Int) (ς : Store) : ∀ (st : Sps) (o2 o3 : Option D), ∃ (s' : S) (fl : Fl), s'.s = ς ∧ (fl = (match st.find? fun p => decide (r < p.2) with
      | some p => .rt (.int p.1)
      | none => .nx)) ∧ forD (gtup 2 (gcons (gset 2) (gcons (gset 3) gnil))) (ifS (tst (op2 fGt (name 3) (name 1))) (retS (name 2)) nxt) (st.map tupI) ⟨[x, some (.int r), o2, o3], ς⟩ = some (.ok fl s')
  | [], o2, o3 => ⟨_, .nx, rfl, rfl, rfl⟩
  | p :: st, o2, o3 => by
    by_cases c : r < p.2
    · refine ⟨⟨[x, some (.int r), some (.int p.1), some (.int p.2)], ς⟩, .rt (.int p.1), rfl, by simp [c], ?_⟩
      rw [List.map_cons, forD_cons, gtup2_tupI]
      simp [c]
    · obtain ⟨s', fl, h1, h2, ih⟩ := first_loop x r ς st (some (.int p.1)) (some (.int p.2))
      refine ⟨s', fl, h1, by simp [c, h2], ?_⟩
      rw [List.map_cons, forD_cons, gtup2_tupI, ← ih]
      simp [c]
theorem first_ev (B : Bool) (qs : List (Bool × Int × Int)) (size : Nat) (r : Int) (ς : Store) (hf : sflat ς = true) (hn : qs.length ≤ 10000) (h : ∀ p ∈ qs.map (·.2), SpOk size p) :
    m_first_over [shp B (qs.map spD), .int r] ς = some (.ok (optN (((stepsN (qs.map (·.2)) size).find? fun p => decide (r < p.2)).map (·.1))) ς) := by
  have e := load_steps_ev' B qs size ς hf hn h
  obtain ⟨s', fl, h1, h2, e2⟩ := first_loop (some (shp B (qs.map spD))) r ς (stepsN (qs.map (·.2)) size) none none
  simp only [m_first_over, mdef_s, sq_s, asg_s, forS_s, retS_s, bnd_s, acons_s, seqI_s, startD]
  cases hq : (stepsN (qs.map (·.2)) size).find? fun p => decide (r < p.2) with
  | none =>
    rw [hq] at h2
    subst h2
    simp [e, e2, h1, optN, -List.map_map]
  | some p =>
    rw [hq] at h2
    subst h2
    simp [e, e2, h1, optN, -List.map_map]
/-! over_spans -/
def osF (r : Int) : Option Int → Sps → Sps
  | _, [] => []
  | none, p :: st => if r < p.2 then osF r (some p.1) st else osF r none st
  | some b, p :: st => if r < p.2 then osF r (some b) st else (b, p.1) :: osF r none st
theorem osF_len (r : Int) : ∀ (b : Option Int) (st : Sps), (osF r b st).length ≤ st.length
  | none, [] => Nat.le_refl _
  | some _, [] => Nat.le_refl _
  | none, p :: st => by
    have h1 := osF_len r (some p.1) st
    have h2 := osF_len r none st
    unfold osF
    rw [List.length_cons]
    split <;> omega
  | some b, p :: st => by
    have h1 := osF_len r (some b) st
    have h2 := osF_len r none st
    unfold osF
    rw [List.length_cons]
    split
    · omega
    · rw [List.length_cons]; omega
theorem over_loop (x : Option D) (r : Int) (ς : Store) : ∀ (st acc : Sps) (b : Option Int) (o4 o5 : Option D), acc.length + st.length ≤ 1000000 →
    ∃ (b' : Option Int) (o4' o5' : Option D), forD (gtup 2 (gcons (gset 4) (gcons (gset 5) gnil)))
    (ifS (andT (tst (op2 fGt (name 5) (name 1))) (tst (op2 (fIsN false) (name 3) (ret .non))))
    (asg (name 4) (gset 3))
    (ifS (andT (tst (op2 fLe (name 5) (name 1))) (tst (op2 (fIsN true) (name 3) (ret .non))))
    (sq (exprS (mthL fAppend (name 2) (acons (bnd (acons (name 3) (acons (name 4) anil)) tupD) anil)))
    (asg (ret .non) (gset 3)))
    nxt)) (st.map tupI) ⟨[x, some (.int r), some (.loc ς.length), some (optN b), o4, o5], ς ++ [some (.lst (acc.map tupI))]⟩
    = some (.ok .nx ⟨[x, some (.int r), some (.loc ς.length), some (optN b'), o4', o5'], ς ++ [some (.lst ((acc ++ osF r b st).map tupI))]⟩)
  | [], acc, b, o4, o5, hn => ⟨b, o4, o5, by cases b <;> (unfold osF; rw [List.append_nil]; rfl)⟩
  | p :: st, acc, none, o4, o5, hn => by
    rw [List.length_cons] at hn
    by_cases c : r < p.2
    · obtain ⟨b', o4', o5', ih⟩ := over_loop x r ς st acc (some p.1) (some (.int p.1)) (some (.int p.2)) (by omega)
      refine ⟨b', o4', o5', ?_⟩
      rw [List.map_cons, forD_cons, gtup2_tupI]
      unfold osF
      rw [if_pos c, ← ih]
      simp [c, optN]
    · obtain ⟨b', o4', o5', ih⟩ := over_loop x r ς st acc none (some (.int p.1)) (some (.int p.2)) (by omega)
      refine ⟨b', o4', o5', ?_⟩
      rw [List.map_cons, forD_cons, gtup2_tupI]
      unfold osF
      rw [if_neg c, ← ih]
      have c2 : p.2 ≤ r := by omega
      simp [c, c2]
  | p :: st, acc, some b, o4, o5, hn => by
    rw [List.length_cons] at hn
    by_cases c : r < p.2
    · obtain ⟨b', o4', o5', ih⟩ := over_loop x r ς st acc (some b) (some (.int p.1)) (some (.int p.2)) (by omega)
      refine ⟨b', o4', o5', ?_⟩
      rw [List.map_cons, forD_cons, gtup2_tupI]
      unfold osF
      rw [if_pos c, ← ih]
      have c2 : ¬ p.2 ≤ r := by omega
      simp [c, c2]
    · obtain ⟨b', o4', o5', ih⟩ := over_loop x r ς st (acc ++ [(b, p.1)]) none (some (.int p.1)) (some (.int p.2)) (by simp; omega)
      refine ⟨b', o4', o5', ?_⟩
      rw [List.map_cons, forD_cons, gtup2_tupI]
      unfold osF
      rw [List.append_assoc, List.singleton_append] at ih
      rw [if_neg c, ← ih]
      have c2 : p.2 ≤ r := by omega
      have hs : small (acc.map tupI).length = true := small_of (by rw [List.length_map]; omega)
      have a1 : ∀ (e : List (Option D)) (y : D), fAppend (.loc ς.length) [y] ⟨e, ς ++ [some (.lst (acc.map tupI))]⟩ = _ := fun e y => append_last hs
      simp [c, c2, mthL_s, chk_s, a1, tupI, optN]
theorem over_ev (B : Bool) (qs : List (Bool × Int × Int)) (size : Nat) (r : Int) (ς : Store) (hf : sflat ς = true) (hn : qs.length ≤ 10000) (hz : size ≤ 10000) (h : ∀ p ∈ qs.map (·.2), SpOk size p) :
    m_over_spans [shp B (qs.map spD), .int r] ς = some (.ok (.tup ((osF r none (stepsN (qs.map (·.2)) size)).map tupI)) ς) := by
  have e : ∀ o : Option O, sflat (ς ++ [o]) = true → m_load_steps [shp B (qs.map spD)] (ς ++ [o]) = _ := fun o ho => load_steps_ev' B qs size (ς ++ [o]) ho hn h
  have hl : (stepsN (qs.map (·.2)) size).length ≤ 1000000 := by
    unfold stepsN nts
    rw [List.length_map]
    have := List.length_filter_le (fun k => decide (dif (qs.map (·.2)) k ≠ 0)) ((List.range (size + 1)).map fun (k : Nat) => (k : Int))
    simp only [List.length_map, List.length_range] at this
    omega
  have sf : sflat (ς ++ [some (.lst [])]) = true := by
    clear e
    induction ς with
    | nil => simp
    | cons o r ih =>
      cases o with
      | none => exact ih hf
      | some o =>
        have h' : (o.flat && sflat r) = true := hf
        rw [Bool.and_eq_true] at h'
        show (o.flat && sflat (r ++ [some (.lst [])])) = true
        rw [h'.1, ih h'.2]
        rfl
  obtain ⟨b', o4', o5', e2⟩ := over_loop (some (shp B (qs.map spD))) r ς (stepsN (qs.map (·.2)) size) [] none none none (by simp; omega)
  have e2' : forD _ _ _ ⟨[some (shp B (qs.map spD)), some (.int r), some (.loc ς.length), some .non, none, none], ς ++ [some (.lst [])]⟩ = _ := e2
  have e3 : ∀ (e : List (Option D)) (acc : List D), fTuple [.loc ς.length] ⟨e, ς ++ [some (.lst acc)]⟩ = some (.ok (.tup acc) ⟨e, ς ++ [some (.lst acc)]⟩) := fun e acc => fTuple_of _ (k := true) (by
    show seqD (ς ++ [some (.lst acc)]) (.loc ς.length) = _
    rw [seqD_loc, last_get])
  have fa : ∀ l : Sps, l.all (D.flat ∘ tupI) = true := fun l => by
    rw [List.all_eq_true]
    intro p _
    simp [tupI]
  have c1 : ∀ a : Option O, cutS ς (ς ++ [a]) true = ς := fun a => cut_app rfl hf
  simp only [m_over_spans, mdef_s, sq_s, asg_s, forS_s, retS_s, bnd_s, acons_s, seqI_s, startD]
  simp [e _ sf, e2', e3, fa, c1]
end Lw

/-! from k03e.lean -/
set_option Elab.async false
set_option linter.all false
set_option maxRecDepth 100000
set_option maxHeartbeats 4000000
namespace Lw
open PySem L2 DL
/-! load_row -/
def lI (xs : List Int) : List D := xs.map .int
theorem lI_len (xs : List Int) : (lI xs).length = xs.length := List.length_map ..
theorem nts_len (n : Nat) : (nts n).length = n := by simp [nts]
theorem nts_get {n : Nat} (f : Int → Int) {j : Nat} (h : j < n) : ((nts n).map f)[j]? = some (f j) := by
  unfold nts
  simp [h]
theorem nts_set {n : Nat} (f : Int → Int) {j : Nat} (v : Int) : ((nts n).map f).set j v = (nts n).map fun (k : Int) => if k = j then v else f k := by
  apply List.ext_getElem?
  intro i
  by_cases hi : i < n
  · rw [nts_get _ hi]
    by_cases e : j = i
    · subst e
      rw [List.getElem?_set_self (by simp [nts_len, hi])]
      simp
    · rw [List.getElem?_set_ne e, nts_get _ hi]
      have e2 : ¬ ((i : Int) = j) := by omega
      rw [if_neg e2]
  · rw [List.getElem?_eq_none (by simp [nts_len]; omega), List.getElem?_eq_none (by simp [nts_len]; omega)]
theorem lI_set (xs : List Int) (j : Nat) (v : Int) : (lI xs).set j (.int v) = lI (xs.set j v) := by
  unfold lI
  rw [List.map_set]
theorem augL_ev {g : Int → Int → Int} {ς : Store} {e : List (Option D)} {mo mi me : M D} {i j n : Nat} {f : Int → Int} {v : Int} (h : ς[i]? = some (some (.lst (lI ((nts n).map f))))) (hj : j < n)
    (h1 : mo ⟨e, ς⟩ = some (.ok (.loc i) ⟨e, ς⟩)) (h2 : mi ⟨e, ς⟩ = some (.ok (.int j) ⟨e, ς⟩)) (h3 : me ⟨e, ς⟩ = some (.ok (.int v) ⟨e, ς⟩)) :
    augL g mo mi me ⟨e, ς⟩ = some (.ok .nx ⟨e, ς.set i (some (.lst (lI ((nts n).map fun (k : Int) => if k = j then g (f j) v else f k))))⟩) := by
  have hl : (lI ((nts n).map f)).length = n := by rw [lI_len, List.length_map, nts_len]
  have ha : atI (lI ((nts n).map f)) (j : Int) = some (.int (f j)) := by
    rw [DL.atI_n]
    unfold lI
    rw [List.getElem?_map, nts_get f hj]
    rfl
  have hx : ixN (lI ((nts n).map f)).length (j : Int) = some j := by rw [hl]; exact ixN_nat hj
  unfold augL
  rw [bnd_s, h1]
  dsimp only
  rw [bnd_s, h2]
  dsimp only
  rw [ownL_loc, h]
  dsimp only
  rw [ha]
  dsimp only
  rw [bnd_s, h3]
  dsimp only
  unfold augL2
  rw [ownL_loc, h]
  dsimp only
  rw [hx]
  dsimp only
  rw [lI_set, nts_set]
  rfl
def clip (f l : Int) (p : Int × Int) : Int × Int := (max p.1 f - f, min p.2 l - f)
def cps (f l : Int) (ps : Sps) : Sps := (ps.map (clip f l)).filter fun p => decide (p.1 < p.2)
theorem row_loop1 (x o4 o5 o6 : Option D) (ς : Store) (fi le : Int) (hfl : fi ≤ le) : ∀ (qs : List (Bool × Int × Int)) (g : Int → Int) (o7 o8 : Option D), ∃ (o7' o8' : Option D),
    forD (gtup 2 (gcons (gset 7) (gcons (gset 8) gnil)))
    (sq (asg (bnd (acons (name 7) (acons (name 1) anil)) fMax2) (gset 7))
    (sq (asg (bnd (acons (name 8) (acons (name 2) anil)) fMin2) (gset 8))
    (ifS (tst (op2 fLt (name 7) (name 8)))
    (sq (augL (fun i j => i + j) (name 3) (op2 fSub (name 7) (name 1)) (ret (.int 1)))
    (augL (fun i j => i - j) (name 3) (op2 fSub (name 8) (name 1)) (ret (.int 1))))
    nxt))) (qs.map spD) ⟨[x, some (.int fi), some (.int le), some (.loc ς.length), o4, o5, o6, o7, o8], ς ++ [some (.lst (lI ((nts ((le - fi).toNat + 1)).map g)))]⟩
    = some (.ok .nx ⟨[x, some (.int fi), some (.int le), some (.loc ς.length), o4, o5, o6, o7', o8'], ς ++ [some (.lst (lI ((nts ((le - fi).toNat + 1)).map fun k => g k + dif (cps fi le (qs.map (·.2))) k)))]⟩)
  | [], g, o7, o8 => ⟨o7, o8, by
      have e : (fun (k : Int) => g k + dif (cps fi le (([] : List (Bool × Int × Int)).map (·.2))) k) = g := by
        funext k
        show g k + 0 = g k
        omega
      rw [e]
      rfl⟩
  | q :: qs, g, o7, o8 => by
    have e1 : gtup 2 (gcons (gset 7) (gcons (gset 8) gnil)) (spD q) ⟨[x, some (.int fi), some (.int le), some (.loc ς.length), o4, o5, o6, o7, o8], ς ++ [some (.lst (lI ((nts ((le - fi).toNat + 1)).map g)))]⟩ = some ⟨[x, some (.int fi), some (.int le), some (.loc ς.length), o4, o5, o6, some (.int q.2.1), some (.int q.2.2)], ς ++ [some (.lst (lI ((nts ((le - fi).toNat + 1)).map g)))]⟩ := by
      simp [spD]
    by_cases c : max q.2.1 fi < min q.2.2 le
    · obtain ⟨j1, hj1⟩ := Int.eq_ofNat_of_zero_le (show 0 ≤ max q.2.1 fi - fi by omega)
      obtain ⟨j2, hj2⟩ := Int.eq_ofNat_of_zero_le (show 0 ≤ min q.2.2 le - fi by omega)
      obtain ⟨o7', o8', ih⟩ := row_loop1 x o4 o5 o6 ς fi le hfl qs (fun (k : Int) => if k = j2 then (if (j2 : Int) = j1 then g j1 + 1 else g j2) - 1 else if k = j1 then g j1 + 1 else g k) (some (.int (max q.2.1 fi))) (some (.int (min q.2.2 le)))
      refine ⟨o7', o8', ?_⟩
      have a1 := fun (e : List (Option D)) (h1) (h2) => augL_ev (g := fun i j => i + j) (e := e) (mo := name 3) (mi := op2 fSub (name 7) (name 1)) (me := ret (.int 1)) (v := 1) (last_get (ς := ς) (o := some (.lst (lI ((nts ((le - fi).toNat + 1)).map g))))) (show j1 < (le - fi).toNat + 1 by omega) h1 h2 rfl
      have a2 := fun (e : List (Option D)) (h1) (h2) => augL_ev (g := fun i j => i - j) (e := e) (mo := name 3) (mi := op2 fSub (name 8) (name 1)) (me := ret (.int 1)) (v := 1) (last_get (ς := ς) (o := some (.lst (lI ((nts ((le - fi).toNat + 1)).map fun (k : Int) => if k = j1 then g j1 + 1 else g k))))) (show j2 < (le - fi).toNat + 1 by omega) h1 h2 rfl
      simp only [last_set] at a1 a2
      have b1 := a1 [x, some (.int fi), some (.int le), some (.loc ς.length), o4, o5, o6, some (.int (max q.2.1 fi)), some (.int (min q.2.2 le))] (by simp) (by simp [hj1])
      have b2 := a2 [x, some (.int fi), some (.int le), some (.loc ς.length), o4, o5, o6, some (.int (max q.2.1 fi)), some (.int (min q.2.2 le))] (by simp) (by simp [hj2])
      have ef : (fun (k : Int) => g k + dif (cps fi le ((q :: qs).map (·.2))) k) = fun (k : Int) => (if k = j2 then (if (j2 : Int) = j1 then g j1 + 1 else g j2) - 1 else if k = j1 then g j1 + 1 else g k) + dif (cps fi le (qs.map (·.2))) k := by
        funext k
        have ec : cps fi le ((q :: qs).map (·.2)) = clip fi le q.2 :: cps fi le (qs.map (·.2)) := by
          unfold cps
          rw [List.map_cons, List.map_cons, List.filter_cons, if_pos (by simp [clip]; omega)]
        rw [ec]
        unfold dif
        rw [List.map_cons, List.sum_cons]
        unfold dif1 clip
        dsimp only
        rw [hj1, hj2]
        have hne : ¬ (j2 : Int) = j1 := by omega
        rw [if_neg hne]
        by_cases c2 : k = j2
        · subst c2
          rw [if_pos rfl, if_neg (by omega), if_pos rfl]
          omega
        · rw [if_neg c2]
          by_cases c1 : k = j1
          · subst c1
            rw [if_pos rfl, if_pos rfl, if_neg (by omega)]
            omega
          · rw [if_neg c1, if_neg (by omega), if_neg (by omega)]
            omega
      rw [ef, ← ih, List.map_cons, forD_cons, e1]
      simp [c, b1, b2]
    · obtain ⟨o7', o8', ih⟩ := row_loop1 x o4 o5 o6 ς fi le hfl qs g (some (.int (max q.2.1 fi))) (some (.int (min q.2.2 le)))
      refine ⟨o7', o8', ?_⟩
      have ec : cps fi le ((q :: qs).map (·.2)) = cps fi le (qs.map (·.2)) := by
        unfold cps
        rw [List.map_cons, List.map_cons, List.filter_cons, if_neg (by simp [clip]; omega)]
      rw [ec, ← ih, List.map_cons, forD_cons, e1]
      simp [c]

def psm (f : Int → Int) : Int → Nat → Nat → List Int
  | _, _, 0 => []
  | p, i, m + 1 => (p + f i) :: psm f (p + f i) (i + 1) m
theorem two_get0' {ς : Store} {o o' : Option O} : (ς ++ [o, o'])[ς.length]? = some o := by simp
theorem two_get1' {ς : Store} {o o' : Option O} : (ς ++ [o, o'])[ς.length + 1]? = some o' := by
  rw [List.getElem?_append_right (by omega)]
  simp
theorem two_set1' {ς : Store} {o o' o'' : Option O} : (ς ++ [o, o']).set (ς.length + 1) o'' = ς ++ [o, o''] := by
  rw [List.set_append, if_neg (by omega)]
  simp
theorem row_loop2 (x1 x2 x3 o7 o8 : Option D) (ς : Store) (f : Int → Int) (n : Nat) : ∀ (m i : Nat) (acc : List Int) (p : Int) (o6 : Option D), i + m ≤ n → acc.length + m ≤ 1000000 → ∃ (p' : Int) (o6' : Option D),
    forD (gset 6) (sq (asg (op2 (fAdd false) (name 5) (op2 fIx (name 3) (name 6))) (gset 5)) (exprS (mthL fAppend (name 4) (acons (name 5) anil))))
      ((List.range' i m).map fun (k : Nat) => D.int (k : Int)) ⟨[x1, x2, x3, some (.loc ς.length), some (.loc (ς.length + 1)), some (.int p), o6, o7, o8], ς ++ [some (.lst (lI ((nts n).map f))), some (.lst (lI acc))]⟩
    = some (.ok .nx ⟨[x1, x2, x3, some (.loc ς.length), some (.loc (ς.length + 1)), some (.int p'), o6', o7, o8], ς ++ [some (.lst (lI ((nts n).map f))), some (.lst (lI (acc ++ psm f p i m)))]⟩)
  | 0, i, acc, p, o6, _, _ => ⟨p, o6, by unfold psm; rw [List.append_nil]; rfl⟩
  | m + 1, i, acc, p, o6, hi, ha => by
    obtain ⟨p', o6', ih⟩ := row_loop2 x1 x2 x3 o7 o8 ς f n m (i + 1) (acc ++ [p + f i]) (p + f i) (some (.int i)) (by omega) (by simp; omega)
    refine ⟨p', o6', ?_⟩
    have ea : atI (lI ((nts n).map f)) (i : Int) = some (.int (f i)) := by
      rw [DL.atI_n]
      unfold lI
      rw [List.getElem?_map, nts_get f (by omega)]
      rfl
    have g1 : ∀ (e : List (Option D)), fIx (.loc ς.length) (.int i) ⟨e, ς ++ [some (.lst (lI ((nts n).map f))), some (.lst (lI acc))]⟩ = some (.ok (.int (f i)) ⟨e, ς ++ [some (.lst (lI ((nts n).map f))), some (.lst (lI acc))]⟩) := fun e => by
      rw [fIx_loc two_get0', ea]
      rfl
    have l1 : ∀ acc : List D, isL (ς ++ [some (.lst (lI ((nts n).map f))), some (.lst acc)]) (.loc (ς.length + 1)) = true := fun acc => isL_loc two_get1'
    have hs : small (lI acc).length = true := small_of (by rw [lI_len]; omega)
    have ap : lI acc ++ [.int (p + f i)] = lI (acc ++ [p + f i]) := by
      unfold lI
      rw [List.map_append]
      rfl
    have a1 : ∀ (e : List (Option D)), fAppend (.loc (ς.length + 1)) [.int (p + f i)] ⟨e, ς ++ [some (.lst (lI ((nts n).map f))), some (.lst (lI acc))]⟩ = some (.ok .non ⟨e, ς ++ [some (.lst (lI ((nts n).map f))), some (.lst (lI (acc ++ [p + f i])))]⟩) := fun e => by
      rw [append_of two_get1' hs, two_set1', ap]
    rw [List.append_assoc, List.singleton_append] at ih
    rw [List.range'_succ, List.map_cons]
    unfold psm
    rw [← ih, forD_cons]
    simp [g1, mthL_s, chk_s, l1, a1]
theorem psm_cum (cs : Sps) : ∀ (m i : Nat), psm (dif cs) (cum cs ((i : Int) - 1)) i m = (List.range' i m).map fun (k : Nat) => cum cs k
  | 0, i => rfl
  | m + 1, i => by
    have step : cum cs (i : Int) = cum cs ((i : Int) - 1) + dif cs i := cum_step (by omega) fun p _ => ⟨by omega, by omega⟩
    have ih := psm_cum cs m (i + 1)
    have e : (((i + 1 : Nat) : Int) - 1) = i := by omega
    rw [e] at ih
    unfold psm
    rw [← step, ih, List.range'_succ]
    rfl
theorem clip_cum (fi le : Int) (k : Int) (h0 : 0 ≤ k) (h1 : fi + k < le) : ∀ (ps : Sps), (∀ p ∈ ps, p.1 < p.2) → cum (cps fi le ps) k = cum ps (fi + k)
  | [], _ => rfl
  | p :: ps, h => by
    have ih := clip_cum fi le k h0 h1 ps fun p hp => h p (List.mem_cons_of_mem _ hp)
    have hp := h p (List.mem_cons_self ..)
    have e2 : cum (p :: ps) (fi + k) = ((if p.1 ≤ fi + k then 1 else 0) - (if p.2 ≤ fi + k then 1 else 0)) + cum ps (fi + k) := by
      unfold cum
      rw [List.map_cons, List.sum_cons]
    by_cases c : (clip fi le p).1 < (clip fi le p).2
    · have ec : cps fi le (p :: ps) = clip fi le p :: cps fi le ps := by
        unfold cps
        rw [List.map_cons, List.filter_cons, if_pos (by simpa using c)]
      have e1 : cum (clip fi le p :: cps fi le ps) k = ((if (clip fi le p).1 ≤ k then 1 else 0) - (if (clip fi le p).2 ≤ k then 1 else 0)) + cum (cps fi le ps) k := by
        unfold cum
        rw [List.map_cons, List.sum_cons]
      rw [ec, e1, e2, ih]
      unfold clip
      dsimp only
      by_cases a : p.1 ≤ fi + k
      · by_cases b : p.2 ≤ fi + k
        · rw [if_pos a, if_pos b, if_pos (by omega), if_pos (by omega)]
        · rw [if_pos a, if_neg b, if_pos (by omega), if_neg (by omega)]
      · by_cases b : p.2 ≤ fi + k
        · omega
        · rw [if_neg a, if_neg b, if_neg (by omega), if_neg (by omega)]
    · have ec : cps fi le (p :: ps) = cps fi le ps := by
        unfold cps
        rw [List.map_cons, List.filter_cons, if_neg (by simpa using c)]
      rw [ec, e2, ih]
      unfold clip at c
      dsimp only at c
      by_cases a : p.1 ≤ fi + k
      · by_cases b : p.2 ≤ fi + k
        · rw [if_pos a, if_pos b]; omega
        · omega
      · by_cases b : p.2 ≤ fi + k
        · omega
        · rw [if_neg a, if_neg b]; omega
theorem cps_ge (fi le : Int) (hfl : fi ≤ le) (ps : Sps) (h : ∀ p ∈ ps, p.1 < p.2) : ∀ p ∈ cps fi le ps, (-1 : Int) < p.1 ∧ (-1 : Int) < p.2 := by
  intro p hp
  unfold cps at hp
  obtain ⟨h1, h2⟩ := List.mem_filter.mp hp
  obtain ⟨q, _, rfl⟩ := List.mem_map.mp h1
  have := of_decide_eq_true h2
  unfold clip at this ⊢
  dsimp only at this ⊢
  omega
theorem flatten_zeros (n : Nat) : (List.replicate n [D.int 0]).flatten = lI ((nts n).map fun _ => (0 : Int)) := by
  have e : ∀ n : Nat, (List.replicate n [D.int 0]).flatten = List.replicate n (.int 0) := by
    intro n
    induction n with
    | zero => rfl
    | succ n ih => rw [List.replicate_succ, List.flatten_cons, ih, List.replicate_succ]; rfl
  rw [e]
  unfold lI
  rw [List.map_map]
  apply List.ext_getElem?
  intro i
  by_cases hi : i < n
  · rw [List.getElem?_replicate, if_pos hi]
    unfold nts
    simp [hi]
  · rw [List.getElem?_replicate, if_neg hi, List.getElem?_eq_none (by simp [nts_len]; omega)]
theorem row_ev (B : Bool) (qs : List (Bool × Int × Int)) (fi le : Int) (ς : Store) (hf : sflat ς = true) (h : ∀ p ∈ qs.map (·.2), p.1 < p.2) (hfl : fi ≤ le) (h0 : 0 ≤ fi) (hle : le ≤ 10000) :
    m_load_row [shp B (qs.map spD), .int fi, .int le] ς = some (.ok (.tup ((List.range (le - fi).toNat).map fun (k : Nat) => D.int (cum (qs.map (·.2)) (fi + k)))) ς) := by
  obtain ⟨o7, o8, h1⟩ := row_loop1 (some (shp B (qs.map spD))) none none none ς fi le hfl qs (fun _ => 0) none none
  have ef : (fun (k : Int) => (0 : Int) + dif (cps fi le (qs.map (·.2))) k) = dif (cps fi le (qs.map (·.2))) := by
    funext k
    omega
  rw [ef] at h1
  obtain ⟨p', o6, h2⟩ := row_loop2 (some (shp B (qs.map spD))) (some (.int fi)) (some (.int le)) o7 o8 ς (dif (cps fi le (qs.map (·.2)))) ((le - fi).toNat + 1) (le - fi).toNat 0 [] 0 none (by omega) (by simp; omega)
  have z : cum (cps fi le (qs.map (·.2))) (((0 : Nat) : Int) - 1) = 0 := cum_lo (cps_ge fi le hfl _ h)
  have e1 := psm_cum (cps fi le (qs.map (·.2))) (le - fi).toNat 0
  rw [z] at e1
  rw [e1, List.nil_append, ← List.range_eq_range'] at h2
  have em : lI ((List.range (le - fi).toNat).map fun (k : Nat) => cum (cps fi le (qs.map (·.2))) (k : Int)) = (List.range (le - fi).toNat).map fun (k : Nat) => D.int (cum (qs.map (·.2)) (fi + k)) := by
    unfold lI
    rw [List.map_map]
    apply List.map_congr_left
    intro k hk
    have := List.mem_range.mp hk
    show D.int (cum (cps fi le (qs.map (·.2))) (k : Int)) = _
    rw [clip_cum fi le k (by omega) (by omega) _ h]
  rw [em, ← rngL_0] at h2
  have e4 : ∀ (e : List (Option D)) (acc : List D) (L : Option O), fTuple [.loc (ς.length + 1)] ⟨e, ς ++ [L, some (.lst acc)]⟩ = some (.ok (.tup acc) ⟨e, ς ++ [L, some (.lst acc)]⟩) := fun e acc L => fTuple_of _ (k := true) (by
    show seqD (ς ++ [L, some (.lst acc)]) (.loc (ς.length + 1)) = _
    rw [seqD_loc, two_get1'])
  have em0 : ∀ (e : List (Option D)), fMul true (.lst [.int 0]) (.int (le - fi + 1)) ⟨e, ς⟩ = some (.ok (.loc ς.length) ⟨e, ς ++ [some (.lst (lI ((nts ((le - fi).toNat + 1)).map fun _ => (0 : Int))))]⟩) := fun e => by
    have t : (le - fi + 1).toNat = (le - fi).toNat + 1 := by omega
    show guard' (rngB (le - fi + 1) && small ([D.int 0].length * (le - fi + 1).toNat)) (mk true (List.replicate (le - fi + 1).toNat [D.int 0]).flatten) _ = _
    rw [rngB_of (by omega) (by omega), small_of (by simp; omega), flatten_zeros, t]
    rfl
  have e5 : ∀ s : S, rng1F [.int (le - fi)] s = some (.ok (rngL 0 (le - fi).toNat) s) := fun s => rng1F_i (by omega) (by omega)
  have c1 : ∀ (a b : Option O), cutS ς (ς ++ [a, b]) true = ς := fun a b => cut_app rfl hf
  have fa : ∀ l : List Nat, l.all (D.flat ∘ fun (k : Nat) => D.int (cum (qs.map (·.2)) (fi + k))) = true := fun l => by
    rw [List.all_eq_true]
    intro p _
    simp
  have l0 : lI [] = [] := rfl
  rw [l0] at h2
  simp only [m_load_row, mdef_s, sq_s, asg_s, forS_s, retS_s, bnd_s, acons_s, seqI_s, startD]
  simp [h1, h2, em0, e4, e5, fa, c1, -List.map_map]
end Lw

/-! from k03f.lean -/
set_option Elab.async false
set_option linter.all false
set_option maxRecDepth 100000
set_option maxHeartbeats 4000000
namespace Lw
open PySem L2 DL
/-! walks over all the nights -/
def sg (lo len : Nat) : List Int := (List.range' lo len).map fun (k : Nat) => (k : Int)
theorem sg_succ (lo len : Nat) : sg lo (len + 1) = (lo : Int) :: sg (lo + 1) len := by
  unfold sg
  rw [List.range'_succ, List.map_cons]
theorem nts_sg (n : Nat) : nts n = sg 0 n := by
  unfold nts sg
  rw [List.range_eq_range']
def flt (ps : Sps) (lo len : Nat) : Sps := ((sg lo len).filter fun k => decide (dif ps k ≠ 0)).map fun k => (k, cum ps k)
def ful (ps : Sps) (lo len : Nat) : Sps := (sg lo len).map fun k => (k, cum ps k)
theorem ful_succ (ps : Sps) (lo len : Nat) : ful ps lo (len + 1) = ((lo : Int), cum ps lo) :: ful ps (lo + 1) len := by
  unfold ful
  rw [sg_succ, List.map_cons]
theorem flt_succ (ps : Sps) (lo len : Nat) : flt ps lo (len + 1) = if dif ps lo = 0 then flt ps (lo + 1) len else ((lo : Int), cum ps lo) :: flt ps (lo + 1) len := by
  unfold flt
  rw [sg_succ, List.filter_cons]
  by_cases h : dif ps lo = 0 <;> simp [h]
theorem stepsN_flt (ps : Sps) (size : Nat) : stepsN ps size = flt ps 0 (size + 1) := by
  unfold stepsN flt
  rw [nts_sg]
theorem cum_succ (ps : Sps) (k : Int) : cum ps k = cum ps (k - 1) + dif ps k := cum_step (by omega) fun p _ => ⟨by omega, by omega⟩
theorem cast_pred (lo : Nat) : ((lo + 1 : Nat) : Int) - 1 = lo := by omega
theorem pk_full (ps : Sps) : ∀ (len lo : Nat) (m : Int × Option Int), cum ps ((lo : Int) - 1) ≤ m.1 → pkF m (flt ps lo len) = pkF m (ful ps lo len)
  | 0, lo, m, h => rfl
  | len + 1, lo, m, h => by
    have s := cum_succ ps lo
    rw [flt_succ, ful_succ]
    by_cases z : dif ps lo = 0
    · rw [if_pos z]
      have e : ¬ m.1 < cum ps lo := by omega
      show _ = pkF (if m.1 < cum ps lo then _ else _) _
      rw [if_neg e]
      exact pk_full ps len (lo + 1) m (by rw [cast_pred]; omega)
    · rw [if_neg z]
      show pkF (if m.1 < cum ps lo then _ else _) _ = pkF (if m.1 < cum ps lo then _ else _) _
      by_cases e : m.1 < cum ps lo
      · rw [if_pos e]
        exact pk_full ps len (lo + 1) _ (by rw [cast_pred]; exact Int.le_refl _)
      · rw [if_neg e]
        exact pk_full ps len (lo + 1) _ (by rw [cast_pred]; omega)
theorem maxL_ge : ∀ (ns : List Int) (x : Int), x ≤ maxL x ns
  | [], x => Int.le_refl _
  | n :: ns, x => by
    have := maxL_ge ns (max x n)
    show x ≤ maxL (max x n) ns
    omega
theorem maxL_mem : ∀ (ns : List Int) (x : Int), maxL x ns ∈ x :: ns
  | [], x => List.mem_cons_self ..
  | n :: ns, x => by
    have := maxL_mem ns (max x n)
    show maxL (max x n) ns ∈ _
    rcases List.mem_cons.mp this with h | h
    · rw [h]
      by_cases c : x ≤ n
      · rw [Int.max_eq_right c]; simp
      · rw [Int.max_eq_left (by omega)]; simp
    · exact List.mem_cons_of_mem _ (List.mem_cons_of_mem _ h)
theorem pkF_max : ∀ (L : Sps) (m : Int × Option Int), pkF m L = if m.1 < maxL m.1 (L.map (·.2)) then (maxL m.1 (L.map (·.2)), (L.find? fun p => decide (p.2 = maxL m.1 (L.map (·.2)))).map (·.1)) else m
  | [], m => by
    show m = if m.1 < m.1 then _ else m
    rw [if_neg (by omega)]
  | p :: r, m => by
    unfold pkF
    have eM : maxL m.1 ((p :: r).map (·.2)) = maxL (max m.1 p.2) (r.map (·.2)) := rfl
    rw [eM]
    by_cases c : m.1 < p.2
    · rw [if_pos c, pkF_max r (p.2, some p.1)]
      have e : max m.1 p.2 = p.2 := by omega
      rw [e]
      have g := maxL_ge (r.map (·.2)) p.2
      dsimp only
      by_cases d : p.2 < maxL p.2 (r.map (·.2))
      · rw [if_pos d, if_pos (by omega), List.find?_cons]
        have : ¬ p.2 = maxL p.2 (r.map (·.2)) := by omega
        simp [this]
      · rw [if_neg d, if_pos (by omega), List.find?_cons]
        have : p.2 = maxL p.2 (r.map (·.2)) := by omega
        simp [← this]
    · rw [if_neg c, pkF_max r m]
      have e : max m.1 p.2 = m.1 := by omega
      rw [e]
      by_cases d : m.1 < maxL m.1 (r.map (·.2))
      · rw [if_pos d, if_pos d, List.find?_cons]
        have : ¬ p.2 = maxL m.1 (r.map (·.2)) := by omega
        simp [this]
      · rw [if_neg d, if_neg d]
theorem idx_full (ps : Sps) (M : Int) : ∀ (len lo : Nat), M ∈ (sg lo len).map (cum ps) → ∃ j : Nat, idxD (.int M) (lI ((sg lo len).map (cum ps))) = some j ∧ ((ful ps lo len).find? fun p => decide (p.2 = M)).map (·.1) = some (((lo + j : Nat)) : Int)
  | 0, lo, h => by cases h
  | len + 1, lo, h => by
    rw [sg_succ, List.map_cons] at h
    rw [sg_succ, ful_succ, List.map_cons]
    by_cases c : cum ps lo = M
    · refine ⟨0, ?_, ?_⟩
      · unfold lI idxD
        simp [eqD, c]
      · simp [c]
    · have h' : M ∈ (sg (lo + 1) len).map (cum ps) := by
        rcases List.mem_cons.mp h with z | z
        · exact absurd z.symm c
        · exact z
      obtain ⟨j, h1, h2⟩ := idx_full ps M len (lo + 1) h'
      refine ⟨j + 1, ?_, ?_⟩
      · unfold lI at h1 ⊢
        rw [List.map_cons]
        unfold idxD
        simp [eqD, c, h1, -List.map_map]
      · rw [List.find?_cons]
        simp only [decide_eq_false c, h2]
        congr 1
        omega
theorem find_full (ps : Sps) (r : Int) : ∀ (len lo : Nat), cum ps ((lo : Int) - 1) ≤ r → (flt ps lo len).find? (fun p => decide (r < p.2)) = (ful ps lo len).find? (fun p => decide (r < p.2))
  | 0, lo, h => rfl
  | len + 1, lo, h => by
    have s := cum_succ ps lo
    rw [flt_succ, ful_succ, List.find?_cons]
    by_cases z : dif ps lo = 0
    · rw [if_pos z]
      have e : ¬ r < cum ps lo := by omega
      simp only [decide_eq_false e]
      exact find_full ps r len (lo + 1) (by rw [cast_pred]; omega)
    · rw [if_neg z, List.find?_cons]
      by_cases e : r < cum ps lo
      · simp [e]
      · simp only [decide_eq_false e]
        exact find_full ps r len (lo + 1) (by rw [cast_pred]; omega)
theorem find_head (ps : Sps) (r : Int) (lo len : Nat) : ((ful ps lo len).find? fun p => decide (r < p.2)).map (·.1) = ((sg lo len).filter fun k => decide (r < cum ps k)).head? := by
  unfold ful
  rw [List.find?_map, List.head?_filter]
  show (Option.map _ ((sg lo len).find? fun k => decide (r < cum ps k))).map _ = _
  cases (sg lo len).find? fun k => decide (r < cum ps k) <;> rfl
theorem osF_full (ps : Sps) (r : Int) : ∀ (len lo : Nat) (b : Option Int), (b.isSome = true ↔ r < cum ps ((lo : Int) - 1)) → osF r b (flt ps lo len) = osF r b (ful ps lo len)
  | 0, lo, b, h => rfl
  | len + 1, lo, b, h => by
    have s := cum_succ ps lo
    rw [flt_succ, ful_succ]
    by_cases z : dif ps lo = 0
    · rw [if_pos z]
      have e : cum ps lo = cum ps ((lo : Int) - 1) := by omega
      have ih := osF_full ps r len (lo + 1) b (by rw [cast_pred, e]; exact h)
      rw [ih]
      cases b with
      | none =>
        have n : ¬ r < cum ps lo := by rw [e]; intro q; have := h.mpr q; cases this
        show _ = osF r none (((lo : Int), cum ps lo) :: _)
        rw [osF, if_neg n]
      | some x =>
        have n : r < cum ps lo := by rw [e]; exact h.mp rfl
        show _ = osF r (some x) (((lo : Int), cum ps lo) :: _)
        rw [osF, if_pos n]
    · rw [if_neg z]
      cases b with
      | none =>
        rw [osF, osF]
        by_cases n : r < cum ps lo
        · rw [if_pos n, if_pos n]
          exact osF_full ps r len (lo + 1) _ (by rw [cast_pred]; simp [n])
        · rw [if_neg n, if_neg n]
          exact osF_full ps r len (lo + 1) _ (by rw [cast_pred]; simp; omega)
      | some x =>
        rw [osF, osF]
        by_cases n : r < cum ps lo
        · rw [if_pos n, if_pos n]
          exact osF_full ps r len (lo + 1) _ (by rw [cast_pred]; simp [n])
        · rw [if_neg n, if_neg n]
          congr 1
          exact osF_full ps r len (lo + 1) _ (by rw [cast_pred]; simp; omega)
/-- the first and the last nights of the spans above r -/
def fsts (ps : Sps) (r : Int) (lo len : Nat) : List Int := (sg lo len).filter fun k => decide (r < cum ps k) && !decide (r < cum ps (k - 1))
def lsts (ps : Sps) (r : Int) (lo len : Nat) : List Int := (sg lo len).filter fun k => decide (r < cum ps k) && !decide (r < cum ps (k + 1))
/-- the nights after which one ends: those before lo .. lo + len - 1 -/
def ends (ps : Sps) (r : Int) (lo len : Nat) : List Int := (sg lo len).filter fun k => decide (r < cum ps (k - 1)) && !decide (r < cum ps k)
theorem osF_zip (ps : Sps) (r : Int) : ∀ (len lo : Nat) (b : Option Int), (b.isSome = true ↔ r < cum ps ((lo : Int) - 1)) →
    osF r b (ful ps lo len) = (b.toList ++ fsts ps r lo len).zip (ends ps r lo len) ∧ (b.toList ++ fsts ps r lo len).length = (ends ps r lo len).length + (if r < cum ps ((lo : Int) + len - 1) then 1 else 0)
  | 0, lo, b, h => by
    refine ⟨?_, ?_⟩
    · cases b with
      | none => rfl
      | some x => show osF r (some x) [] = _; rw [osF]; exact List.zip_nil_right.symm
    · have e : (lo : Int) + ((0 : Nat) : Int) - 1 = (lo : Int) - 1 := by omega
      rw [e]
      show (b.toList ++ []).length = ([] : List Int).length + _
      rw [List.append_nil]
      cases b with
      | none =>
        have n : ¬ r < cum ps ((lo : Int) - 1) := fun q => by have := h.mpr q; cases this
        rw [if_neg n]; rfl
      | some x =>
        rw [if_pos (h.mp rfl)]; rfl
  | len + 1, lo, b, h => by
    have ec : ((lo + 1 : Nat) : Int) + len - 1 = (lo : Int) + ((len + 1 : Nat) : Int) - 1 := by omega
    have hf : fsts ps r lo (len + 1) = if r < cum ps lo ∧ ¬ r < cum ps ((lo : Int) - 1) then (lo : Int) :: fsts ps r (lo + 1) len else fsts ps r (lo + 1) len := by
      unfold fsts
      rw [sg_succ, List.filter_cons]
      by_cases a : r < cum ps lo <;> by_cases b : r < cum ps ((lo : Int) - 1) <;> simp [a, b]
    have he : ends ps r lo (len + 1) = if r < cum ps ((lo : Int) - 1) ∧ ¬ r < cum ps lo then (lo : Int) :: ends ps r (lo + 1) len else ends ps r (lo + 1) len := by
      unfold ends
      rw [sg_succ, List.filter_cons]
      by_cases a : r < cum ps lo <;> by_cases b : r < cum ps ((lo : Int) - 1) <;> simp [a, b]
    rw [ful_succ, hf, he, ← ec]
    cases b with
    | none =>
      have p : ¬ r < cum ps ((lo : Int) - 1) := fun q => by have := h.mpr q; cases this
      by_cases n : r < cum ps lo
      · obtain ⟨i1, i2⟩ := osF_zip ps r len (lo + 1) (some (lo : Int)) (by rw [cast_pred]; simp [n])
        rw [osF, if_pos n, if_pos ⟨n, p⟩, if_neg fun q => p q.1]
        exact ⟨i1, i2⟩
      · obtain ⟨i1, i2⟩ := osF_zip ps r len (lo + 1) none (by rw [cast_pred]; simp; omega)
        rw [osF, if_neg n, if_neg fun q => n q.1, if_neg fun q => p q.1]
        exact ⟨i1, i2⟩
    | some x =>
      have p : r < cum ps ((lo : Int) - 1) := h.mp rfl
      by_cases n : r < cum ps lo
      · obtain ⟨i1, i2⟩ := osF_zip ps r len (lo + 1) (some x) (by rw [cast_pred]; simp [n])
        rw [osF, if_pos n, if_neg fun q => q.2 p, if_neg fun q => q.2 n]
        exact ⟨i1, i2⟩
      · obtain ⟨i1, i2⟩ := osF_zip ps r len (lo + 1) none (by rw [cast_pred]; simp; omega)
        rw [osF, if_neg n, if_neg fun q => n q.1, if_pos ⟨p, n⟩]
        refine ⟨?_, ?_⟩
        · rw [i1]; rfl
        · have i2' : (fsts ps r (lo + 1) len).length = _ := i2
          show (x :: fsts ps r (lo + 1) len).length = _
          rw [List.length_cons, List.length_cons, i2']
          omega
theorem ends_lsts (ps : Sps) (r : Int) : ∀ (len lo : Nat), ends ps r (lo + 1) len = (lsts ps r lo len).map (· + 1)
  | 0, lo => rfl
  | len + 1, lo => by
    have ih := ends_lsts ps r len (lo + 1)
    unfold ends lsts at ih ⊢
    rw [sg_succ, sg_succ, List.filter_cons, List.filter_cons, cast_pred]
    have e : ((lo + 1 : Nat) : Int) = (lo : Int) + 1 := by omega
    rw [ih, e]
    split <;> simp
end Lw

/-! from k03g.lean -/
set_option Elab.async false
set_option linter.all false
set_option maxRecDepth 100000
set_option maxHeartbeats 4000000
namespace Lw
open PySem L2 DL
/-! the rest of the numbers -/
theorem cum_neg {ps : Sps} {N : Nat} (h : ∀ p ∈ ps, SpOk N p) : cum ps (-1) = 0 := cum_lo fun p q => by
  have := h p q
  unfold SpOk at this
  omega
theorem cum_hi {ps : Sps} {n : Int} (h : ∀ p ∈ ps, p.1 ≤ n ∧ p.2 ≤ n) : cum ps n = 0 := by
  unfold cum
  induction ps with
  | nil => rfl
  | cons p ps ih =>
    have hp := h p (List.mem_cons_self ..)
    rw [List.map_cons, List.sum_cons, ih fun p hp => h p (List.mem_cons_of_mem _ hp), if_pos hp.1, if_pos hp.2]
    rfl
theorem cum_end {ps : Sps} {N : Nat} (h : ∀ p ∈ ps, SpOk N p) {n : Int} (hn : (N : Int) ≤ n) : cum ps n = 0 := cum_hi fun p q => by
  have := h p q
  unfold SpOk at this
  omega
theorem cum_nn {ps : Sps} (n : Int) (h : ∀ p ∈ ps, p.1 < p.2) : 0 ≤ cum ps n := by
  rw [cum_cnt n h]
  omega
theorem sg_mem {lo len : Nat} {x : Int} : x ∈ sg lo len ↔ (lo : Int) ≤ x ∧ x < (lo : Int) + len := by
  unfold sg
  simp only [List.mem_map, List.mem_range'_1]
  constructor
  · rintro ⟨k, h, rfl⟩
    omega
  · intro h
    exact ⟨x.toNat, by omega, by omega⟩
theorem sg_last (lo len : Nat) : sg lo (len + 1) = sg lo len ++ [((lo + len : Nat) : Int)] := by
  unfold sg
  rw [List.range'_concat, List.map_append]
  simp
theorem ends_all {ps : Sps} {N : Nat} (h : ∀ p ∈ ps, SpOk N p) (r : Int) (hr : 0 ≤ r) : ends ps r 0 (N + 1) = (lsts ps r 0 (N + 1)).map (· + 1) := by
  have e1 : ends ps r 0 (N + 1) = ends ps r 1 N := by
    unfold ends
    rw [sg_succ, List.filter_cons]
    have z : cum ps (((0 : Nat) : Int) - 1) = 0 := cum_neg h
    rw [z, if_neg (by simp; omega)]
  have e2 : lsts ps r 0 (N + 1) = lsts ps r 0 N := by
    unfold lsts
    rw [sg_last, List.filter_append]
    have z : cum ps (((0 + N : Nat)) : Int) = 0 := cum_end h (by omega)
    rw [List.filter_cons, z, if_neg (by simp; omega), List.filter_nil, List.append_nil]
  rw [e1, e2]
  exact ends_lsts ps r N 0
theorem over_all {ps : Sps} {N : Nat} (h : ∀ p ∈ ps, SpOk N p) (r : Int) (hr : 0 ≤ r) : osF r none (stepsN ps N) = (fsts ps r 0 (N + 1)).zip ((lsts ps r 0 (N + 1)).map (· + 1)) ∧ (fsts ps r 0 (N + 1)).length = (lsts ps r 0 (N + 1)).length := by
  have z : cum ps (((0 : Nat) : Int) - 1) = 0 := cum_neg h
  have hb : (none : Option Int).isSome = true ↔ r < cum ps (((0 : Nat) : Int) - 1) := by
    rw [z]
    simp
    omega
  obtain ⟨i1, i2⟩ := osF_zip ps r (N + 1) 0 none hb
  have z2 : cum ps (((0 : Nat) : Int) + ((N + 1 : Nat) : Int) - 1) = 0 := cum_end h (by omega)
  rw [z2, if_neg (by omega), ends_all h r hr] at i2
  rw [stepsN_flt, osF_full ps r (N + 1) 0 none hb, i1, ends_all h r hr]
  refine ⟨rfl, ?_⟩
  have i2' : (fsts ps r 0 (N + 1)).length = ((lsts ps r 0 (N + 1)).map (· + 1)).length + 0 := i2
  rw [i2', List.length_map]
  rfl
theorem fsts_over {ps : Sps} {N : Nat} (h : ∀ p ∈ ps, SpOk N p) (r : Int) (hr : 0 ≤ r) :
    ((nts (N + 1)).filter fun k => decide (r < cum ps k)).filter (fun k => !(((nts (N + 1)).filter fun k => decide (r < cum ps k)).map D.int).any fun y => eqD y (.int (k - 1))) = fsts ps r 0 (N + 1) := by
  rw [nts_sg, List.filter_filter]
  unfold fsts
  apply List.filter_congr
  intro k hk
  have hk := sg_mem.mp hk
  by_cases a : r < cum ps k
  · have e : ((List.map D.int ((sg 0 (N + 1)).filter fun k => decide (r < cum ps k))).any fun y => eqD y (.int (k - 1))) = decide (r < cum ps (k - 1)) := by
      rw [List.any_map]
      by_cases b : r < cum ps (k - 1)
      · rw [decide_eq_true b, List.any_eq_true]
        refine ⟨k - 1, List.mem_filter.mpr ⟨sg_mem.mpr ⟨?_, by omega⟩, decide_eq_true b⟩, by simp [eqD]⟩
        apply Classical.byContradiction
        intro c
        have e : k - 1 = -1 := by omega
        rw [e, cum_neg h] at b
        omega
      · rw [decide_eq_false b, List.any_eq_false]
        intro y hy q
        have e : y = k - 1 := by simpa [eqD] using q
        have := of_decide_eq_true (List.mem_filter.mp hy).2
        rw [e] at this
        exact b this
    rw [e]
    simp [a]
  · simp [a]
theorem lsts_over {ps : Sps} {N : Nat} (h : ∀ p ∈ ps, SpOk N p) (r : Int) (hr : 0 ≤ r) :
    ((nts (N + 1)).filter fun k => decide (r < cum ps k)).filter (fun k => !(((nts (N + 1)).filter fun k => decide (r < cum ps k)).map D.int).any fun y => eqD y (.int (k + 1))) = lsts ps r 0 (N + 1) := by
  rw [nts_sg, List.filter_filter]
  unfold lsts
  apply List.filter_congr
  intro k hk
  have hk := sg_mem.mp hk
  by_cases a : r < cum ps k
  · have e : ((List.map D.int ((sg 0 (N + 1)).filter fun k => decide (r < cum ps k))).any fun y => eqD y (.int (k + 1))) = decide (r < cum ps (k + 1)) := by
      rw [List.any_map]
      by_cases b : r < cum ps (k + 1)
      · rw [decide_eq_true b, List.any_eq_true]
        refine ⟨k + 1, List.mem_filter.mpr ⟨sg_mem.mpr ⟨by omega, ?_⟩, decide_eq_true b⟩, by simp [eqD]⟩
        apply Classical.byContradiction
        intro c
        rw [cum_end h (by omega)] at b
        omega
      · rw [decide_eq_false b, List.any_eq_false]
        intro y hy q
        have e : y = k + 1 := by simpa [eqD] using q
        have := of_decide_eq_true (List.mem_filter.mp hy).2
        rw [e] at this
        exact b this
    rw [e]
    simp [a]
  · simp [a]
theorem peak_all {ps : Sps} {N : Nat} (h : ∀ p ∈ ps, SpOk N p) : ∃ M : Int, M = maxL 0 ((nts (N + 1)).map (cum ps)) ∧ 0 ≤ M ∧ ((¬ 0 < M ∧ pkF (0, none) (stepsN ps N) = (0, none)) ∨ (0 < M ∧ ∃ j : Nat, idxD (.int M) (lI ((nts (N + 1)).map (cum ps))) = some j ∧ pkF (0, none) (stepsN ps N) = (M, some (j : Int)))) := by
  have z : cum ps (((0 : Nat) : Int) - 1) = 0 := cum_neg h
  refine ⟨_, rfl, maxL_ge _ _, ?_⟩
  have e1 : pkF (0, none) (stepsN ps N) = pkF (0, none) (ful ps 0 (N + 1)) := by
    rw [stepsN_flt]
    exact pk_full ps (N + 1) 0 (0, none) (by rw [z]; exact Int.le_refl _)
  have e2 := pkF_max (ful ps 0 (N + 1)) (0, none)
  have e3 : (ful ps 0 (N + 1)).map (·.2) = (nts (N + 1)).map (cum ps) := by
    unfold ful
    rw [List.map_map, nts_sg]
    rfl
  rw [e3] at e2
  dsimp only at e2
  by_cases c : 0 < maxL 0 ((nts (N + 1)).map (cum ps))
  · refine .inr ⟨c, ?_⟩
    have hm : maxL 0 ((nts (N + 1)).map (cum ps)) ∈ (sg 0 (N + 1)).map (cum ps) := by
      rcases List.mem_cons.mp (maxL_mem ((nts (N + 1)).map (cum ps)) 0) with q | q
      · omega
      · rw [← nts_sg]; exact q
    obtain ⟨j, h1, h2⟩ := idx_full ps _ (N + 1) 0 hm
    rw [← nts_sg] at h1
    refine ⟨j, h1, ?_⟩
    rw [e1, e2, if_pos c, h2]
    simp
  · refine .inl ⟨c, ?_⟩
    rw [e1, e2, if_neg c]
theorem first_all {ps : Sps} {N : Nat} (h : ∀ p ∈ ps, SpOk N p) (r : Int) (hr : 0 ≤ r) : ((stepsN ps N).find? fun p => decide (r < p.2)).map (·.1) = ((nts (N + 1)).filter fun k => decide (r < cum ps k)).head? := by
  have z : cum ps (((0 : Nat) : Int) - 1) = 0 := cum_neg h
  rw [stepsN_flt, find_full ps r (N + 1) 0 (by rw [z]; exact hr), find_head, nts_sg]
theorem sum_in (a b : Int) (ha : 0 ≤ a) (hab : a < b) : ∀ n : Nat, ((nts n).map fun k => (if a ≤ k then (1 : Int) else 0) - (if b ≤ k then 1 else 0)).sum = min b n - min a n
  | 0 => by show (0 : Int) = _; omega
  | n + 1 => by
    have ih := sum_in a b ha hab n
    rw [nts_sg, sg_last, List.map_append, List.sum_append, ← nts_sg, ih]
    simp only [List.map_cons, List.map_nil, List.sum_cons, List.sum_nil]
    have e : ((0 + n : Nat) : Int) = n := by omega
    rw [e]
    by_cases c1 : a ≤ n
    · by_cases c2 : b ≤ n
      · rw [if_pos c1, if_pos c2]; omega
      · rw [if_pos c1, if_neg c2]; omega
    · rw [if_neg c1, if_neg (by omega)]; omega
theorem sum_add (f g : Int → Int) : ∀ l : List Int, (l.map fun k => f k + g k).sum = (l.map f).sum + (l.map g).sum
  | [] => rfl
  | x :: l => by
    simp only [List.map_cons, List.sum_cons]
    rw [sum_add f g l]
    omega
theorem sold_all {N : Nat} : ∀ {ps : Sps}, (∀ p ∈ ps, SpOk N p) → (ps.map fun p => p.2 - p.1).sum = ((nts (N + 1)).map (cum ps)).sum
  | [], _ => by
    have e : ∀ l : List Int, (l.map (cum [])).sum = 0 := by
      intro l
      induction l with
      | nil => rfl
      | cons x l ih => rw [List.map_cons, List.sum_cons, ih]; rfl
    rw [e]
    rfl
  | p :: ps, h => by
    have ih := sold_all (ps := ps) fun p hp => h p (List.mem_cons_of_mem _ hp)
    have hp := h p (List.mem_cons_self ..)
    unfold SpOk at hp
    have e : cum (p :: ps) = fun k => ((if p.1 ≤ k then (1 : Int) else 0) - (if p.2 ≤ k then 1 else 0)) + cum ps k := by
      funext k
      unfold cum
      rw [List.map_cons, List.sum_cons]
    rw [e, sum_add, ← ih, sum_in p.1 p.2 hp.1 hp.2.1, List.map_cons, List.sum_cons]
    omega
end Lw

/-! from k03h.lean -/
set_option Elab.async false
set_option linter.all false
set_option maxRecDepth 100000
set_option maxHeartbeats 4000000
namespace Lw
open PySem L2 DL
def lw1 : M Fl :=
    (asg (bnd (acons (name 0) (acons (ret (.int 0)) (acons (ret (.int 31)) (acons (ret (.int 0)) anil)))) (lstE true)) (gset 1))
def lw2 : M Fl :=
    (asg (op2 (fAdd false) (ret (.int 1)) (bnd (acons (name 1) (acons (ret (.int 60)) anil)) (callF m__law_taken))) (gset 2))
def lw3 : M Fl :=
    (asg (bnd (acons (name 1) (acons (bnd (acons (name 1) (acons (ret (.int 31)) anil)) (callF m__law_taken)) (acons (name 2) (acons (op2 (fAdd false) (ret (.int 1)) (bnd (acons (name 1) (acons (ret (.int 20)) anil)) (callF m__law_taken))) anil)))) (callF m__law_spans)) (gset 3))
def lw4 : M Fl :=
    (asg (bnd (acons (name 1) (acons (name 3) anil)) (callF m__law_handed)) (gset 4))
def lw5 : M Fl :=
    (asg (lcM false [15] (rng1 (acons (op2 (fAdd false) (name 2) (ret (.int 1))) anil)) (gset 15) (ret true) (bnd (acons (name 3) (acons (name 15) anil)) (callF m__law_load))) (gset 5))
def lw6 : M Fl :=
    (ifS (tst (op2 (fEq true) (lcM false [15] (rng1 (acons (op2 (fAdd false) (name 2) (ret (.int 1))) anil)) (gset 15) (notT (tst (bnd (acons (bnd (acons (name 4) (acons (name 15) anil)) (callF m_load)) (acons (op2 fIx (name 5) (name 15)) anil)) (callF (m__law_alike 8))))) (name 15)) (bnd anil (lstE false))))
    (retS (ret (.bl false)))
    nxt)
def lw7 : M Fl :=
    (asg (op2 (fAdd false) (bnd (acons (ret (.int 0)) anil) (lstE false)) (name 5)) (gset 6))
def lw8 : M Fl :=
    (asg (lcM false [15] (rng1 (acons (op2 (fAdd false) (name 2) (ret (.int 1))) anil)) (gset 15) (tst (op2 (fEq true) (op2 fIx (name 5) (name 15)) (op2 fIx (name 6) (name 15)))) (bnd (acons (name 15) (acons (op2 fIx (name 5) (name 15)) anil)) tupD)) (gset 7))
def lw9 : M Fl :=
    (ifS (notT (tst (bnd (acons (bnd (acons (name 4) anil) (callF m_load_steps)) (acons (bnd (acons (name 7) anil) fTuple) anil)) (callF (m__law_alike 8)))))
    (retS (ret (.bl false)))
    nxt)
def lw10 : M Fl :=
    (asg (bnd (acons (name 5) anil) fMax1) (gset 8))
def lw11 : M Fl :=
    (asg (bnd (acons (ret (.int 0)) (acons (ret .non) anil)) tupD) (gset 9))
def lw12 : M Fl :=
    (ifS (tst (op2 fGt (name 8) (ret (.int 0))))
    (asg (bnd (acons (name 8) (acons (mthL fIndex (name 5) (acons (name 8) anil)) anil)) tupD) (gset 9))
    nxt)
def lw13 : M Fl :=
    (ifS (notT (tst (bnd (acons (bnd (acons (name 4) anil) (callF m_peak)) (acons (name 9) anil)) (callF (m__law_alike 8)))))
    (retS (ret (.bl false)))
    nxt)
def lw14 : M Fl :=
    (asg (bnd (acons (name 1) (acons (bnd (acons (ret (.int 0)) (acons (bnd (acons (ret (.int 0)) (acons (op2 fSub (name 8) (ret (.int 1))) anil)) fMax2) (acons (name 8) (acons (op2 (fAdd false) (name 8) (ret (.int 1))) (acons (bnd (acons (name 1) (acons (ret (.int 31)) anil)) (callF m__law_taken)) anil))))) (lstE false)) anil)) (callF m__law_pick)) (gset 10))
def lw15 : M Fl :=
    (asg (lcM false [15] (rng1 (acons (op2 (fAdd false) (name 2) (ret (.int 1))) anil)) (gset 15) (tst (op2 fGt (op2 fIx (name 5) (name 15)) (name 10))) (name 15)) (gset 11))
def lw16 : M Fl :=
    (ifS (notT (tst (bnd (acons (bnd (acons (name 4) (acons (name 10) anil)) (callF m_first_over)) (acons (op2 fIx (op2 (fAdd false) (name 11) (bnd (acons (ret .non) anil) (lstE false))) (ret (.int 0))) anil)) (callF (m__law_alike 8)))))
    (retS (ret (.bl false)))
    nxt)
def lw17 : M Fl :=
    (asg (lcM false [15] (seqI (name 11)) (gset 15) (tst (op2 (fIn true) (op2 fSub (name 15) (ret (.int 1))) (name 11))) (name 15)) (gset 12))
def lw18 : M Fl :=
    (asg (lcM false [15] (seqI (name 11)) (gset 15) (tst (op2 (fIn true) (op2 (fAdd false) (name 15) (ret (.int 1))) (name 11))) (name 15)) (gset 13))
def lw19 : M Fl :=
    (ifS (notT (tst (bnd (acons (bnd (acons (name 4) (acons (name 10) anil)) (callF m_over_spans)) (acons (bnd (acons (lcM false [16] (rng1 (acons (bnd (acons (name 12) anil) fLen) anil)) (gset 16) (ret true) (bnd (acons (op2 fIx (name 12) (name 16)) (acons (op2 (fAdd false) (op2 fIx (name 13) (name 16)) (ret (.int 1))) anil)) tupD)) anil) fTuple) anil)) (callF (m__law_alike 8)))))
    (retS (ret (.bl false)))
    nxt)
def lw20 : M Fl :=
    (ifS (notT (tst (bnd (acons (bnd (acons (name 4) anil) (callF m_nights_sold)) (acons (bnd (acons (name 5) anil) fSum) anil)) (callF (m__law_alike 8)))))
    (retS (ret (.bl false)))
    nxt)
def lw21 : M Fl :=
    (asg (bnd (acons (name 1) (acons (name 2) (acons (name 2) anil))) (callF m__law_span)) (gset 14))
def lw22 : M Fl :=
    (retS (bnd (acons (bnd (acons (name 4) (acons (op2 fIx (name 14) (ret (.int 0))) (acons (op2 fIx (name 14) (ret (.int 1))) anil))) (callF m_load_row)) (acons (bnd (acons (slA false (name 5) (oInt (op2 fIx (name 14) (ret (.int 0)))) (oInt (op2 fIx (name 14) (ret (.int 1))))) anil) fTuple) anil)) (callF (m__law_alike 8))))
theorem m_law_seq : m_law = mdef 17 (sq lw1 (sq lw2 (sq lw3 (sq lw4 (sq lw5 (sq lw6 (sq lw7 (sq lw8 (sq lw9 (sq lw10 (sq lw11 (sq lw12 (sq lw13 (sq lw14 (sq lw15 (sq lw16 (sq lw17 (sq lw18 (sq lw19 (sq lw20 (sq lw21 lw22))))))))))))))))))))) := rfl
theorem sq_nx {m n : M Fl} {s s' : S} (h : m s = some (.ok .nx s')) : sq m n s = n s' := by
  rw [sq_s, bnd_s, h]
  rfl
/-- what is asked of two things that are one -/
theorem chk_nx {ma : M (List D)} {s : S} (d : D) (h : ma s = some (.ok [d, d] s)) (hp : plD 7 d = true) : ifS (notT (tst (bnd ma (callF (m__law_alike 8))))) (retS (ret (.bl false))) nxt s = some (.ok .nx s) := by
  have q := alike_refl 7 d s.s hp
  simp [h, q]
theorem acons2 {x y : M D} {s : S} {d d' : D} (h1 : x s = some (.ok d s)) (h2 : y s = some (.ok d' s)) : acons x (acons y anil) s = some (.ok [d, d'] s) := by
  simp [h1, h2]
def Cs (ps : Sps) (N : Nat) : List Int := (nts (N + 1)).map (cum ps)
theorem Cs_map (ps : Sps) (N : Nat) : lI (Cs ps N) = (List.range (N + 1)).map fun (k : Nat) => D.int (cum ps k) := by
  unfold lI Cs nts
  rw [List.map_map, List.map_map]
  rfl
theorem Cs_at (ps : Sps) {N k : Nat} (h : k < N + 1) : atI (lI (Cs ps N)) (k : Int) = some (.int (cum ps k)) := by
  rw [DL.atI_n, Cs_map]
  simp [h]
theorem Cs_len (ps : Sps) (N : Nat) : (Cs ps N).length = N + 1 := by
  unfold Cs
  rw [List.length_map, nts_len]
theorem set_at {e : List (Option D)} {i n : Nat} (he : e.length = n) (hi : i < n) (d : Option D) : (e.set i d)[i]? = some d := by
  rw [List.getElem?_set_self (by omega)]
section
variable {ps : Sps} {N : Nat} {e : List (Option D)} {ς : Store} {B : Bool} {qs : List (Bool × Int × Int)}
theorem st5 (he : e.length = 17) (hN : N ≤ 60) (hl : ps.length ≤ 1000) (hp : ∀ p ∈ ps, SpOk N p) (h2 : e[2]? = some (some (.int N))) (h3 : e[3]? = some (some (.lst (ps.map tupI)))) :
    lw5 ⟨e, ς⟩ = some (.ok .nx ⟨e.set 5 (some (.lst (lI (Cs ps N)))), ς⟩) := by
  have q := lcK_m (ς := ς) (e := e) (i := 15) (te := bnd (acons (name 3) (acons (name 15) anil)) (callF m__law_load)) (f := fun (k : Nat) => D.int k) (out := fun (k : Nat) => D.int (cum ps k)) (xs := List.range (N + 1)) (small_of (by simp; omega)) (by
    intro k _
    have c := cum_cnt (k : Int) (ps := ps) fun p hp' => (hp p hp').2.1
    simp [h3, set_at he, lawload_ev ps k _ (by omega), c])
  have r := rng1F_n (s := ⟨e, ς⟩) (j := N + 1) (by omega)
  have cst : ((N + 1 : Nat) : Int) = (N : Int) + 1 := by omega
  rw [cst] at r
  unfold lw5
  simp [lcM_s, h2, r, rngL_0, q, Cs_map]
theorem st6 (he : e.length = 17) (hN : N ≤ 60) (hl : qs.length ≤ 1000) (hp : ∀ p ∈ qs.map (·.2), SpOk N p) (h2 : e[2]? = some (some (.int N))) (h4 : e[4]? = some (some (shp B (qs.map spD)))) (h5 : e[5]? = some (some (.lst (lI (Cs (qs.map (·.2)) N))))) :
    lw6 ⟨e, ς⟩ = some (.ok .nx ⟨e, ς⟩) := by
  have q := lcK_g (ς := ς) (e := e) (i := 15) (tt := notT (tst (bnd (acons (bnd (acons (name 4) (acons (name 15) anil)) (callF m_load)) (acons (op2 fIx (name 5) (name 15)) anil)) (callF (m__law_alike 8))))) (te := name 15) (f := fun (k : Nat) => D.int k) (out := fun (k : Nat) => D.int k) (P := fun _ => false) (xs := List.range (N + 1)) (small_of (by simp; omega)) (by
    intro k hk
    have c := cum_cnt (k : Int) (ps := qs.map (·.2)) fun p hp' => (hp p hp').2.1
    have a := alike_refl 7 (.int (cum (qs.map (·.2)) k)) ς rfl
    rw [c] at a
    have i := Cs_at (qs.map (·.2)) (N := N) (List.mem_range.mp hk)
    rw [c] at i
    simp [h4, h5, set_at he, load_ev B qs k _ (by omega), i, a]) (by
    intro k _ h
    cases h)
  rw [List.filter_eq_nil_iff.mpr (by simp)] at q
  have r := rng1F_n (s := ⟨e, ς⟩) (j := N + 1) (by omega)
  have cst : ((N + 1 : Nat) : Int) = (N : Int) + 1 := by omega
  rw [cst] at r
  unfold lw6
  simp [lcM_s, h2, r, rngL_0, q]
theorem st7 (hN : N ≤ 60) (h5 : e[5]? = some (some (.lst (lI (Cs ps N))))) :
    lw7 ⟨e, ς⟩ = some (.ok .nx ⟨e.set 6 (some (.lst (.int 0 :: lI (Cs ps N)))), ς⟩) := by
  have q : fAdd false (.lst [.int 0]) (.lst (lI (Cs ps N))) ⟨e, ς⟩ = some (.ok (.lst (.int 0 :: lI (Cs ps N))) ⟨e, ς⟩) := by
    show guard' (small ([D.int 0].length + (lI (Cs ps N)).length)) _ _ = _
    rw [small_of (by rw [lI_len, Cs_len]; simp; omega)]
    rfl
  unfold lw7
  simp [h5, q]
theorem st8 (he : e.length = 17) (hN : N ≤ 60) (hp : ∀ p ∈ ps, SpOk N p) (h2 : e[2]? = some (some (.int N))) (h5 : e[5]? = some (some (.lst (lI (Cs ps N))))) (h6 : e[6]? = some (some (.lst (.int 0 :: lI (Cs ps N))))) :
    lw8 ⟨e, ς⟩ = some (.ok .nx ⟨e.set 7 (some (.lst ((stepsN ps N).map tupI))), ς⟩) := by
  have q := lcK_g (ς := ς) (e := e) (i := 15) (tt := tst (op2 (fEq true) (op2 fIx (name 5) (name 15)) (op2 fIx (name 6) (name 15)))) (te := bnd (acons (name 15) (acons (op2 fIx (name 5) (name 15)) anil)) tupD) (f := fun (k : Nat) => D.int k) (out := fun (k : Nat) => tupI ((k : Int), cum ps k)) (P := fun (k : Nat) => decide (dif ps k ≠ 0)) (xs := List.range (N + 1)) (small_of (by simp; omega)) (by
    intro k hk
    have hk := List.mem_range.mp hk
    have i := Cs_at ps (N := N) hk
    have i2 : atI (D.int 0 :: lI (Cs ps N)) (k : Int) = some (.int (cum ps ((k : Int) - 1))) := by
      rw [DL.atI_n]
      cases k with
      | zero =>
        have z : cum ps (((0 : Nat) : Int) - 1) = 0 := cum_neg hp
        rw [z]
        rfl
      | succ k =>
        have i3 := Cs_at ps (N := N) (k := k) (by omega)
        rw [DL.atI_n] at i3
        rw [List.getElem?_cons_succ, i3, cast_pred]
    have s := cum_succ ps k
    have b : (!(cum ps (k : Int) == cum ps ((k : Int) - 1))) = decide (dif ps k ≠ 0) := by
      by_cases z : dif ps k = 0
      · have : cum ps (k : Int) = cum ps ((k : Int) - 1) := by omega
        simp [z, this]
      · have : ¬ cum ps (k : Int) = cum ps ((k : Int) - 1) := by omega
        simp [z, this]
    simp only [← b]
    simp [h5, h6, set_at he, i, i2]) (by
    intro k hk _
    have i := Cs_at ps (N := N) (List.mem_range.mp hk)
    simp [h5, set_at he, i, tupI])
  have r := rng1F_n (s := ⟨e, ς⟩) (j := N + 1) (by omega)
  have cst : ((N + 1 : Nat) : Int) = (N : Int) + 1 := by omega
  rw [cst] at r
  have es : ((List.range (N + 1)).filter fun (k : Nat) => decide (dif ps k ≠ 0)).map (fun (k : Nat) => tupI ((k : Int), cum ps k)) = (stepsN ps N).map tupI := by
    unfold stepsN nts
    rw [List.filter_map, List.map_map, List.map_map]
    rfl
  rw [es] at q
  unfold lw8
  simp [lcM_s, h2, r, rngL_0, q]
theorem pl_steps (n : Nat) (l : Sps) (h : l.length ≤ 1000000) : plD (n + 2) (.tup (l.map tupI)) = true := by
  unfold plD
  rw [Bool.and_eq_true, List.all_eq_true]
  refine ⟨small_of (by rw [List.length_map]; exact h), fun d hd => ?_⟩
  obtain ⟨p, _, rfl⟩ := List.mem_map.mp hd
  simp [tupI, plD]
theorem stepsN_len (ps : Sps) (N : Nat) : (stepsN ps N).length ≤ N + 1 := by
  unfold stepsN
  rw [List.length_map]
  have := List.length_filter_le (fun k => decide (dif ps k ≠ 0)) (nts (N + 1))
  rw [nts_len] at this
  exact this
theorem st9 (hf : sflat ς = true) (hN : N ≤ 60) (hl : qs.length ≤ 1000) (hp : ∀ p ∈ qs.map (·.2), SpOk N p) (h4 : e[4]? = some (some (shp B (qs.map spD)))) (h7 : e[7]? = some (some (.lst ((stepsN (qs.map (·.2)) N).map tupI)))) :
    lw9 ⟨e, ς⟩ = some (.ok .nx ⟨e, ς⟩) := by
  refine chk_nx (.tup ((stepsN (qs.map (·.2)) N).map tupI)) (acons2 ?_ ?_) (pl_steps 5 _ ?_)
  · simp [h4, load_steps_ev' B qs N ς hf (by omega) hp]
  · simp [h7]
  · have := stepsN_len (qs.map (·.2)) N
    omega
theorem st10 (hp : ∀ p ∈ ps, SpOk N p) (h5 : e[5]? = some (some (.lst (lI (Cs ps N))))) :
    lw10 ⟨e, ς⟩ = some (.ok .nx ⟨e.set 8 (some (.int (maxL 0 (Cs ps N)))), ς⟩) := by
  have ec : Cs ps N = cum ps (0 : Nat) :: (sg 1 N).map (cum ps) := by
    unfold Cs
    rw [nts_sg, sg_succ, List.map_cons]
  have c0 : 0 ≤ cum ps ((0 : Nat) : Int) := cum_nn _ fun p h => (hp p h).2.1
  have em : maxL 0 (Cs ps N) = maxL (cum ps (0 : Nat)) ((sg 1 N).map (cum ps)) := by
    rw [ec]
    show maxL (max 0 (cum ps (0 : Nat))) _ = _
    rw [Int.max_eq_right c0]
  have q : fMax1 [.lst (lI (Cs ps N))] ⟨e, ς⟩ = some (.ok (.int (maxL 0 (Cs ps N))) ⟨e, ς⟩) := by
    rw [em, ec]
    unfold fMax1 lI
    simp only [intsOf_map]
    rfl
  unfold lw10
  simp [h5, q]
theorem st11 : lw11 ⟨e, ς⟩ = some (.ok .nx ⟨e.set 9 (some (.tup [.int 0, .non])), ς⟩) := by
  unfold lw11
  simp
theorem set_same {α : Type} {l : List α} {i : Nat} {x : α} (h : l[i]? = some x) : l.set i x = l := by
  apply List.ext_getElem?
  intro j
  by_cases q : i = j
  · subst q
    rw [List.getElem?_set_self (List.getElem?_eq_some_iff.mp h).1, h]
  · rw [List.getElem?_set_ne q]
theorem st12 (hp : ∀ p ∈ ps, SpOk N p) (h5 : e[5]? = some (some (.lst (lI (Cs ps N))))) (h8 : e[8]? = some (some (.int (maxL 0 (Cs ps N))))) (h9 : e[9]? = some (some (.tup [.int 0, .non]))) :
    lw12 ⟨e, ς⟩ = some (.ok .nx ⟨e.set 9 (some (.tup [.int (pkF (0, none) (stepsN ps N)).1, optN (pkF (0, none) (stepsN ps N)).2])), ς⟩) := by
  obtain ⟨M, hM, h0, h | ⟨h, j, hj, hk⟩⟩ := peak_all hp
  · have eM : maxL 0 (Cs ps N) = M := hM.symm
    rw [eM] at h8
    have hh : ¬ 0 < M := h.1
    rw [h.2]
    have s : e.set 9 (some (.tup [.int 0, optN none])) = e := set_same h9
    rw [s]
    unfold lw12
    simp [h8, hh]
  · have eM : maxL 0 (Cs ps N) = M := hM.symm
    rw [eM] at h8
    rw [hk]
    have q : fIndex (.lst (lI (Cs ps N))) [.int M] ⟨e, ς⟩ = some (.ok (.int j) ⟨e, ς⟩) := by
      have hj' : idxD (.int M) (lI (Cs ps N)) = some j := hj
      have fl : ((D.int M).flt && (lI (Cs ps N)).all D.flt) = true := by
        rw [Bool.and_eq_true, List.all_eq_true]
        refine ⟨rfl, fun d hd => ?_⟩
        unfold lI at hd
        obtain ⟨x, _, rfl⟩ := List.mem_map.mp hd
        rfl
      unfold fIndex
      simp only [seqD_lst, hj']
      rw [fl]
      rfl
    unfold lw12
    simp [h8, h, mthL_s, chk_s, h5, q, optN]
theorem st13 (hf : sflat ς = true) (hl : qs.length ≤ 1000) (hp : ∀ p ∈ qs.map (·.2), SpOk N p) (h4 : e[4]? = some (some (shp B (qs.map spD)))) (h9 : e[9]? = some (some (.tup [.int (pkF (0, none) (stepsN (qs.map (·.2)) N)).1, optN (pkF (0, none) (stepsN (qs.map (·.2)) N)).2]))) :
    lw13 ⟨e, ς⟩ = some (.ok .nx ⟨e, ς⟩) := by
  refine chk_nx (.tup [.int (pkF (0, none) (stepsN (qs.map (·.2)) N)).1, optN (pkF (0, none) (stepsN (qs.map (·.2)) N)).2]) (acons2 ?_ ?_) ?_
  · simp [h4, peak_ev B qs N ς hf (by omega) hp]
  · simp [h9]
  · cases (pkF (0, none) (stepsN (qs.map (·.2)) N)).2 <;> rfl
theorem st14 (sc : List Int) (a b c M : Int) (ha : 0 ≤ a) (hM : 0 ≤ M) (h1 : e[1]? = some (some (.loc 0))) (h8 : e[8]? = some (some (.int M))) :
    ∃ r a' b' c' : Int, 0 ≤ r ∧ 0 ≤ a' ∧ lw14 ⟨e, [RowO sc a b c]⟩ = some (.ok .nx ⟨e.set 10 (some (.int r)), [RowO sc a' b' c']⟩) := by
  obtain ⟨v, a1, b1, c1, k1, k2, k3, k4⟩ := taken_ev sc a b c 31 [] ha (by omega) (by omega)
  obtain ⟨n, a2, b2, c2, hn, g1, g2⟩ := pick_ev sc a1 b1 c1 [.int 0, .int (max 0 (M - 1)), .int M, .int (M + 1), .int v] [] k3 (by simp) (by simp)
  have hv : ∃ r : Int, 0 ≤ r ∧ ([.int 0, .int (max 0 (M - 1)), .int M, .int (M + 1), .int v] : List D)[n] = .int r := by
    have hn' : n < 5 := hn
    match n, hn' with
    | 0, _ => exact ⟨0, by omega, rfl⟩
    | 1, _ => exact ⟨_, by omega, rfl⟩
    | 2, _ => exact ⟨_, hM, rfl⟩
    | 3, _ => exact ⟨_, by omega, rfl⟩
    | 4, _ => exact ⟨_, k1, rfl⟩
  obtain ⟨r, hr, er⟩ := hv
  rw [er, cut_app1] at g2
  refine ⟨r, a2, b2, c2, hr, g1, ?_⟩
  unfold lw14
  simp [h1, h8, k4, g2]
def ovr (ps : Sps) (N : Nat) (r : Int) : List Int := (nts (N + 1)).filter fun k => decide (r < cum ps k)
theorem ovr_len (ps : Sps) (N : Nat) (r : Int) : (ovr ps N r).length ≤ N + 1 := by
  unfold ovr
  have := List.length_filter_le (fun k => decide (r < cum ps k)) (nts (N + 1))
  rw [nts_len] at this
  exact this
theorem st15 {r : Int} (he : e.length = 17) (hN : N ≤ 60) (h2 : e[2]? = some (some (.int N))) (h5 : e[5]? = some (some (.lst (lI (Cs ps N))))) (h10 : e[10]? = some (some (.int r))) :
    lw15 ⟨e, ς⟩ = some (.ok .nx ⟨e.set 11 (some (.lst (lI (ovr ps N r)))), ς⟩) := by
  have q := lcK_g (ς := ς) (e := e) (i := 15) (tt := tst (op2 fGt (op2 fIx (name 5) (name 15)) (name 10))) (te := name 15) (f := fun (k : Nat) => D.int k) (out := fun (k : Nat) => D.int k) (P := fun (k : Nat) => decide (r < cum ps k)) (xs := List.range (N + 1)) (small_of (by simp; omega)) (by
    intro k hk
    have i := Cs_at ps (N := N) (List.mem_range.mp hk)
    simp [h5, h10, set_at he, i]) (by
    intro k hk _
    simp [set_at he])
  have s := rng1F_n (s := ⟨e, ς⟩) (j := N + 1) (by omega)
  have cst : ((N + 1 : Nat) : Int) = (N : Int) + 1 := by omega
  rw [cst] at s
  have es : ((List.range (N + 1)).filter fun (k : Nat) => decide (r < cum ps k)).map (fun (k : Nat) => D.int k) = lI (ovr ps N r) := by
    unfold ovr lI nts
    rw [List.filter_map, List.map_map]
    rfl
  rw [es] at q
  unfold lw15
  simp [lcM_s, h2, s, rngL_0, q]
theorem st16 {r : Int} (hr : 0 ≤ r) (hf : sflat ς = true) (hN : N ≤ 60) (hl : qs.length ≤ 1000) (hp : ∀ p ∈ qs.map (·.2), SpOk N p) (h4 : e[4]? = some (some (shp B (qs.map spD)))) (h10 : e[10]? = some (some (.int r))) (h11 : e[11]? = some (some (.lst (lI (ovr (qs.map (·.2)) N r))))) :
    lw16 ⟨e, ς⟩ = some (.ok .nx ⟨e, ς⟩) := by
  refine chk_nx (optN (ovr (qs.map (·.2)) N r).head?) (acons2 ?_ ?_) ?_
  · have q := first_ev B qs N r ς hf (by omega) hp
    rw [first_all hp r hr] at q
    have q' : m_first_over [shp B (qs.map spD), .int r] ς = some (.ok (optN (ovr (qs.map (·.2)) N r).head?) ς) := q
    simp [h4, h10, q']
  · have a : ∀ L : List Int, L.length ≤ 100 → fAdd false (.lst (lI L)) (.lst [.non]) ⟨e, ς⟩ = some (.ok (.lst (lI L ++ [.non])) ⟨e, ς⟩) := fun L hL => by
      show guard' (small ((lI L).length + [D.non].length)) _ _ = _
      rw [small_of (by rw [lI_len]; simp; omega)]
      rfl
    have i : (lI (ovr (qs.map (·.2)) N r) ++ [D.non])[0]? = some (optN (ovr (qs.map (·.2)) N r).head?) := by
      cases ovr (qs.map (·.2)) N r <;> rfl
    have hL := ovr_len (qs.map (·.2)) N r
    simp only [op2_s, bnd_s, name_s, h11, anil_s, acons_s, ret_s, lstE_s, List.length_cons, List.length_nil]
    rw [small_of (by omega)]
    simp [a _ (show (ovr (qs.map (·.2)) N r).length ≤ 100 by omega)]
    exact (List.getElem?_eq_some_iff.mp i).2
  · cases (ovr (qs.map (·.2)) N r).head? <;> rfl
theorem st17 {r : Int} (hr : 0 ≤ r) (he : e.length = 17) (hN : N ≤ 60) (hp : ∀ p ∈ ps, SpOk N p) (h11 : e[11]? = some (some (.lst (lI (ovr ps N r))))) :
    lw17 ⟨e, ς⟩ = some (.ok .nx ⟨e.set 12 (some (.lst (lI (fsts ps r 0 (N + 1))))), ς⟩) := by
  have hL := ovr_len ps N r
  have fl : ∀ i : Int, ((D.int i).flt && (lI (ovr ps N r)).all D.flt) = true := fun i => by
    rw [Bool.and_eq_true, List.all_eq_true]
    refine ⟨rfl, fun d hd => ?_⟩
    unfold lI at hd
    obtain ⟨x, _, rfl⟩ := List.mem_map.mp hd
    rfl
  have n : ∀ (s : S) (i : Int), fIn true (.int i) (.lst (lI (ovr ps N r))) s = some (.ok (.bl (!((ovr ps N r).map D.int).any fun y => eqD y (.int i))) s) := fun s i => by
    unfold fIn
    simp only [seqD_lst]
    rw [fl]
    rfl
  have q := lcK_g (ς := ς) (e := e) (i := 15) (tt := tst (op2 (fIn true) (op2 fSub (name 15) (ret (.int 1))) (name 11))) (te := name 15) (f := D.int) (out := D.int) (P := fun k => !((ovr ps N r).map D.int).any fun y => eqD y (.int (k - 1))) (xs := ovr ps N r) (small_of (by omega)) (by
    intro k hk
    simp only [tst_s, bnd_s, op2_s, name_s, set_at he (show 15 < 17 by omega), ret_s, iop_t, List.getElem?_set_ne (show 15 ≠ 11 by omega), h11, n]) (by
    intro k hk _
    simp [set_at he])
  have f := fsts_over hp r hr
  unfold ovr at q
  rw [f] at q
  unfold lw17 
  unfold ovr lI at h11
  have q' : lcK false [15] (gset 15) _ _ (List.map D.int _) ⟨e, ς⟩ = some (.ok (.lst (lI (fsts ps r 0 (N + 1)))) ⟨e, ς⟩) := q
  simp [lcM_s, h11, q', -List.map_map]
theorem st18 {r : Int} (hr : 0 ≤ r) (he : e.length = 17) (hN : N ≤ 60) (hp : ∀ p ∈ ps, SpOk N p) (h11 : e[11]? = some (some (.lst (lI (ovr ps N r))))) :
    lw18 ⟨e, ς⟩ = some (.ok .nx ⟨e.set 13 (some (.lst (lI (lsts ps r 0 (N + 1))))), ς⟩) := by
  have hL := ovr_len ps N r
  have fl : ∀ i : Int, ((D.int i).flt && (lI (ovr ps N r)).all D.flt) = true := fun i => by
    rw [Bool.and_eq_true, List.all_eq_true]
    refine ⟨rfl, fun d hd => ?_⟩
    unfold lI at hd
    obtain ⟨x, _, rfl⟩ := List.mem_map.mp hd
    rfl
  have n : ∀ (s : S) (i : Int), fIn true (.int i) (.lst (lI (ovr ps N r))) s = some (.ok (.bl (!((ovr ps N r).map D.int).any fun y => eqD y (.int i))) s) := fun s i => by
    unfold fIn
    simp only [seqD_lst]
    rw [fl]
    rfl
  have q := lcK_g (ς := ς) (e := e) (i := 15) (tt := tst (op2 (fIn true) (op2 (fAdd false) (name 15) (ret (.int 1))) (name 11))) (te := name 15) (f := D.int) (out := D.int) (P := fun k => !((ovr ps N r).map D.int).any fun y => eqD y (.int (k + 1))) (xs := ovr ps N r) (small_of (by omega)) (by
    intro k hk
    simp only [tst_s, bnd_s, op2_s, name_s, set_at he (show 15 < 17 by omega), ret_s, fAdd_i, List.getElem?_set_ne (show 15 ≠ 11 by omega), h11, n]) (by
    intro k hk _
    simp [set_at he])
  have f := lsts_over hp r hr
  unfold ovr at q
  rw [f] at q
  unfold lw18
  unfold ovr lI at h11
  have q' : lcK false [15] (gset 15) _ _ (List.map D.int _) ⟨e, ς⟩ = some (.ok (.lst (lI (lsts ps r 0 (N + 1)))) ⟨e, ς⟩) := q
  simp [lcM_s, h11, q', -List.map_map]
end
end Lw

/-! from k03i.lean -/
set_option Elab.async false
set_option linter.all false
set_option maxRecDepth 100000
set_option maxHeartbeats 4000000
namespace Lw
open PySem L2 DL
theorem lI_at {F : List Int} {k : Nat} (h : k < F.length) : atI (lI F) (k : Int) = some (.int (F.getD k 0)) := by
  rw [DL.atI_n]
  unfold lI
  simp [h]
theorem zip_idx {F L : List Int} (h : F.length = L.length) : (F.zip (L.map (· + 1))).map tupI = (List.range F.length).map fun (k : Nat) => tupI (F.getD k 0, L.getD k 0 + 1) := by
  apply List.ext_getElem?
  intro i
  by_cases hi : i < F.length
  · have hi2 : i < L.length := by omega
    simp [hi, hi2]
    exact ⟨F[i], L[i] + 1, by rw [List.getElem?_zip_eq_some]; simp [hi, hi2], rfl⟩
  · rw [List.getElem?_eq_none (by simp; omega), List.getElem?_eq_none (by simp; omega)]
section
variable {ps : Sps} {N : Nat} {e : List (Option D)} {ς : Store} {B : Bool} {qs : List (Bool × Int × Int)}
theorem fsts_len (ps : Sps) (r : Int) (N : Nat) : (fsts ps r 0 (N + 1)).length ≤ N + 1 := by
  unfold fsts
  refine Nat.le_trans (List.length_filter_le _ _) ?_
  rw [← nts_sg, nts_len]
  exact Nat.le_refl _
theorem st19 {r : Int} (hr : 0 ≤ r) (he : e.length = 17) (hf : sflat ς = true) (hN : N ≤ 60) (hl : qs.length ≤ 1000) (hp : ∀ p ∈ qs.map (·.2), SpOk N p) (h4 : e[4]? = some (some (shp B (qs.map spD)))) (h10 : e[10]? = some (some (.int r)))
    (h12 : e[12]? = some (some (.lst (lI (fsts (qs.map (·.2)) r 0 (N + 1)))))) (h13 : e[13]? = some (some (.lst (lI (lsts (qs.map (·.2)) r 0 (N + 1)))))) :
    lw19 ⟨e, ς⟩ = some (.ok .nx ⟨e, ς⟩) := by
  obtain ⟨i1, i2⟩ := over_all hp r hr
  have hL := fsts_len (qs.map (·.2)) r N
  refine chk_nx (.tup ((osF r none (stepsN (qs.map (·.2)) N)).map tupI)) (acons2 ?_ ?_) (pl_steps 5 _ ?_)
  · simp [h4, h10, over_ev B qs N r ς hf (by omega) (by omega) hp]
  · rw [i1, zip_idx i2]
    generalize fsts (qs.map (·.2)) r 0 (N + 1) = F at h12 hL i2 ⊢
    generalize lsts (qs.map (·.2)) r 0 (N + 1) = L at h13 i2 ⊢
    have q := lcK_m (ς := ς) (e := e) (i := 16) (te := bnd (acons (op2 fIx (name 12) (name 16)) (acons (op2 (fAdd false) (op2 fIx (name 13) (name 16)) (ret (.int 1))) anil)) tupD) (f := fun (k : Nat) => D.int k) (out := fun (k : Nat) => tupI (F.getD k 0, L.getD k 0 + 1)) (xs := List.range F.length) (small_of (by simp; omega)) (by
      intro k hk
      have hk := List.mem_range.mp hk
      have a1 := lI_at (F := F) hk
      have a2 := lI_at (F := L) (k := k) (by omega)
      simp [h12, h13, set_at he, a1, a2, tupI])
    have s := rng1F_n (s := ⟨e, ς⟩) (j := F.length) (by omega)
    simp [lcM_s, h12, lI_len, s, rngL_0, q, -List.map_map]
  · refine Nat.le_trans (osF_len r none _) ?_
    have := stepsN_len (qs.map (·.2)) N
    omega
theorem st20 (hl : qs.length ≤ 1000) (hp : ∀ p ∈ qs.map (·.2), SpOk N p) (h4 : e[4]? = some (some (shp B (qs.map spD)))) (h5 : e[5]? = some (some (.lst (lI (Cs (qs.map (·.2)) N))))) :
    lw20 ⟨e, ς⟩ = some (.ok .nx ⟨e, ς⟩) := by
  have hs := sold_all hp
  rw [List.map_map] at hs
  have hs' : (qs.map fun q => q.2.2 - q.2.1).sum = (Cs (qs.map (·.2)) N).sum := hs
  refine chk_nx (.int (Cs (qs.map (·.2)) N).sum) (acons2 ?_ ?_) rfl
  · rw [← hs']
    simp [h4, sold_ev B qs ς (by omega)]
  · unfold lI at h5
    simp [h5, -List.map_map]
theorem cut_Cs (ps : Sps) (N : Nat) (f l : Int) (h0 : 0 ≤ f) (h1 : f < l) (h2 : l ≤ N) : cutL (lI (Cs ps N)) (some f) (some l) = (List.range (l - f).toNat).map fun (k : Nat) => D.int (cum ps (f + k)) := by
  obtain ⟨a, rfl⟩ := Int.eq_ofNat_of_zero_le h0
  obtain ⟨b, rfl⟩ := Int.eq_ofNat_of_zero_le (show 0 ≤ l by omega)
  unfold cutL
  rw [lI_len, Cs_len, HT.sIx_nat, HT.sIx_nat, Nat.min_eq_left (by omega), Nat.min_eq_left (by omega), Cs_map]
  apply List.ext_getElem?
  intro i
  by_cases hi : i < b - a
  · have h3 : (((b : Int) - a).toNat) = b - a := by omega
    have h4 : a + i < N + 1 := by omega
    have h5 : i < ((b : Int) - a).toNat := by omega
    rw [List.getElem?_take_of_lt hi, List.getElem?_drop]
    rw [h3, List.getElem?_map, List.getElem?_map, List.getElem?_range hi, List.getElem?_range h4]
    simp
  · rw [List.getElem?_eq_none (by simp; omega), List.getElem?_eq_none (by simp; omega)]
theorem st21 (sc : List Int) (a b c : Int) (ha : 0 ≤ a) (hN : 1 ≤ N) (hN' : N ≤ 60) (h1 : e[1]? = some (some (.loc 0))) (h2 : e[2]? = some (some (.int N))) :
    ∃ (p : Int × Int) (a' b' c' : Int), SpOk N p ∧ lw21 ⟨e, [RowO sc a b c]⟩ = some (.ok .nx ⟨e.set 14 (some (tupI p)), [RowO sc a' b' c']⟩) := by
  obtain ⟨p, a1, b1, c1, h3, h4, h5⟩ := span_ev sc a b c N N [] ha (by omega) (by omega) (by omega) (by omega)
  refine ⟨p, a1, b1, c1, h3, ?_⟩
  unfold lw21
  simp [h1, h2, h5]
theorem st22 {p : Int × Int} (hf : sflat ς = true) (hN : N ≤ 60) (hl : qs.length ≤ 1000) (hp : ∀ p ∈ qs.map (·.2), SpOk N p) (hq : SpOk N p) (h4 : e[4]? = some (some (shp B (qs.map spD)))) (h5 : e[5]? = some (some (.lst (lI (Cs (qs.map (·.2)) N))))) (h14 : e[14]? = some (some (tupI p))) :
    lw22 ⟨e, ς⟩ = some (.ok (.rt (.bl true)) ⟨e, ς⟩) := by
  unfold SpOk at hq
  have r := row_ev B qs p.1 p.2 ς hf (fun p h => (hp p h).2.1) (by omega) hq.1 (by omega)
  have cc := cut_Cs (qs.map (·.2)) N p.1 p.2 hq.1 hq.2.1 hq.2.2
  have al := alike_refl 7 (.tup ((List.range (p.2 - p.1).toNat).map fun (k : Nat) => D.int (cum (qs.map (·.2)) (p.1 + k)))) ς (by
    unfold plD
    rw [Bool.and_eq_true, List.all_eq_true]
    refine ⟨small_of (by simp; omega), fun d hd => ?_⟩
    obtain ⟨k, _, rfl⟩ := List.mem_map.mp hd
    rfl)
  have sl : slAf false (.lst (lI (Cs (qs.map (·.2)) N))) (some p.1) (some p.2) ⟨e, ς⟩ = some (.ok (.lst (cutL (lI (Cs (qs.map (·.2)) N)) (some p.1) (some p.2))) ⟨e, ς⟩) := rfl
  rw [cc] at sl
  have sA : ∀ (own : Bool) (m : M D) (ml mh : M (Option Int)) (s : S), slA own m ml mh s = bnd m (fun d => bnd ml fun lo => bnd mh fun hi => slAf own d lo hi) s := fun _ _ _ _ _ => rfl
  have oI : ∀ (m : M D) (s : S), oInt m s = bnd m (fun d => match d with
    | .int i => ret (some i)
    | _ => fail) s := fun _ _ => rfl
  unfold tupI at h14
  unfold lw22
  simp [h4, h5, h14, r, sA, oI, sl, al]
end
theorem law_true (ns : List Int) : ns.length ≤ 63 → ∃ ς, m_law [.rdl (ns.map .int)] [] = some (.ok (.bl true) ς) := by
  intro _
  have z1 : lw1 ⟨startD 17 [.rdl (ns.map .int)], []⟩ = some (.ok .nx ⟨(startD 17 [.rdl (ns.map .int)]).set 1 (some (.loc 0)), [RowO ns 0 31 0]⟩) := by
    unfold lw1 RowO
    simp [startD]
  obtain ⟨v, a2, b2, c2, k1, k2, k3, k4⟩ := taken_ev ns 0 31 0 60 [] (by omega) (by omega) (by omega)
  obtain ⟨N, hN⟩ := Int.eq_ofNat_of_zero_le (show 0 ≤ 1 + v by omega)
  obtain ⟨w, a3, b3, c3, l1, l2, l3, l4⟩ := taken_ev ns a2 b2 c2 31 [] k3 (by omega) (by omega)
  obtain ⟨u, a4, b4, c4, m1, m2, m3, m4⟩ := taken_ev ns a3 b3 c3 20 [] l3 (by omega) (by omega)
  obtain ⟨ps, a5, b5, c5, hp, hpl, n1, n2⟩ := spans_ev ns a4 b4 c4 w N (1 + u) [] rfl m3 l1 (by omega) (by omega) (by omega) (by omega) (by omega)
  obtain ⟨B, qs, a6, b6, c6, hq, n3, n4⟩ := handed_ev ns a5 b5 c5 ps [] n1 (by omega)
  have hql : qs.length ≤ 1000 := by
    have := congrArg List.length hq
    rw [List.length_map] at this
    omega
  subst hq
  have f6 : ∀ a b c : Int, sflat [RowO ns a b c] = true := fun a b c => row_flat ns a b c rfl
  have hN' : N ≤ 60 := by omega
  have z2 : lw2 ⟨(startD 17 [.rdl (ns.map .int)]).set 1 (some (.loc 0)), [RowO ns 0 31 0]⟩ = some (.ok .nx ⟨((startD 17 [.rdl (ns.map .int)]).set 1 (some (.loc 0))).set 2 (some (.int N)), [RowO ns a2 b2 c2]⟩) := by
    rw [← hN]
    unfold lw2
    simp [startD, k4]
  have z3 : lw3 ⟨((startD 17 [.rdl (ns.map .int)]).set 1 (some (.loc 0))).set 2 (some (.int N)), [RowO ns a2 b2 c2]⟩ = some (.ok .nx ⟨(((startD 17 [.rdl (ns.map .int)]).set 1 (some (.loc 0))).set 2 (some (.int N))).set 3 (some (.lst ((qs.map (·.2)).map tupI))), [RowO ns a5 b5 c5]⟩) := by
    unfold lw3
    simp [startD, l4, m4, n2, -List.map_map]
  have z4 : lw4 ⟨(((startD 17 [.rdl (ns.map .int)]).set 1 (some (.loc 0))).set 2 (some (.int N))).set 3 (some (.lst ((qs.map (·.2)).map tupI))), [RowO ns a5 b5 c5]⟩ = some (.ok .nx ⟨((((startD 17 [.rdl (ns.map .int)]).set 1 (some (.loc 0))).set 2 (some (.int N))).set 3 (some (.lst ((qs.map (·.2)).map tupI)))).set 4 (some (shp B (qs.map spD))), [RowO ns a6 b6 c6]⟩) := by
    unfold lw4
    simp [startD, n4, -List.map_map]
  rw [m_law_seq, mdef_s, sq_nx z1, sq_nx z2, sq_nx z3, sq_nx z4]
  rw [sq_nx (st5 rfl hN' (by rw [List.length_map]; exact hql) hp rfl rfl)]
  rw [sq_nx (st6 rfl hN' hql hp rfl rfl rfl)]
  rw [sq_nx (st7 hN' rfl)]
  rw [sq_nx (st8 rfl hN' hp rfl rfl rfl)]
  rw [sq_nx (st9 (f6 _ _ _) hN' hql hp rfl rfl)]
  rw [sq_nx (st10 hp rfl)]
  rw [sq_nx st11]
  rw [sq_nx (st12 hp rfl rfl rfl)]
  rw [sq_nx (st13 (f6 _ _ _) hql hp rfl rfl)]
  obtain ⟨r, a7, b7, c7, hr, g1, g2⟩ := st14 (e := ((((((((((startD 17 [.rdl (ns.map .int)]).set 1 (some (.loc 0))).set 2 (some (.int N))).set 3 (some (.lst ((qs.map (·.2)).map tupI)))).set 4 (some (shp B (qs.map spD)))).set 5 (some (.lst (lI (Cs (qs.map (·.2)) N))))).set 6 (some (.lst (.int 0 :: lI (Cs (qs.map (·.2)) N))))).set 7 (some (.lst ((stepsN (qs.map (·.2)) N).map tupI)))).set 8 (some (.int (maxL 0 (Cs (qs.map (·.2)) N))))).set 9 (some (.tup [.int 0, .non]))).set 9 (some (.tup [.int (pkF (0, none) (stepsN (qs.map (·.2)) N)).1, optN (pkF (0, none) (stepsN (qs.map (·.2)) N)).2]))) ns a6 b6 c6 _ n3 (maxL_ge _ _) rfl rfl
  rw [sq_nx g2]
  rw [sq_nx (st15 rfl hN' rfl rfl rfl)]
  rw [sq_nx (st16 hr (f6 _ _ _) hN' hql hp rfl rfl rfl)]
  rw [sq_nx (st17 hr rfl hN' hp rfl)]
  rw [sq_nx (st18 hr rfl hN' hp rfl)]
  rw [sq_nx (st19 hr rfl (f6 _ _ _) hN' hql hp rfl rfl rfl rfl)]
  rw [sq_nx (st20 hql hp rfl rfl)]
  generalize eE : (List.set _ 13 _ : List (Option D)) = E
  have x1 : E[1]? = some (some (.loc 0)) := by rw [← eE]; rfl
  have x2 : E[2]? = some (some (.int N)) := by rw [← eE]; rfl
  have x4 : E[4]? = some (some (shp B (qs.map spD))) := by rw [← eE]; rfl
  have x5 : E[5]? = some (some (.lst (lI (Cs (qs.map (·.2)) N)))) := by rw [← eE]; rfl
  obtain ⟨p, a8, b8, c8, hq, g3⟩ := st21 (e := E) ns a7 b7 c7 g1 (by omega) hN' x1 x2
  have hE : E.length = 17 := by rw [← eE]; rfl
  rw [sq_nx g3, st22 (f6 _ _ _) hN' hql hp hq (by rw [List.getElem?_set_ne (by omega)]; exact x4) (by rw [List.getElem?_set_ne (by omega)]; exact x5) (set_at hE (by omega) _)]
  exact ⟨_, rfl⟩
end Lw

/-! from k03G.lean -/
set_option Elab.async false
set_option linter.all false
set_option maxRecDepth 100000
set_option maxHeartbeats 4000000
namespace Lw
open PySem L2 DL
def top (i : Nat) : Stmt := PySem.Challenge.pw_keptnights_k03_whole_loads.main.body.getD i (.Pass ⟨0, 0, 0, 0⟩)
abbrev s_span_length : Stmt := top 1
abbrev N_span_length : List Str := ["span"]
theorem sc_span_length : FnScope N_span_length ["span"] (defScope s_span_length) := ⟨rfl, rfl, rfl, by decide +kernel, rfl, by decide +kernel, by decide +kernel⟩
abbrev s_has_night : Stmt := top 2
abbrev N_has_night : List Str := ["span", "night"]
theorem sc_has_night : FnScope N_has_night ["span", "night"] (defScope s_has_night) := ⟨rfl, rfl, rfl, by decide +kernel, rfl, by decide +kernel, by decide +kernel⟩
abbrev s_load : Stmt := top 4
abbrev N_load : List Str := ["spans", "night", "span"]
theorem sc_load : FnScope N_load ["spans", "night"] (defScope s_load) := ⟨rfl, rfl, rfl, by decide +kernel, rfl, by decide +kernel, by decide +kernel⟩
abbrev s_load_steps : Stmt := top 5
abbrev N_load_steps : List Str := ["spans", "changes", "steps", "present", "night", "first", "leave"]
theorem sc_load_steps : FnScope N_load_steps ["spans"] (defScope s_load_steps) := ⟨rfl, rfl, rfl, by decide +kernel, rfl, by decide +kernel, by decide +kernel⟩
abbrev s_peak : Stmt := top 6
abbrev N_peak : List Str := ["spans", "most", "found", "night", "many"]
theorem sc_peak : FnScope N_peak ["spans"] (defScope s_peak) := ⟨rfl, rfl, rfl, by decide +kernel, rfl, by decide +kernel, by decide +kernel⟩
abbrev s_first_over : Stmt := top 7
abbrev N_first_over : List Str := ["spans", "rooms", "night", "many"]
theorem sc_first_over : FnScope N_first_over ["spans", "rooms"] (defScope s_first_over) := ⟨rfl, rfl, rfl, by decide +kernel, rfl, by decide +kernel, by decide +kernel⟩
abbrev s_over_spans : Stmt := top 8
abbrev N_over_spans : List Str := ["spans", "rooms", "found", "begun", "night", "many"]
theorem sc_over_spans : FnScope N_over_spans ["spans", "rooms"] (defScope s_over_spans) := ⟨rfl, rfl, rfl, by decide +kernel, rfl, by decide +kernel, by decide +kernel⟩
abbrev s_nights_sold : Stmt := top 9
abbrev N_nights_sold : List Str := ["spans", "span"]
theorem sc_nights_sold : FnScope N_nights_sold ["spans"] (defScope s_nights_sold) := ⟨rfl, rfl, rfl, by decide +kernel, rfl, by decide +kernel, by decide +kernel⟩
abbrev s_load_row : Stmt := top 10
abbrev N_load_row : List Str := ["spans", "first", "leave", "changes", "row", "present", "k", "begin", "end"]
theorem sc_load_row : FnScope N_load_row ["spans", "first", "leave"] (defScope s_load_row) := ⟨rfl, rfl, rfl, by decide +kernel, rfl, by decide +kernel, by decide +kernel⟩
abbrev s__law_taken : Stmt := top 12
abbrev N__law_taken : List Str := ["row", "many", "cell", "found"]
theorem sc__law_taken : FnScope N__law_taken ["row", "many"] (defScope s__law_taken) := ⟨rfl, rfl, rfl, by decide +kernel, rfl, by decide +kernel, by decide +kernel⟩
abbrev s__law_pick : Stmt := top 13
abbrev N__law_pick : List Str := ["row", "kinds"]
theorem sc__law_pick : FnScope N__law_pick ["row", "kinds"] (defScope s__law_pick) := ⟨rfl, rfl, rfl, by decide +kernel, rfl, by decide +kernel, by decide +kernel⟩
abbrev s__law_alike : Stmt := top 14
abbrev N__law_alike : List Str := ["found", "due", "k"]
theorem sc__law_alike : FnScope N__law_alike ["found", "due"] (defScope s__law_alike) := ⟨rfl, rfl, rfl, by decide +kernel, rfl, by decide +kernel, by decide +kernel⟩
abbrev s__law_span : Stmt := top 15
abbrev N__law_span : List Str := ["row", "top", "longest", "first"]
theorem sc__law_span : FnScope N__law_span ["row", "top", "longest"] (defScope s__law_span) := ⟨rfl, rfl, rfl, by decide +kernel, rfl, by decide +kernel, by decide +kernel⟩
abbrev s__law_spans : Stmt := top 16
abbrev N__law_spans : List Str := ["row", "many", "top", "longest", "found", "k"]
theorem sc__law_spans : FnScope N__law_spans ["row", "many", "top", "longest"] (defScope s__law_spans) := ⟨rfl, rfl, rfl, by decide +kernel, rfl, by decide +kernel, by decide +kernel⟩
abbrev s__law_load : Stmt := top 17
abbrev N__law_load : List Str := ["spans", "night", "span"]
theorem sc__law_load : FnScope N__law_load ["spans", "night"] (defScope s__law_load) := ⟨rfl, rfl, rfl, by decide +kernel, rfl, by decide +kernel, by decide +kernel⟩
abbrev s__law_mixed : Stmt := top 18
abbrev N__law_mixed : List Str := ["row", "value"]
theorem sc__law_mixed : FnScope N__law_mixed ["row", "value"] (defScope s__law_mixed) := ⟨rfl, rfl, rfl, by decide +kernel, rfl, by decide +kernel, by decide +kernel⟩
abbrev s__law_handed : Stmt := top 19
abbrev N__law_handed : List Str := ["row", "spans", "span"]
theorem sc__law_handed : FnScope N__law_handed ["row", "spans"] (defScope s__law_handed) := ⟨rfl, rfl, rfl, by decide +kernel, rfl, by decide +kernel, by decide +kernel⟩
abbrev s_law : Stmt := top 20
abbrev N_law : List Str := ["script", "row", "size", "spans", "handed", "counts", "before", "steps", "most", "due", "rooms", "over", "firsts", "lasts", "part", "night", "k"]
theorem sc_law : FnScope N_law ["script"] (defScope s_law) := ⟨rfl, rfl, rfl, by decide +kernel, rfl, by decide +kernel, by decide +kernel⟩
structure Txt (mg : Str → Option Value) : Prop where
  b_bool : mg "bool" = none
  b_int : mg "int" = none
  b_isinstance : mg "isinstance" = none
  b_len : mg "len" = none
  b_list : mg "list" = none
  b_max : mg "max" = none
  b_min : mg "min" = none
  b_range : mg "range" = none
  b_sorted : mg "sorted" = none
  b_str : mg "str" = none
  b_sum : mg "sum" = none
  b_tuple : mg "tuple" = none
section
variable {P : Program} {w : World} {K : PySem.W.Frag} {mg : Str → Option Value} {base : Heap}
set_option maxHeartbeats 8000000 in
theorem ok_span_length {f : Addr} {fd : FuncData} (F : Fun K "span_length" "span_length" s_span_length f fd) (T : Txt mg)  : FnOk P w K mg base (L2.CX P w) 1 f fd ["span"] (spF K 1 m_span_length) :=
  fn_def (k := 0) F sc_span_length fun cdv A outer s H E hr => by
    exact ((d_one (d_ret (d_op op_sub s_sub (d_ix ix_seq s_ix (d_name 0) d_int fun _ _ => rfl) (d_ix ix_seq s_ix (d_name 0) d_int fun _ _ => rfl)))))
set_option maxHeartbeats 8000000 in
theorem ok_has_night {f : Addr} {fd : FuncData} (F : Fun K "has_night" "has_night" s_has_night f fd) (T : Txt mg)  : FnOk P w K mg base (L2.CX P w) 1 f fd ["span", "night"] (spF K 2 m_has_night) :=
  fn_def (k := 0) F sc_has_night fun cdv A outer s H E hr => by
    exact ((d_one (d_ret (d_chain op_le op_lt s_le s_lt (d_ix ix_seq s_ix (d_name 0) d_int fun _ _ => rfl) (d_name 1) (d_ix ix_seq s_ix (d_name 0) d_int fun _ _ => rfl)))))
set_option maxHeartbeats 8000000 in
theorem ok_load {f : Addr} {fd : FuncData} (F : Fun K "load" "load" s_load f fd) (T : Txt mg) (C_has_night : Cal P w K mg base 1 "has_night" 2 m_has_night) : FnOk P w K mg base (L2.CX P w) 2 f fd ["spans", "night"] (spF K 2 m_load) :=
  fn_def (k := 1) F sc_load fun cdv A outer s H E hr => by
    exact ((d_one (d_ret (d_callB (cr_sum rfl) s_sum T.b_sum (by decide +kernel) (d_acons (d_lc false (ow := [("span", 2)]) rfl sc_load.nd (i_seq (d_name 0)) (blkOk_by (N := N_load) (sc := defScope s_load) (by decide +kernel)) (fun _ _ _ _ _ => (g_name 2 sc_load.nd)) (fun _ _ _ _ _ => (d_ts1 (d_tst (d_call C_has_night (hr.mono (by decide)) passL rfl (d_acons (d_name 2) (d_acons (d_name 1) d_anil)) rfl (len_cons (len_cons (fun _ _ _ h => len_nil h))))))) (fun _ _ _ _ _ => d_int)) d_anil)))))
set_option maxHeartbeats 8000000 in
theorem ok_load_steps {f : Addr} {fd : FuncData} (F : Fun K "load_steps" "load_steps" s_load_steps f fd) (T : Txt mg)  : FnOk P w K mg base (L2.CX P w) 1 f fd ["spans"] (spF K 1 m_load_steps) :=
  fn_def (k := 0) F sc_load_steps fun cdv A outer s H E hr => by
    exact ((d_cons (d_set 1 d_newD sc_load_steps.nd)
    (d_cons (d_for (passes_of rfl) rfl (i_seq (d_name 0)) (g_tup 2 rfl (g_cons (g_name 5 sc_load_steps.nd) (g_cons (g_name 6 sc_load_steps.nd) g_nil)))
    (d_cons (d_putD (hu_of hr) (d_op op_addA (s_add false) (d_get2D (hu_of hr) (d_name 1) (d_name 5) d_int) d_int) (d_name 1) (d_name 5))
    (d_one (d_putD (hu_of hr) (d_op op_sub s_sub (d_get2D (hu_of hr) (d_name 1) (d_name 6) d_int) d_int) (d_name 1) (d_name 6)))))
    (d_cons (d_set 2 (d_lst true d_anil) sc_load_steps.nd)
    (d_cons (d_set 3 d_int sc_load_steps.nd)
    (d_cons (d_for (passes_of rfl) rfl (i_seq (d_callB cr_sortedI (s_sortI false) T.b_sorted (by decide +kernel) (d_acons (d_callTy (call_list_dK rfl) (s_listD false) T.b_list (by decide +kernel) (d_acons (d_name 1) d_anil)) d_anil))) (g_name 4 sc_load_steps.nd)
    (d_one (d_if (d_tcmp (op_neD hr.units) s_ne (d_getD (hu_of hr) (d_name 1) (d_name 4)) d_int (nomark _))
    (d_cons (d_set 3 (d_op op_addA (s_add false) (d_name 3) (d_getD (hu_of hr) (d_name 1) (d_name 4))) sc_load_steps.nd)
    (d_one (d_expr (d_mthL PySem.F.slot_list_append PySem.F.type_list_append mt_append s_append (d_name 2) (d_acons (d_tup (d_acons (d_name 4) (d_acons (d_name 3) d_anil))) d_anil)))))
    d_nil)))
    (d_one (d_ret (d_callTy call_tuple_of s_tuple T.b_tuple (by decide +kernel) (d_acons (d_name 2) d_anil))))))))))
set_option maxHeartbeats 8000000 in
theorem ok_peak {f : Addr} {fd : FuncData} (F : Fun K "peak" "peak" s_peak f fd) (T : Txt mg) (C_load_steps : Cal P w K mg base 1 "load_steps" 1 m_load_steps) : FnOk P w K mg base (L2.CX P w) 2 f fd ["spans"] (spF K 1 m_peak) :=
  fn_def (k := 1) F sc_peak fun cdv A outer s H E hr => by
    exact ((d_cons (d_set 1 d_int sc_peak.nd)
    (d_cons (d_set 2 d_non sc_peak.nd)
    (d_cons (d_for (passes_of rfl) rfl (i_seq (d_call C_load_steps (hr.mono (by decide)) (passes_call (takes_of rfl rfl rfl rfl) fun _ _ _ _ h => h) rfl (d_acons (d_name 0) d_anil) rfl (len_cons (fun _ _ _ h => len_nil h)))) (g_tup 2 rfl (g_cons (g_name 3 sc_peak.nd) (g_cons (g_name 4 sc_peak.nd) g_nil)))
    (d_one (d_if (d_tcmp op_gt s_gt (d_name 4) (d_name 1) (nomark _))
    (d_cons (d_set 1 (d_name 4) sc_peak.nd)
    (d_one (d_set 2 (d_name 3) sc_peak.nd)))
    d_nil)))
    (d_one (d_ret (d_tup (d_acons (d_name 1) (d_acons (d_name 2) d_anil)))))))))
set_option maxHeartbeats 8000000 in
theorem ok_first_over {f : Addr} {fd : FuncData} (F : Fun K "first_over" "first_over" s_first_over f fd) (T : Txt mg) (C_load_steps : Cal P w K mg base 1 "load_steps" 1 m_load_steps) : FnOk P w K mg base (L2.CX P w) 2 f fd ["spans", "rooms"] (spF K 2 m_first_over) :=
  fn_def (k := 1) F sc_first_over fun cdv A outer s H E hr => by
    exact ((d_cons (d_for (passes_of rfl) rfl (i_seq (d_call C_load_steps (hr.mono (by decide)) (passes_call (takes_of rfl rfl rfl rfl) fun _ _ _ _ h => h) rfl (d_acons (d_name 0) d_anil) rfl (len_cons (fun _ _ _ h => len_nil h)))) (g_tup 2 rfl (g_cons (g_name 2 sc_first_over.nd) (g_cons (g_name 3 sc_first_over.nd) g_nil)))
    (d_one (d_if (d_tcmp op_gt s_gt (d_name 3) (d_name 1) (nomark _))
    (d_one (d_ret (d_name 2)))
    d_nil)))
    (d_one (d_ret d_non))))
set_option maxHeartbeats 8000000 in
theorem ok_over_spans {f : Addr} {fd : FuncData} (F : Fun K "over_spans" "over_spans" s_over_spans f fd) (T : Txt mg) (C_load_steps : Cal P w K mg base 1 "load_steps" 1 m_load_steps) : FnOk P w K mg base (L2.CX P w) 2 f fd ["spans", "rooms"] (spF K 2 m_over_spans) :=
  fn_def (k := 1) F sc_over_spans fun cdv A outer s H E hr => by
    exact ((d_cons (d_set 2 (d_lst true d_anil) sc_over_spans.nd)
    (d_cons (d_set 3 d_non sc_over_spans.nd)
    (d_cons (d_for (passes_of rfl) rfl (i_seq (d_call C_load_steps (hr.mono (by decide)) (passes_call (takes_of rfl rfl rfl rfl) fun _ _ _ _ h => h) rfl (d_acons (d_name 0) d_anil) rfl (len_cons (fun _ _ _ h => len_nil h)))) (g_tup 2 rfl (g_cons (g_name 4 sc_over_spans.nd) (g_cons (g_name 5 sc_over_spans.nd) g_nil)))
    (d_one (d_if (PW.pt (d_and (d_tcmp op_gt s_gt (d_name 5) (d_name 1) (nomark _)) (d_and1 (d_tcmp op_isN s_isN (d_name 3) d_non (nomark _)))))
    (d_one (d_set 3 (d_name 4) sc_over_spans.nd))
    (d_one (d_if (PW.pt (d_and (d_tcmp op_le s_le (d_name 5) (d_name 1) (nomark _)) (d_and1 (d_tcmp op_notN s_notN (d_name 3) d_non (nomark _)))))
    (d_cons (d_expr (d_mthL PySem.F.slot_list_append PySem.F.type_list_append mt_append s_append (d_name 2) (d_acons (d_tup (d_acons (d_name 3) (d_acons (d_name 4) d_anil))) d_anil)))
    (d_one (d_set 3 d_non sc_over_spans.nd)))
    d_nil)))))
    (d_one (d_ret (d_callTy call_tuple_of s_tuple T.b_tuple (by decide +kernel) (d_acons (d_name 2) d_anil))))))))
set_option maxHeartbeats 8000000 in
theorem ok_nights_sold {f : Addr} {fd : FuncData} (F : Fun K "nights_sold" "nights_sold" s_nights_sold f fd) (T : Txt mg) (C_span_length : Cal P w K mg base 1 "span_length" 1 m_span_length) : FnOk P w K mg base (L2.CX P w) 2 f fd ["spans"] (spF K 1 m_nights_sold) :=
  fn_def (k := 1) F sc_nights_sold fun cdv A outer s H E hr => by
    exact ((d_one (d_ret (d_callB (cr_sum rfl) s_sum T.b_sum (by decide +kernel) (d_acons (d_lc false (ow := [("span", 1)]) rfl sc_nights_sold.nd (i_seq (d_name 0)) (blkOk_by (N := N_nights_sold) (sc := defScope s_nights_sold) (by decide +kernel)) (fun _ _ _ _ _ => (g_name 1 sc_nights_sold.nd)) (fun _ _ _ _ _ => d_ts0) (fun _ _ _ _ _ => (d_call C_span_length (hr.mono (by decide)) passL rfl (d_acons (d_name 1) d_anil) rfl (len_cons (fun _ _ _ h => len_nil h))))) d_anil)))))
set_option maxHeartbeats 8000000 in
theorem ok_load_row {f : Addr} {fd : FuncData} (F : Fun K "load_row" "load_row" s_load_row f fd) (T : Txt mg)  : FnOk P w K mg base (L2.CX P w) 1 f fd ["spans", "first", "leave"] (spF K 3 m_load_row) :=
  fn_def (k := 0) F sc_load_row fun cdv A outer s H E hr => by
    exact ((d_cons (d_set 3 (d_op op_mulA (s_mul true) (d_lst false (d_acons d_int d_anil)) (d_op op_addA (s_add false) (d_op op_sub s_sub (d_name 2) (d_name 1)) d_int)) sc_load_row.nd)
    (d_cons (d_for (passes_of rfl) rfl (i_seq (d_name 0)) (g_tup 2 rfl (g_cons (g_name 7 sc_load_row.nd) (g_cons (g_name 8 sc_load_row.nd) g_nil)))
    (d_cons (d_set 7 (d_callB (call_max2 rfl) s_max2 T.b_max (by decide +kernel) (d_acons (d_name 7) (d_acons (d_name 1) d_anil))) sc_load_row.nd)
    (d_cons (d_set 8 (d_callB (call_min2 rfl) s_min2 T.b_min (by decide +kernel) (d_acons (d_name 8) (d_acons (d_name 2) d_anil))) sc_load_row.nd)
    (d_one (d_if (d_tcmp op_lt s_lt (d_name 7) (d_name 8) (nomark _))
    (d_cons (d_augL ip_add (d_name 3) (d_op op_sub s_sub (d_name 7) (d_name 1)) d_int)
    (d_one (d_augL ip_sub (d_name 3) (d_op op_sub s_sub (d_name 8) (d_name 1)) d_int)))
    d_nil)))))
    (d_cons (d_set 4 (d_lst true d_anil) sc_load_row.nd)
    (d_cons (d_set 5 d_int sc_load_row.nd)
    (d_cons (d_for (passes_of rfl) rfl (i_rng1 T.b_range (d_acons (d_op op_sub s_sub (d_name 2) (d_name 1)) d_anil)) (g_name 6 sc_load_row.nd)
    (d_cons (d_set 5 (d_op op_addA (s_add false) (d_name 5) (d_ix ix_seq s_ix (d_name 3) (d_name 6) fun _ _ => rfl)) sc_load_row.nd)
    (d_one (d_expr (d_mthL PySem.F.slot_list_append PySem.F.type_list_append mt_append s_append (d_name 4) (d_acons (d_name 5) d_anil))))))
    (d_one (d_ret (d_callTy call_tuple_of s_tuple T.b_tuple (by decide +kernel) (d_acons (d_name 4) d_anil))))))))))
set_option maxHeartbeats 8000000 in
theorem ok__law_taken {f : Addr} {fd : FuncData} (F : Fun K "_law_taken" "_law_taken" s__law_taken f fd) (T : Txt mg)  : FnOk P w K mg base (L2.CX P w) 1 f fd ["row", "many"] (spF K 2 m__law_taken) :=
  fn_def (k := 0) F sc__law_taken fun cdv A outer s H E hr => by
    exact ((d_cons (d_if (d_tcmp op_gt s_gt (d_ix ix_seq s_ix (d_name 0) d_int fun _ _ => rfl) d_int (nomark _))
    (d_cons (d_set 3 (d_op op_modN s_mod (d_callTy call_int1 s_int T.b_int (by decide +kernel) (d_acons (d_ix ix_seq s_ix (d_name 0) d_int fun _ _ => rfl) d_anil)) (d_name 1)) sc__law_taken.nd)
    (d_cons (d_setL (d_op op_fdivN s_div (d_ix ix_seq s_ix (d_name 0) d_int fun _ _ => rfl) (d_name 1)) (d_name 0) d_int)
    (d_one (d_ret (d_name 3)))))
    d_nil)
    (d_cons (d_setL (d_op op_addA (s_add false) (d_ix ix_seq s_ix (d_name 0) d_int fun _ _ => rfl) d_int) (d_name 0) d_int)
    (d_cons (d_if (d_tcmp op_gt s_gt (d_ix ix_seq s_ix (d_name 0) d_int fun _ _ => rfl) (d_callB call_len s_len T.b_len (by decide +kernel) (d_acons (d_ix ix_seq s_ix (d_name 0) d_int fun _ _ => rfl) d_anil)) (nomark _))
    (d_cons (d_setL (d_op op_modN s_mod (d_callTy call_int1 s_int T.b_int (by decide +kernel) (d_acons (d_op op_addA (s_add false) (d_op op_mulA (s_mul false) (d_ix ix_seq s_ix (d_name 0) d_int fun _ _ => rfl) d_int) d_int) d_anil)) d_int) (d_name 0) d_int)
    (d_one (d_ret (d_op op_modN s_mod (d_callTy call_int1 s_int T.b_int (by decide +kernel) (d_acons (d_op op_fdivN s_div (d_ix ix_seq s_ix (d_name 0) d_int fun _ _ => rfl) d_int) d_anil)) (d_name 1)))))
    d_nil)
    (d_cons (d_set 2 (d_ix ix_seq s_ix (d_ix ix_seq s_ix (d_name 0) d_int fun _ _ => rfl) (d_op op_sub s_sub (d_ix ix_seq s_ix (d_name 0) d_int fun _ _ => rfl) d_int) fun _ _ => rfl) sc__law_taken.nd)
    (d_cons (d_setL (d_op op_modN s_mod (d_callTy call_int1 s_int T.b_int (by decide +kernel) (d_acons (d_op op_addA (s_add false) (d_op op_addA (s_add false) (d_op op_mulA (s_mul false) (d_ix ix_seq s_ix (d_name 0) d_int fun _ _ => rfl) d_int) (d_name 2)) d_int) d_anil)) d_int) (d_name 0) d_int)
    (d_cons (d_if (d_tcmp op_ge s_ge (d_name 2) (d_op op_pow s_pow d_int d_int) (nomark _))
    (d_one (d_setL (d_op op_fdivN s_div (d_name 2) (d_name 1)) (d_name 0) d_int))
    d_nil)
    (d_one (d_ret (d_op op_modN s_mod (d_callTy call_int1 s_int T.b_int (by decide +kernel) (d_acons (d_name 2) d_anil)) (d_name 1)))))))))))
set_option maxHeartbeats 8000000 in
theorem ok__law_pick {f : Addr} {fd : FuncData} (F : Fun K "_law_pick" "_law_pick" s__law_pick f fd) (T : Txt mg) (C__law_taken : Cal P w K mg base 1 "_law_taken" 2 m__law_taken) : FnOk P w K mg base (L2.CX P w) 2 f fd ["row", "kinds"] (spF K 2 m__law_pick) :=
  fn_def (k := 1) F sc__law_pick fun cdv A outer s H E hr => by
    exact ((d_one (d_ret (d_ix ix_seq s_ix (d_name 1) (d_call C__law_taken (hr.mono (by decide)) (passes_call (takes_of rfl rfl rfl rfl) fun _ _ _ _ h => h) rfl (d_acons (d_name 0) (d_acons (d_callB call_len s_len T.b_len (by decide +kernel) (d_acons (d_name 1) d_anil)) d_anil)) rfl (len_cons (len_cons (fun _ _ _ h => len_nil h)))) fun _ _ => rfl))))
set_option maxHeartbeats 8000000 in
theorem ok__law_alike {f : Addr} {fd : FuncData} (F : Fun K "_law_alike" "_law_alike" s__law_alike f fd) (T : Txt mg) (hm : mg "_law_alike" = some (.ref f)) (hb : Binds K fd ["found", "due"] [])  : ∀ n, FnOk P w K mg base (L2.CX P w) (n + 1) f fd ["found", "due"] (spF K 2 (m__law_alike n))
  | 0 => ⟨fun vs H Q E h => h.1, fun A outer s H args us vs Q E _ _ _ _ h => by obtain ⟨_, _, _, _, _, _, _, _, z⟩ := h; exact z.elim⟩
  | n + 1 => by
    have C__law_alike : Cal P w K mg base (n + 1) "_law_alike" 2 (m__law_alike n) := ⟨f, fd, ["found", "due"], hm, F.kp, hb, rfl, ok__law_alike F T hm hb  n⟩
    have q : FnOk P w K mg base (L2.CX P w) (n + 1 + 1) f fd ["found", "due"] (spF K 2 (m__law_alike (n + 1))) := fn_def (k := n + 1) F sc__law_alike fun cdv A outer s H E hr => by
      exact ((d_cons (d_if (d_tst (d_isiT T.b_isinstance (d_name 1) (pa_tys T.b_tuple (by decide +kernel) (pa_tys T.b_list (by decide +kernel) pa_tys0))))
    (d_cons (d_if (PW.pt (d_or (d_not (d_tst (d_isiT T.b_isinstance (d_name 0) (pa_tys T.b_tuple (by decide +kernel) (pa_tys T.b_list (by decide +kernel) pa_tys0))))) (d_or1 (d_tcmp (op_neD hr.units) s_ne (d_callB call_isi s_isi T.b_isinstance (by decide +kernel) (d_acons (d_name 0) (d_acons (d_ty T.b_list (by decide +kernel)) d_anil))) (d_callB call_isi s_isi T.b_isinstance (by decide +kernel) (d_acons (d_name 1) (d_acons (d_ty T.b_list (by decide +kernel)) d_anil))) (nomark _)))))
    (d_one (d_ret d_bl))
    d_nil)
    (d_cons (d_if (d_tcmp (op_neD hr.units) s_ne (d_callB call_len s_len T.b_len (by decide +kernel) (d_acons (d_name 0) d_anil)) (d_callB call_len s_len T.b_len (by decide +kernel) (d_acons (d_name 1) d_anil)) (nomark _))
    (d_one (d_ret d_bl))
    d_nil)
    (d_one (d_ret (d_cmp (op_eqD hr.units) s_eq (d_lc false (ow := [("k", 2)]) rfl sc__law_alike.nd (i_rng1 T.b_range (d_acons (d_callB call_len s_len T.b_len (by decide +kernel) (d_acons (d_name 1) d_anil)) d_anil)) (blkOk_by (N := N__law_alike) (sc := defScope s__law_alike) (by decide +kernel)) (fun _ _ _ _ _ => (g_name 2 sc__law_alike.nd)) (fun _ _ _ _ _ => (d_ts1 (d_not (d_tst (d_call C__law_alike hr passL rfl (d_acons (d_ix ix_seq s_ix (d_name 0) (d_name 2) fun _ _ => rfl) (d_acons (d_ix ix_seq s_ix (d_name 1) (d_name 2) fun _ _ => rfl) d_anil)) rfl (len_cons (len_cons (fun _ _ _ h => len_nil h)))))))) (fun _ _ _ _ _ => (d_name 2))) (d_lst false d_anil) (nomark _))))))
    d_nil)
    (d_cons (d_if (PW.pt (d_or (d_tcmp op_isN s_isN (d_name 1) d_non (nomark _)) (d_or1 (d_tst (d_callB call_isi s_isi T.b_isinstance (by decide +kernel) (d_acons (d_name 1) (d_acons (d_ty T.b_str (by decide +kernel)) d_anil)))))))
    (d_one (d_ret (d_andV (d_cmp (op_eqD hr.units) s_eq (d_name 0) (d_name 1) (nomark _)) (d_oneV (d_cmp (op_eqD hr.units) s_eq (d_callB call_isi s_isi T.b_isinstance (by decide +kernel) (d_acons (d_name 0) (d_acons (d_ty T.b_str (by decide +kernel)) d_anil))) (d_callB call_isi s_isi T.b_isinstance (by decide +kernel) (d_acons (d_name 1) (d_acons (d_ty T.b_str (by decide +kernel)) d_anil))) (nomark _))))))
    d_nil)
    (d_one (d_ret (d_andV (d_callB call_isi s_isi T.b_isinstance (by decide +kernel) (d_acons (d_name 0) (d_acons (d_ty T.b_int (by decide +kernel)) d_anil))) (d_andV (d_cmp (op_eqD hr.units) s_eq (d_callB call_isi s_isi T.b_isinstance (by decide +kernel) (d_acons (d_name 0) (d_acons (d_ty T.b_bool (by decide +kernel)) d_anil))) (d_callB call_isi s_isi T.b_isinstance (by decide +kernel) (d_acons (d_name 1) (d_acons (d_ty T.b_bool (by decide +kernel)) d_anil))) (nomark _)) (d_oneV (d_cmp (op_eqD hr.units) s_eq (d_name 0) (d_name 1) (nomark _))))))))))
    rw [show n + 1 + 1 = n + 1 + 1 by omega]
    exact q
set_option maxHeartbeats 8000000 in
theorem ok__law_span {f : Addr} {fd : FuncData} (F : Fun K "_law_span" "_law_span" s__law_span f fd) (T : Txt mg) (C__law_taken : Cal P w K mg base 1 "_law_taken" 2 m__law_taken) : FnOk P w K mg base (L2.CX P w) 2 f fd ["row", "top", "longest"] (spF K 3 m__law_span) :=
  fn_def (k := 1) F sc__law_span fun cdv A outer s H E hr => by
    exact ((d_cons (d_set 3 (d_call C__law_taken (hr.mono (by decide)) (passes_call (takes_of rfl rfl rfl rfl) fun _ _ _ _ h => h) rfl (d_acons (d_name 0) (d_acons (d_name 1) d_anil)) rfl (len_cons (len_cons (fun _ _ _ h => len_nil h)))) sc__law_span.nd)
    (d_one (d_ret (d_tup (d_acons (d_name 3) (d_acons (d_callB (call_min2 rfl) s_min2 T.b_min (by decide +kernel) (d_acons (d_name 1) (d_acons (d_op op_addA (s_add false) (d_op op_addA (s_add false) (d_name 3) d_int) (d_call C__law_taken (hr.mono (by decide)) (passes_call (takes_of rfl rfl rfl rfl) fun _ _ _ _ h => h) rfl (d_acons (d_name 0) (d_acons (d_name 2) d_anil)) rfl (len_cons (len_cons (fun _ _ _ h => len_nil h))))) d_anil))) d_anil)))))))
set_option maxHeartbeats 8000000 in
theorem ok__law_spans {f : Addr} {fd : FuncData} (F : Fun K "_law_spans" "_law_spans" s__law_spans f fd) (T : Txt mg) (C__law_span : Cal P w K mg base 2 "_law_span" 3 m__law_span) : FnOk P w K mg base (L2.CX P w) 3 f fd ["row", "many", "top", "longest"] (spF K 4 m__law_spans) :=
  fn_def (k := 2) F sc__law_spans fun cdv A outer s H E hr => by
    exact ((d_cons (d_set 4 (d_lst true d_anil) sc__law_spans.nd)
    (d_cons (d_for (passes_of rfl) rfl (i_rng1 T.b_range (d_acons (d_name 1) d_anil)) (g_name 5 sc__law_spans.nd)
    (d_one (d_expr (d_mthL PySem.F.slot_list_append PySem.F.type_list_append mt_append s_append (d_name 4) (d_acons (d_call C__law_span (hr.mono (by decide)) (passes_call (takes_of rfl rfl rfl rfl) fun _ _ _ _ h => h) rfl (d_acons (d_name 0) (d_acons (d_name 2) (d_acons (d_name 3) d_anil))) rfl (len_cons (len_cons (len_cons (fun _ _ _ h => len_nil h))))) d_anil)))))
    (d_one (d_ret (d_nameF 4))))))
set_option maxHeartbeats 8000000 in
theorem ok__law_load {f : Addr} {fd : FuncData} (F : Fun K "_law_load" "_law_load" s__law_load f fd) (T : Txt mg)  : FnOk P w K mg base (L2.CX P w) 1 f fd ["spans", "night"] (spF K 2 m__law_load) :=
  fn_def (k := 0) F sc__law_load fun cdv A outer s H E hr => by
    exact ((d_one (d_ret (d_callB call_len s_len T.b_len (by decide +kernel) (d_acons (d_lc false (ow := [("span", 2)]) rfl sc__law_load.nd (i_seq (d_name 0)) (blkOk_by (N := N__law_load) (sc := defScope s__law_load) (by decide +kernel)) (fun _ _ _ _ _ => (g_name 2 sc__law_load.nd)) (fun _ _ _ _ _ => (d_ts1 (d_tchain op_le op_lt s_le s_lt (d_ix ix_seq s_ix (d_name 2) d_int fun _ _ => rfl) (d_name 1) (d_ix ix_seq s_ix (d_name 2) d_int fun _ _ => rfl)))) (fun _ _ _ _ _ => d_int)) d_anil)))))
set_option maxHeartbeats 8000000 in
theorem ok__law_mixed {f : Addr} {fd : FuncData} (F : Fun K "_law_mixed" "_law_mixed" s__law_mixed f fd) (T : Txt mg) (C__law_taken : Cal P w K mg base 1 "_law_taken" 2 m__law_taken) : FnOk P w K mg base (L2.CX P w) 2 f fd ["row", "value"] (spF K 2 m__law_mixed) :=
  fn_def (k := 1) F sc__law_mixed fun cdv A outer s H E hr => by
    exact ((d_cons (d_if (d_tcmp (op_eqD hr.units) s_eq (d_call C__law_taken (hr.mono (by decide)) (passes_call (takes_of rfl rfl rfl rfl) fun _ _ _ _ h => h) rfl (d_acons (d_name 0) (d_acons d_int d_anil)) rfl (len_cons (len_cons (fun _ _ _ h => len_nil h)))) d_int (nomark _))
    (d_one (d_ret (d_callTy call_list_of (s_list false) T.b_list (by decide +kernel) (d_acons (d_name 1) d_anil))))
    d_nil)
    (d_one (d_ret (d_callTy call_tuple_of s_tuple T.b_tuple (by decide +kernel) (d_acons (d_name 1) d_anil))))))
set_option maxHeartbeats 8000000 in
theorem ok__law_handed {f : Addr} {fd : FuncData} (F : Fun K "_law_handed" "_law_handed" s__law_handed f fd) (T : Txt mg) (C__law_mixed : Cal P w K mg base 2 "_law_mixed" 2 m__law_mixed) : FnOk P w K mg base (L2.CX P w) 3 f fd ["row", "spans"] (spF K 2 m__law_handed) :=
  fn_def (k := 2) F sc__law_handed fun cdv A outer s H E hr => by
    exact ((d_one (d_ret (d_call C__law_mixed (hr.mono (by decide)) (passes_call (takes_of rfl rfl rfl rfl) fun _ _ _ _ h => h) rfl (d_acons (d_name 0) (d_acons (d_lc false (ow := [("span", 2)]) rfl sc__law_handed.nd (i_seq (d_name 1)) (blkOk_by (N := N__law_handed) (sc := defScope s__law_handed) (by decide +kernel)) (fun _ _ _ _ _ => (g_name 2 sc__law_handed.nd)) (fun _ _ _ _ _ => d_ts0) (fun _ _ _ _ _ => (d_call C__law_mixed (hr.mono (by decide)) passL rfl (d_acons (d_name 0) (d_acons (d_name 2) d_anil)) rfl (len_cons (len_cons (fun _ _ _ h => len_nil h)))))) d_anil)) rfl (len_cons (len_cons (fun _ _ _ h => len_nil h)))))))
set_option maxHeartbeats 8000000 in
theorem ok_law {f : Addr} {fd : FuncData} (F : Fun K "law" "law" s_law f fd) (T : Txt mg) (C__law_spans : Cal P w K mg base 3 "_law_spans" 4 m__law_spans) (C__law_handed : Cal P w K mg base 3 "_law_handed" 2 m__law_handed) (C__law_pick : Cal P w K mg base 2 "_law_pick" 2 m__law_pick) (C__law_span : Cal P w K mg base 2 "_law_span" 3 m__law_span) (C__law_alike : Cal P w K mg base 9 "_law_alike" 2 (m__law_alike 8)) (C__law_taken : Cal P w K mg base 1 "_law_taken" 2 m__law_taken) (C__law_load : Cal P w K mg base 1 "_law_load" 2 m__law_load) (C_load_row : Cal P w K mg base 1 "load_row" 3 m_load_row) (C_load_steps : Cal P w K mg base 1 "load_steps" 1 m_load_steps) (C_peak : Cal P w K mg base 2 "peak" 1 m_peak) (C_first_over : Cal P w K mg base 2 "first_over" 2 m_first_over) (C_over_spans : Cal P w K mg base 2 "over_spans" 2 m_over_spans) (C_nights_sold : Cal P w K mg base 2 "nights_sold" 1 m_nights_sold) (C_load : Cal P w K mg base 2 "load" 2 m_load) : FnOk P w K mg base (L2.CX P w) 10 f fd ["script"] (spF K 1 m_law) :=
  fn_def (k := 9) F sc_law fun cdv A outer s H E hr => by
    exact ((d_cons (d_set 1 (d_lst true (d_acons (d_name 0) (d_acons d_int (d_acons d_int (d_acons d_int d_anil))))) sc_law.nd)
    (d_cons (d_set 2 (d_op op_addA (s_add false) d_int (d_call C__law_taken (hr.mono (by decide)) (passes_call (takes_of rfl rfl rfl rfl) fun _ _ _ _ h => h) rfl (d_acons (d_name 1) (d_acons d_int d_anil)) rfl (len_cons (len_cons (fun _ _ _ h => len_nil h))))) sc_law.nd)
    (d_cons (d_set 3 (d_call C__law_spans (hr.mono (by decide)) (passes_call (takes_of rfl rfl rfl rfl) fun _ _ _ _ h => h) rfl (d_acons (d_name 1) (d_acons (d_call C__law_taken (hr.mono (by decide)) (passes_call (takes_of rfl rfl rfl rfl) fun _ _ _ _ h => h) rfl (d_acons (d_name 1) (d_acons d_int d_anil)) rfl (len_cons (len_cons (fun _ _ _ h => len_nil h)))) (d_acons (d_name 2) (d_acons (d_op op_addA (s_add false) d_int (d_call C__law_taken (hr.mono (by decide)) (passes_call (takes_of rfl rfl rfl rfl) fun _ _ _ _ h => h) rfl (d_acons (d_name 1) (d_acons d_int d_anil)) rfl (len_cons (len_cons (fun _ _ _ h => len_nil h))))) d_anil)))) rfl (len_cons (len_cons (len_cons (len_cons (fun _ _ _ h => len_nil h)))))) sc_law.nd)
    (d_cons (d_set 4 (d_call C__law_handed (hr.mono (by decide)) (passes_call (takes_of rfl rfl rfl rfl) fun _ _ _ _ h => h) rfl (d_acons (d_name 1) (d_acons (d_name 3) d_anil)) rfl (len_cons (len_cons (fun _ _ _ h => len_nil h)))) sc_law.nd)
    (d_cons (d_set 5 (d_lc false (ow := [("night", 15)]) rfl sc_law.nd (i_rng1 T.b_range (d_acons (d_op op_addA (s_add false) (d_name 2) d_int) d_anil)) (blkOk_by (N := N_law) (sc := defScope s_law) (by decide +kernel)) (fun _ _ _ _ _ => (g_name 15 sc_law.nd)) (fun _ _ _ _ _ => d_ts0) (fun _ _ _ _ _ => (d_call C__law_load (hr.mono (by decide)) passL rfl (d_acons (d_name 3) (d_acons (d_name 15) d_anil)) rfl (len_cons (len_cons (fun _ _ _ h => len_nil h)))))) sc_law.nd)
    (d_cons (d_if (d_tcmp (op_neD hr.units) s_ne (d_lc false (ow := [("night", 15)]) rfl sc_law.nd (i_rng1 T.b_range (d_acons (d_op op_addA (s_add false) (d_name 2) d_int) d_anil)) (blkOk_by (N := N_law) (sc := defScope s_law) (by decide +kernel)) (fun _ _ _ _ _ => (g_name 15 sc_law.nd)) (fun _ _ _ _ _ => (d_ts1 (d_not (d_tst (d_call C__law_alike (hr.mono (by decide)) passL rfl (d_acons (d_call C_load (hr.mono (by decide)) passL rfl (d_acons (d_name 4) (d_acons (d_name 15) d_anil)) rfl (len_cons (len_cons (fun _ _ _ h => len_nil h)))) (d_acons (d_ix ix_seq s_ix (d_name 5) (d_name 15) fun _ _ => rfl) d_anil)) rfl (len_cons (len_cons (fun _ _ _ h => len_nil h)))))))) (fun _ _ _ _ _ => (d_name 15))) (d_lst false d_anil) (nomark _))
    (d_one (d_ret d_bl))
    d_nil)
    (d_cons (d_set 6 (d_op op_addA (s_add false) (d_lst false (d_acons d_int d_anil)) (d_name 5)) sc_law.nd)
    (d_cons (d_setLc 7 false (ow := [("night", 15)]) rfl sc_law.nd (i_rng1 T.b_range (d_acons (d_op op_addA (s_add false) (d_name 2) d_int) d_anil)) (blkOk_by (N := N_law) (sc := defScope s_law) (by decide +kernel)) (fun _ _ _ _ _ => (g_name 15 sc_law.nd)) (fun _ _ _ _ _ => (d_ts1 (d_tcmp (op_neD hr.units) s_ne (d_ix ix_seq s_ix (d_name 5) (d_name 15) fun _ _ => rfl) (d_ix ix_seq s_ix (d_name 6) (d_name 15) fun _ _ => rfl) (nomark _)))) (fun _ _ _ _ _ => (d_tup (d_acons (d_name 15) (d_acons (d_ix ix_seq s_ix (d_name 5) (d_name 15) fun _ _ => rfl) d_anil)))))
    (d_cons (d_if (d_not (d_tst (d_call C__law_alike (hr.mono (by decide)) (passes_call (takes_of rfl rfl rfl rfl) fun _ _ _ _ h => h) rfl (d_acons (d_call C_load_steps (hr.mono (by decide)) (passes_call (takes_of rfl rfl rfl rfl) fun _ _ _ _ h => h) rfl (d_acons (d_name 4) d_anil) rfl (len_cons (fun _ _ _ h => len_nil h))) (d_acons (d_callTy call_tuple_of s_tuple T.b_tuple (by decide +kernel) (d_acons (d_name 7) d_anil)) d_anil)) rfl (len_cons (len_cons (fun _ _ _ h => len_nil h))))))
    (d_one (d_ret d_bl))
    d_nil)
    (d_cons (d_set 8 (d_callB (cr_max rfl) s_max1 T.b_max (by decide +kernel) (d_acons (d_name 5) d_anil)) sc_law.nd)
    (d_cons (d_set 9 (d_tup (d_acons d_int (d_acons d_non d_anil))) sc_law.nd)
    (d_cons (d_if (d_tcmp op_gt s_gt (d_name 8) d_int (nomark _))
    (d_one (d_set 9 (d_tup (d_acons (d_name 8) (d_acons (d_mthL PySem.F.slot_list_index PySem.F.type_list_index mt_index s_index (d_name 5) (d_acons (d_name 8) d_anil)) d_anil))) sc_law.nd))
    d_nil)
    (d_cons (d_if (d_not (d_tst (d_call C__law_alike (hr.mono (by decide)) (passes_call (takes_of rfl rfl rfl rfl) fun _ _ _ _ h => h) rfl (d_acons (d_call C_peak (hr.mono (by decide)) (passes_call (takes_of rfl rfl rfl rfl) fun _ _ _ _ h => h) rfl (d_acons (d_name 4) d_anil) rfl (len_cons (fun _ _ _ h => len_nil h))) (d_acons (d_name 9) d_anil)) rfl (len_cons (len_cons (fun _ _ _ h => len_nil h))))))
    (d_one (d_ret d_bl))
    d_nil)
    (d_cons (d_set 10 (d_call C__law_pick (hr.mono (by decide)) (passes_call (takes_of rfl rfl rfl rfl) fun _ _ _ _ h => h) rfl (d_acons (d_name 1) (d_acons (d_lst false (d_acons d_int (d_acons (d_callB (call_max2 rfl) s_max2 T.b_max (by decide +kernel) (d_acons d_int (d_acons (d_op op_sub s_sub (d_name 8) d_int) d_anil))) (d_acons (d_name 8) (d_acons (d_op op_addA (s_add false) (d_name 8) d_int) (d_acons (d_call C__law_taken (hr.mono (by decide)) (passes_call (takes_of rfl rfl rfl rfl) fun _ _ _ _ h => h) rfl (d_acons (d_name 1) (d_acons d_int d_anil)) rfl (len_cons (len_cons (fun _ _ _ h => len_nil h)))) d_anil)))))) d_anil)) rfl (len_cons (len_cons (fun _ _ _ h => len_nil h)))) sc_law.nd)
    (d_cons (d_set 11 (d_lc false (ow := [("night", 15)]) rfl sc_law.nd (i_rng1 T.b_range (d_acons (d_op op_addA (s_add false) (d_name 2) d_int) d_anil)) (blkOk_by (N := N_law) (sc := defScope s_law) (by decide +kernel)) (fun _ _ _ _ _ => (g_name 15 sc_law.nd)) (fun _ _ _ _ _ => (d_ts1 (d_tcmp op_gt s_gt (d_ix ix_seq s_ix (d_name 5) (d_name 15) fun _ _ => rfl) (d_name 10) (nomark _)))) (fun _ _ _ _ _ => (d_name 15))) sc_law.nd)
    (d_cons (d_if (d_not (d_tst (d_call C__law_alike (hr.mono (by decide)) (passes_call (takes_of rfl rfl rfl rfl) fun _ _ _ _ h => h) rfl (d_acons (d_call C_first_over (hr.mono (by decide)) (passes_call (takes_of rfl rfl rfl rfl) fun _ _ _ _ h => h) rfl (d_acons (d_name 4) (d_acons (d_name 10) d_anil)) rfl (len_cons (len_cons (fun _ _ _ h => len_nil h)))) (d_acons (d_ix ix_seq s_ix (d_op op_addA (s_add false) (d_name 11) (d_lst false (d_acons d_non d_anil))) d_int fun _ _ => rfl) d_anil)) rfl (len_cons (len_cons (fun _ _ _ h => len_nil h))))))
    (d_one (d_ret d_bl))
    d_nil)
    (d_cons (d_set 12 (d_lc false (ow := [("night", 15)]) rfl sc_law.nd (i_seq (d_name 11)) (blkOk_by (N := N_law) (sc := defScope s_law) (by decide +kernel)) (fun _ _ _ _ _ => (g_name 15 sc_law.nd)) (fun _ _ _ _ _ => (d_ts1 (d_tcmp op_notIn_seq (s_in true) (d_op op_sub s_sub (d_name 15) d_int) (d_name 11) rfl))) (fun _ _ _ _ _ => (d_name 15))) sc_law.nd)
    (d_cons (d_set 13 (d_lc false (ow := [("night", 15)]) rfl sc_law.nd (i_seq (d_name 11)) (blkOk_by (N := N_law) (sc := defScope s_law) (by decide +kernel)) (fun _ _ _ _ _ => (g_name 15 sc_law.nd)) (fun _ _ _ _ _ => (d_ts1 (d_tcmp op_notIn_seq (s_in true) (d_op op_addA (s_add false) (d_name 15) d_int) (d_name 11) rfl))) (fun _ _ _ _ _ => (d_name 15))) sc_law.nd)
    (d_cons (d_if (d_not (d_tst (d_call C__law_alike (hr.mono (by decide)) (passes_call (takes_of rfl rfl rfl rfl) fun _ _ _ _ h => h) rfl (d_acons (d_call C_over_spans (hr.mono (by decide)) (passes_call (takes_of rfl rfl rfl rfl) fun _ _ _ _ h => h) rfl (d_acons (d_name 4) (d_acons (d_name 10) d_anil)) rfl (len_cons (len_cons (fun _ _ _ h => len_nil h)))) (d_acons (d_callTy call_tuple_of s_tuple T.b_tuple (by decide +kernel) (d_acons (d_lc false (ow := [("k", 16)]) rfl sc_law.nd (i_rng1 T.b_range (d_acons (d_callB call_len s_len T.b_len (by decide +kernel) (d_acons (d_name 12) d_anil)) d_anil)) (blkOk_by (N := N_law) (sc := defScope s_law) (by decide +kernel)) (fun _ _ _ _ _ => (g_name 16 sc_law.nd)) (fun _ _ _ _ _ => d_ts0) (fun _ _ _ _ _ => (d_tup (d_acons (d_ix ix_seq s_ix (d_name 12) (d_name 16) fun _ _ => rfl) (d_acons (d_op op_addA (s_add false) (d_ix ix_seq s_ix (d_name 13) (d_name 16) fun _ _ => rfl) d_int) d_anil))))) d_anil)) d_anil)) rfl (len_cons (len_cons (fun _ _ _ h => len_nil h))))))
    (d_one (d_ret d_bl))
    d_nil)
    (d_cons (d_if (d_not (d_tst (d_call C__law_alike (hr.mono (by decide)) (passes_call (takes_of rfl rfl rfl rfl) fun _ _ _ _ h => h) rfl (d_acons (d_call C_nights_sold (hr.mono (by decide)) (passes_call (takes_of rfl rfl rfl rfl) fun _ _ _ _ h => h) rfl (d_acons (d_name 4) d_anil) rfl (len_cons (fun _ _ _ h => len_nil h))) (d_acons (d_callB (cr_sum rfl) s_sum T.b_sum (by decide +kernel) (d_acons (d_name 5) d_anil)) d_anil)) rfl (len_cons (len_cons (fun _ _ _ h => len_nil h))))))
    (d_one (d_ret d_bl))
    d_nil)
    (d_cons (d_set 14 (d_call C__law_span (hr.mono (by decide)) (passes_call (takes_of rfl rfl rfl rfl) fun _ _ _ _ h => h) rfl (d_acons (d_name 1) (d_acons (d_name 2) (d_acons (d_name 2) d_anil))) rfl (len_cons (len_cons (len_cons (fun _ _ _ h => len_nil h))))) sc_law.nd)
    (d_one (d_ret (d_call C__law_alike (hr.mono (by decide)) (passes_call (takes_of rfl rfl rfl rfl) fun _ _ _ _ h => h) rfl (d_acons (d_call C_load_row (hr.mono (by decide)) (passes_call (takes_of rfl rfl rfl rfl) fun _ _ _ _ h => h) rfl (d_acons (d_name 4) (d_acons (d_ix ix_seq s_ix (d_name 14) d_int fun _ _ => rfl) (d_acons (d_ix ix_seq s_ix (d_name 14) d_int fun _ _ => rfl) d_anil))) rfl (len_cons (len_cons (len_cons (fun _ _ _ h => len_nil h))))) (d_acons (d_callTy call_tuple_of s_tuple T.b_tuple (by decide +kernel) (d_acons (d_slA false (d_name 5) (d_o1 (d_ix ix_seq s_ix (d_name 14) d_int fun _ _ => rfl)) (d_o1 (d_ix ix_seq s_ix (d_name 14) d_int fun _ _ => rfl))) d_anil)) d_anil)) rfl (len_cons (len_cons (fun _ _ _ h => len_nil h))))))))))))))))))))))))))))
end
set_option maxHeartbeats 8000000 in
theorem all_mk {l : PySem.W.OpenLaw} {w : World} {K : PySem.W.Frag} {h : Heap} {mg : Str → Option Value} {fa : Addr} (X : K.In h) (G : h.Ns mainGlobals mg) (hfa : mg "law" = some (.ref fa))
    {f0 f1 f2 f3 f4 f5 f6 f7 f8 f9 f10 f11 f12 f13 f14 f15 f16 f17 : Addr} {od0 an0 od1 an1 od2 an2 od3 an3 od4 an4 od5 an5 od6 an6 od7 an7 od8 an8 od9 an9 od10 an10 od11 an11 od12 an12 od13 an13 od14 an14 od15 an15 od16 an16 od17 an17 : Option Addr} {sl0 sl1 sl2 sl3 sl4 sl5 sl6 sl7 sl8 sl9 sl10 sl11 sl12 sl13 sl14 sl15 sl16 sl17 : Array (Option Value)} {oc0 kV0 dc0 pm0 cd0 ct0 oc1 kV1 dc1 pm1 cd1 ct1 oc2 kV2 dc2 pm2 cd2 ct2 oc3 kV3 dc3 pm3 cd3 ct3 oc4 kV4 dc4 pm4 cd4 ct4 oc5 kV5 dc5 pm5 cd5 ct5 oc6 kV6 dc6 pm6 cd6 ct6 oc7 kV7 dc7 pm7 cd7 ct7 oc8 kV8 dc8 pm8 cd8 ct8 oc9 kV9 dc9 pm9 cd9 ct9 oc10 kV10 dc10 pm10 cd10 ct10 oc11 kV11 dc11 pm11 cd11 ct11 oc12 kV12 dc12 pm12 cd12 ct12 oc13 kV13 dc13 pm13 cd13 ct13 oc14 kV14 dc14 pm14 cd14 ct14 oc15 kV15 dc15 pm15 cd15 ct15 oc16 kV16 dc16 pm16 cd16 ct16 oc17 kV17 dc17 pm17 cd17 ct17 : Value}
    (a0 : PySem.W.nsIn K mainGlobals "span_length" = some (some (.ref f0))) (l0 : K.lookup f0 = some ⟨oc0, od0, .func (PySem.W.fnOf "span_length" "span_length" (defArgs s_span_length) (defBody s_span_length) (defScope s_span_length) .none kV0 dc0 pm0 an0 cd0 ct0), sl0⟩) (c0 : PySem.W.codeIn K cd0 "span_length" = true) (k0 : PySem.W.keepIn K (.ref f0) = true)
    (a1 : PySem.W.nsIn K mainGlobals "has_night" = some (some (.ref f1))) (l1 : K.lookup f1 = some ⟨oc1, od1, .func (PySem.W.fnOf "has_night" "has_night" (defArgs s_has_night) (defBody s_has_night) (defScope s_has_night) .none kV1 dc1 pm1 an1 cd1 ct1), sl1⟩) (c1 : PySem.W.codeIn K cd1 "has_night" = true) (k1 : PySem.W.keepIn K (.ref f1) = true)
    (a2 : PySem.W.nsIn K mainGlobals "load" = some (some (.ref f2))) (l2 : K.lookup f2 = some ⟨oc2, od2, .func (PySem.W.fnOf "load" "load" (defArgs s_load) (defBody s_load) (defScope s_load) .none kV2 dc2 pm2 an2 cd2 ct2), sl2⟩) (c2 : PySem.W.codeIn K cd2 "load" = true) (k2 : PySem.W.keepIn K (.ref f2) = true)
    (a3 : PySem.W.nsIn K mainGlobals "load_steps" = some (some (.ref f3))) (l3 : K.lookup f3 = some ⟨oc3, od3, .func (PySem.W.fnOf "load_steps" "load_steps" (defArgs s_load_steps) (defBody s_load_steps) (defScope s_load_steps) .none kV3 dc3 pm3 an3 cd3 ct3), sl3⟩) (c3 : PySem.W.codeIn K cd3 "load_steps" = true) (k3 : PySem.W.keepIn K (.ref f3) = true)
    (a4 : PySem.W.nsIn K mainGlobals "peak" = some (some (.ref f4))) (l4 : K.lookup f4 = some ⟨oc4, od4, .func (PySem.W.fnOf "peak" "peak" (defArgs s_peak) (defBody s_peak) (defScope s_peak) .none kV4 dc4 pm4 an4 cd4 ct4), sl4⟩) (c4 : PySem.W.codeIn K cd4 "peak" = true) (k4 : PySem.W.keepIn K (.ref f4) = true)
    (a5 : PySem.W.nsIn K mainGlobals "first_over" = some (some (.ref f5))) (l5 : K.lookup f5 = some ⟨oc5, od5, .func (PySem.W.fnOf "first_over" "first_over" (defArgs s_first_over) (defBody s_first_over) (defScope s_first_over) .none kV5 dc5 pm5 an5 cd5 ct5), sl5⟩) (c5 : PySem.W.codeIn K cd5 "first_over" = true) (k5 : PySem.W.keepIn K (.ref f5) = true)
    (a6 : PySem.W.nsIn K mainGlobals "over_spans" = some (some (.ref f6))) (l6 : K.lookup f6 = some ⟨oc6, od6, .func (PySem.W.fnOf "over_spans" "over_spans" (defArgs s_over_spans) (defBody s_over_spans) (defScope s_over_spans) .none kV6 dc6 pm6 an6 cd6 ct6), sl6⟩) (c6 : PySem.W.codeIn K cd6 "over_spans" = true) (k6 : PySem.W.keepIn K (.ref f6) = true)
    (a7 : PySem.W.nsIn K mainGlobals "nights_sold" = some (some (.ref f7))) (l7 : K.lookup f7 = some ⟨oc7, od7, .func (PySem.W.fnOf "nights_sold" "nights_sold" (defArgs s_nights_sold) (defBody s_nights_sold) (defScope s_nights_sold) .none kV7 dc7 pm7 an7 cd7 ct7), sl7⟩) (c7 : PySem.W.codeIn K cd7 "nights_sold" = true) (k7 : PySem.W.keepIn K (.ref f7) = true)
    (a8 : PySem.W.nsIn K mainGlobals "load_row" = some (some (.ref f8))) (l8 : K.lookup f8 = some ⟨oc8, od8, .func (PySem.W.fnOf "load_row" "load_row" (defArgs s_load_row) (defBody s_load_row) (defScope s_load_row) .none kV8 dc8 pm8 an8 cd8 ct8), sl8⟩) (c8 : PySem.W.codeIn K cd8 "load_row" = true) (k8 : PySem.W.keepIn K (.ref f8) = true)
    (a9 : PySem.W.nsIn K mainGlobals "_law_taken" = some (some (.ref f9))) (l9 : K.lookup f9 = some ⟨oc9, od9, .func (PySem.W.fnOf "_law_taken" "_law_taken" (defArgs s__law_taken) (defBody s__law_taken) (defScope s__law_taken) .none kV9 dc9 pm9 an9 cd9 ct9), sl9⟩) (c9 : PySem.W.codeIn K cd9 "_law_taken" = true) (k9 : PySem.W.keepIn K (.ref f9) = true)
    (a10 : PySem.W.nsIn K mainGlobals "_law_pick" = some (some (.ref f10))) (l10 : K.lookup f10 = some ⟨oc10, od10, .func (PySem.W.fnOf "_law_pick" "_law_pick" (defArgs s__law_pick) (defBody s__law_pick) (defScope s__law_pick) .none kV10 dc10 pm10 an10 cd10 ct10), sl10⟩) (c10 : PySem.W.codeIn K cd10 "_law_pick" = true) (k10 : PySem.W.keepIn K (.ref f10) = true)
    (a11 : PySem.W.nsIn K mainGlobals "_law_alike" = some (some (.ref f11))) (l11 : K.lookup f11 = some ⟨oc11, od11, .func (PySem.W.fnOf "_law_alike" "_law_alike" (defArgs s__law_alike) (defBody s__law_alike) (defScope s__law_alike) .none kV11 dc11 pm11 an11 cd11 ct11), sl11⟩) (c11 : PySem.W.codeIn K cd11 "_law_alike" = true) (k11 : PySem.W.keepIn K (.ref f11) = true)
    (a12 : PySem.W.nsIn K mainGlobals "_law_span" = some (some (.ref f12))) (l12 : K.lookup f12 = some ⟨oc12, od12, .func (PySem.W.fnOf "_law_span" "_law_span" (defArgs s__law_span) (defBody s__law_span) (defScope s__law_span) .none kV12 dc12 pm12 an12 cd12 ct12), sl12⟩) (c12 : PySem.W.codeIn K cd12 "_law_span" = true) (k12 : PySem.W.keepIn K (.ref f12) = true)
    (a13 : PySem.W.nsIn K mainGlobals "_law_spans" = some (some (.ref f13))) (l13 : K.lookup f13 = some ⟨oc13, od13, .func (PySem.W.fnOf "_law_spans" "_law_spans" (defArgs s__law_spans) (defBody s__law_spans) (defScope s__law_spans) .none kV13 dc13 pm13 an13 cd13 ct13), sl13⟩) (c13 : PySem.W.codeIn K cd13 "_law_spans" = true) (k13 : PySem.W.keepIn K (.ref f13) = true)
    (a14 : PySem.W.nsIn K mainGlobals "_law_load" = some (some (.ref f14))) (l14 : K.lookup f14 = some ⟨oc14, od14, .func (PySem.W.fnOf "_law_load" "_law_load" (defArgs s__law_load) (defBody s__law_load) (defScope s__law_load) .none kV14 dc14 pm14 an14 cd14 ct14), sl14⟩) (c14 : PySem.W.codeIn K cd14 "_law_load" = true) (k14 : PySem.W.keepIn K (.ref f14) = true)
    (a15 : PySem.W.nsIn K mainGlobals "_law_mixed" = some (some (.ref f15))) (l15 : K.lookup f15 = some ⟨oc15, od15, .func (PySem.W.fnOf "_law_mixed" "_law_mixed" (defArgs s__law_mixed) (defBody s__law_mixed) (defScope s__law_mixed) .none kV15 dc15 pm15 an15 cd15 ct15), sl15⟩) (c15 : PySem.W.codeIn K cd15 "_law_mixed" = true) (k15 : PySem.W.keepIn K (.ref f15) = true)
    (a16 : PySem.W.nsIn K mainGlobals "_law_handed" = some (some (.ref f16))) (l16 : K.lookup f16 = some ⟨oc16, od16, .func (PySem.W.fnOf "_law_handed" "_law_handed" (defArgs s__law_handed) (defBody s__law_handed) (defScope s__law_handed) .none kV16 dc16 pm16 an16 cd16 ct16), sl16⟩) (c16 : PySem.W.codeIn K cd16 "_law_handed" = true) (k16 : PySem.W.keepIn K (.ref f16) = true)
    (a17 : PySem.W.nsIn K mainGlobals "law" = some (some (.ref f17))) (l17 : K.lookup f17 = some ⟨oc17, od17, .func (PySem.W.fnOf "law" "law" (defArgs s_law) (defBody s_law) (defScope s_law) .none kV17 dc17 pm17 an17 cd17 ct17), sl17⟩) (c17 : PySem.W.codeIn K cd17 "law" = true) (k17 : PySem.W.keepIn K (.ref f17) = true)
    (z_bool : PySem.W.nsIn K mainGlobals "bool" = some none)
    (z_int : PySem.W.nsIn K mainGlobals "int" = some none)
    (z_isinstance : PySem.W.nsIn K mainGlobals "isinstance" = some none)
    (z_len : PySem.W.nsIn K mainGlobals "len" = some none)
    (z_list : PySem.W.nsIn K mainGlobals "list" = some none)
    (z_max : PySem.W.nsIn K mainGlobals "max" = some none)
    (z_min : PySem.W.nsIn K mainGlobals "min" = some none)
    (z_range : PySem.W.nsIn K mainGlobals "range" = some none)
    (z_sorted : PySem.W.nsIn K mainGlobals "sorted" = some none)
    (z_str : PySem.W.nsIn K mainGlobals "str" = some none)
    (z_sum : PySem.W.nsIn K mainGlobals "sum" = some none)
    (z_tuple : PySem.W.nsIn K mainGlobals "tuple" = some none)
    : ∃ fd : FuncData, (∀ (s : Shared) (u : Value), BindsTo s fd ⟨[u], []⟩ [("script", u)]) ∧ ∀ base : Heap, K.In base → base.Ns mainGlobals mg → FnOk l.prog w K mg base (L2.CX l.prog w) 10 fa fd ["script"] (spF K 1 m_law) := by
  have e := hfa.symm.trans (PySem.W.mg_of X G a17)
  cases e
  have T : Txt mg := ⟨PySem.W.mg_none_of X G z_bool, PySem.W.mg_none_of X G z_int, PySem.W.mg_none_of X G z_isinstance, PySem.W.mg_none_of X G z_len, PySem.W.mg_none_of X G z_list, PySem.W.mg_none_of X G z_max, PySem.W.mg_none_of X G z_min, PySem.W.mg_none_of X G z_range, PySem.W.mg_none_of X G z_sorted, PySem.W.mg_none_of X G z_str, PySem.W.mg_none_of X G z_sum, PySem.W.mg_none_of X G z_tuple⟩
  have F0 := fun_mk (st := s_span_length) l0 c0 k0
  have B0 := F0.binds (ps := ["span"]) fun _ _ _ _ _ _ us hl => match us, hl with | [_], _ => rfl
  have F1 := fun_mk (st := s_has_night) l1 c1 k1
  have B1 := F1.binds (ps := ["span", "night"]) fun _ _ _ _ _ _ us hl => match us, hl with | [_, _], _ => rfl
  have F2 := fun_mk (st := s_load) l2 c2 k2
  have B2 := F2.binds (ps := ["spans", "night"]) fun _ _ _ _ _ _ us hl => match us, hl with | [_, _], _ => rfl
  have F3 := fun_mk (st := s_load_steps) l3 c3 k3
  have B3 := F3.binds (ps := ["spans"]) fun _ _ _ _ _ _ us hl => match us, hl with | [_], _ => rfl
  have F4 := fun_mk (st := s_peak) l4 c4 k4
  have B4 := F4.binds (ps := ["spans"]) fun _ _ _ _ _ _ us hl => match us, hl with | [_], _ => rfl
  have F5 := fun_mk (st := s_first_over) l5 c5 k5
  have B5 := F5.binds (ps := ["spans", "rooms"]) fun _ _ _ _ _ _ us hl => match us, hl with | [_, _], _ => rfl
  have F6 := fun_mk (st := s_over_spans) l6 c6 k6
  have B6 := F6.binds (ps := ["spans", "rooms"]) fun _ _ _ _ _ _ us hl => match us, hl with | [_, _], _ => rfl
  have F7 := fun_mk (st := s_nights_sold) l7 c7 k7
  have B7 := F7.binds (ps := ["spans"]) fun _ _ _ _ _ _ us hl => match us, hl with | [_], _ => rfl
  have F8 := fun_mk (st := s_load_row) l8 c8 k8
  have B8 := F8.binds (ps := ["spans", "first", "leave"]) fun _ _ _ _ _ _ us hl => match us, hl with | [_, _, _], _ => rfl
  have F9 := fun_mk (st := s__law_taken) l9 c9 k9
  have B9 := F9.binds (ps := ["row", "many"]) fun _ _ _ _ _ _ us hl => match us, hl with | [_, _], _ => rfl
  have F10 := fun_mk (st := s__law_pick) l10 c10 k10
  have B10 := F10.binds (ps := ["row", "kinds"]) fun _ _ _ _ _ _ us hl => match us, hl with | [_, _], _ => rfl
  have F11 := fun_mk (st := s__law_alike) l11 c11 k11
  have B11 := F11.binds (ps := ["found", "due"]) fun _ _ _ _ _ _ us hl => match us, hl with | [_, _], _ => rfl
  have F12 := fun_mk (st := s__law_span) l12 c12 k12
  have B12 := F12.binds (ps := ["row", "top", "longest"]) fun _ _ _ _ _ _ us hl => match us, hl with | [_, _, _], _ => rfl
  have F13 := fun_mk (st := s__law_spans) l13 c13 k13
  have B13 := F13.binds (ps := ["row", "many", "top", "longest"]) fun _ _ _ _ _ _ us hl => match us, hl with | [_, _, _, _], _ => rfl
  have F14 := fun_mk (st := s__law_load) l14 c14 k14
  have B14 := F14.binds (ps := ["spans", "night"]) fun _ _ _ _ _ _ us hl => match us, hl with | [_, _], _ => rfl
  have F15 := fun_mk (st := s__law_mixed) l15 c15 k15
  have B15 := F15.binds (ps := ["row", "value"]) fun _ _ _ _ _ _ us hl => match us, hl with | [_, _], _ => rfl
  have F16 := fun_mk (st := s__law_handed) l16 c16 k16
  have B16 := F16.binds (ps := ["row", "spans"]) fun _ _ _ _ _ _ us hl => match us, hl with | [_, _], _ => rfl
  have F17 := fun_mk (st := s_law) l17 c17 k17
  refine ⟨PySem.W.fnOf "law" "law" (defArgs s_law) (defBody s_law) (defScope s_law) .none kV17 dc17 pm17 an17 cd17 ct17, fun s v => .of_eq rfl, fun base _ _ => ?_⟩
  have C_span_length : Cal l.prog w K mg base 1 "span_length" 1 m_span_length := ⟨_, _, _, PySem.W.mg_of X G a0, k0, B0, rfl, ok_span_length F0 T ⟩
  have C_has_night : Cal l.prog w K mg base 1 "has_night" 2 m_has_night := ⟨_, _, _, PySem.W.mg_of X G a1, k1, B1, rfl, ok_has_night F1 T ⟩
  have C_load : Cal l.prog w K mg base 2 "load" 2 m_load := ⟨_, _, _, PySem.W.mg_of X G a2, k2, B2, rfl, ok_load F2 T C_has_night⟩
  have C_load_steps : Cal l.prog w K mg base 1 "load_steps" 1 m_load_steps := ⟨_, _, _, PySem.W.mg_of X G a3, k3, B3, rfl, ok_load_steps F3 T ⟩
  have C_peak : Cal l.prog w K mg base 2 "peak" 1 m_peak := ⟨_, _, _, PySem.W.mg_of X G a4, k4, B4, rfl, ok_peak F4 T C_load_steps⟩
  have C_first_over : Cal l.prog w K mg base 2 "first_over" 2 m_first_over := ⟨_, _, _, PySem.W.mg_of X G a5, k5, B5, rfl, ok_first_over F5 T C_load_steps⟩
  have C_over_spans : Cal l.prog w K mg base 2 "over_spans" 2 m_over_spans := ⟨_, _, _, PySem.W.mg_of X G a6, k6, B6, rfl, ok_over_spans F6 T C_load_steps⟩
  have C_nights_sold : Cal l.prog w K mg base 2 "nights_sold" 1 m_nights_sold := ⟨_, _, _, PySem.W.mg_of X G a7, k7, B7, rfl, ok_nights_sold F7 T C_span_length⟩
  have C_load_row : Cal l.prog w K mg base 1 "load_row" 3 m_load_row := ⟨_, _, _, PySem.W.mg_of X G a8, k8, B8, rfl, ok_load_row F8 T ⟩
  have C__law_taken : Cal l.prog w K mg base 1 "_law_taken" 2 m__law_taken := ⟨_, _, _, PySem.W.mg_of X G a9, k9, B9, rfl, ok__law_taken F9 T ⟩
  have C__law_pick : Cal l.prog w K mg base 2 "_law_pick" 2 m__law_pick := ⟨_, _, _, PySem.W.mg_of X G a10, k10, B10, rfl, ok__law_pick F10 T C__law_taken⟩
  have C__law_alike : Cal l.prog w K mg base 9 "_law_alike" 2 (m__law_alike 8) := ⟨_, _, _, PySem.W.mg_of X G a11, k11, B11, rfl, (ok__law_alike F11 T (PySem.W.mg_of X G a11) B11  8).mono (by decide)⟩
  have C__law_span : Cal l.prog w K mg base 2 "_law_span" 3 m__law_span := ⟨_, _, _, PySem.W.mg_of X G a12, k12, B12, rfl, ok__law_span F12 T C__law_taken⟩
  have C__law_spans : Cal l.prog w K mg base 3 "_law_spans" 4 m__law_spans := ⟨_, _, _, PySem.W.mg_of X G a13, k13, B13, rfl, ok__law_spans F13 T C__law_span⟩
  have C__law_load : Cal l.prog w K mg base 1 "_law_load" 2 m__law_load := ⟨_, _, _, PySem.W.mg_of X G a14, k14, B14, rfl, ok__law_load F14 T ⟩
  have C__law_mixed : Cal l.prog w K mg base 2 "_law_mixed" 2 m__law_mixed := ⟨_, _, _, PySem.W.mg_of X G a15, k15, B15, rfl, ok__law_mixed F15 T C__law_taken⟩
  have C__law_handed : Cal l.prog w K mg base 3 "_law_handed" 2 m__law_handed := ⟨_, _, _, PySem.W.mg_of X G a16, k16, B16, rfl, ok__law_handed F16 T C__law_mixed⟩
  exact ok_law F17 T C__law_spans C__law_handed C__law_pick C__law_span C__law_alike C__law_taken C__law_load C_load_row C_load_steps C_peak C_first_over C_over_spans C_nights_sold C_load
end Lw

/-! from k03E.lean -/
open PySem PySem.W PyProof.Rows in
set_option maxRecDepth 100000 in
set_option maxHeartbeats 0 in
theorem PySem.Challenge.cw_keptnights_k03_whole_loads_holds : PySem.Challenge.rw_keptnights_k03_whole_loads.Holds := by
  w_on; o_law; k_head; (case hw => w_witness2)
  k_fill
  refine DL.walk_DL (l := PySem.Challenge.rw_keptnights_k03_whole_loads) (n := 63) (k := 10) (f := Lw.m_law) (x := "script") rfl (by decide) rfl ⟨rfl, by decide, by decide⟩ (fun w h Y => PySem.W.kIn_of Y) ?F Lw.law_true
  case F =>
    intro w mg fa h KX G hmg
    refine' Lw.all_mk KX G hmg ?a0 ?l0 ?c0 ?k0 ?a1 ?l1 ?c1 ?k1 ?a2 ?l2 ?c2 ?k2 ?a3 ?l3 ?c3 ?k3 ?a4 ?l4 ?c4 ?k4 ?a5 ?l5 ?c5 ?k5 ?a6 ?l6 ?c6 ?k6 ?a7 ?l7 ?c7 ?k7 ?a8 ?l8 ?c8 ?k8 ?a9 ?l9 ?c9 ?k9 ?a10 ?l10 ?c10 ?k10 ?a11 ?l11 ?c11 ?k11 ?a12 ?l12 ?c12 ?k12 ?a13 ?l13 ?c13 ?k13 ?a14 ?l14 ?c14 ?k14 ?a15 ?l15 ?c15 ?k15 ?a16 ?l16 ?c16 ?k16 ?a17 ?l17 ?c17 ?k17 ?z_bool ?z_int ?z_isinstance ?z_len ?z_list ?z_max ?z_min ?z_range ?z_sorted ?z_str ?z_sum ?z_tuple
    (case a0 => k_is)
    (case l0 => k_is)
    (case c0 => k_is)
    (case k0 => k_is)
    (case a1 => k_is)
    (case l1 => k_is)
    (case c1 => k_is)
    (case k1 => k_is)
    (case a2 => k_is)
    (case l2 => k_is)
    (case c2 => k_is)
    (case k2 => k_is)
    (case a3 => k_is)
    (case l3 => k_is)
    (case c3 => k_is)
    (case k3 => k_is)
    (case a4 => k_is)
    (case l4 => k_is)
    (case c4 => k_is)
    (case k4 => k_is)
    (case a5 => k_is)
    (case l5 => k_is)
    (case c5 => k_is)
    (case k5 => k_is)
    (case a6 => k_is)
    (case l6 => k_is)
    (case c6 => k_is)
    (case k6 => k_is)
    (case a7 => k_is)
    (case l7 => k_is)
    (case c7 => k_is)
    (case k7 => k_is)
    (case a8 => k_is)
    (case l8 => k_is)
    (case c8 => k_is)
    (case k8 => k_is)
    (case a9 => k_is)
    (case l9 => k_is)
    (case c9 => k_is)
    (case k9 => k_is)
    (case a10 => k_is)
    (case l10 => k_is)
    (case c10 => k_is)
    (case k10 => k_is)
    (case a11 => k_is)
    (case l11 => k_is)
    (case c11 => k_is)
    (case k11 => k_is)
    (case a12 => k_is)
    (case l12 => k_is)
    (case c12 => k_is)
    (case k12 => k_is)
    (case a13 => k_is)
    (case l13 => k_is)
    (case c13 => k_is)
    (case k13 => k_is)
    (case a14 => k_is)
    (case l14 => k_is)
    (case c14 => k_is)
    (case k14 => k_is)
    (case a15 => k_is)
    (case l15 => k_is)
    (case c15 => k_is)
    (case k15 => k_is)
    (case a16 => k_is)
    (case l16 => k_is)
    (case c16 => k_is)
    (case k16 => k_is)
    (case a17 => k_is)
    (case l17 => k_is)
    (case c17 => k_is)
    (case k17 => k_is)
    (case z_bool => k_is)
    (case z_int => k_is)
    (case z_isinstance => k_is)
    (case z_len => k_is)
    (case z_list => k_is)
    (case z_max => k_is)
    (case z_min => k_is)
    (case z_range => k_is)
    (case z_sorted => k_is)
    (case z_str => k_is)
    (case z_sum => k_is)
    (case z_tuple => k_is)
