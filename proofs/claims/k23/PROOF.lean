import PyProof.Rows.All
import Wide.All
import OpenK.AllK
import Wide.FinOn
import HandS.ForMost
import HandS.ForExc
import HandS.ExcInit
import HandS.ExcOwn
import HandS.Evl
import HandS.Flow
import HandS.Lambda
import HandS.NoneIn
import HandS.TupAny
import HandS.IsInst
import HandS.SortInts
import HandS.SortRule
import HandS.Conv
import HandS.WordsDict
import HandS.DictComp
import HandS.ExcField
import HandS.Zip
import HandS.Iter
import KE.SortData
import HandS.Property
import HandS.CallSlots
import HandS.MakeKw
import HandS.MakeKwOnly
import KE.DataMinMax
import HandS.Defaults
import HandS.Style
import KE.KTupSum
import HandS.SortKw
import HandS.HotCalls
import OpenK.KMeth
import HandS.OwnIter
import HandS.IterVal
import PyProof.TupleIter
import KE.SortKeyHeap
import HandS.EndTab
import KE.KSortKey
import HandS.Wide
import HandS.Text
import PySem.Challenge.RW_keptnights_k23_whole_sure_income
/-! from DL1.lean -/
set_option Elab.async false
set_option linter.all false
set_option maxRecDepth 100000
set_option maxHeartbeats 2000000
/-! A layer of data over the hand layer: what a def does, told by a function of plain data (D) and of a store of things that change (O). -/
namespace DL
open PySem L2

inductive D where
  | non | bl (b : Bool) | int (i : Int) | str (s : Str)
  | lst (ds : List D) | tup (ds : List D)
  /-- a list that is only read (the script) -/
  | rdl (ds : List D)
  | dct (kvs : List (Key × D))
  | ins (C : Str) (fs : List (Str × D))
  | loc (i : Nat)
  | ty (n : String)
  | adr (a : Addr)
  /-- a caught error: its own dict, what it holds -/
  | exn (a : Addr) (d : Option Addr) (fs : List (Str × D))

inductive O where
  | lst (ds : List D) | dct (kvs : List (Key × D)) | ins (C : Str) (fs : List (Str × D))
  /-- the table of code objects at P, all of the name q -/
  | tab (q : Str) (P : Addr)

abbrev Frg := PySem.W.Frag
abbrev Store := List (Option O)
/-- the class that a name of the module means -/
def clsV (K : Frg) (x : Str) : Value := match PySem.W.nsIn K mainGlobals x with
  | some (some v) => v
  | _ => .none
theorem clsV_of {K : Frg} {x : Str} {C : Addr} (h : PySem.W.nsIn K mainGlobals x = some (some (.ref C))) : clsV K x = .ref C := by
  unfold clsV
  rw [h]

mutual
inductive Has (K : Frg) (F : Hp) (α : List Addr) : V → D → Prop
  | non : Has K F α .non .non
  | bl (b : Bool) : Has K F α (.bl b) (.bl b)
  | int (i : Int) : Has K F α (.int i) (.int i)
  | str (x : Str) : Has K F α (.str x) (.str x)
  | ty (n : String) : Has K F α (.ty n) (.ty n)
  | adr (a : Addr) : Has K F α (.ref a) (.adr a)
  | lst {a : Addr} {xs : List V} {ds : List D} : F a = some (.lst xs) → HasL K F α xs ds → Has K F α (.ref a) (.lst ds)
  | rdl {a : Addr} {xs : List V} {ds : List D} : SqL K F a xs → HasL K F α xs ds → Has K F α (.ref a) (.rdl ds)
  | tup {a : Addr} {xs : List V} {ds : List D} : SqT K F a xs → HasL K F α xs ds → Has K F α (.ref a) (.tup ds)
  | dct {a : Addr} {kvs : List (Key × V)} {ms : List (Key × D)} : F a = some (.dK kvs) → kvs.map (·.1) = ms.map (·.1) → HasL K F α (kvs.map (·.2)) (ms.map (·.2)) → Has K F α (.ref a) (.dct ms)
  | ins {a Ca dx : Addr} {C : Str} {fs : List (Str × V)} {gs : List (Str × D)} : clsV K C = .ref Ca → F a = some (.ins Ca dx fs) → fs.map (·.1) = gs.map (·.1) → HasL K F α (fs.map (·.2)) (gs.map (·.2)) → Has K F α (.ref a) (.ins C gs)
  | loc {a : Addr} {i : Nat} : α[i]? = some a → Has K F α (.ref a) (.loc i)
  | exn0 {a : Addr} : Has K F α (.ref a) (.exn a none [])
  | exn {a dd : Addr} {xs : List (Str × V)} {fs : List (Str × D)} : F dd = some (.xd xs) → xs.map (·.1) = fs.map (·.1) → HasL K F α (xs.map (·.2)) (fs.map (·.2)) → Has K F α (.ref a) (.exn a (some dd) fs)
inductive HasL (K : Frg) (F : Hp) (α : List Addr) : List V → List D → Prop
  | nil : HasL K F α [] []
  | cons {v : V} {d : D} {vs : List V} {ds : List D} : Has K F α v d → HasL K F α vs ds → HasL K F α (v :: vs) (d :: ds)
end

section
variable {K : Frg} {F F' : Hp} {α α' : List Addr}
theorem pre_get {l l' : List Addr} (h : l <+: l') {i : Nat} {a : Addr} (e : l[i]? = some a) : l'[i]? = some a := by
  obtain ⟨t, rfl⟩ := h
  have hi : i < l.length := (List.getElem?_eq_some_iff.mp e).1
  rw [List.getElem?_append_left hi]
  exact e
mutual
theorem Has.mono (e : Same F F') (p : α <+: α') : ∀ {v : V} {d : D}, Has K F α v d → Has K F' α' v d
  | _, _, .non => .non
  | _, _, .bl b => .bl b
  | _, _, .int i => .int i
  | _, _, .str x => .str x
  | _, _, .ty n => .ty n
  | _, _, .adr a => .adr a
  | _, _, .lst h r => .lst (e _ _ h) (HasL.mono e p r)
  | _, _, .rdl h r => .rdl (e.seq h) (HasL.mono e p r)
  | _, _, .tup h r => .tup (by
      rcases h with (h | ⟨o, h⟩) | h
      · exact .inl (.inl (e _ _ h))
      · exact .inl (.inr ⟨o, e _ _ h⟩)
      · exact .inr h) (HasL.mono e p r)
  | _, _, .dct h k r => .dct (e _ _ h) k (HasL.mono e p r)
  | _, _, .ins c h k r => .ins c (e _ _ h) k (HasL.mono e p r)
  | _, _, .loc h => .loc (pre_get p h)
  | _, _, .exn0 => .exn0
  | _, _, .exn h k r => .exn (e _ _ h) k (HasL.mono e p r)
theorem HasL.mono (e : Same F F') (p : α <+: α') : ∀ {vs : List V} {ds : List D}, HasL K F α vs ds → HasL K F' α' vs ds
  | _, _, .nil => .nil
  | _, _, .cons h r => .cons (Has.mono e p h) (HasL.mono e p r)
end
theorem HasL.len : ∀ {vs : List V} {ds : List D}, HasL K F α vs ds → vs.length = ds.length
  | _, _, .nil => rfl
  | _, _, .cons _ r => by rw [List.length_cons, List.length_cons, r.len]
theorem HasL.get : ∀ {vs : List V} {ds : List D} {i : Nat} {d : D}, HasL K F α vs ds → ds[i]? = some d → ∃ v, vs[i]? = some v ∧ Has K F α v d
  | _, _, 0, d, .cons h _, e => by simp at e; subst e; exact ⟨_, rfl, h⟩
  | _, _, i + 1, d, .cons _ r, e => by
    obtain ⟨v, h1, h2⟩ := HasL.get (i := i) (d := d) r (by simpa using e)
    exact ⟨v, by simpa using h1, h2⟩
  | _, _, i, d, .nil, e => by simp at e
theorem HasL.getV : ∀ {vs : List V} {ds : List D} {i : Nat} {v : V}, HasL K F α vs ds → vs[i]? = some v → ∃ d, ds[i]? = some d ∧ Has K F α v d
  | _, _, 0, v, .cons h _, e => by simp at e; subst e; exact ⟨_, rfl, h⟩
  | _, _, i + 1, v, .cons _ r, e => by
    obtain ⟨d, h1, h2⟩ := HasL.getV (i := i) (v := v) r (by simpa using e)
    exact ⟨d, by simpa using h1, h2⟩
  | _, _, i, v, .nil, e => by simp at e
theorem HasL.app : ∀ {vs ws : List V} {ds es : List D}, HasL K F α vs ds → HasL K F α ws es → HasL K F α (vs ++ ws) (ds ++ es)
  | _, _, _, _, .nil, r => r
  | _, _, _, _, .cons h r, r' => .cons h (r.app r')
theorem HasL.set {v : V} {d : D} (h : Has K F α v d) : ∀ {vs : List V} {ds : List D} (i : Nat), HasL K F α vs ds → HasL K F α (vs.set i v) (ds.set i d)
  | _, _, _, .nil => .nil
  | _, _, 0, .cons _ r => .cons h r
  | _, _, i + 1, .cons q r => .cons q (HasL.set h i r)
theorem HasL.take : ∀ {vs : List V} {ds : List D} (n : Nat), HasL K F α vs ds → HasL K F α (vs.take n) (ds.take n)
  | _, _, 0, _ => .nil
  | _, _, n + 1, .nil => .nil
  | _, _, n + 1, .cons h r => .cons h (HasL.take n r)
theorem HasL.drop : ∀ {vs : List V} {ds : List D} (n : Nat), HasL K F α vs ds → HasL K F α (vs.drop n) (ds.drop n)
  | _, _, 0, r => r
  | _, _, n + 1, .nil => .nil
  | _, _, n + 1, .cons h r => HasL.drop n r
theorem HasL.rev {vs : List V} {ds : List D} (h : HasL K F α vs ds) : HasL K F α vs.reverse ds.reverse := by
  suffices ∀ {vs : List V} {ds : List D}, HasL K F α vs ds → ∀ {ws : List V} {es : List D}, HasL K F α ws es → HasL K F α (vs.reverse ++ ws) (ds.reverse ++ es) by
    have q := this h HasL.nil
    rwa [List.append_nil, List.append_nil] at q
  intro vs ds h
  induction vs generalizing ds with
  | nil => cases h; intro ws es r; exact r
  | cons v vs ih =>
    cases h with
    | cons h1 h2 =>
      intro ws es r
      rw [List.reverse_cons, List.reverse_cons, List.append_assoc, List.append_assoc]
      exact ih h2 (.cons h1 r)
theorem HasL.ints : ∀ {vs : List V} {ns : List Int}, HasL K F α vs (ns.map .int) → vs = ns.map .int
  | _, [], .nil => rfl
  | _, n :: ns, .cons h r => by cases h; rw [HasL.ints r]; rfl
theorem hasL_ints : ∀ (ns : List Int), HasL K F α (ns.map .int) (ns.map .int)
  | [] => .nil
  | n :: ns => .cons (.int n) (hasL_ints ns)
end

/-! ### no loc in it -/
mutual
def D.flat : D → Bool
  | .lst ds => flatL ds
  | .rdl ds => flatL ds
  | .tup ds => flatL ds
  | .dct kvs => flatM kvs
  | .ins _ fs => flatN fs
  | .exn _ _ fs => flatN fs
  | .loc _ => false
  | _ => true
def flatL : List D → Bool
  | [] => true
  | d :: ds => d.flat && flatL ds
def flatM : List (Key × D) → Bool
  | [] => true
  | p :: ds => flatP p && flatM ds
def flatP : Key × D → Bool
  | (_, d) => d.flat
def flatN : List (Str × D) → Bool
  | [] => true
  | p :: ds => flatQ p && flatN ds
def flatQ : Str × D → Bool
  | (_, d) => d.flat
end
theorem flatM_eq : ∀ ms : List (Key × D), flatM ms = flatL (ms.map (·.2))
  | [] => by simp [flatM, flatL]
  | (k, d) :: r => by simp [flatM, flatL, flatP, flatM_eq r]
theorem flatN_eq : ∀ ms : List (Str × D), flatN ms = flatL (ms.map (·.2))
  | [] => by simp [flatN, flatL]
  | (k, d) :: r => by simp [flatN, flatL, flatQ, flatN_eq r]
theorem flatL_all (ds : List D) : flatL ds = ds.all D.flat := by
  induction ds with
  | nil => rfl
  | cons d r ih => simp [flatL, ih]
section
variable {K : Frg} {F : Hp} {α α' : List Addr}
mutual
theorem Has.anyα : ∀ {v : V} {d : D}, Has K F α v d → d.flat = true → Has K F α' v d
  | _, _, .non, _ => .non
  | _, _, .bl b, _ => .bl b
  | _, _, .int i, _ => .int i
  | _, _, .str x, _ => .str x
  | _, _, .ty n, _ => .ty n
  | _, _, .adr a, _ => .adr a
  | _, _, .lst h r, e => .lst h (HasL.anyα r (by simpa [D.flat] using e))
  | _, _, .rdl h r, e => .rdl h (HasL.anyα r (by simpa [D.flat] using e))
  | _, _, .tup h r, e => .tup h (HasL.anyα r (by simpa [D.flat] using e))
  | _, _, .dct h k r, e => .dct h k (HasL.anyα r (by rw [← flatM_eq]; simpa [D.flat] using e))
  | _, _, .ins c h k r, e => .ins c h k (HasL.anyα r (by rw [← flatN_eq]; simpa [D.flat] using e))
  | _, _, .loc h, e => by simp [D.flat] at e
  | _, _, .exn0, e => .exn0
  | _, _, .exn h k r, e => .exn h k (HasL.anyα r (by rw [← flatN_eq]; simpa [D.flat] using e))
theorem HasL.anyα : ∀ {vs : List V} {ds : List D}, HasL K F α vs ds → flatL ds = true → HasL K F α' vs ds
  | _, _, .nil, _ => .nil
  | _, _, .cons h r, e => .cons (Has.anyα h (by simp [flatL] at e; exact e.1)) (HasL.anyα r (by simp [flatL] at e; exact e.2))
end
end

/-! ### the store -/
def HObj (K : Frg) (F : Hp) (α : List Addr) : HO → O → Prop
  | .lst xs, .lst ds => HasL K F α xs ds
  | .dK kvs, .dct ms => kvs.map (·.1) = ms.map (·.1) ∧ HasL K F α (kvs.map (·.2)) (ms.map (·.2))
  | .ins Ca _ fs, .ins C gs => clsV K C = .ref Ca ∧ fs.map (·.1) = gs.map (·.1) ∧ HasL K F α (fs.map (·.2)) (gs.map (·.2))
  | .tbl ps, .tab q _ => TriplesOk ps.toList ∧ ∀ (pos : Pos) (cv : Value), codeAmong pos ps.toList = some cv → ∃ c, cv = .ref c ∧ F c = some (LamX.CodeO c q)
  | _, _ => False
theorem HObj.mono {K : Frg} {F F' : Hp} {α α' : List Addr} (e : Same F F') (p : α <+: α') : ∀ {h : HO} {o : O}, HObj K F α h o → HObj K F' α' h o := by
  intro h o q
  cases h <;> cases o <;> simp only [HObj] at q ⊢
  · exact q.mono e p
  · exact ⟨q.1, q.2.mono e p⟩
  · exact ⟨q.1, q.2.1, q.2.2.mono e p⟩
  · exact ⟨q.1, fun pos cv hc => let ⟨c, e1, e2⟩ := q.2 pos cv hc; ⟨c, e1, e _ _ e2⟩⟩

structure Rel0 (K : Frg) (G F H : Hp) (α : List Addr) (ς : Store) : Prop where
  ex : Same F H
  gx : Same G H
  len : α.length = ς.length
  obj : ∀ (i : Nat) (o : O), ς[i]? = some (some o) → ∃ a h, α[i]? = some a ∧ H a = some h ∧ F a = none ∧ HObj K F α h o
  fg : ∀ (a : Addr) (o : HO), G a = some o → F a = none
  gn : ∀ (i : Nat) (o : O) (a : Addr), ς[i]? = some (some o) → α[i]? = some a → G a = none
  inj : ∀ (i j : Nat) (oi oj : O) (a : Addr), ς[i]? = some (some oi) → ς[j]? = some (some oj) → α[i]? = some a → α[j]? = some a → i = j
  tb : ∀ (i : Nat) (q : Str) (P : Addr), ς[i]? = some (some (.tab q P)) → α[i]? = some P

def O.flat : O → Bool
  | .lst ds => flatL ds
  | .dct kvs => flatM kvs
  | .ins _ fs => flatN fs
  | .tab _ _ => true
def O.isTab : O → Bool
  | .tab _ _ => true
  | _ => false
theorem O.noTab {o : O} (h : o.isTab = false) (q : Str) (P : Addr) : o ≠ .tab q P := fun z => by rw [z] at h; cases h
def sflat : Store → Bool
  | [] => true
  | none :: r => sflat r
  | some o :: r => o.flat && sflat r
theorem sflat_get : ∀ {ς : Store} {i : Nat} {o : O}, sflat ς = true → ς[i]? = some (some o) → o.flat = true
  | none :: r, 0, o, h, e => by simp at e
  | some u :: r, 0, o, h, e => by
    simp only [List.getElem?_cons_zero, Option.some.injEq] at e
    subst e
    simp only [sflat, Bool.and_eq_true] at h
    exact h.1
  | none :: r, i + 1, o, h, e => sflat_get (ς := r) (i := i) h (by simpa using e)
  | some u :: r, i + 1, o, h, e => sflat_get (ς := r) (i := i) (by simp only [sflat, Bool.and_eq_true] at h; exact h.2) (by simpa using e)
  | [], i, o, h, e => by simp at e
theorem HObj.anyα {K : Frg} {F : Hp} {α α' : List Addr} : ∀ {h : HO} {o : O}, HObj K F α h o → o.flat = true → HObj K F α' h o := by
  intro h o q f
  cases h <;> cases o <;> simp only [HObj] at q ⊢
  · exact q.anyα (by simpa [O.flat] using f)
  · exact ⟨q.1, q.2.anyα (by rw [← flatM_eq]; simpa [O.flat] using f)⟩
  · exact ⟨q.1, q.2.1, q.2.2.anyα (by rw [← flatN_eq]; simpa [O.flat] using f)⟩
  · exact q

structure Ext (F : Hp) (α : List Addr) (F' : Hp) (α' : List Addr) : Prop where
  f : Same F F'
  a : α <+: α'
theorem Ext.refl (F : Hp) (α : List Addr) : Ext F α F α := ⟨Same.refl F, List.prefix_refl α⟩
theorem Ext.trans {F F1 F2 : Hp} {α α1 α2 : List Addr} (h : Ext F α F1 α1) (k : Ext F1 α1 F2 α2) : Ext F α F2 α2 := ⟨h.f.trans k.f, h.a.trans k.a⟩
theorem Has.ext {K : Frg} {F F' : Hp} {α α' : List Addr} {v : V} {d : D} (h : Has K F α v d) (x : Ext F α F' α') : Has K F' α' v d := h.mono x.f x.a
theorem HasL.ext {K : Frg} {F F' : Hp} {α α' : List Addr} {v : List V} {d : List D} (h : HasL K F α v d) (x : Ext F α F' α') : HasL K F' α' v d := h.mono x.f x.a

section
variable {K : Frg} {G F H : Hp} {α : List Addr} {ς : Store}
theorem Rel0.fnone (R : Rel0 K G F H α ς) {p : Addr} (h : H p = none) : F p = none := R.ex.free h
theorem same_upd {F : Hp} {p : Addr} {o : HO} (h : F p = none) : Same F (upd F p o) := fun a u e => by
  rw [upd_ne (ne_of_none e h)]
  exact e
theorem Rel0.imm (R : Rel0 K G F H α ς) {p : Addr} (hp : H p = none) (o : HO) : Rel0 K G (upd F p o) (upd H p o) α ς := by
  have fp := R.fnone hp
  refine ⟨fun a u e => ?_, fun a u e => ?_, R.len, fun i ob e => ?_, fun a o e => by rw [upd_ne (ne_of_none (R.gx a o e) hp)]; exact R.fg a o e, R.gn, R.inj, R.tb⟩
  rotate_left
  · rw [upd_ne (ne_of_none (R.gx a u e) hp)]
    exact R.gx a u e
  rotate_left
  · by_cases q : a = p
    · subst q
      rw [upd_same] at e ⊢
      exact e
    · rw [upd_ne q] at e ⊢
      exact R.ex a u e
  · obtain ⟨a, h, h1, h2, h3, h4⟩ := R.obj i ob e
    have q : a ≠ p := ne_of_none h2 hp
    exact ⟨a, h, h1, by rw [upd_ne q]; exact h2, by rw [upd_ne q]; exact h3, h4.mono (same_upd fp) (List.prefix_refl α)⟩
theorem Rel0.immX (R : Rel0 K G F H α ς) {p : Addr} (hp : H p = none) (o : HO) : Ext F α (upd F p o) α := ⟨same_upd (R.fnone hp), List.prefix_refl α⟩
theorem pre_app (α : List Addr) (p : Addr) : α <+: α ++ [p] := ⟨[p], rfl⟩
theorem Rel0.new (R : Rel0 K G F H α ς) {p : Addr} (hp : H p = none) {h : HO} {o : O} (k : HObj K F α h o) (nt : o.isTab = false := by rfl) : Rel0 K G F (upd H p h) (α ++ [p]) (ς ++ [some o]) := by
  have len := R.len
  have low : ∀ {i : Nat} {oi : O}, (ς ++ [some o])[i]? = some (some oi) → (i < ς.length ∧ ς[i]? = some (some oi)) ∨ i = ς.length := fun {i oi} q => by
    by_cases hi : i < ς.length
    · rw [List.getElem?_append_left hi] at q
      exact .inl ⟨hi, q⟩
    · have := (List.getElem?_eq_some_iff.mp q).1
      simp at this
      exact .inr (by omega)
  have old : ∀ {i : Nat} {oi : O}, ς[i]? = some (some oi) → ∀ {a : Addr}, (α ++ [p])[i]? = some a → α[i]? = some a ∧ a ≠ p := fun {i oi} q {a} w => by
    obtain ⟨b, g, h1, h2, h3, h4⟩ := R.obj i oi q
    have z := pre_get (pre_app α p) h1
    rw [w] at z
    cases z
    exact ⟨h1, ne_of_none h2 hp⟩
  have top : ∀ {a : Addr}, (α ++ [p])[ς.length]? = some a → a = p := fun {a} w => by
    rw [← len] at w
    simp at w
    exact w.symm
  have tabs : ∀ (i : Nat) (q : Str) (P : Addr), (ς ++ [some o])[i]? = some (some (.tab q P)) → (α ++ [p])[i]? = some P := fun i q P e => by
    rcases low e with ⟨l1, q1⟩ | q1
    · exact pre_get (pre_app α p) (R.tb i q P q1)
    · subst q1
      simp at e
      exact absurd e (O.noTab nt q P)
  refine ⟨fun a u e => ?_, fun a u e => ?_, by simp [len], fun i ob e => ?_, R.fg, fun i oi a e1 e2 => ?_, fun i j oi oj a e1 e2 e3 e4 => ?_, tabs⟩
  · rw [upd_ne (ne_of_none (R.ex a u e) hp)]
    exact R.ex a u e
  · rw [upd_ne (ne_of_none (R.gx a u e) hp)]
    exact R.gx a u e
  · by_cases hi : i < ς.length
    · rw [List.getElem?_append_left hi] at e
      obtain ⟨a, g, h1, h2, h3, h4⟩ := R.obj i ob e
      exact ⟨a, g, pre_get (pre_app α p) h1, by rw [upd_ne (ne_of_none h2 hp)]; exact h2, h3, h4.mono (Same.refl F) (pre_app α p)⟩
    · have hi2 : i = ς.length := by
        have := (List.getElem?_eq_some_iff.mp e).1
        simp at this
        omega
      subst hi2
      simp at e
      subst e
      exact ⟨p, h, by rw [← len]; simp, upd_same, R.fnone hp, k.mono (Same.refl F) (pre_app α p)⟩
  · rcases low e1 with ⟨l1, q1⟩ | q1
    · exact R.gn i oi a q1 (old q1 e2).1
    · subst q1
      rw [top e2]
      exact R.gx.free hp
  · rcases low e1 with ⟨l1, q1⟩ | q1 <;> rcases low e2 with ⟨l2, q2⟩ | q2
    · exact R.inj i j oi oj a q1 q2 (old q1 e3).1 (old q2 e4).1
    · subst q2
      exact absurd (top e4) (old q1 e3).2
    · subst q1
      exact absurd (top e3) (old q2 e4).2
    · omega
theorem set_some {ς : Store} {i j : Nat} {x : Option O} {o : O} (e : (ς.set i x)[j]? = some (some o)) : (i = j ∧ x = some o) ∨ (i ≠ j ∧ ς[j]? = some (some o)) := by
  by_cases q : i = j
  · subst q
    rw [List.getElem?_set_self'] at e
    cases z : ς[i]? with
    | none => rw [z] at e; cases e
    | some u => rw [z] at e; simp at e; exact .inl ⟨rfl, e⟩
  · rw [List.getElem?_set_ne q] at e
    exact .inr ⟨q, e⟩
theorem Rel0.put (R : Rel0 K G F H α ς) {i : Nat} {o o' : O} {a : Addr} {h' : HO} (e : ς[i]? = some (some o)) (ea : α[i]? = some a) (k : HObj K F α h' o') (nt : ∀ q P, o' = .tab q P → a = P := by exact fun q P z => by cases z) : Rel0 K G F (upd H a h') α (ς.set i (some o')) := by
  obtain ⟨b, h, h1, h2, h3, h4⟩ := R.obj i o e
  rw [ea] at h1
  cases h1
  have live : ∀ {j : Nat} {oi : O}, (ς.set i (some o'))[j]? = some (some oi) → ∃ q, ς[j]? = some (some q) := fun {j oi} q => by
    rcases set_some q with ⟨rfl, _⟩ | ⟨_, w⟩
    · exact ⟨o, e⟩
    · exact ⟨_, w⟩
  refine ⟨fun c u q => ?_, fun c u q => ?_, by rw [List.length_set]; exact R.len, fun j ob q => ?_, R.fg, fun j oi c e1 e2 => ?_, fun j l oi oj c e1 e2 e3 e4 => ?_, fun j q P e1 => ?_⟩
  · rw [upd_ne (ne_of_none q h3)]
    exact R.ex c u q
  · rw [upd_ne (ne_of_none q (R.gn i o a e ea))]
    exact R.gx c u q
  · rcases set_some q with ⟨rfl, z⟩ | ⟨z, w⟩
    · cases z
      exact ⟨a, h', ea, upd_same, h3, k⟩
    · obtain ⟨b, g, g1, g2, g3, g4⟩ := R.obj j ob w
      have n : b ≠ a := fun y => z (by subst y; exact R.inj i j o ob b e w ea g1)
      exact ⟨b, g, g1, by rw [upd_ne n]; exact g2, g3, g4⟩
  · obtain ⟨q1, z1⟩ := live e1
    exact R.gn j q1 c z1 e2
  · obtain ⟨q1, z1⟩ := live e1
    obtain ⟨q2, z2⟩ := live e2
    exact R.inj j l q1 q2 c z1 z2 e3 e4
  · rcases set_some e1 with ⟨rfl, z⟩ | ⟨_, w⟩
    · cases z
      rw [← nt q P rfl]
      exact ea
    · exact R.tb j q P w
theorem Rel0.frz (R : Rel0 K G F H α ς) {i : Nat} {o : O} {a : Addr} {h : HO} (e : ς[i]? = some (some o)) (ea : α[i]? = some a) (eh : H a = some h) : Rel0 K G (upd F a h) H α (ς.set i none) ∧ Ext F α (upd F a h) α := by
  obtain ⟨b, g, h1, h2, h3, h4⟩ := R.obj i o e
  rw [ea] at h1
  cases h1
  refine ⟨⟨fun c u q => ?_, R.gx, by rw [List.length_set]; exact R.len, fun j ob q => ?_, fun b u q => by rw [upd_ne (fun z => by subst z; rw [R.gn i o b e ea] at q; cases q)]; exact R.fg b u q, fun j oi c e1 e2 => ?_, fun j l oi oj c e1 e2 e3 e4 => ?_, fun j q P e1 => ?_⟩, ⟨same_upd h3, List.prefix_refl α⟩⟩
  · by_cases z : c = a
    · subst z
      rw [upd_same] at q
      rw [eh]
      exact q
    · rw [upd_ne z] at q
      exact R.ex c u q
  · rcases set_some q with ⟨rfl, z⟩ | ⟨z, w⟩
    · cases z
    · obtain ⟨b, g, g1, g2, g3, g4⟩ := R.obj j ob w
      have n : b ≠ a := fun y => z (by subst y; exact R.inj i j o ob b e w ea g1)
      exact ⟨b, g, g1, g2, by rw [upd_ne n]; exact g3, g4.mono (same_upd h3) (List.prefix_refl α)⟩
  · rcases set_some e1 with ⟨_, z⟩ | ⟨_, w1⟩
    · cases z
    · exact R.gn j oi c w1 e2
  · rcases set_some e1 with ⟨_, z⟩ | ⟨_, w1⟩
    · cases z
    · rcases set_some e2 with ⟨_, z⟩ | ⟨_, w2⟩
      · cases z
      · exact R.inj j l oi oj c w1 w2 e3 e4
  · rcases set_some e1 with ⟨_, z⟩ | ⟨_, w⟩
    · cases z
    · exact R.tb j q P w
/-- a further thing that stands -/
theorem Rel0.track (R : Rel0 K G F H α ς) {p : Addr} (hp : H p = none) (o : HO) : Rel0 K (upd G p o) F (upd H p o) α ς := by
  refine ⟨fun a u e => ?_, fun a u e => ?_, R.len, fun i ob e => ?_, fun a u e => ?_, fun i oi a e1 e2 => ?_, R.inj, R.tb⟩
  · rw [upd_ne (ne_of_none (R.ex a u e) hp)]
    exact R.ex a u e
  · by_cases q : a = p
    · subst q
      rw [upd_same] at e ⊢
      exact e
    · rw [upd_ne q] at e ⊢
      exact R.gx a u e
  · obtain ⟨a, h, h1, h2, h3, h4⟩ := R.obj i ob e
    exact ⟨a, h, h1, by rw [upd_ne (ne_of_none h2 hp)]; exact h2, h3, h4⟩
  · by_cases q : a = p
    · subst q
      exact R.ex.free hp
    · rw [upd_ne q] at e
      exact R.fg a u e
  · obtain ⟨b, h, h1, h2, h3, h4⟩ := R.obj i oi e1
    rw [e2] at h1
    cases h1
    rw [upd_ne (ne_of_none h2 hp)]
    exact R.gn i oi a e1 e2
/-- it changes -/
theorem Rel0.retrack {p : Addr} {o o' : HO} (R : Rel0 K (upd G p o) F H α ς) : Rel0 K (upd G p o') F (upd H p o') α ς := by
  have fp : F p = none := R.fg p o upd_same
  have live : ∀ (i : Nat) (ob : O) (a : Addr), ς[i]? = some (some ob) → α[i]? = some a → a ≠ p := fun i ob a e1 e2 z => by
    subst z
    have := R.gn i ob a e1 e2
    rw [upd_same] at this
    cases this
  refine ⟨fun a u e => ?_, fun a u e => ?_, R.len, fun i ob e => ?_, fun a u e => ?_, fun i oi a e1 e2 => ?_, R.inj, R.tb⟩
  · rw [upd_ne (ne_of_none e fp)]
    exact R.ex a u e
  · by_cases q : a = p
    · subst q
      rw [upd_same] at e ⊢
      exact e
    · rw [upd_ne q] at e ⊢
      exact R.gx a u (by rw [upd_ne q]; exact e)
  · obtain ⟨a, h, h1, h2, h3, h4⟩ := R.obj i ob e
    exact ⟨a, h, h1, by rw [upd_ne (live i ob a e h1)]; exact h2, h3, h4⟩
  · by_cases q : a = p
    · subst q
      exact fp
    · exact R.fg a u (by rw [upd_ne q] at e ⊢; exact e)
  · have n := live i oi a e1 e2
    have z := R.gn i oi a e1 e2
    rw [upd_ne n] at z ⊢
    exact z
theorem Rel0.untrack {p : Addr} {o : HO} (R : Rel0 K (upd G p o) F H α ς) (gp : G p = none) : Rel0 K G F H α ς := by
  have up : ∀ {a : Addr} {u : HO}, G a = some u → upd G p o a = some u := fun {a u} e => by
    rw [upd_ne (ne_of_none e gp)]
    exact e
  refine ⟨R.ex, fun a u e => R.gx a u (up e), R.len, R.obj, fun a u e => R.fg a u (up e), fun i oi a e1 e2 => ?_, R.inj, R.tb⟩
  have z := R.gn i oi a e1 e2
  cases q : G a with
  | none => rfl
  | some u => rw [up q] at z; cases z
/-- it is kept for good -/
theorem Rel0.settle {p : Addr} {o : HO} (R : Rel0 K (upd G p o) F H α ς) (gp : G p = none) : Rel0 K G (upd F p o) H α ς ∧ Ext F α (upd F p o) α := by
  have fp : F p = none := R.fg p o upd_same
  have hp : H p = some o := R.gx p o upd_same
  have U := R.untrack gp
  refine ⟨⟨fun a u e => ?_, U.gx, U.len, fun i ob e => ?_, fun a u e => ?_, U.gn, U.inj, U.tb⟩, ⟨same_upd fp, List.prefix_refl α⟩⟩
  · by_cases q : a = p
    · subst q
      rw [upd_same] at e
      rw [hp]
      exact e
    · rw [upd_ne q] at e
      exact R.ex a u e
  · obtain ⟨a, h, h1, h2, h3, h4⟩ := U.obj i ob e
    have n : a ≠ p := fun z => by
      subst z
      have := R.gn i ob a e h1
      rw [upd_same] at this
      cases this
    exact ⟨a, h, h1, h2, by rw [upd_ne n]; exact h3, h4.mono (same_upd fp) (List.prefix_refl α)⟩
  · rw [upd_ne (ne_of_none e gp)]
    exact U.fg a u e
/-- it is kept, to be changed -/
theorem Rel0.adopt {p : Addr} {o : HO} {ob : O} (R : Rel0 K (upd G p o) F H α ς) (gp : G p = none) (k : HObj K F α o ob) (nt : ob.isTab = false := by rfl) : Rel0 K G F H (α ++ [p]) (ς ++ [some ob]) := by
  have fp : F p = none := R.fg p o upd_same
  have hp : H p = some o := R.gx p o upd_same
  have U := R.untrack gp
  have len := R.len
  have notp : ∀ {i : Nat} {oi : O} {a : Addr}, ς[i]? = some (some oi) → α[i]? = some a → a ≠ p := fun {i oi a} e1 e2 z => by
    subst z
    have := R.gn i oi a e1 e2
    rw [upd_same] at this
    cases this
  have low : ∀ {i : Nat} {oi : O}, (ς ++ [some ob])[i]? = some (some oi) → (i < ς.length ∧ ς[i]? = some (some oi)) ∨ i = ς.length := fun {i oi} q => by
    by_cases hi : i < ς.length
    · rw [List.getElem?_append_left hi] at q
      exact .inl ⟨hi, q⟩
    · have := (List.getElem?_eq_some_iff.mp q).1
      simp at this
      exact .inr (by omega)
  have back : ∀ {i : Nat} {a : Addr}, i < ς.length → (α ++ [p])[i]? = some a → α[i]? = some a := fun {i a} hi q => by
    rw [List.getElem?_append_left (by rw [len]; exact hi)] at q
    exact q
  have top : ∀ {a : Addr}, (α ++ [p])[ς.length]? = some a → a = p := fun {a} w => by
    rw [← len] at w
    simp at w
    exact w.symm
  have tabs : ∀ (i : Nat) (q : Str) (P : Addr), (ς ++ [some ob])[i]? = some (some (.tab q P)) → (α ++ [p])[i]? = some P := fun i q P e => by
    rcases low e with ⟨l1, q1⟩ | q1
    · exact pre_get (pre_app α p) (U.tb i q P q1)
    · subst q1
      simp at e
      exact absurd e (O.noTab nt q P)
  refine ⟨U.ex, U.gx, by simp [len], fun i oi e => ?_, U.fg, fun i oi a e1 e2 => ?_, fun i j oi oj a e1 e2 e3 e4 => ?_, tabs⟩
  · rcases low e with ⟨l, q⟩ | q
    · obtain ⟨a, g, h1, h2, h3, h4⟩ := U.obj i oi q
      exact ⟨a, g, pre_get (pre_app α p) h1, h2, h3, h4.mono (Same.refl F) (pre_app α p)⟩
    · subst q
      simp at e
      subst e
      exact ⟨p, o, by rw [← len]; simp, hp, fp, k.mono (Same.refl F) (pre_app α p)⟩
  · rcases low e1 with ⟨l, q⟩ | q
    · exact U.gn i oi a q (back l e2)
    · subst q
      rw [top e2]
      exact gp
  · rcases low e1 with ⟨l1, q1⟩ | q1 <;> rcases low e2 with ⟨l2, q2⟩ | q2
    · exact U.inj i j oi oj a q1 q2 (back l1 e3) (back l2 e4)
    · subst q2
      exact absurd (top e4) (notp q1 (back l1 e3))
    · subst q1
      exact absurd (top e3) (notp q2 (back l2 e4))
    · omega
/-- the store's older part alone -/
theorem Rel0.cut (R : Rel0 K G F H α ς) {α0 : List Addr} (p : α0 <+: α) (hf : ∀ (i : Nat) (h : HO) (o : O), i < α0.length → ς[i]? = some (some o) → HObj K F α h o → HObj K F α0 h o) : Rel0 K G F H α0 (ς.take α0.length) := by
  have low : ∀ {i : Nat} {o : O}, (ς.take α0.length)[i]? = some (some o) → i < α0.length ∧ ς[i]? = some (some o) := fun {i o} q => by
    have hl := (List.getElem?_eq_some_iff.mp q).1
    rw [List.length_take] at hl
    have hi : i < α0.length := by omega
    rw [List.getElem?_take_of_lt hi] at q
    exact ⟨hi, q⟩
  have pl : α0.length ≤ α.length := p.length_le
  have back : ∀ {i : Nat} {a : Addr}, i < α0.length → α[i]? = some a → α0[i]? = some a := fun {i a} hi q => by
    obtain ⟨t, rfl⟩ := p
    rw [List.getElem?_append_left hi] at q
    exact q
  refine ⟨R.ex, R.gx, by rw [List.length_take, ← R.len]; omega, fun i o q => ?_, R.fg, fun i oi a e1 e2 => R.gn i oi a (low e1).2 (pre_get p e2), fun i j oi oj a e1 e2 e3 e4 => ?_, fun i q P e1 => back (low e1).1 (R.tb i q P (low e1).2)⟩
  · obtain ⟨hi, w⟩ := low q
    obtain ⟨a, h, h1, h2, h3, h4⟩ := R.obj i o w
    exact ⟨a, h, back hi h1, h2, h3, hf i h o hi w h4⟩
  · exact R.inj i j oi oj a (low e1).2 (low e2).2 (pre_get p e3) (pre_get p e4)
end
end DL

/-! from DL2.lean -/
set_option Elab.async false
set_option linter.all false
set_option maxRecDepth 100000
set_option maxHeartbeats 2000000
namespace DL
open PySem L2

/-! ### functions of data -/
structure S where
  e : List (Option D)
  s : Store
inductive Out (β : Type) where
  | ok (b : β) (s : S)
  | exc (C : Str) (fs : List (Str × D)) (s : S)
abbrev M (β : Type) := S → Option (Out β)
def ret {β : Type} (b : β) : M β := fun s => some (.ok b s)
def fail {β : Type} : M β := fun _ => none
def bnd {β γ : Type} (m : M β) (f : β → M γ) : M γ := fun s => match m s with
  | none => none
  | some (.exc C fs ς) => some (.exc C fs ς)
  | some (.ok b s') => f b s'
def ite' {β : Type} (b : Bool) (m n : M β) : M β := fun s => match b with
  | true => m s
  | false => n s

structure RelS (K : Frg) (G F H : Hp) (α : List Addr) (σ : L2.St) (s : S) : Prop where
  st : Rel0 K G F H α s.s
  len : s.e.length = σ.length
  sl : ∀ (i : Nat) (d : D), s.e[i]? = some (some d) → ∃ v, σ[i]? = some (some v) ∧ Has K F α v d

/-- an exception's own dict, and what it holds -/
def ExcAt (K : Frg) (F : Hp) (α : List Addr) (od : Option Addr) (fs : List (Str × D)) : Prop :=
  match od with
  | none => fs = []
  | some d => ∃ xs, F d = some (.xd xs) ∧ xs.map (·.1) = fs.map (·.1) ∧ HasL K F α (xs.map (·.2)) (fs.map (·.2))

def Wp (K : Frg) (G : Hp) (E : WX) (F : Hp) (α : List Addr) {β : Type} (out : Option (Out β)) (P : Hp → List Addr → Hp → β → S → Prop) : Prop :=
  match out with
  | none => False
  | some (.exc C fs s') => ∀ F' α' H' od σ', Ext F α F' α' → RelS K G F' H' α' σ' s' → ExcAt K F' α' od fs → E (clsV K C) od σ' H'
  | some (.ok b s') => ∀ F' α' H', Ext F α F' α' → P F' α' H' b s'
theorem Wp.bind {K : Frg} {E : WX} {F : Hp} {α : List Addr} {β γ : Type} {m : M β} {f : β → M γ} {s : S} {P : Hp → List Addr → Hp → γ → S → Prop} (h : Wp K G E F α (bnd m f s) P) :
    Wp K G E F α (m s) (fun F1 α1 _ b s1 => Wp K G E F1 α1 (f b s1) P) := by
  unfold bnd at h
  cases q : m s with
  | none => rw [q] at h; exact h
  | some o =>
    rw [q] at h
    cases o with
    | exc C fs ς => exact h
    | ok b s1 =>
      intro F1 α1 H1 x
      show Wp K G E F1 α1 (f b s1) P
      have h : Wp K G E F α (f b s1) P := h
      cases z : f b s1 with
      | none => rw [z] at h; exact h
      | some o =>
        rw [z] at h
        cases o with
        | exc C fs ς => exact fun F' α' H' od σ' y => h F' α' H' od σ' (x.trans y)
        | ok c s2 => exact fun F' α' H' y => h F' α' H' (x.trans y)
theorem Wp.mono {K : Frg} {E : WX} {F : Hp} {α : List Addr} {β : Type} {out : Option (Out β)} {P P' : Hp → List Addr → Hp → β → S → Prop} (h : Wp K G E F α out P) (k : ∀ F' α' H' b s', Ext F α F' α' → P F' α' H' b s' → P' F' α' H' b s') : Wp K G E F α out P' := by
  unfold Wp at h ⊢
  cases out with
  | none => exact h
  | some o =>
    cases o with
    | exc C fs ς => exact h
    | ok b s' => exact fun F' α' H' x => k F' α' H' b s' x (h F' α' H' x)
/-- a smaller ground -/
theorem Wp.ext {K : Frg} {E : WX} {F F1 : Hp} {α α1 : List Addr} {β : Type} {out : Option (Out β)} {P : Hp → List Addr → Hp → β → S → Prop} (h : Wp K G E F α out P) (x : Ext F α F1 α1) : Wp K G E F1 α1 out P := by
  unfold Wp at h ⊢
  cases out with
  | none => exact h
  | some o =>
    cases o with
    | exc C fs ς => exact fun F' α' H' od σ' y => h F' α' H' od σ' (x.trans y)
    | ok b s' => exact fun F' α' H' y => h F' α' H' (x.trans y)

/-! ### readings -/
def pV (K : Frg) (G : Hp) (σ : L2.St) (Q : VK) : Hp → List Addr → Hp → D → S → Prop := fun F' α' H' d s' => ∀ v, RelS K G F' H' α' σ s' → Has K F' α' v d → Q v H'
def pB (K : Frg) (G : Hp) (σ : L2.St) (Q : Bool → Hp → Prop) : Hp → List Addr → Hp → Bool → S → Prop := fun F' α' H' b s' => RelS K G F' H' α' σ s' → Q b H'
def pA (K : Frg) (G : Hp) (σ : L2.St) (Q : List V → Hp → Prop) : Hp → List Addr → Hp → List D → S → Prop := fun F' α' H' ds s' => ∀ vs, RelS K G F' H' α' σ s' → HasL K F' α' vs ds → Q vs H'
inductive Fl where
  | nx | rt (d : D) | bk | ct
def pS (K : Frg) (G : Hp) (D : Ends) : Hp → List Addr → Hp → Fl → S → Prop := fun F' α' H' fl s' => match fl with
  | .nx => ∀ σ', RelS K G F' H' α' σ' s' → D.nx σ' H'
  | .rt d => ∀ v, Rel0 K G F' H' α' s'.s → Has K F' α' v d → D.rt v H'
  | .bk => ∀ σ', RelS K G F' H' α' σ' s' → D.bk σ' H'
  | .ct => ∀ σ', RelS K G F' H' α' σ' s' → D.ct σ' H'
def rE (K : Frg) (E : WX) (m : M D) : TE := fun σ H Q => ∃ G F α s, RelS K G F H α σ s ∧ Wp K G E F α (m s) (pV K G σ Q)
def rT (K : Frg) (E : WX) (m : M Bool) : TT := fun σ H Q => ∃ G F α s, RelS K G F H α σ s ∧ Wp K G E F α (m s) (pB K G σ Q)
def rA (K : Frg) (E : WX) (m : M (List D)) : TA := fun σ H Q => ∃ G F α s, RelS K G F H α σ s ∧ Wp K G E F α (m s) (pA K G σ Q)
def rS (K : Frg) (E : WX) (m : M Fl) : TS := fun D σ H => ∃ G F α s, RelS K G F H α σ s ∧ Wp K G E F α (m s) (pS K G D)

section
variable {X : Cx} {e : Expr} {st : Stmt} {sts : List Stmt} {es : List Expr}
theorem PE.weak {t t' : TE} (h : PE X e t) (k : ∀ σ H Q, t' σ H Q → t σ H Q) : PE X e t' := ⟨fun pins s σ H Q I q => h.run pins s σ H Q I (k σ H Q q)⟩
theorem PT.weak {t t' : TT} (h : PT X e t) (k : ∀ σ H Q, t' σ H Q → t σ H Q) : PT X e t' := ⟨fun pins s σ H Q I q => h.run pins s σ H Q I (k σ H Q q)⟩
theorem PW.weak {t t' : TT} (h : PW X e t) (k : ∀ σ H Q, t' σ H Q → t σ H Q) : PW X e t' := ⟨fun w pins s σ H Q I q => h.run w pins s σ H Q I (k σ H Q q)⟩
theorem PA.weak {t t' : TA} (h : PA X es t) (k : ∀ σ H Q, t' σ H Q → t σ H Q) : PA X es t' := ⟨fun p pins s σ H Q I q => h.run p pins s σ H Q I (k σ H Q q)⟩
theorem PS.weak {t t' : TS} (h : PS X st t) (k : ∀ D σ H, t' D σ H → t D σ H) : PS X st t' := ⟨fun pins s σ H D I q => h.run pins s σ H D I (k D σ H q)⟩
theorem PSs.weak {t t' : TS} (h : PSs X sts t) (k : ∀ D σ H, t' D σ H → t D σ H) : PSs X sts t' := ⟨fun pins s σ H D I q => h.run pins s σ H D I (k D σ H q)⟩
end

/-! ### operations on data: their readings -/
section
variable {K : Frg} {E : WX} {G F H : Hp} {α : List Addr} {σ : L2.St} {s : S} {Q : VK}
theorem fin (h : Wp K G E F α (ret (β := D) d s) (pV K G σ Q)) (R : RelS K G F H α σ s) {v : V} (k : Has K F α v d) : Q v H := h F α H (Ext.refl F α) v R k
theorem RelS.imm (R : RelS K G F H α σ s) {p : Addr} (hp : H p = none) (o : HO) : RelS K G (upd F p o) (upd H p o) α σ s :=
  ⟨R.st.imm hp o, R.len, fun i d e => let ⟨v, h1, h2⟩ := R.sl i d e; ⟨v, h1, h2.ext (R.st.immX hp o)⟩⟩
theorem RelS.new (R : RelS K G F H α σ s) {p : Addr} (hp : H p = none) {h : HO} {o : O} (k : HObj K F α h o) (nt : o.isTab = false := by rfl) : RelS K G F (upd H p h) (α ++ [p]) σ { s with s := s.s ++ [some o] } :=
  ⟨R.st.new hp k nt, R.len, fun i d e => let ⟨v, h1, h2⟩ := R.sl i d e; ⟨v, h1, h2.mono (Same.refl F) (pre_app α p)⟩⟩
/-- a new object, kept for good or to be changed -/
def mk (own : Bool) (ds : List D) : M D := fun s => match own with
  | false => some (.ok (.lst ds) s)
  | true => some (.ok (.loc s.s.length) { s with s := s.s ++ [some (.lst ds)] })
theorem fin_lst {own : Bool} {xs : List V} {ds : List D} (h : Wp K G E F α (mk own ds s) (pV K G σ Q)) (R : RelS K G F H α σ s) (k : HasL K F α xs ds) : ∀ p, H p = none → Q (.ref p) (upd H p (.lst xs)) := by
  intro p hp
  cases own with
  | false => exact h _ _ _ (R.st.immX hp (.lst xs)) _ (R.imm hp _) (.lst upd_same (k.ext (R.st.immX hp _)))
  | true =>
    refine h F (α ++ [p]) _ ⟨Same.refl F, pre_app α p⟩ _ (R.new hp (o := .lst ds) k) (.loc ?_)
    rw [← R.st.len]
    simp
theorem fin_tup {xs : List V} {ds : List D} (h : Wp K G E F α (ret (.tup ds) s) (pV K G σ Q)) (R : RelS K G F H α σ s) (k : HasL K F α xs ds) : ∀ p, H p = none → Q (.ref p) (upd H p (.tup xs)) := by
  intro p hp
  exact h _ _ _ (R.st.immX hp (.tup xs)) _ (R.imm hp _) (.tup (SqT.of upd_same) (k.ext (R.st.immX hp _)))

/-- a sequence's kind (true: a list) and items -/
def seqD (ς : Store) : D → Option (Bool × List D)
  | .lst ds => some (true, ds)
  | .rdl ds => some (true, ds)
  | .tup ds => some (false, ds)
  | .loc i => match ς[i]? with
    | some (some (.lst ds)) => some (true, ds)
    | _ => none
  | _ => none
theorem HObj.lst {h : HO} {ds : List D} (k : HObj K F α h (.lst ds)) : ∃ xs, h = .lst xs ∧ HasL K F α xs ds := by
  cases h <;> simp only [HObj] at k
  exact ⟨_, rfl, k⟩
theorem seq_at (R : Rel0 K G F H α ς) {v : V} {d : D} {b : Bool} {ds : List D} (h : Has K F α v d) (e : seqD ς d = some (b, ds)) : ∃ a xs, v = .ref a ∧ HasL K F α xs ds ∧ (b = true → SqL K H a xs) ∧ (b = false → SqT K H a xs) := by
  cases h <;> simp only [seqD] at e <;> try (cases e; done)
  · cases e
    rename_i a xs h1 h2
    exact ⟨a, xs, rfl, h2, fun _ => SqL.of (R.ex _ _ h1), fun z => by cases z⟩
  · cases e
    rename_i a xs h1 h2
    exact ⟨a, xs, rfl, h2, fun _ => R.ex.seq h1, fun z => by cases z⟩
  · cases e
    rename_i a xs h1 h2
    refine ⟨a, xs, rfl, h2, (fun z => by cases z), fun _ => ?_⟩
    rcases h1 with (h | ⟨o, h⟩) | h
    · exact .inl (.inl (R.ex _ _ h))
    · exact .inl (.inr ⟨o, R.ex _ _ h⟩)
    · exact .inr h
  · rename_i a i ha
    split at e
    · rename_i ds' q
      cases e
      obtain ⟨a', h, h1, h2, h3, h4⟩ := R.obj i _ q
      rw [ha] at h1
      cases h1
      obtain ⟨xs, rfl, h5⟩ := h4.lst
      exact ⟨a, xs, rfl, h5, fun _ => SqL.of h2, fun z => by cases z⟩
    · cases e
/-- a list that stands by itself -/
def lstD (ς : Store) : D → Option (List D)
  | .lst ds => some ds
  | .loc i => match ς[i]? with
    | some (some (.lst ds)) => some ds
    | _ => none
  | _ => none
theorem lst_at (R : Rel0 K G F H α ς) {v : V} {d : D} {ds : List D} (h : Has K F α v d) (e : lstD ς d = some ds) : ∃ a xs, v = .ref a ∧ HasL K F α xs ds ∧ H a = some (.lst xs) := by
  cases h <;> simp only [lstD] at e <;> try (cases e; done)
  · cases e
    rename_i a xs h1 h2
    exact ⟨a, xs, rfl, h2, R.ex _ _ h1⟩
  · rename_i a i ha
    split at e
    · rename_i ds' q
      cases e
      obtain ⟨a', h, h1, h2, h3, h4⟩ := R.obj i _ q
      rw [ha] at h1
      cases h1
      obtain ⟨xs, rfl, h5⟩ := h4.lst
      exact ⟨a, xs, rfl, h5, h2⟩
    · cases e
end

/-- what a two-place reading does on data -/
def Sp2 (K : Frg) (E : WX) (r : R2) (f : D → D → M D) : Prop := ∀ (G F H : Hp) (α : List Addr) (σ : L2.St) (s : S) (x y : V) (d e : D) (Q : VK), RelS K G F H α σ s → Has K F α x d → Has K F α y e → Wp K G E F α (f d e s) (pV K G σ Q) → r x y H Q
def Sp1 (K : Frg) (E : WX) (r : V → Hp → VK → Prop) (f : D → M D) : Prop := ∀ (G F H : Hp) (α : List Addr) (σ : L2.St) (s : S) (x : V) (d : D) (Q : VK), RelS K G F H α σ s → Has K F α x d → Wp K G E F α (f d s) (pV K G σ Q) → r x H Q
def SpA (K : Frg) (E : WX) (r : List V → Hp → VK → Prop) (f : List D → M D) : Prop := ∀ (G F H : Hp) (α : List Addr) (σ : L2.St) (s : S) (xs : List V) (ds : List D) (Q : VK), RelS K G F H α σ s → HasL K F α xs ds → Wp K G E F α (f ds s) (pV K G σ Q) → r xs H Q
def SpM (K : Frg) (E : WX) (r : V → List V → Hp → VK → Prop) (f : D → List D → M D) : Prop := ∀ (G F H : Hp) (α : List Addr) (σ : L2.St) (s : S) (x : V) (d : D) (xs : List V) (ds : List D) (Q : VK), RelS K G F H α σ s → Has K F α x d → HasL K F α xs ds → Wp K G E F α (f d ds s) (pV K G σ Q) → r x xs H Q

section
variable {X : Cx} {E : WX} {e a b : Expr} {es : List Expr} {pos : Pos}
abbrev DE (X : Cx) (E : WX) (e : Expr) (m : M D) : Prop := PE X e (rE X.K E m)
abbrev DT (X : Cx) (E : WX) (e : Expr) (m : M Bool) : Prop := PT X e (rT X.K E m)
abbrev DW (X : Cx) (E : WX) (e : Expr) (m : M Bool) : Prop := PW X e (rT X.K E m)
abbrev DA (X : Cx) (E : WX) (es : List Expr) (m : M (List D)) : Prop := PA X es (rA X.K E m)
abbrev DS (X : Cx) (E : WX) (st : Stmt) (m : M Fl) : Prop := PS X st (rS X.K E m)
abbrev DSs (X : Cx) (E : WX) (sts : List Stmt) (m : M Fl) : Prop := PSs X sts (rS X.K E m)

def name (i : Nat) : M D := fun s => match s.e[i]? with
  | some (some d) => some (.ok d s)
  | _ => none
theorem d_name (i : Nat) {x : Str} (hN : X.N[i]? = some x := by rfl) (hv : Vis X.env.scope x := by first | exact Or.inl rfl | exact Or.inr (Or.inl rfl) | exact Or.inr (Or.inr rfl)) (hd : (x == ("__debug__" : Str)) = false := by decide)
    (hcd : (x == ("__classdict__" : Str)) = false := by decide) : DE X E (.Name x pos) (name i) := by
  refine PE.weak (pe_var hN hv hd hcd) fun σ H Q ⟨G, F, α, s, R, h⟩ => ?_
  unfold name at h
  split at h
  · rename_i d q
    obtain ⟨v, h1, h2⟩ := R.sl i d q
    exact ⟨v, h1, fin h R h2⟩
  · exact h.elim
theorem d_c {v : V} {d : D} (hp : PE X e (tC v)) (hv : ∀ F α, Has X.K F α v d) : DE X E e (ret d) :=
  PE.weak hp fun σ H Q ⟨G, F, α, s, R, h⟩ => fin h R (hv F α)
theorem d_int {i : Int} {j} : DE X E (.Constant (.int i) j pos) (ret (.int i)) := d_c pe_int fun _ _ => .int i
theorem d_bl {b : Bool} {j} : DE X E (.Constant (.bool b) j pos) (ret (.bl b)) := d_c pe_bl fun _ _ => .bl b
theorem d_non {j} : DE X E (.Constant .none j pos) (ret .non) := d_c pe_non fun _ _ => .non
theorem d_str {x : Str} {j} : DE X E (.Constant (.str x) j pos) (ret (.str x)) := d_c pe_str fun _ _ => .str x

/-! two places -/
def op2 (f : D → D → M D) (ma mb : M D) : M D := bnd ma fun x => bnd mb fun y => f x y
theorem r_op2 {K : Frg} {r : R2} {f : D → D → M D} (hr : Sp2 K E r f) {ma mb : M D} : ∀ σ H Q, rE K E (op2 f ma mb) σ H Q → tOp r (rE K E ma) (rE K E mb) σ H Q := by
  rintro σ H Q ⟨G, F, α, s, R, h⟩
  refine ⟨G, F, α, s, R, h.bind.mono fun F1 α1 H1 d s1 x1 h1 v R1 k1 => ?_⟩
  refine ⟨G, F1, α1, s1, R1, h1.bind.mono fun F2 α2 H2 e2 s2 x2 h2 w R2 k2 => ?_⟩
  exact hr G F2 H2 α2 σ s2 v w d e2 Q R2 (k1.ext x2) k2 h2
theorem d_op {op : Operator} {r : R2} {f : D → D → M D} {ma mb : M D} (ho : OpR X (binaryOp op) r) (hr : Sp2 X.K E r f) (ha : DE X E a ma) (hb : DE X E b mb) : DE X E (.BinOp a op b pos) (op2 f ma mb) :=
  PE.weak (pe_op ho ha hb) (r_op2 hr)
theorem d_cmp {op : CmpOp} {r : R2} {f : D → D → M D} {ma mb : M D} (ho : OpR X (compareOp op) r) (hr : Sp2 X.K E r f) (ha : DE X E a ma) (hb : DE X E b mb) (hm : behindInMarks op b = false) : DE X E (.Compare a [op] [b] pos) (op2 f ma mb) :=
  PE.weak (pe_cmpR ho ha hb hm) (r_op2 hr)
theorem d_ix {r : R2} {f : D → D → M D} {ma mb : M D} (ho : IxR X r) (hr : Sp2 X.K E r f) (ha : DE X E a ma) (hb : DE X E b mb) (hs : PlainIx b) : DE X E (.Subscript a b pos) (op2 f ma mb) :=
  PE.weak (pe_ix ho ha hb hs) (r_op2 hr)
/-- a test that is a bool's value -/
def tst (m : M D) : M Bool := bnd m fun d => match d with
  | .bl b => ret b
  | _ => fail
theorem r_tst {K : Frg} {m : M D} {σ : L2.St} {H : Hp} {Q : Bool → Hp → Prop} (h : rT K E (tst m) σ H Q) : rE K E m σ H fun x H' => ∃ k, x = .bl k ∧ Q k H' := by
  obtain ⟨G, F, α, s, R, h⟩ := h
  refine ⟨G, F, α, s, R, h.bind.mono fun F1 α1 H1 d s1 x1 h1 v R1 k1 => ?_⟩
  cases k1 <;> first | exact h1.elim | skip
  rename_i b
  exact ⟨b, rfl, h1 F1 α1 H1 (Ext.refl _ _) R1⟩
theorem d_tcmp {op : CmpOp} {r : R2} {f : D → D → M D} {ma mb : M D} (ho : OpR X (compareOp op) r) (hr : Sp2 X.K E r f) (ha : DE X E a ma) (hb : DE X E b mb) (hm : behindInMarks op b = false) : DT X E (.Compare a [op] [b] pos) (tst (op2 f ma mb)) :=
  PT.weak (pt_cmpR ho ha hb hm) fun σ H Q h => r_op2 hr σ H _ (r_tst h)
theorem d_tst {m : M D} (h : DE X E e m) (he : ∀ whole, isTrue e X.env whole = (do let v ← whole; standAt e.pos; holding [v] (truthy v)) := by intro _; rfl) : DT X E e (tst m) := by
  refine PT.weak (pt_val h he) fun σ H Q ⟨G, F, α, s, R, h⟩ => ?_
  refine ⟨G, F, α, s, R, h.bind.mono fun F1 α1 H1 d s1 x1 h1 v R1 k1 => ?_⟩
  cases k1 <;> first | exact h1.elim | skip
  rename_i b
  exact ⟨b, rfl, h1 F1 α1 H1 (Ext.refl _ _) R1⟩
def andT (m n : M Bool) : M Bool := bnd m fun b => ite' b n (ret false)
def orT (m n : M Bool) : M Bool := bnd m fun b => ite' b (ret true) n
def notT (m : M Bool) : M Bool := bnd m fun b => ret (!b)
theorem d_and1 {m : M Bool} (h : DT X E a m) : DW X E (.BoolOp .And [a] pos) m := pw_and1 h
theorem d_or1 {m : M Bool} (h : DT X E a m) : DW X E (.BoolOp .Or [a] pos) m := pw_or1 h
theorem d_and {m n : M Bool} (h : DT X E a m) (k : DW X E (.BoolOp .And (b :: es) pos) n) : DW X E (.BoolOp .And (a :: b :: es) pos) (andT m n) := by
  refine PW.weak (pw_and h k) fun σ H Q ⟨G, F, α, s, R, h⟩ => ?_
  refine ⟨G, F, α, s, R, h.bind.mono fun F1 α1 H1 c s1 x1 h1 R1 => ?_⟩
  cases c with
  | true => exact iteT ⟨G, F1, α1, s1, R1, h1⟩
  | false => exact iteF (h1 F1 α1 H1 (Ext.refl _ _) R1)
theorem d_or {m n : M Bool} (h : DT X E a m) (k : DW X E (.BoolOp .Or (b :: es) pos) n) : DW X E (.BoolOp .Or (a :: b :: es) pos) (orT m n) := by
  refine PW.weak (pw_or h k) fun σ H Q ⟨G, F, α, s, R, h⟩ => ?_
  refine ⟨G, F, α, s, R, h.bind.mono fun F1 α1 H1 c s1 x1 h1 R1 => ?_⟩
  cases c with
  | true => exact iteT (h1 F1 α1 H1 (Ext.refl _ _) R1)
  | false => exact iteF ⟨G, F1, α1, s1, R1, h1⟩
theorem d_not {m : M Bool} (h : DT X E a m) : DT X E (.UnaryOp .Not a pos) (notT m) := by
  refine PT.weak (pt_not h) fun σ H Q ⟨G, F, α, s, R, h⟩ => ?_
  refine ⟨G, F, α, s, R, h.bind.mono fun F1 α1 H1 c s1 x1 h1 R1 => ?_⟩
  exact h1 F1 α1 H1 (Ext.refl _ _) R1
/-! as values -/
def blOf {β : Type} (d : D) (k : Bool → M β) : M β := match d with
  | .bl b => k b
  | _ => fail
def andV (m n : M D) : M D := bnd m fun d => blOf d fun b => ite' b n (ret (.bl false))
def orV (m n : M D) : M D := bnd m fun d => blOf d fun b => ite' b (ret (.bl true)) n
def notV (m : M D) : M D := bnd m fun d => blOf d fun b => ret (.bl (!b))
theorem d_oneV {op} {m : M D} (h : DE X E a m) : DE X E (.BoolOp op [a] pos) m := pe_one h
theorem d_andV {m n : M D} (h : DE X E a m) (k : DE X E (.BoolOp .And (b :: es) pos) n) : DE X E (.BoolOp .And (a :: b :: es) pos) (andV m n) := by
  refine PE.weak (pe_and h k) fun σ H Q ⟨G, F, α, s, R, h⟩ => ?_
  refine ⟨G, F, α, s, R, h.bind.mono fun F1 α1 H1 d s1 x1 h1 v R1 k1 => ?_⟩
  cases k1 <;> first | exact h1.elim | skip
  rename_i c
  refine ⟨c, rfl, ?_⟩
  cases c with
  | true => exact iteT ⟨G, F1, α1, s1, R1, h1⟩
  | false => exact iteF (fin h1 R1 (.bl false))
theorem d_orV {m n : M D} (h : DE X E a m) (k : DE X E (.BoolOp .Or (b :: es) pos) n) : DE X E (.BoolOp .Or (a :: b :: es) pos) (orV m n) := by
  refine PE.weak (pe_or h k) fun σ H Q ⟨G, F, α, s, R, h⟩ => ?_
  refine ⟨G, F, α, s, R, h.bind.mono fun F1 α1 H1 d s1 x1 h1 v R1 k1 => ?_⟩
  cases k1 <;> first | exact h1.elim | skip
  rename_i c
  refine ⟨c, rfl, ?_⟩
  cases c with
  | true => exact iteT (fin h1 R1 (.bl true))
  | false => exact iteF ⟨G, F1, α1, s1, R1, h1⟩
theorem d_notV {m : M D} (h : DE X E a m) : DE X E (.UnaryOp .Not a pos) (notV m) := by
  refine PE.weak (pe_not h) fun σ H Q ⟨G, F, α, s, R, h⟩ => ?_
  refine ⟨G, F, α, s, R, h.bind.mono fun F1 α1 H1 d s1 x1 h1 v R1 k1 => ?_⟩
  cases k1 <;> first | exact h1.elim | skip
  rename_i c
  exact ⟨c, rfl, fin h1 R1 (.bl (!c))⟩
def ifE (c : M Bool) (m n : M D) : M D := bnd c fun b => ite' b m n
theorem d_ifE {t : Expr} {c : M Bool} {m n : M D} (hc : DT X E t c) (ha : DE X E a m) (hb : DE X E b n) : DE X E (.IfExp t a b pos) (ifE c m n) := by
  refine PE.weak (pe_ifExp hc ha hb) fun σ H Q ⟨G, F, α, s, R, h⟩ => ?_
  refine ⟨G, F, α, s, R, h.bind.mono fun F1 α1 H1 c s1 x1 h1 R1 => ?_⟩
  cases c with
  | true => exact iteT ⟨G, F1, α1, s1, R1, h1⟩
  | false => exact iteF ⟨G, F1, α1, s1, R1, h1⟩
/-! arguments -/
def anil : M (List D) := ret []
def acons (m : M D) (n : M (List D)) : M (List D) := bnd m fun d => bnd n fun ds => ret (d :: ds)
theorem d_anil : DA X E [] anil := PA.weak pa_nil fun σ H Q ⟨G, F, α, s, R, h⟩ => h F α H (Ext.refl _ _) [] R .nil
theorem d_acons {m : M D} {n : M (List D)} (ha : DE X E e m) (hr : DA X E es n) (hs : starEach (e :: es) X.env = (false, eval e X.env) :: starEach es X.env := by rfl) : DA X E (e :: es) (acons m n) := by
  refine PA.weak (pa_cons ha hr hs) fun σ H Q ⟨G, F, α, s, R, h⟩ => ?_
  refine ⟨G, F, α, s, R, h.bind.mono fun F1 α1 H1 d s1 x1 h1 v R1 k1 => ?_⟩
  refine ⟨G, F1, α1, s1, R1, h1.bind.mono fun F2 α2 H2 ds s2 x2 h2 vs R2 k2 => ?_⟩
  exact h2 F2 α2 H2 (Ext.refl _ _) _ R2 (.cons (k1.ext x2) k2)
def small (n : Nat) : Bool := decide (n ≤ 1000000)
theorem small_ok {n : Nat} (h : small n = true) : n ≤ sizeLine := by
  have := of_decide_eq_true h
  have q : sizeLine = 16777216 := sizeLine_eq
  omega
theorem small_lt {n : Nat} (h : small n = true) : n < sizeLine := by
  have := of_decide_eq_true h
  have q : sizeLine = 16777216 := sizeLine_eq
  omega
def guard' {β : Type} (b : Bool) (m : M β) : M β := fun s => match b with
  | true => m s
  | false => none
def tupD (ds : List D) : M D := guard' (small ds.length) (ret (.tup ds))
def lstE (own : Bool) (ds : List D) : M D := guard' (small ds.length) (mk own ds)
theorem wp_guard {K : Frg} {F : Hp} {α : List Addr} {β : Type} {b : Bool} {m : M β} {s : S} {P : Hp → List Addr → Hp → β → S → Prop} (h : Wp K G E F α (guard' b m s) P) : b = true ∧ Wp K G E F α (m s) P := by
  cases b with
  | true => exact ⟨rfl, h⟩
  | false => exact h.elim
theorem d_tup {x1} {n : M (List D)} (h : DA X E es n) : DE X E (.Tuple es x1 pos) (bnd n tupD) := by
  refine PE.weak (pe_tup h) fun σ H Q ⟨G, F, α, s, R, h⟩ => ?_
  refine ⟨G, F, α, s, R, h.bind.mono fun F1 α1 H1 ds s1 x1 h1 vs R1 k1 => ?_⟩
  obtain ⟨g, h2⟩ := wp_guard h1
  exact ⟨by rw [k1.len]; exact small_ok g, fin_tup h2 R1 k1⟩
theorem d_lst (own : Bool) {n : M (List D)} (h : DA X E es n) : DE X E (.List es pos) (bnd n (lstE own)) := by
  refine PE.weak (pe_lst h) fun σ H Q ⟨G, F, α, s, R, h⟩ => ?_
  refine ⟨G, F, α, s, R, h.bind.mono fun F1 α1 H1 ds s1 x1 h1 vs R1 k1 => ?_⟩
  obtain ⟨g, h2⟩ := wp_guard h1
  exact ⟨by rw [k1.len]; exact small_ok g, fin_lst h2 R1 k1⟩
/-! built-ins -/
theorem d_callB {id : String} {x : Str} {p : Pos} {r : List V → Hp → VK → Prop} {f : List D → M D} {n : M (List D)} (hc : CallR X (.builtin id) r) (hr : SpA X.K E r f) (hm : X.mg x = none) (hv : bootBuiltins x = some (.builtin id)) (ha : DA X E (e :: es) n) (hg : Gl X x := by rfl)
    (hn : x ≠ "__name__" := by decide) (hdb : (x == ("__debug__" : Str)) = false := by decide)
    (he : starEach (e :: es) X.env = (false, eval e X.env) :: starEach es X.env := by rfl) (hpl : (backTo pos (starEach es X.env)).any (·.1) = false := by rfl) : DE X E (.Call (.Name x p) (e :: es) [] pos) (bnd n f) := by
  refine PE.weak (pe_callB hc hg hm hv ha hn hdb he hpl) fun σ H Q ⟨G, F, α, s, R, h⟩ => ?_
  refine ⟨G, F, α, s, R, h.bind.mono fun F1 α1 H1 ds s1 x1 h1 vs R1 k1 => ?_⟩
  exact hr G F1 H1 α1 σ s1 vs ds Q R1 k1 h1
theorem d_callTy {T : String} {x : Str} {p : Pos} {r : List V → Hp → VK → Prop} {f : List D → M D} {n : M (List D)} (hc : CallR X (.type T) r) (hr : SpA X.K E r f) (hm : X.mg x = none) (hv : bootBuiltins x = some (.type T)) (ha : DA X E (e :: es) n) (hg : Gl X x := by rfl)
    (hn : x ≠ "__name__" := by decide) (hdb : (x == ("__debug__" : Str)) = false := by decide)
    (he : starEach (e :: es) X.env = (false, eval e X.env) :: starEach es X.env := by rfl) (hpl : (backTo pos (starEach es X.env)).any (·.1) = false := by rfl) : DE X E (.Call (.Name x p) (e :: es) [] pos) (bnd n f) := by
  refine PE.weak (pe_callTy hc hg hm hv ha hn hdb he hpl) fun σ H Q ⟨G, F, α, s, R, h⟩ => ?_
  refine ⟨G, F, α, s, R, h.bind.mono fun F1 α1 H1 ds s1 x1 h1 vs R1 k1 => ?_⟩
  exact hr G F1 H1 α1 σ s1 vs ds Q R1 k1 h1
/-! methods of built-in types -/
def mth (f : D → List D → M D) (m : M D) (n : M (List D)) : M D := bnd m fun d => bnd n fun ds => f d ds
end
end DL

/-! from DL3.lean -/
set_option Elab.async false
set_option linter.all false
set_option maxRecDepth 100000
set_option maxHeartbeats 2000000
namespace DL
open PySem L2
open PyProof.Rows (envOfC)

section
variable {X : Cx} {E : WX} {e a b : Expr} {es : List Expr} {st : Stmt} {sts : List Stmt} {pos : Pos}
def thenF (n : M Fl) (fl : Fl) : M Fl := fun s => match fl with
  | .nx => n s
  | _ => some (.ok fl s)
def sq (m n : M Fl) : M Fl := bnd m (thenF n)
def nxt : M Fl := ret .nx
theorem d_nil : DSs X E [] nxt := PSs.weak pss_nil fun D σ H ⟨G, F, α, s, R, h⟩ => h F α H (Ext.refl _ _) σ R
theorem r_sq {K : Frg} {m n : M Fl} {D : Ends} {σ : L2.St} {H : Hp} (h : rS K E (sq m n) D σ H) : rS K E m { D with nx := rS K E n D } σ H := by
  obtain ⟨G, F, α, s, R, h⟩ := h
  refine ⟨G, F, α, s, R, h.bind.mono fun F1 α1 H1 fl s1 x1 h1 => ?_⟩
  cases fl with
  | nx => exact fun σ' R' => ⟨G, F1, α1, s1, R', h1⟩
  | rt d => exact h1 F1 α1 H1 (Ext.refl _ _)
  | bk => exact h1 F1 α1 H1 (Ext.refl _ _)
  | ct => exact h1 F1 α1 H1 (Ext.refl _ _)
theorem d_cons {m n : M Fl} (h : DS X E st m) (k : DSs X E sts n) : DSs X E (st :: sts) (sq m n) := PSs.weak (pss_cons h k) fun D σ H q => r_sq q
theorem d_one {m : M Fl} (h : DS X E st m) : DSs X E [st] m := pss_one h
theorem d_pass : DS X E (.Pass pos) nxt := PS.weak ps_pass fun D σ H ⟨G, F, α, s, R, h⟩ => h F α H (Ext.refl _ _) σ R
theorem d_break : DS X E (.Break pos) (ret .bk) := PS.weak ps_break fun D σ H ⟨G, F, α, s, R, h⟩ => h F α H (Ext.refl _ _) σ R
theorem d_continue : DS X E (.Continue pos) (ret .ct) := PS.weak ps_continue fun D σ H ⟨G, F, α, s, R, h⟩ => h F α H (Ext.refl _ _) σ R
theorem d_never : DS X E st fail := PS.weak ps_never fun D σ H ⟨G, F, α, s, R, h⟩ => h
def ifS (c : M Bool) (m n : M Fl) : M Fl := bnd c fun b => ite' b m n
theorem d_if {t : Expr} {xs ys : List Stmt} {c : M Bool} {m n : M Fl} (hc : DT X E t c) (ha : DSs X E xs m) (hb : DSs X E ys n) : DS X E (.If t xs ys pos) (ifS c m n) := by
  refine PS.weak (ps_if hc ha hb) fun D σ H ⟨G, F, α, s, R, h⟩ => ?_
  refine ⟨G, F, α, s, R, h.bind.mono fun F1 α1 H1 c s1 x1 h1 R1 => ?_⟩
  cases c with
  | true => exact iteT ⟨G, F1, α1, s1, R1, h1⟩
  | false => exact iteF ⟨G, F1, α1, s1, R1, h1⟩
def retS (m : M D) : M Fl := bnd m fun d => ret (.rt d)
theorem d_ret {m : M D} (h : DE X E e m) : DS X E (.Return (some e) pos) (retS m) := by
  refine PS.weak (ps_ret h) fun D σ H ⟨G, F, α, s, R, h⟩ => ?_
  exact ⟨G, F, α, s, R, h.bind.mono fun F1 α1 H1 d s1 x1 h1 v R1 k1 => h1 F1 α1 H1 (Ext.refl _ _) v R1.st k1⟩
theorem d_retN : DS X E (.Return none pos) (ret (.rt .non)) := PS.weak ps_retN fun D σ H ⟨G, F, α, s, R, h⟩ => h F α H (Ext.refl _ _) .non R.st .non
def exprS (m : M D) : M Fl := bnd m fun _ => nxt
theorem d_expr {m : M D} (h : DE X E e m) (hs : swapsWith e none pos.line X.env = pure false := by rfl) : DS X E (.Expr e pos) (exprS m) := by
  refine PS.weak (ps_expr h hs) fun D σ H ⟨G, F, α, s, R, h⟩ => ?_
  exact ⟨G, F, α, s, R, h.bind.mono fun F1 α1 H1 d s1 x1 h1 v R1 k1 => h1 F1 α1 H1 (Ext.refl _ _) σ R1⟩

/-! ### targets -/
abbrev Tg := D → S → Option S
/-- only the slots js differ -/
structure But (js : List Nat) (σ σ' : L2.St) : Prop where
  len : σ'.length = σ.length
  out : ∀ i, i ∉ js → σ'[i]? = σ[i]?
theorem But.refl (js : List Nat) (σ : L2.St) : But js σ σ := ⟨rfl, fun _ _ => rfl⟩
theorem But.trans {js ks : List Nat} {σ σ1 σ2 : L2.St} (a : But js σ σ1) (b : But ks σ1 σ2) : But (js ++ ks) σ σ2 := ⟨b.len.trans a.len, fun i h => (b.out i fun z => h (List.mem_append_right _ z)).trans (a.out i fun z => h (List.mem_append_left _ z))⟩
def SpG (K : Frg) (t : TG) (g : Tg) (js : List Nat) : Prop := ∀ (G F H : Hp) (α : List Addr) (σ : L2.St) (s : S) (v : V) (d : D) (s' : S) (Q : L2.St → Hp → Prop), RelS K G F H α σ s → Has K F α v d → g d s = some s' → (∀ σ', RelS K G F H α σ' s' → But js σ σ' → Q σ' H) → t v σ H Q
def SpGs (K : Frg) (t : TGs) (g : List D → S → Option S) (js : List Nat) : Prop := ∀ (G F H : Hp) (α : List Addr) (σ : L2.St) (s : S) (vs : List V) (ds : List D) (s' : S) (Q : L2.St → Hp → Prop), RelS K G F H α σ s → HasL K F α vs ds → g ds s = some s' → (∀ σ', RelS K G F H α σ' s' → But js σ σ' → Q σ' H) → t vs σ H Q
structure DG (X : Cx) (e : Expr) (g : Tg) (js : List Nat) (t : TG) : Prop where
  pg : PG X e t
  sp : SpG X.K t g js
structure DGs (X : Cx) (es : List Expr) (g : List D → S → Option S) (js : List Nat) (t : TGs) : Prop where
  pg : PGs X es t
  sp : SpGs X.K t g js
def gset (i : Nat) : Tg := fun d s => some { s with e := s.e.set i (some d) }
theorem set_get {β : Type} {l : List β} {i j : Nat} {x y : β} (h : (l.set i x)[j]? = some y) : (i = j ∧ x = y ∧ i < l.length) ∨ (i ≠ j ∧ l[j]? = some y) := by
  by_cases q : i = j
  · subst q
    by_cases hi : i < l.length
    · rw [List.getElem?_set_self hi] at h
      exact .inl ⟨rfl, Option.some.inj h, hi⟩
    · rw [List.getElem?_eq_none (by simpa using hi)] at h
      cases h
  · rw [List.getElem?_set_ne q] at h
    exact .inr ⟨q, h⟩
theorem RelS.set {K : Frg} {G F H : Hp} {α : List Addr} {σ : L2.St} {s : S} (R : RelS K G F H α σ s) {v : V} {d : D} (k : Has K F α v d) (i : Nat) : RelS K G F H α (σ.set i (some v)) { s with e := s.e.set i (some d) } := by
  refine ⟨R.st, by simp [R.len], fun j d' q => ?_⟩
  rcases set_get q with ⟨rfl, q, hi⟩ | ⟨n, q⟩
  · cases q
    exact ⟨v, List.getElem?_set_self (by rw [← R.len]; exact hi), k⟩
  · obtain ⟨w, h1, h2⟩ := R.sl j d' q
    exact ⟨w, by rw [List.getElem?_set_ne n]; exact h1, h2⟩
theorem But.set (i : Nat) (v : V) (σ : L2.St) : But [i] σ (σ.set i (some v)) := ⟨List.length_set, fun j h => List.getElem?_set_ne (fun z => h (by subst z; exact List.mem_singleton.mpr rfl))⟩
theorem g_name (i : Nat) {x : Str} (hN : X.N.Nodup) (hi : X.N[i]? = some x := by rfl) (hx : Loc X.env.scope x := by first | exact Or.inl rfl | exact Or.inr rfl) (hf : X.fn x = true ∨ X.env.scope.names.lookup x = some .local := by first | exact .inl rfl | exact .inr rfl | assumption) : DG X (.Name x pos) (gset i) [i] (gName i) := by
  refine ⟨pg_name hN hi hx hf, fun G F H α σ s v d s' Q R k e q => ?_⟩
  cases e
  exact q _ (R.set k i) (But.set i v σ)
def gnil : List D → S → Option S := fun ds s => match ds with
  | [] => some s
  | _ => none
def gcons (g : Tg) (r : List D → S → Option S) : List D → S → Option S := fun ds s => match ds with
  | [] => none
  | d :: ds => (g d s).bind (r ds)
theorem g_nil : DGs X [] gnil [] gNil := by
  refine ⟨pgs_nil, fun G F H α σ s vs ds s' Q R k e q => ?_⟩
  cases k with
  | nil => cases e; exact ⟨rfl, q σ R (But.refl _ σ)⟩
  | cons _ _ => cases e
theorem g_cons {g : Tg} {r : List D → S → Option S} {js ks : List Nat} {t : TG} {u : TGs} (h : DG X e g js t) (k : DGs X es r ks u) (hs : (assignEach (e :: es) X.env).map (·.2) = assign e X.env :: (assignEach es X.env).map (·.2) := by rfl) : DGs X (e :: es) (gcons g r) (js ++ ks) (gCons t u) := by
  obtain ⟨h1, h2⟩ := h
  obtain ⟨k1, k2⟩ := k
  refine ⟨pgs_cons h1 k1 hs, fun G F H α σ s vs ds s' Q R k e q => ?_⟩
  cases k with
  | nil => cases e
  | cons hd tl =>
    have e : (g _ s).bind (r _) = some s' := e
    obtain ⟨s1, e1, e2⟩ := Option.bind_eq_some_iff.mp e
    exact ⟨_, _, rfl, h2 G F H α σ s _ _ s1 _ R hd e1 fun σ' R' b1 => k2 G F H α σ' s1 _ _ s' Q R' tl e2 fun σ2 R2 b2 => q σ2 R2 (b1.trans b2)⟩
theorem PG.or {t t' : TG} (h : PG X e t) (h' : PG X e t') : PG X e (fun v σ H Q => t v σ H Q ∨ t' v σ H Q) := ⟨fun pins s σ H v u Q I r q => by
  rcases q with q | q
  · exact h.run pins s σ H v u Q I r q
  · exact h'.run pins s σ H v u Q I r q⟩
def gtup (n : Nat) (r : List D → S → Option S) : Tg := fun d s => match seqD s.s d with
  | some (_, ds) => if ds.length = n then r ds s else none
  | none => none
def gTU (K : Frg) (n : Nat) (u : TGs) : TG := fun v σ H Q => gTup K n u v σ H Q ∨ gUnl K n u v σ H Q
theorem g_tup {k : Nat} {r : List D → S → Option S} {js : List Nat} {u : TGs} (n : Nat) (hc : X.calm = true) (h : DGs X es r js u)
    (hn : (assignEach es X.env).length = n := by rfl) (hst : (assignEach es X.env).findIdx? (·.1) = none := by rfl) : DG X (.Tuple es k pos) (gtup n r) js (gTU X.K n u) := by
  obtain ⟨k1, k2⟩ := h
  refine ⟨DL.PG.or (pg_tup hc k1 hn hst) (pg_unl hc k1 hn hst), fun G F H α σ s v d s' Q R k e q => ?_⟩
  unfold gtup at e
  split at e
  · rename_i kd ds q2
    obtain ⟨a, xs, rfl, hl, h1, h2⟩ := seq_at R.st k q2
    split at e
    · rename_i q3
      have lx : xs.length = n := by rw [hl.len]; exact q3
      cases kd with
      | true => exact .inr ⟨a, xs, rfl, h1 rfl, lx, k2 G F H α σ s xs ds s' Q R hl e q⟩
      | false => exact .inl ⟨a, xs, rfl, h2 rfl, lx, k2 G F H α σ s xs ds s' Q R hl e q⟩
    · cases e
  · cases e
def asg (m : M D) (g : Tg) : M Fl := bnd m fun d s => match g d s with
  | some s' => some (.ok .nx s')
  | none => none
theorem r_asg {K : Frg} {m : M D} {t : TG} {g : Tg} {js : List Nat} (hg : SpG K t g js) {D : Ends} {σ : L2.St} {H : Hp} (h : rS K E (asg m g) D σ H) : tAsg (rE K E m) t D σ H := by
  obtain ⟨G, F, α, s, R, h⟩ := h
  refine ⟨G, F, α, s, R, h.bind.mono fun F1 α1 H1 d s1 x1 h1 v R1 k1 => ?_⟩
  cases e : g d s1 with
  | none => simp only [e] at h1; exact h1.elim
  | some s2 =>
    simp only [e] at h1
    exact hg G F1 H1 α1 σ s1 v d s2 _ R1 k1 e fun σ' R' _ => h1 F1 α1 H1 (Ext.refl _ _) σ' R'
theorem d_asg {tg : Expr} {m : M D} {g : Tg} {js : List Nat} {t : TG} (he : DE X E e m) (hg : DG X tg g js t) (hs : swapsWithSole [tg] e pos.line X.env = pure false := by rfl) (hw : swappedStores [tg] e X.env = pure none := by rfl)
    (h1 : (assignEach [tg] X.env).map (·.2) = [assign tg X.env] := by rfl) : DS X E (.Assign [tg] e pos) (asg m g) :=
  PS.weak (ps_asg he hg.pg hs hw h1) fun D σ H q => r_asg hg.sp q
theorem d_set (i : Nat) {x : Str} {m : M D} {pos' : Pos} (he : DE X E e m) (hN : X.N.Nodup) (hi : X.N[i]? = some x := by rfl) (hx : Loc X.env.scope x := by first | exact Or.inl rfl | exact Or.inr rfl) (hs : swapsWith e (some (.Name x pos')) pos.line X.env = pure false := by rfl) (hf : X.fn x = true ∨ X.env.scope.names.lookup x = some .local := by first | exact .inl rfl | exact .inr rfl | assumption) :
    DS X E (.Assign [.Name x pos'] e pos) (asg m (gset i)) := by
  exact PS.weak (ps_set hN hi hx he hs hf) fun D σ H q => r_asg (g_name (pos := pos') i hN hi hx hf).sp q

/-! ### what is walked -/
/-- J goes over the data ds wherever the facts F stand -/
def Walks (K : Frg) (F : Hp) (α : List Addr) (J : It) (ds : List D) : Prop := ∀ (i : Nat) (F1 H : Hp) (α1 : List Addr), Ext F α F1 α1 → Same F1 H →
  (∀ d, ds[i]? = some d → J.go i H ∧ ∀ x H', J.yld i H x H' → ∃ F2, Ext F1 α1 F2 α1 ∧ (∀ G σ s, RelS K G F1 H α1 σ s → RelS K G F2 H' α1 σ s) ∧ Has K F2 α1 x d) ∧ (ds.length ≤ i → J.stop i H)
def pI (K : Frg) (G : Hp) (σ : L2.St) (Q : It → Hp → Prop) : Hp → List Addr → Hp → List D → S → Prop := fun F' α' H' ds s' => RelS K G F' H' α' σ s' → ∀ J, Walks K F' α' J ds → Q J H'
def rIt (K : Frg) (E : WX) (m : M (List D)) : TI := fun σ H Q => ∃ G F α s, RelS K G F H α σ s ∧ Wp K G E F α (m s) (pI K G σ Q)
abbrev DI (X : Cx) (E : WX) (tg e : Expr) (m : M (List D)) : Prop := PI X tg e (rIt X.K E m)
theorem PI.weak {tg : Expr} {w w' : TI} (h : PI X tg e w) (k : ∀ σ H Q, w' σ H Q → w σ H Q) : PI X tg e w' := ⟨fun pins s σ H R I q => h.run pins s σ H R I (k σ H R q)⟩
theorem PI.or {tg : Expr} {w w' : TI} (h : PI X tg e w) (h' : PI X tg e w') : PI X tg e (fun σ H Q => w σ H Q ∨ w' σ H Q) := ⟨fun pins s σ H R I q => by
  rcases q with q | q
  · exact h.run pins s σ H R I q
  · exact h'.run pins s σ H R I q⟩
/-- a sequence that doesn't change -/
def seqF : D → Option (Bool × List D)
  | .lst ds => some (true, ds)
  | .rdl ds => some (true, ds)
  | .tup ds => some (false, ds)
  | _ => none
theorem seqF_at {K : Frg} {F : Hp} {α : List Addr} {v : V} {d : D} {b : Bool} {ds : List D} (h : Has K F α v d) (e : seqF d = some (b, ds)) : ∃ a xs, v = .ref a ∧ HasL K F α xs ds ∧ (b = true → SqL K F a xs) ∧ (b = false → SqT K F a xs) := by
  cases h <;> simp only [seqF] at e <;> try (cases e; done)
  · cases e
    rename_i a xs h1 h2
    exact ⟨a, xs, rfl, h2, fun _ => SqL.of h1, (fun z => by cases z)⟩
  · cases e
    rename_i a xs h1 h2
    exact ⟨a, xs, rfl, h2, fun _ => h1, (fun z => by cases z)⟩
  · cases e
    rename_i a xs h1 h2
    exact ⟨a, xs, rfl, h2, (fun z => by cases z), fun _ => h1⟩
theorem sqT_seq {K : Frg} {H H' : Hp} {a : Addr} {xs : List V} (e : Same H H') (h : SqT K H a xs) : SqT K H' a xs := by
  rcases h with (h | ⟨o, h⟩) | h
  · exact .inl (.inl (e _ _ h))
  · exact .inl (.inr ⟨o, e _ _ h⟩)
  · exact .inr h
theorem walks_lst {K : Frg} {F : Hp} {α : List Addr} {a : Addr} {xs : List V} {ds : List D} (h : SqL K F a xs) (k : HasL K F α xs ds) : Walks K F α (Itl K a) ds := by
  intro i F1 H α1 x e
  have h1 : SqL K H a xs := e.seq (x.f.seq h)
  refine ⟨fun d q => ?_, fun q => ⟨xs, h1, by rw [k.len]; exact q⟩⟩
  obtain ⟨v, q1, q2⟩ := k.get q
  refine ⟨⟨xs, v, h1, q1⟩, fun y H' z => ?_⟩
  obtain ⟨rfl, z⟩ := z
  have := z xs h1
  rw [q1] at this
  cases this
  exact ⟨F1, Ext.refl _ _, fun _ _ _ R => R, q2.ext x⟩
theorem walks_tup {K : Frg} {F : Hp} {α : List Addr} {a : Addr} {xs : List V} {ds : List D} (h : SqT K F a xs) (k : HasL K F α xs ds) : Walks K F α (Itt K a) ds := by
  intro i F1 H α1 x e
  have h1 : SqT K H a xs := sqT_seq e (sqT_seq x.f h)
  refine ⟨fun d q => ?_, fun q => ⟨xs, h1, by rw [k.len]; exact q⟩⟩
  obtain ⟨v, q1, q2⟩ := k.get q
  refine ⟨⟨xs, v, h1, q1⟩, fun y H' z => ?_⟩
  obtain ⟨rfl, z⟩ := z
  have := z xs h1
  rw [q1] at this
  cases this
  exact ⟨F1, Ext.refl _ _, fun _ _ _ R => R, q2.ext x⟩
def rngL (lo : Int) (n : Nat) : List D := (List.range n).map fun k => .int (lo + (k : Nat))
theorem walks_rng {K : Frg} {F : Hp} {α : List Addr} (lo : Int) (n : Nat) : Walks K F α (Itr lo n) (rngL lo n) := by
  intro i F1 H α1 x e
  have hl : (rngL lo n).length = n := by simp [rngL]
  refine ⟨fun d q => ?_, fun q => by rw [hl] at q; exact q⟩
  have hi : i < n := by rw [← hl]; exact (List.getElem?_eq_some_iff.mp q).1
  refine ⟨hi, fun y H' z => ?_⟩
  obtain ⟨rfl, rfl⟩ := z
  have hd : d = .int (lo + (i : Nat)) := by
    unfold rngL at q
    rw [List.getElem?_map, List.getElem?_range hi] at q
    exact (Option.some.inj q).symm
  subst hd
  exact ⟨F1, Ext.refl _ _, fun _ _ _ R => R, .int _⟩
def seqI (m : M D) : M (List D) := bnd m fun d => match seqF d with
  | some (_, ds) => ret ds
  | none => fail
theorem i_seq {tg : Expr} {m : M D} (h : DE X E e m) : DI X E tg e (seqI m) := by
  refine PI.weak (DL.PI.or (pi_list h) (pi_tup h)) fun σ H Q ⟨G, F, α, s, R, h⟩ => ?_
  have hb := h.bind
  have side : ∀ d s1, m s = some (.ok d s1) → (∃ ds, seqF d = some (true, ds)) ∨ (∃ ds, seqF d = some (false, ds)) := fun d s1 e => by
    rw [e] at hb
    have := hb F α H (Ext.refl _ _)
    dsimp only at this
    cases q : seqF d with
    | none => rw [q] at this; exact this.elim
    | some p =>
      obtain ⟨kd, ds⟩ := p
      cases kd
      · exact .inr ⟨ds, rfl⟩
      · exact .inl ⟨ds, rfl⟩
  have fin : ∀ d s1, m s = some (.ok d s1) → ∀ F1 α1 H1, Ext F α F1 α1 → ∀ v, RelS X.K G F1 H1 α1 σ s1 → Has X.K F1 α1 v d → ∀ kd ds, seqF d = some (kd, ds) → ∃ a xs, v = .ref a ∧ (kd = true → SqL X.K H1 a xs ∧ Q (Itl X.K a) H1) ∧ (kd = false → SqT X.K H1 a xs ∧ Q (Itt X.K a) H1) := fun d s1 e F1 α1 H1 x v R1 k1 kd ds q => by
    rw [e] at hb
    have h1 := hb F1 α1 H1 x
    simp only [q] at h1
    obtain ⟨a, xs, rfl, hl, w1, w2⟩ := seqF_at k1 q
    refine ⟨a, xs, rfl, fun z => ?_, fun z => ?_⟩
    · exact ⟨R1.st.ex.seq (w1 z), h1 F1 α1 H1 (Ext.refl _ _) R1 _ (walks_lst (w1 z) hl)⟩
    · exact ⟨sqT_seq R1.st.ex (w2 z), h1 F1 α1 H1 (Ext.refl _ _) R1 _ (walks_tup (w2 z) hl)⟩
  cases e : m s with
  | none => rw [e] at hb; exact hb.elim
  | some o =>
    cases o with
    | exc C fs ς =>
      refine .inl ⟨G, F, α, s, R, ?_⟩
      rw [e] at hb ⊢
      exact hb
    | ok d s1 =>
      rcases side d s1 e with ⟨ds, q⟩ | ⟨ds, q⟩
      · refine .inl ⟨G, F, α, s, R, ?_⟩
        rw [e]
        intro F1 α1 H1 x v R1 k1
        obtain ⟨a, xs, rfl, w1, w2⟩ := fin d s1 e F1 α1 H1 x v R1 k1 _ ds q
        exact ⟨a, rfl, ⟨xs, (w1 rfl).1⟩, (w1 rfl).2⟩
      · refine .inr ⟨G, F, α, s, R, ?_⟩
        rw [e]
        intro F1 α1 H1 x v R1 k1
        obtain ⟨a, xs, rfl, w1, w2⟩ := fin d s1 e F1 α1 H1 x v R1 k1 _ ds q
        exact ⟨a, rfl, ⟨xs, (w2 rfl).1⟩, (w2 rfl).2⟩
/-- told so that the kernel never counts down from a great literal -/
def intIn (lo hi : Nat) : Int → Bool
  | .ofNat n => Nat.ble n hi
  | .negSucc n => Nat.ble n lo
theorem intIn_of {lo hi : Nat} {i : Int} (h : intIn lo hi i = true) : -(lo : Int) - 1 ≤ i ∧ i ≤ hi := by
  cases i with
  | ofNat n =>
    have q : n ≤ hi := Nat.le_of_ble_eq_true h
    rw [Int.ofNat_eq_natCast]
    exact ⟨by omega, by omega⟩
  | negSucc n =>
    have q : n ≤ lo := Nat.le_of_ble_eq_true h
    exact ⟨by omega, by omega⟩
theorem intIn_to {lo hi : Nat} {i : Int} (h : -(lo : Int) - 1 ≤ i) (h' : i ≤ hi) : intIn lo hi i = true := by
  cases i with
  | ofNat n =>
    rw [Int.ofNat_eq_natCast] at h'
    exact Nat.ble_eq_true_of_le (by omega)
  | negSucc n =>
    exact Nat.ble_eq_true_of_le (by omega)
def rngB (i : Int) : Bool := intIn 4611686018427387903 4611686018427387903 i
theorem two62 : (2 : Int) ^ 62 = 4611686018427387904 := by decide
theorem rngB_ok {i : Int} (h : rngB i = true) : -(2 ^ 62) ≤ i ∧ i < 2 ^ 62 := by
  have q := intIn_of h
  rw [two62]
  exact ⟨by omega, by omega⟩
def rng1 (n : M (List D)) : M (List D) := bnd n fun ds => match ds with
  | [.int j] => guard' (rngB j) (ret (rngL 0 j.toNat))
  | _ => fail
def rng2 (n : M (List D)) : M (List D) := bnd n fun ds => match ds with
  | [.int i, .int j] => guard' (rngB i && rngB j) (ret (rngL i (j - i).toNat))
  | _ => fail
theorem i_rng1 {tg : Expr} {n : M (List D)} {p : Pos} (hm : X.mg "range" = none) (ha : DA X E [a] n) (hg : Gl X "range" := by rfl) (hs : starEach [a] X.env = [(false, eval a X.env)] := by rfl) : DI X E tg (.Call (.Name "range" p) [a] [] pos) (rng1 n) := by
  refine PI.weak (pi_range1 hg hm ha hs) fun σ H Q ⟨G, F, α, s, R, h⟩ => ?_
  refine ⟨G, F, α, s, R, h.bind.mono fun F1 α1 H1 ds s1 x1 h1 vs R1 k1 => ?_⟩
  split at h1
  · rename_i j
    obtain ⟨g, h2⟩ := wp_guard h1
    cases k1 with
    | cons k k' =>
      cases k'
      cases k
      have g := rngB_ok g
      exact ⟨j, rfl, g.1, g.2, h2 F1 α1 H1 (Ext.refl _ _) R1 _ (walks_rng 0 j.toNat)⟩
  · exact h1.elim
theorem i_rng2 {tg : Expr} {n : M (List D)} {p : Pos} (hm : X.mg "range" = none) (ha : DA X E [a, b] n) (hg : Gl X "range" := by rfl) (hs : starEach [a, b] X.env = [(false, eval a X.env), (false, eval b X.env)] := by rfl) (hs2 : starEach [b] X.env = [(false, eval b X.env)] := by rfl) :
    DI X E tg (.Call (.Name "range" p) [a, b] [] pos) (rng2 n) := by
  refine PI.weak (pi_range2 hg hm ha hs hs2) fun σ H Q ⟨G, F, α, s, R, h⟩ => ?_
  refine ⟨G, F, α, s, R, h.bind.mono fun F1 α1 H1 ds s1 x1 h1 vs R1 k1 => ?_⟩
  split at h1
  · rename_i i j
    obtain ⟨g, h2⟩ := wp_guard h1
    cases k1 with
    | cons k k' =>
      cases k' with
      | cons k2 k3 =>
        cases k3
        cases k
        cases k2
        rw [Bool.and_eq_true] at g
        have g1 := rngB_ok g.1
        have g2 := rngB_ok g.2
        exact ⟨i, j, rfl, ⟨g1.1, g1.2, g2.1, g2.2⟩, h2 F1 α1 H1 (Ext.refl _ _) R1 _ (walks_rng i (j - i).toNat)⟩
  · exact h1.elim

/-! ### for -/
def turnF (k : M Fl) (fl : Fl) : M Fl := fun s => match fl with
  | .nx => k s
  | .ct => k s
  | .bk => some (.ok .nx s)
  | .rt d => some (.ok (.rt d) s)
def forD (g : Tg) (body : M Fl) : List D → M Fl
  | [] => nxt
  | d :: ds => fun s => match g d s with
    | some s' => bnd body (turnF (forD g body ds)) s'
    | none => none
def forS (src : M (List D)) (g : Tg) (body : M Fl) : M Fl := bnd src fun ds => forD g body ds
theorem r_turn {K : Frg} {F : Hp} {α : List Addr} {m : M Fl} {k : M Fl} {s : S} {D : Ends} {N : L2.St → Hp → Prop} (h : Wp K G E F α (bnd m (turnF k) s) (pS K G D))
    (hN : ∀ F1 α1 H1 σ1 s1, Ext F α F1 α1 → RelS K G F1 H1 α1 σ1 s1 → Wp K G E F1 α1 (k s1) (pS K G D) → N σ1 H1) : Wp K G E F α (m s) (pS K G { D with nx := N, ct := N, bk := D.nx }) := by
  refine h.bind.mono fun F1 α1 H1 fl s1 x1 h1 => ?_
  cases fl with
  | nx => exact fun σ' R' => hN F1 α1 H1 σ' s1 x1 R' h1
  | ct => exact fun σ' R' => hN F1 α1 H1 σ' s1 x1 R' h1
  | bk => exact fun σ' R' => h1 F1 α1 H1 (Ext.refl _ _) σ' R'
  | rt d => exact h1 F1 α1 H1 (Ext.refl _ _)
theorem r_for {K : Frg} {src : M (List D)} {t : TG} {g : Tg} {js : List Nat} {m : M Fl} (hg : SpG K t g js) {D : Ends} {σ : L2.St} {H : Hp} (h : rS K E (forS src g m) D σ H) : tFor (rIt K E src) t (rS K E m) D σ H := by
  obtain ⟨G, F, α, s, R, h⟩ := h
  refine ⟨G, F, α, s, R, h.bind.mono fun F1 α1 H1 ds s1 x1 h1 R1 J wk => ?_⟩
  refine ⟨fun i n σ' H' => n = ds.length - i ∧ i ≤ ds.length ∧ ∃ F2 α2 s2, Ext F1 α1 F2 α2 ∧ RelS K G F2 H' α2 σ' s2 ∧ Wp K G E F2 α2 (forD g m (ds.drop i) s2) (pS K G D), ⟨ds.length, by simp, Nat.zero_le _, F1, α1, s1, Ext.refl _ _, R1, h1⟩, ?_⟩
  rintro i n σ2 H2 ⟨rfl, hi, F2, α2, s2, x2, R2, h2⟩
  obtain ⟨w1, w2⟩ := wk i F2 H2 α2 x2 R2.st.ex
  by_cases hlt : i < ds.length
  · have hd : ds.drop i = ds[i] :: ds.drop (i + 1) := List.drop_eq_getElem_cons hlt
    obtain ⟨go, yl⟩ := w1 ds[i] (by simp [hlt])
    refine .inr ⟨go, fun σ' H' => ds.length - (i + 1) = ds.length - (i + 1) ∧ i + 1 ≤ ds.length ∧ ∃ F2 α2 s2, Ext F1 α1 F2 α2 ∧ RelS K G F2 H' α2 σ' s2 ∧ Wp K G E F2 α2 (forD g m (ds.drop (i + 1)) s2) (pS K G D), fun σ' H' q => ⟨ds.length - (i + 1), by omega, q⟩, fun x H' y => ?_⟩
    obtain ⟨F3, x3, keep, hx⟩ := yl x H' y
    rw [hd] at h2
    have h3 : Wp K G E F2 α2 (match g ds[i] s2 with | some s' => bnd m (turnF (forD g m (ds.drop (i + 1)))) s' | none => none) (pS K G D) := h2
    cases e : g ds[i] s2 with
    | none => simp only [e] at h3; exact h3.elim
    | some s3 =>
      simp only [e] at h3
      refine hg G F3 H' α2 σ2 s2 x ds[i] s3 _ (keep _ _ _ R2) hx e fun σ3 R3 _ => ?_
      refine ⟨G, F3, α2, s3, R3, r_turn (h3.ext x3) fun F4 α4 H4 σ4 s4 x4 R4 h4 => ?_⟩
      exact ⟨rfl, hlt, F4, α4, s4, x2.trans (x3.trans x4), R4, h4⟩
  · have e : i = ds.length := by omega
    subst e
    refine .inl ⟨w2 (Nat.le_refl _), ?_⟩
    rw [List.drop_length] at h2
    exact h2 F2 α2 H2 (Ext.refl _ _) σ2 R2
theorem d_for {tg iter : Expr} {body : List Stmt} {src : M (List D)} {g : Tg} {js : List Nat} {t : TG} {m : M Fl} (hp : PassesOwn (model X.prog X.w) X.A X.env X.xe) (hc : X.calm = true) (hi : DI X E tg iter src) (hg : DG X tg g js t) (hb : DSs X E body m)
    (hs : ∀ x, foldedSetIterable iter X.env x = pure x := by intro _; rfl) : DS X E (.For tg iter body [] pos) (forS src g m) :=
  PS.weak (ps_for hp hc hi hg.pg hb hs) fun D σ H q => r_for hg.sp q

/-! ### while -/
def whN (c : M Bool) (body : M Fl) : Nat → M Fl
  | 0 => fail
  | n + 1 => bnd c fun k => ite' k (bnd body (turnF (whN c body n))) nxt
open Classical in
noncomputable def whS (c : M Bool) (body : M Fl) : M Fl := fun s => if h : ∃ n r, whN c body n s = some r then some h.choose_spec.choose else none
theorem bnd_mono {β γ : Type} {m : M β} {f f' : β → M γ} {s : S} {r : Out γ} (h : bnd m f s = some r) (k : ∀ b s1 r, f b s1 = some r → f' b s1 = some r) : bnd m f' s = some r := by
  unfold bnd at h ⊢
  cases e : m s with
  | none => rw [e] at h; cases h
  | some o =>
    rw [e] at h
    cases o with
    | exc C fs ς => exact h
    | ok b s1 => exact k b s1 r h
theorem whN_more {c : M Bool} {body : M Fl} : ∀ {n : Nat} {s : S} {r : Out Fl}, whN c body n s = some r → whN c body (n + 1) s = some r
  | 0, s, r, h => by cases h
  | n + 1, s, r, h => by
    refine bnd_mono h fun b s1 r1 h1 => ?_
    cases b with
    | false => exact h1
    | true =>
      refine bnd_mono h1 fun fl s2 r2 h2 => ?_
      cases fl with
      | nx => exact whN_more (n := n) h2
      | ct => exact whN_more (n := n) h2
      | bk => exact h2
      | rt d => exact h2
theorem whN_le {c : M Bool} {body : M Fl} {n k : Nat} {s : S} {r : Out Fl} (h : whN c body n s = some r) (l : n ≤ k) : whN c body k s = some r := by
  induction l with
  | refl => exact h
  | step _ ih => exact whN_more ih
theorem whS_of {c : M Bool} {body : M Fl} {n : Nat} {s : S} {r : Out Fl} (h : whN c body n s = some r) : whS c body s = some r := by
  have ex : ∃ n r, whN c body n s = some r := ⟨n, r, h⟩
  unfold whS
  rw [dif_pos ex]
  have q := ex.choose_spec.choose_spec
  have q1 := whN_le q (Nat.le_max_left ex.choose n)
  have q2 := whN_le h (Nat.le_max_right ex.choose n)
  rw [q1] at q2
  exact q2
theorem whS_ex {c : M Bool} {body : M Fl} {s : S} {r : Out Fl} (h : whS c body s = some r) : ∃ n, whN c body n s = some r := by
  unfold whS at h
  split at h
  · rename_i ex
    cases h
    exact ⟨_, ex.choose_spec.choose_spec⟩
  · cases h
/-- one turn -/
theorem whS_step {c : M Bool} {body : M Fl} {s : S} {r : Out Fl} (h : bnd c (fun k => ite' k (bnd body (turnF (whS c body))) nxt) s = some r) : whS c body s = some r := by
  have h0 : ∃ n, bnd c (fun k => ite' k (bnd body (turnF (whN c body n))) nxt) s = some r := by
    unfold bnd at h ⊢
    cases e : c s with
    | none => rw [e] at h; cases h
    | some o =>
      rw [e] at h
      cases o with
      | exc C fs ς => exact ⟨0, h⟩
      | ok b s1 =>
        cases b with
        | false => exact ⟨0, h⟩
        | true =>
          have h : bnd body (turnF (whS c body)) s1 = some r := h
          show ∃ n, bnd body (turnF (whN c body n)) s1 = some r
          unfold bnd at h ⊢
          cases e2 : body s1 with
          | none => rw [e2] at h; cases h
          | some o =>
            rw [e2] at h
            cases o with
            | exc C fs ς => exact ⟨0, h⟩
            | ok fl s2 =>
              cases fl with
              | nx => exact whS_ex h
              | ct => exact whS_ex h
              | bk => exact ⟨0, h⟩
              | rt d => exact ⟨0, h⟩
  obtain ⟨n, h⟩ := h0
  exact whS_of (n := n + 1) h
theorem r_while {K : Frg} {c : M Bool} {m : M Fl} {D : Ends} {σ : L2.St} {H : Hp} (h : rS K E (whS c m) D σ H) : tWhile (rT K E c) (rS K E m) D σ H := by
  obtain ⟨G, F, α, s, R, h⟩ := h
  have h0 : ∃ n, Wp K G E F α (whN c m n s) (pS K G D) := by
    cases e : whS c m s with
    | none => rw [e] at h; exact h.elim
    | some r =>
      obtain ⟨n, q⟩ := whS_ex e
      rw [e] at h
      exact ⟨n, by rw [q]; exact h⟩
  obtain ⟨n, h⟩ := h0
  refine ⟨fun n σ H => ∃ G F α s, RelS K G F H α σ s ∧ Wp K G E F α (whN c m n s) (pS K G D), ⟨n, G, F, α, s, R, h⟩, ?_⟩
  rintro n σ1 H1 ⟨G, F1, α1, s1, R1, h1⟩
  cases n with
  | zero => exact h1.elim
  | succ n =>
    have h1 : Wp K G E F1 α1 (bnd c (fun k => ite' k (bnd m (turnF (whN c m n))) nxt) s1) (pS K G D) := h1
    refine ⟨G, F1, α1, s1, R1, h1.bind.mono fun F2 α2 H2 b s2 x2 h2 R2 => ?_⟩
    cases b with
    | false => exact iteF (h2 F2 α2 H2 (Ext.refl _ _) σ1 R2)
    | true =>
      refine iteT ⟨fun σ H => ∃ G F α s, RelS K G F H α σ s ∧ Wp K G E F α (whN c m n s) (pS K G D), fun σ' H' q => ⟨n, Nat.lt_succ_self n, q⟩, G, F2, α2, s2, R2, r_turn h2 fun F3 α3 H3 σ3 s3 x3 R3 h3 => ⟨G, F3, α3, s3, R3, h3⟩⟩
theorem d_while {t : Expr} {body : List Stmt} {c : M Bool} {m : M Fl} (hp : PassesOwn (model X.prog X.w) X.A X.env X.xe) (hc : DT X E t c) (hb : DSs X E body m) : DS X E (.While t body [] pos) (whS c m) :=
  PS.weak (ps_while hp hc hb) fun D σ H q => r_while q
end

/-! ### defs -/
inductive OutF where
  | ok (d : D) (ς : Store)
  | exc (C : Str) (fs : List (Str × D)) (ς : Store)
abbrev DF := List D → Store → Option OutF
def spF (K : Frg) (n : Nat) (f : DF) : Sp := fun vs H Q E => vs.length = n ∧ ∃ G F α ς ds, Rel0 K G F H α ς ∧ HasL K F α vs ds ∧ (match f ds ς with
  | none => False
  | some (.ok d ς') => ∀ F' α' H' v, Ext F α F' α' → Rel0 K G F' H' α' ς' → Has K F' α' v d → Q v H'
  | some (.exc C fs ς') => ∀ F' α' H' od, Ext F α F' α' → Rel0 K G F' H' α' ς' → ExcAt K F' α' od fs → E (clsV K C) od H')
/-- at a def's end the things that it made and that nothing leads to are gone -/
def cutS (ς ς' : Store) (b : Bool) : Store := if b && sflat (ς'.take ς.length) then ς'.take ς.length else ς'
def startD (n : Nat) (ds : List D) : List (Option D) := ds.map some ++ List.replicate (n - ds.length) none
def mdef (n : Nat) (body : M Fl) : DF := fun ds ς => match body ⟨startD n ds, ς⟩ with
  | some (.ok .nx s) => some (.ok .non (cutS ς s.s true))
  | some (.ok (.rt d) s) => some (.ok d (cutS ς s.s d.flat))
  | some (.exc C fs s') => some (.exc C fs (cutS ς s'.s (flatN fs)))
  | _ => none
theorem rel_cut {K : Frg} {G F F' H H' : Hp} {α α' : List Addr} {ς ς' : Store} (R : Rel0 K G F H α ς) (x : Ext F α F' α') (R' : Rel0 K G F' H' α' ς') (h : sflat (ς'.take ς.length) = true) : Rel0 K G F' H' α (ς'.take ς.length) := by
  have q := R'.cut x.a fun i h' o hi e k => k.anyα (sflat_get (i := i) h (by rw [List.getElem?_take_of_lt (by rw [← R.len]; exact hi)]; exact e))
  rw [R.len] at q
  exact q
theorem cut_cases {K : Frg} {G F F' H H' : Hp} {α α' : List Addr} {ς ς' : Store} {b : Bool} (R : Rel0 K G F H α ς) (x : Ext F α F' α') (R' : Rel0 K G F' H' α' ς') :
    ∃ α'', Ext F α F' α'' ∧ Rel0 K G F' H' α'' (cutS ς ς' b) ∧ (α'' = α' ∨ b = true) := by
  unfold cutS
  by_cases h : (b && sflat (ς'.take ς.length)) = true
  · rw [if_pos h]
    rw [Bool.and_eq_true] at h
    exact ⟨α, ⟨x.f, List.prefix_refl α⟩, rel_cut R x R' h.2, .inr h.1⟩
  · rw [if_neg h]
    exact ⟨α', x, R', .inl rfl⟩
theorem start_rel {K : Frg} {G F H : Hp} {α : List Addr} {ς : Store} {vs : List V} {ds : List D} {N : List Str} (R : Rel0 K G F H α ς) (k : HasL K F α vs ds) (hl : vs.length ≤ N.length) : RelS K G F H α (L2.start N vs) ⟨startD N.length ds, ς⟩ := by
  refine ⟨R, ?_, fun i d e => ?_⟩
  · show (startD N.length ds).length = (L2.start N vs).length
    unfold startD L2.start
    rw [List.length_append, List.length_append, List.length_map, List.length_map, List.length_replicate, List.length_replicate, k.len]
  · have e : (startD N.length ds)[i]? = some (some d) := e
    unfold startD at e
    by_cases hi : i < ds.length
    · rw [List.getElem?_append_left (by simpa using hi), List.getElem?_map] at e
      cases q : ds[i]? with
      | none => rw [q] at e; cases e
      | some d' =>
        rw [q] at e
        cases e
        obtain ⟨v, h1, h2⟩ := k.get q
        refine ⟨v, ?_, h2⟩
        unfold L2.start
        rw [List.getElem?_append_left (by rw [List.length_map, k.len]; exact hi), List.getElem?_map, h1]
        rfl
    · rw [List.getElem?_append_right (by simpa using hi), List.getElem?_replicate] at e
      split at e <;> cases e
abbrev XW (E : XK) : WX := fun c d _ H => E c d H
theorem mdef_run {K : Frg} {N : List Str} {body : M Fl} {k : Nat} {vs : List V} {H : Hp} {Q : VK} {E : XK} (hk : k ≤ N.length) (h : spF K k (mdef N.length body) vs H Q E) : rS K (XW E) body { nx := fun _ H' => Q .non H', rt := Q } (L2.start N vs) H := by
  obtain ⟨hl, G, F, α, ς, ds, R, hv, h⟩ := h
  refine ⟨G, F, α, ⟨startD N.length ds, ς⟩, start_rel R hv (by omega), ?_⟩
  unfold mdef at h
  cases e : body ⟨startD N.length ds, ς⟩ with
  | none => rw [e] at h; exact h.elim
  | some o =>
    rw [e] at h
    cases o with
    | exc C fs ς' =>
      intro F' α' H' od σ' x R' ke
      obtain ⟨α'', x'', R'', c⟩ := cut_cases (b := flatN fs) R x R'.st
      refine h F' α'' H' od x'' R'' ?_
      rcases c with rfl | c
      · exact ke
      · unfold ExcAt at ke ⊢
        cases od with
        | none => exact ke
        | some d =>
          obtain ⟨xs, h1, h2, h3⟩ := ke
          exact ⟨xs, h1, h2, h3.anyα (by rw [← flatN_eq]; exact c)⟩
    | ok fl s' =>
      cases fl with
      | nx =>
        intro F' α' H' x σ' R'
        obtain ⟨α'', x'', R'', c⟩ := cut_cases (b := true) R x R'.st
        exact h F' α'' H' .non x'' R'' .non
      | rt d =>
        intro F' α' H' x v R' kv
        obtain ⟨α'', x'', R'', c⟩ := cut_cases (b := d.flat) R x R'
        refine h F' α'' H' v x'' R'' ?_
        rcases c with rfl | c
        · exact kv
        · exact kv.anyα c
      | bk => exact h.elim
      | ct => exact h.elim
/-- THE RULE for a def -/
theorem fn_def {P : Program} {w : World} {K : Frg} {mg : Str → Option Value} {base : Heap} {x qual : Str} {st : Stmt} {f : Addr} {fd : FuncData} {N ps : List Str} {k : Nat} {body : M Fl} (F : Fun K x qual st f fd) (S : FnScope N ps (defScope st))
    (hbody : ∀ (cdv : Value) (A : Around) (outer : List Env) (s : Shared) (H : Hp) (E : XK), Room k (A.deeper (envOfC qual (defScope st) s.heap.objs.size f cdv)) →
      DSs (cxOf (L2.CX P w) P w K mg base N qual (defScope st) f cdv A outer s H E) (XW E) (defBody st) body) : FnOk P w K mg base (L2.CX P w) (k + 1) f fd ps (spF K ps.length (mdef N.length body)) := by
  refine F.okX S (fun vs H Q E h => h.1) fun cdv A outer s H vs Q E hr h => ⟨_, hbody cdv A outer s H E hr, ?_⟩
  refine mdef_run ?_ h
  have := congrArg List.length S.pre
  rw [List.length_take] at this
  omega
/-- what a caller knows of a def of the module -/
structure Cal (P : Program) (w : World) (K : Frg) (mg : Str → Option Value) (base : Heap) (k : Nat) (x : Str) (n : Nat) (f : DF) : Prop where
  ex : ∃ (fa : Addr) (fd : FuncData) (ps : List Str), mg x = some (.ref fa) ∧ PySem.W.keepIn K (.ref fa) = true ∧ Binds K fd ps [] ∧ ps.length = n ∧ FnOk P w K mg base (L2.CX P w) k fa fd ps (spF K n f)
def callF (f : DF) (ds : List D) : M D := fun s => match f ds s.s with
  | none => none
  | some (.ok d ς) => some (.ok d { s with s := ς })
  | some (.exc C fs ς) => some (.exc C fs { s with s := ς })
section
variable {X : Cx} {E : WX} {e : Expr} {es : List Expr} {pos : Pos}
theorem RelS.back {K : Frg} {G F F' H H' : Hp} {α α' : List Addr} {σ : L2.St} {s : S} {ς' : Store} (R : RelS K G F H α σ s) (x : Ext F α F' α') (R' : Rel0 K G F' H' α' ς') : RelS K G F' H' α' σ { s with s := ς' } :=
  ⟨R', R.len, fun i d e => let ⟨v, h1, h2⟩ := R.sl i d e; ⟨v, h1, h2.ext x⟩⟩
theorem spF_of {K : Frg} {n : Nat} {f : DF} {F H : Hp} {α : List Addr} {σ : L2.St} {s : S} {vs : List V} {ds : List D} {Q : VK} (hn : vs.length = n) (R : RelS K G F H α σ s) (k : HasL K F α vs ds) (h : Wp K G E F α (callF f ds s) (pV K G σ Q)) : spF K n f vs H Q (WE E σ) := by
  refine ⟨hn, G, F, α, s.s, ds, R.st, k, ?_⟩
  unfold callF at h
  cases e : f ds s.s with
  | none => simp only [e] at h; exact h.elim
  | some o =>
    simp only [e] at h
    cases o with
    | exc C fs ς => exact fun F' α' H' od x R' ke => h F' α' H' od σ x (R.back x R') ke
    | ok d ς => exact fun F' α' H' v x R' kv => h F' α' H' x v (R.back x R') kv
theorem d_call {x : Str} {p : Pos} {k n : Nat} {f : DF} {m : M (List D)} (C : Cal X.prog X.w X.K X.mg X.base k x n f) (hr : Room k X.A) (hx : Takes X E) (hn : es.length + 1 = n) (ha : DA X E (e :: es) m) (hg : Gl X x := by rfl)
    (hl : ∀ s ds s', m s = some (.ok ds s') → ds.length = n) (hdb : (x == ("__debug__" : Str)) = false := by decide)
    (he : starEach (e :: es) X.env = (false, eval e X.env) :: starEach es X.env := by rfl) (hpl : (backTo pos (starEach es X.env)).any (·.1) = false := by rfl) : DE X E (.Call (.Name x p) (e :: es) [] pos) (bnd m (callF f)) := by
  obtain ⟨fa, fd, ps, h1, h2, h3, h4, h5⟩ := C.ex
  refine PE.weak (pe_callS (E := WE E) h5 hr hg h1 h2 h3 (passAt hx) ha hdb he hpl) fun σ H Q ⟨G, F, α, s, R, h⟩ => ?_
  refine ⟨G, F, α, s, R, ?_⟩
  have hb := h.bind
  cases q : m s with
  | none => rw [q] at hb; exact hb.elim
  | some o =>
    rw [q] at hb
    cases o with
    | exc C fs ς => exact hb
    | ok ds s1 =>
      intro F1 α1 H1 x1 vs R1 k1
      exact spF_of (by rw [k1.len]; exact hl s ds s1 q) R1 k1 (hb F1 α1 H1 x1)
theorem len_nil {s s' : S} {ds : List D} (h : anil s = some (.ok ds s')) : ds.length = 0 := by cases h; rfl
theorem len_cons {m : M D} {n : M (List D)} {k : Nat} (hn : ∀ s ds s', n s = some (.ok ds s') → ds.length = k) : ∀ s ds s', acons m n s = some (.ok ds s') → ds.length = k + 1 := by
  intro s ds s' h
  unfold acons bnd at h
  cases e : m s with
  | none => simp only [e] at h; cases h
  | some o =>
    simp only [e] at h
    cases o with
    | exc C fs ς => cases h
    | ok d s1 =>
      simp only at h
      cases e2 : n s1 with
      | none => simp only [e2] at h; cases h
      | some o =>
        simp only [e2] at h
        cases o with
        | exc C fs ς => cases h
        | ok es s2 =>
          cases h
          rw [List.length_cons, hn _ _ _ e2]
end
end DL

/-! from DL4.lean -/
set_option Elab.async false
set_option linter.all false
set_option maxRecDepth 100000
set_option maxHeartbeats 2000000
namespace DL
open PySem L2
open PyProof.Rows (envOfC)

/-! ### numbers -/
section
variable {K : Frg} {E : WX}
def iop (C : Int → Int → Bool) (g : Int → Int → D) : D → D → M D := fun d e => match d, e with
  | .int i, .int j => guard' (C i j) (ret (g i j))
  | _, _ => fail
theorem s_I {C : Int → Int → Prop} {B : Int → Int → Bool} {g : Int → Int → V} {g' : Int → Int → D} (hB : ∀ i j, B i j = true → C i j) (hg : ∀ i j F α, Has K F α (g i j) (g' i j)) : Sp2 K E (rI C g) (iop B g') := by
  intro G F H α σ s x y d e Q R kx ky h
  cases kx <;> cases ky <;> first | exact h.elim | skip
  rename_i i j
  obtain ⟨c, h1⟩ := wp_guard h
  exact ⟨i, j, rfl, rfl, hB i j c, fin h1 R (hg i j F α)⟩
theorem s_I0 {g : Int → Int → V} {g' : Int → Int → D} (hg : ∀ i j F α, Has K F α (g i j) (g' i j)) : Sp2 K E (rI0 g) (iop (fun _ _ => true) g') := by
  intro G F H α σ s x y d e Q R kx ky h
  cases kx <;> cases ky <;> first | exact h.elim | skip
  rename_i i j
  exact ⟨i, j, rfl, rfl, fin h R (hg i j F α)⟩
abbrev fSub := iop (fun _ _ => true) fun i j => .int (i - j)
def i64 (i : Int) : Bool := intIn 18446744073709551614 18446744073709551615 i
theorem two64 : (2 : Int) ^ 64 = 18446744073709551616 := by decide
theorem i64_ok {i : Int} (h : i64 i = true) : -(2 ^ 64) < i ∧ i < 2 ^ 64 := by
  have q := intIn_of h
  rw [two64]
  exact ⟨by omega, by omega⟩
theorem i64_of {i : Int} (h : -18446744073709551615 ≤ i) (h' : i ≤ 18446744073709551615) : i64 i = true := intIn_to (by omega) h'
def mulB (i j : Int) : Bool := i64 i || i64 j
theorem mulB_ok {i j : Int} (h : mulB i j = true) : (-(2 ^ 64) < i ∧ i < 2 ^ 64) ∨ (-(2 ^ 64) < j ∧ j < 2 ^ 64) := by
  unfold mulB at h
  rw [Bool.or_eq_true] at h
  exact h.imp i64_ok i64_ok
abbrev fMulI := iop mulB fun i j => .int (i * j)
abbrev fDiv := iop (fun _ j => decide (j ≠ 0 ∧ j.natAbs < 1073741824)) fun i j => .int (i.fdiv j)
abbrev fMod := iop (fun _ j => decide (j ≠ 0)) fun i j => .int (i.fmod j)
abbrev fPow := iop (fun i j => decide (0 ≤ j ∧ j ≤ 1000000 ∧ i.natAbs < 2 ^ 64)) fun i j => .int (i ^ j.toNat)
theorem s_sub : Sp2 K E (rI0 fun i j => .int (i - j)) fSub := s_I0 fun _ _ _ _ => .int _
theorem s_mulI : Sp2 K E (rI CMul fun i j => .int (i * j)) fMulI := s_I (fun _ _ h => by unfold CMul; exact mulB_ok h) fun _ _ _ _ => .int _
theorem s_div : Sp2 K E (rI CDivN fun i j => .int (i.fdiv j)) fDiv := s_I (fun _ _ h => by unfold CDivN; exact of_decide_eq_true h) fun _ _ _ _ => .int _
theorem s_mod : Sp2 K E (rI (fun _ j => j ≠ 0) fun i j => .int (i.fmod j)) fMod := s_I (fun _ _ h => of_decide_eq_true h) fun _ _ _ _ => .int _
theorem s_pow : Sp2 K E (rI CPow fun i j => .int (i ^ j.toNat)) fPow := s_I (fun _ _ h => by unfold CPow; exact of_decide_eq_true h) fun _ _ _ _ => .int _
abbrev fLt := iop (fun _ _ => true) fun i j => .bl (decide (i < j))
abbrev fLe := iop (fun _ _ => true) fun i j => .bl (decide (i ≤ j))
abbrev fGt := iop (fun _ _ => true) fun i j => .bl (decide (j < i))
abbrev fGe := iop (fun _ _ => true) fun i j => .bl (decide (j ≤ i))
theorem s_lt : Sp2 K E (rI0 fun i j => .bl (decide (i < j))) fLt := s_I0 fun _ _ _ _ => .bl _
theorem s_le : Sp2 K E (rI0 fun i j => .bl (decide (i ≤ j))) fLe := s_I0 fun _ _ _ _ => .bl _
theorem s_gt : Sp2 K E (rI0 fun i j => .bl (decide (j < i))) fGt := s_I0 fun _ _ _ _ => .bl _
theorem s_ge : Sp2 K E (rI0 fun i j => .bl (decide (j ≤ i))) fGe := s_I0 fun _ _ _ _ => .bl _

/-! sums: of numbers, texts, lists, tuples -/
def fAdd (own : Bool) : D → D → M D := fun d e s => match d, e with
  | .int i, .int j => ret (.int (i + j)) s
  | .str a, .str b => guard' (small (a.length + b.length)) (ret (.str (a ++ b))) s
  | .tup xs, .tup ys => guard' (small (xs.length + ys.length)) (ret (.tup (xs ++ ys))) s
  | d, e => match lstD s.s d, lstD s.s e with
    | some xs, some ys => guard' (small (xs.length + ys.length)) (mk own (xs ++ ys)) s
    | _, _ => none
def rAddA (K : Frg) : R2 := fun x y H Q => rI0 (fun i j => .int (i + j)) x y H Q ∨ (∃ i j, x = .str i ∧ y = .str j ∧ i.length + j.length ≤ sizeLine ∧ Q (.str (i ++ j)) H) ∨ rCat x y H Q ∨ rCatA K x y H Q
theorem op_addA {X : Cx} : OpR X (binaryOp .Add) (rAddA X.K) := op_add.or (op_add_str.or (op_cat.or op_catA))
theorem HasL.nilV {F : Hp} {α : List Addr} {ds : List D} (h : HasL K F α [] ds) : ds = [] := by cases h; rfl
theorem HasL.nilD {F : Hp} {α : List Addr} {vs : List V} (h : HasL K F α vs []) : vs = [] := by cases h; rfl
theorem s_add (own : Bool) : Sp2 K E (rAddA K) (fAdd own) := by
  intro G F H α σ s x y d e Q R kx ky h
  have two : (∃ xs ys, lstD s.s d = some xs ∧ lstD s.s e = some ys ∧ Wp K G E F α (guard' (small (xs.length + ys.length)) (mk own (xs ++ ys)) s) (pV K G σ Q)) → rAddA K x y H Q := by
    rintro ⟨xs, ys, e1, e2, h⟩
    obtain ⟨g, h1⟩ := wp_guard h
    obtain ⟨a, vs, rfl, k1, p1⟩ := lst_at R.st kx e1
    obtain ⟨b, ws, rfl, k2, p2⟩ := lst_at R.st ky e2
    exact .inr (.inr (.inl ⟨a, b, vs, ws, rfl, rfl, p1, p2, by rw [k1.len, k2.len]; exact small_ok g, fin_lst h1 R (k1.app k2)⟩))
  have gen : (match lstD s.s d, lstD s.s e with
    | some xs, some ys => guard' (small (xs.length + ys.length)) (mk own (xs ++ ys)) s
    | _, _ => none) = fAdd own d e s → rAddA K x y H Q := fun z => by
    rw [← z] at h
    cases e1 : lstD s.s d with
    | none => simp only [e1] at h; exact h.elim
    | some xs =>
      cases e2 : lstD s.s e with
      | none => simp only [e1, e2] at h; exact h.elim
      | some ys =>
        simp only [e1, e2] at h
        exact two ⟨xs, ys, e1, e2, h⟩
  cases kx with
  | int i =>
    cases ky with
    | int j => exact .inl ⟨i, j, rfl, rfl, fin h R (.int _)⟩
    | _ => exact gen rfl
  | str a =>
    cases ky with
    | str b =>
      obtain ⟨g, h1⟩ := wp_guard h
      exact .inr (.inl ⟨a, b, rfl, rfl, small_ok g, fin h1 R (.str _)⟩)
    | _ => exact gen rfl
  | tup h1 k1 =>
    cases ky with
    | tup h2 k2 =>
      obtain ⟨g, h3⟩ := wp_guard h
      have e1 := sqT_seq R.st.ex h1
      have e2 := sqT_seq R.st.ex h2
      refine .inr (.inr (.inr ⟨_, _, _, _, rfl, rfl, e1, e2, by rw [k1.len, k2.len]; exact small_ok g, fun z => ?_, fun _ z => ?_, fun _ _ => fin_tup h3 R (k1.app k2)⟩))
      · subst z
        have z := k1.nilV
        subst z
        exact fin h3 R (.tup h2 k2)
      · subst z
        have z := k2.nilV
        subst z
        rw [List.append_nil] at h3
        exact fin h3 R (.tup h1 k1)
    | _ => exact gen rfl
  | _ => exact gen (by cases ky <;> rfl)
/-! products: of numbers, a list as often -/
def fMul (own : Bool) : D → D → M D := fun d e s => match d, e with
  | .int i, .int j => fMulI (.int i) (.int j) s
  | d, .int k => match lstD s.s d with
    | some xs => guard' (rngB k && small (xs.length * k.toNat)) (mk own (List.replicate k.toNat xs).flatten) s
    | none => none
  | _, _ => none
def rMulA : R2 := fun x y H Q => rI CMul (fun i j => .int (i * j)) x y H Q ∨ rRep x y H Q
theorem op_mulA {X : Cx} : OpR X (binaryOp .Mult) rMulA := op_mul.or op_rep
theorem HasL.reps {F : Hp} {α : List Addr} {vs : List V} {ds : List D} (h : HasL K F α vs ds) : ∀ n : Nat, HasL K F α (List.replicate n vs).flatten (List.replicate n ds).flatten
  | 0 => .nil
  | n + 1 => by
    rw [List.replicate_succ, List.replicate_succ, List.flatten_cons, List.flatten_cons]
    exact h.app (h.reps n)
theorem s_mul (own : Bool) : Sp2 K E rMulA (fMul own) := by
  intro G F H α σ s x y d e Q R kx ky h
  cases ky with
  | int k =>
    have gen : (match lstD s.s d with
      | some xs => guard' (rngB k && small (xs.length * k.toNat)) (mk own (List.replicate k.toNat xs).flatten) s
      | none => none) = fMul own d (.int k) s → rMulA x (.int k) H Q := fun z => by
      rw [← z] at h
      cases e1 : lstD s.s d with
      | none => simp only [e1] at h; exact h.elim
      | some xs =>
        simp only [e1] at h
        obtain ⟨g, h1⟩ := wp_guard h
        rw [Bool.and_eq_true] at g
        have g1 : -(2 ^ 63) ≤ k ∧ k < 2 ^ 63 := by
          have := rngB_ok g.1
          omega
        obtain ⟨a, vs, rfl, k1, p1⟩ := lst_at R.st kx e1
        exact .inr ⟨a, k, vs, rfl, rfl, p1, g1.1, g1.2, by rw [k1.len]; exact small_ok g.2, fin_lst h1 R (k1.reps _)⟩
    cases kx with
    | int i => exact .inl (s_mulI G F H α σ s _ _ _ _ Q R (.int i) (.int k) h)
    | _ => exact gen rfl
  | _ => cases kx <;> exact h.elim
/-! minus a number -/
def fNeg : D → M D := fun d => match d with
  | .int i => ret (.int (-i))
  | _ => fail
end

/-! ### data as the library tells it: == -/
mutual
def py0 : D → Option PyData
  | .non => some .none
  | .bl b => some (.bool b)
  | .int i => some (.int i)
  | .str x => some (.str x)
  | .lst ds => (pyL ds).map .list
  | .rdl ds => (pyL ds).map .list
  | .tup ds => (pyL ds).map .tuple
  | _ => none
def pyL : List D → Option (List PyData)
  | [] => some []
  | d :: ds => match py0 d, pyL ds with
    | some p, some ps => some (p :: ps)
    | _, _ => none
end
section
variable {K : Frg} {E : WX} {G F H : Hp} {α : List Addr}
mutual
theorem py0_at (e : Same F H) : ∀ {v : V} {d : D} {p : PyData}, Has K F α v d → py0 d = some p → Dp K H v p
  | _, _, _, .non, q => by simp only [py0] at q; cases q; exact .non
  | _, _, _, .bl b, q => by simp only [py0] at q; cases q; exact .bl b
  | _, _, _, .int i, q => by simp only [py0] at q; cases q; exact .int i
  | _, _, _, .str x, q => by simp only [py0] at q; cases q; exact .str x
  | _, _, _, .ty n, q => by simp only [py0] at q; cases q
  | _, _, _, .adr n, q => by simp only [py0] at q; cases q
  | _, _, _, .dct _ _ _, q => by simp only [py0] at q; cases q
  | _, _, _, .ins _ _ _ _, q => by simp only [py0] at q; cases q
  | _, _, _, .loc _, q => by simp only [py0] at q; cases q
  | _, _, _, .exn0, q => by simp only [py0] at q; cases q
  | _, _, _, .exn _ _ _, q => by simp only [py0] at q; cases q
  | _, _, _, .lst h r, q => by
    simp only [py0] at q
    obtain ⟨ps, q1, q2⟩ := Option.map_eq_some_iff.mp q
    subst q2
    exact .lst (SqL.of (e _ _ h)) (pyL_at e r q1)
  | _, _, _, .rdl h r, q => by
    simp only [py0] at q
    obtain ⟨ps, q1, q2⟩ := Option.map_eq_some_iff.mp q
    subst q2
    exact .lst (e.seq h) (pyL_at e r q1)
  | _, _, _, .tup h r, q => by
    simp only [py0] at q
    obtain ⟨ps, q1, q2⟩ := Option.map_eq_some_iff.mp q
    subst q2
    exact .tup (sqT_seq e h) (pyL_at e r q1)
theorem pyL_at (e : Same F H) : ∀ {vs : List V} {ds : List D} {ps : List PyData}, HasL K F α vs ds → pyL ds = some ps → DpAll K H vs ps
  | _, _, _, .nil, q => by simp only [pyL] at q; cases q; exact .nil
  | _, _, _, .cons h r, q => by
    simp only [pyL] at q
    split at q
    · rename_i p ps q1 q2
      cases q
      exact .cons (py0_at e h q1) (pyL_at e r q2)
    · cases q
end
end
def pyS (ς : Store) (d : D) : Option PyData := match d with
  | .loc i => match ς[i]? with
    | some (some (.lst ds)) => (pyL ds).map .list
    | _ => none
  | d => py0 d
theorem pyS_at {K : Frg} {G F H : Hp} {α : List Addr} {ς : Store} {v : V} {d : D} {p : PyData} (R : Rel0 K G F H α ς) (h : Has K F α v d) (e : pyS ς d = some p) : Dp K H v p := by
  have old : py0 d = some p → Dp K H v p := fun e => py0_at R.ex h e
  cases h with
  | loc ha =>
    simp only [pyS] at e
    split at e
    · rename_i ds q
      obtain ⟨ps, q1, q2⟩ := Option.map_eq_some_iff.mp e
      subst q2
      obtain ⟨a', h', h1, h2, h3, h4⟩ := R.obj _ _ q
      rw [ha] at h1
      cases h1
      obtain ⟨xs, rfl, h5⟩ := h4.lst
      exact .lst (SqL.of h2) (pyL_at R.ex h5 q1)
    · cases e
  | _ => exact old e
def fEq (neg : Bool) : D → D → M D := fun d e s => match pyS s.s d, pyS s.s e with
  | some p, some q => guard' (SeqAt.shaped p && SeqAt.shaped q) (ret (.bl (if neg then !PyData.eqv p q else PyData.eqv p q))) s
  | _, _ => none
section
variable {K : Frg} {E : WX}
theorem s_eq : Sp2 K E (rEqD K) (fEq false) := by
  intro G F H α σ s x y d e Q R kx ky h
  unfold fEq at h
  split at h
  · rename_i p q e1 e2
    obtain ⟨g, h1⟩ := wp_guard h
    rw [Bool.and_eq_true] at g
    exact ⟨p, q, pyS_at R.st kx e1, pyS_at R.st ky e2, g.1, g.2, fin h1 R (.bl _)⟩
  · exact h.elim
theorem s_ne : Sp2 K E (rNeD K) (fEq true) := by
  intro G F H α σ s x y d e Q R kx ky h
  unfold fEq at h
  split at h
  · rename_i p q e1 e2
    obtain ⟨g, h1⟩ := wp_guard h
    rw [Bool.and_eq_true] at g
    exact ⟨p, q, pyS_at R.st kx e1, pyS_at R.st ky e2, g.1, g.2, fin h1 R (.bl _)⟩
  · exact h.elim
/-! is None -/
def D.isN : D → Bool
  | .non => true
  | _ => false
theorem Has.isN {F : Hp} {α : List Addr} {v : V} {d : D} (h : Has K F α v d) : decide (v = .non) = d.isN := by
  cases h <;> rfl
def fIsN (neg : Bool) : D → D → M D := fun d e => match e with
  | .non => ret (.bl (if neg then !d.isN else d.isN))
  | _ => fail
theorem s_isN : Sp2 K E (fun x y H Q => y = .non ∧ Q (.bl (decide (x = .non))) H) (fIsN false) := by
  intro G F H α σ s x y d e Q R kx ky h
  cases ky <;> first | exact h.elim | skip
  refine ⟨rfl, ?_⟩
  rw [kx.isN]
  exact fin h R (.bl _)
theorem s_notN : Sp2 K E (fun x y H Q => y = .non ∧ Q (.bl (!decide (x = .non))) H) (fIsN true) := by
  intro G F H α σ s x y d e Q R kx ky h
  cases ky <;> first | exact h.elim | skip
  refine ⟨rfl, ?_⟩
  rw [kx.isN]
  exact fin h R (.bl _)
/-! in a sequence of flat things -/
def D.flt : D → Bool
  | .non => true
  | .bl _ => true
  | .int _ => true
  | .str _ => true
  | _ => false
def eqD : D → D → Bool
  | .non, .non => true
  | .bl a, .bl b => a == b
  | .bl a, .int b => (if a then 1 else 0) == b
  | .int a, .bl b => a == (if b then 1 else 0)
  | .int a, .int b => a == b
  | .str a, .str b => a == b
  | _, _ => false
theorem Has.flt {F : Hp} {α : List Addr} {v : V} {d : D} (h : Has K F α v d) : flatV v = d.flt := by
  cases h <;> rfl
theorem Has.eqD {F : Hp} {α : List Addr} {v w : V} {d e : D} (h : Has K F α v d) (k : Has K F α w e) : eqV v w = DL.eqD d e := by
  cases h <;> cases k <;> rfl
theorem HasL.flt {F : Hp} {α : List Addr} : ∀ {vs : List V} {ds : List D}, HasL K F α vs ds → vs.all flatV = ds.all D.flt
  | _, _, .nil => rfl
  | _, _, .cons h r => by rw [List.all_cons, List.all_cons, h.flt, r.flt]
theorem HasL.inV {F : Hp} {α : List Addr} {x : V} {d : D} (h : Has K F α x d) : ∀ {vs : List V} {ds : List D}, HasL K F α vs ds → L2.inV x vs = ds.any fun y => DL.eqD y d
  | _, _, .nil => rfl
  | _, _, .cons k r => by
    have ih := HasL.inV h r
    unfold L2.inV at ih ⊢
    rw [List.any_cons, List.any_cons, ih, k.eqD h]
def fIn (neg : Bool) : D → D → M D := fun d e s => match seqD s.s e with
  | some (_, ds) => guard' (d.flt && ds.all D.flt) (ret (.bl (if neg then !(ds.any fun y => eqD y d) else ds.any fun y => eqD y d))) s
  | none => none
theorem s_in (neg : Bool) : Sp2 K E (rIn K neg) (fIn neg) := by
  intro G F H α σ s x y d e Q R kx ky h
  unfold fIn at h
  split at h
  · rename_i kd ds q
    obtain ⟨g, h1⟩ := wp_guard h
    rw [Bool.and_eq_true] at g
    obtain ⟨a, xs, rfl, hl, w1, w2⟩ := seq_at R.st ky q
    refine ⟨a, xs, rfl, ?_, by rw [kx.flt]; exact g.1, by rw [hl.flt]; exact g.2, ?_⟩
    · cases kd with
      | true => exact .inl (w1 rfl)
      | false => exact .inr (w2 rfl)
    · rw [HasL.inV kx hl]
      exact fin h1 R (.bl _)
  · exact h.elim
/-! by an index -/
def fIx : D → D → M D := fun d e s => match seqD s.s d, e with
  | some (_, ds), .int i => match atI ds i with
    | some x => ret x s
    | none => none
  | none, .int i => match d with
    | .str z => match atI z.cps.toList i with
      | some c => guard' (small z.length) (ret (.str ⟨#[c]⟩)) s
      | none => none
    | _ => none
  | _, _ => none
theorem atI_has {F : Hp} {α : List Addr} {xs : List V} {ds : List D} {i : Int} {d : D} (h : HasL K F α xs ds) (e : atI ds i = some d) : ∃ v, atI xs i = some v ∧ Has K F α v d := by
  unfold atI at e ⊢
  rw [← h.len] at e
  cases q : ixN xs.length i with
  | none => rw [q] at e; cases e
  | some j =>
    rw [q] at e
    obtain ⟨v, h1, h2⟩ := h.get (i := j) e
    exact ⟨v, h1, h2⟩
theorem s_ix : Sp2 K E (rIx K) fIx := by
  intro G F H α σ s x y d e Q R kx ky h
  unfold fIx at h
  split at h
  · rename_i kd ds i q
    split at h
    · rename_i z q2
      obtain ⟨a, xs, rfl, hl, w1, w2⟩ := seq_at R.st kx q
      obtain ⟨v, h1, h2⟩ := atI_has hl q2
      cases ky
      cases kd with
      | true => exact .inl ⟨a, xs, i, v, rfl, rfl, w1 rfl, h1, fin h R h2⟩
      | false => exact .inr (.inl ⟨a, xs, i, v, rfl, rfl, w2 rfl, h1, fin h R h2⟩)
    · exact h.elim
  · rename_i i q
    split at h
    · rename_i z
      split at h
      · rename_i c q2
        obtain ⟨g, h1⟩ := wp_guard h
        cases kx
        cases ky
        exact .inr (.inr ⟨z, i, c, rfl, rfl, small_ok g, q2, fin h1 R (.str _)⟩)
      · exact h.elim
    · exact h.elim
  · exact h.elim
end

/-! ### built-in functions -/
section
variable {K : Frg} {E : WX}
theorem HasL.one {F : Hp} {α : List Addr} {vs : List V} {d : D} (h : HasL K F α vs [d]) : ∃ v, vs = [v] ∧ Has K F α v d := by
  cases h with
  | cons h r => cases r; exact ⟨_, rfl, h⟩
theorem HasL.two {F : Hp} {α : List Addr} {vs : List V} {d e : D} (h : HasL K F α vs [d, e]) : ∃ v w, vs = [v, w] ∧ Has K F α v d ∧ Has K F α w e := by
  cases h with
  | cons h r => cases r with
    | cons h2 r2 => cases r2; exact ⟨_, _, rfl, h, h2⟩
def fLen : List D → M D := fun ds s => match ds with
  | [.str z] => guard' (small z.length) (ret (.int z.length)) s
  | [d] => match seqD s.s d with
    | some (_, es) => ret (.int es.length) s
    | none => none
  | _ => none
theorem s_len : SpA K E (fun xs H Q => ∃ x n, xs = [x] ∧ LenV K x H n ∧ Q (.int n) H) fLen := by
  intro G F H α σ s xs ds Q R k h
  unfold fLen at h
  split at h
  · rename_i z
    obtain ⟨v, rfl, k1⟩ := k.one
    obtain ⟨g, h1⟩ := wp_guard h
    cases k1
    exact ⟨_, z.length, rfl, ⟨small_ok g, rfl⟩, fin h1 R (.int _)⟩
  · rename_i d _
    obtain ⟨v, rfl, k1⟩ := k.one
    split at h
    · rename_i kd es q
      obtain ⟨a, ws, rfl, hl, w1, w2⟩ := seq_at R.st k1 q
      refine ⟨_, es.length, rfl, ?_, fin h R (.int _)⟩
      cases kd with
      | true => exact .inl ⟨ws, w1 rfl, hl.len.symm⟩
      | false => exact .inr ⟨ws, w2 rfl, hl.len.symm⟩
    · exact h.elim
  · exact h.elim
def fInt : List D → M D := fun ds => match ds with
  | [.int i] => ret (.int i)
  | [.bl k] => ret (.int (if k then 1 else 0))
  | _ => fail
theorem s_int : SpA K E (fun xs H Q => (∃ i, xs = [.int i] ∧ Q (.int i) H) ∨ ∃ k, xs = [.bl k] ∧ Q (.int (if k then 1 else 0)) H) fInt := by
  intro G F H α σ s xs ds Q R k h
  unfold fInt at h
  split at h
  · obtain ⟨v, rfl, k1⟩ := k.one
    cases k1
    exact .inl ⟨_, rfl, fin h R (.int _)⟩
  · obtain ⟨v, rfl, k1⟩ := k.one
    cases k1
    exact .inr ⟨_, rfl, fin h R (.int _)⟩
  · exact h.elim
def fMax2 : List D → M D := fun ds => match ds with
  | [.int i, .int j] => ret (.int (max i j))
  | _ => fail
def fMin2 : List D → M D := fun ds => match ds with
  | [.int i, .int j] => ret (.int (min i j))
  | _ => fail
theorem s_max2 : SpA K E (fun xs H Q => ∃ i j, xs = [.int i, .int j] ∧ Q (.int (if j > i then j else i)) H) fMax2 := by
  intro G F H α σ s xs ds Q R k h
  unfold fMax2 at h
  split at h
  · rename_i i j
    obtain ⟨v, w, rfl, k1, k2⟩ := k.two
    cases k1
    cases k2
    refine ⟨_, _, rfl, ?_⟩
    have e : (if j > i then j else i) = max i j := by split <;> omega
    rw [e]
    exact fin h R (.int _)
  · exact h.elim
theorem s_min2 : SpA K E (fun xs H Q => ∃ i j, xs = [.int i, .int j] ∧ Q (.int (if j < i then j else i)) H) fMin2 := by
  intro G F H α σ s xs ds Q R k h
  unfold fMin2 at h
  split at h
  · rename_i i j
    obtain ⟨v, w, rfl, k1, k2⟩ := k.two
    cases k1
    cases k2
    refine ⟨_, _, rfl, ?_⟩
    have e : (if j < i then j else i) = min i j := by split <;> omega
    rw [e]
    exact fin h R (.int _)
  · exact h.elim
/-- a row of numbers -/
def intsD : List D → Option (List Int)
  | [] => some []
  | .int i :: ds => (intsD ds).map (i :: ·)
  | _ => none
theorem intsD_map : ∀ ns : List Int, intsD (ns.map .int) = some ns
  | [] => rfl
  | n :: ns => by simp [intsD, intsD_map ns]
theorem intsD_eq : ∀ {ds : List D} {ns : List Int}, intsD ds = some ns → ds = ns.map .int
  | [], ns, h => by simp only [intsD, Option.some.injEq] at h; subst h; rfl
  | d :: ds, ns, h => by
    cases d <;> simp only [intsD] at h <;> try (cases h; done)
    obtain ⟨ms, h1, rfl⟩ := Option.map_eq_some_iff.mp h
    rw [intsD_eq h1]
    rfl
/-- a list's numbers -/
def intsOf (ς : Store) (d : D) : Option (List Int) := match seqD ς d with
  | some (true, ds) => intsD ds
  | _ => none
theorem ints_at {F H : Hp} {α : List Addr} {ς : Store} {v : V} {d : D} {ns : List Int} (R : Rel0 K G F H α ς) (h : Has K F α v d) (e : intsOf ς d = some ns) : ∃ a, v = .ref a ∧ SqL K H a (ns.map V.int) := by
  unfold intsOf at e
  split at e
  · rename_i ds q
    obtain ⟨a, xs, rfl, hl, w1, w2⟩ := seq_at R h q
    have z := intsD_eq e
    subst z
    rw [hl.ints] at w1
    exact ⟨a, rfl, w1 rfl⟩
  · cases e
def fSum : List D → M D := fun ds s => match ds with
  | [d] => match intsOf s.s d with
    | some ns => ret (.int ns.sum) s
    | none => none
  | _ => none
theorem s_sum : SpA K E (rSum K) fSum := by
  intro G F H α σ s xs ds Q R k h
  unfold fSum at h
  split at h
  · obtain ⟨v, rfl, k1⟩ := k.one
    split at h
    · rename_i ns q
      obtain ⟨a, rfl, hs⟩ := ints_at R.st k1 q
      exact ⟨a, ns, rfl, hs, fin h R (.int _)⟩
    · exact h.elim
  · exact h.elim
def maxL (x : Int) (ns : List Int) : Int := ns.foldl max x
def minL (x : Int) (ns : List Int) : Int := ns.foldl min x
theorem maxL_ge (x : Int) (ns : List Int) : x ≤ maxL x ns ∧ (∀ y ∈ ns, y ≤ maxL x ns) ∧ (maxL x ns = x ∨ maxL x ns ∈ ns) := by
  induction ns generalizing x with
  | nil => exact ⟨Int.le_refl x, by simp, .inl rfl⟩
  | cons n ns ih =>
    obtain ⟨h1, h2, h3⟩ := ih (max x n)
    have e : maxL x (n :: ns) = maxL (max x n) ns := rfl
    rw [e]
    refine ⟨by omega, fun y hy => ?_, ?_⟩
    · rcases List.mem_cons.mp hy with rfl | hy
      · omega
      · exact h2 y hy
    · rcases h3 with h3 | h3
      · by_cases c : x ≤ n
        · right; rw [h3]; have : max x n = n := by omega
          rw [this]; exact List.mem_cons_self
        · left; rw [h3]; omega
      · right; exact List.mem_cons_of_mem _ h3
theorem minL_le (x : Int) (ns : List Int) : minL x ns ≤ x ∧ (∀ y ∈ ns, minL x ns ≤ y) ∧ (minL x ns = x ∨ minL x ns ∈ ns) := by
  induction ns generalizing x with
  | nil => exact ⟨Int.le_refl x, by simp, .inl rfl⟩
  | cons n ns ih =>
    obtain ⟨h1, h2, h3⟩ := ih (min x n)
    have e : minL x (n :: ns) = minL (min x n) ns := rfl
    rw [e]
    refine ⟨by omega, fun y hy => ?_, ?_⟩
    · rcases List.mem_cons.mp hy with rfl | hy
      · omega
      · exact h2 y hy
    · rcases h3 with h3 | h3
      · by_cases c : n ≤ x
        · right; rw [h3]; have : min x n = n := by omega
          rw [this]; exact List.mem_cons_self
        · left; rw [h3]; omega
      · right; exact List.mem_cons_of_mem _ h3
def fMax1 : List D → M D := fun ds s => match ds with
  | [d] => match intsOf s.s d with
    | some (n :: ns) => ret (.int (maxL n ns)) s
    | _ => none
  | _ => none
def fMin1 : List D → M D := fun ds s => match ds with
  | [d] => match intsOf s.s d with
    | some (n :: ns) => ret (.int (minL n ns)) s
    | _ => none
  | _ => none
theorem s_max1 : SpA K E (rMax K) fMax1 := by
  intro G F H α σ s xs ds Q R k h
  unfold fMax1 at h
  split at h
  · obtain ⟨v, rfl, k1⟩ := k.one
    split at h
    · rename_i n ns q
      obtain ⟨a, rfl, hs⟩ := ints_at R.st k1 q
      refine ⟨a, n :: ns, rfl, hs, by simp, fun m hm hle => ?_⟩
      obtain ⟨h1, h2, h3⟩ := maxL_ge n ns
      have e : m = maxL n ns := by
        apply Int.le_antisymm
        · rcases List.mem_cons.mp hm with rfl | hm
          · exact h1
          · exact h2 m hm
        · rcases h3 with h3 | h3
          · rw [h3]; exact hle n List.mem_cons_self
          · exact hle _ (List.mem_cons_of_mem _ h3)
      rw [e]
      exact fin h R (.int _)
    · exact h.elim
  · exact h.elim
theorem s_min1 : SpA K E (rMin K) fMin1 := by
  intro G F H α σ s xs ds Q R k h
  unfold fMin1 at h
  split at h
  · obtain ⟨v, rfl, k1⟩ := k.one
    split at h
    · rename_i n ns q
      obtain ⟨a, rfl, hs⟩ := ints_at R.st k1 q
      refine ⟨a, n :: ns, rfl, hs, by simp, fun m hm hle => ?_⟩
      obtain ⟨h1, h2, h3⟩ := minL_le n ns
      have e : m = minL n ns := by
        apply Int.le_antisymm
        · rcases h3 with h3 | h3
          · rw [h3]; exact hle n List.mem_cons_self
          · exact hle _ (List.mem_cons_of_mem _ h3)
        · rcases List.mem_cons.mp hm with rfl | hm
          · exact h1
          · exact h2 m hm
      rw [e]
      exact fin h R (.int _)
    · exact h.elim
  · exact h.elim
/-! list(x), tuple(x) -/
def fList (own : Bool) : List D → M D := fun ds s => match ds with
  | [d] => match seqD s.s d with
    | some (_, es) => mk own es s
    | none => none
  | _ => none
theorem s_list (own : Bool) : SpA K E (fun xs H Q => ∃ p ys, xs = [.ref p] ∧ (SqL K H p ys ∨ SqT K H p ys) ∧ ∀ l, H l = none → Q (.ref l) (upd H l (.lst ys))) (fList own) := by
  intro G F H α σ s xs ds Q R k h
  unfold fList at h
  split at h
  · obtain ⟨v, rfl, k1⟩ := k.one
    split at h
    · rename_i kd es q
      obtain ⟨a, ws, rfl, hl, w1, w2⟩ := seq_at R.st k1 q
      refine ⟨a, ws, rfl, ?_, fin_lst h R hl⟩
      cases kd with
      | true => exact .inl (w1 rfl)
      | false => exact .inr (w2 rfl)
    · exact h.elim
  · exact h.elim
def fTuple : List D → M D := fun ds s => match ds with
  | [d] => match seqD s.s d with
    | some (true, es) => ret (.tup es) s
    | some (false, es) => ret (.tup es) s
    | none => none
  | _ => none
theorem s_tuple : SpA K E (fun xs H Q => ∃ p ys, xs = [.ref p] ∧ ((SqL K H p ys ∧ ∀ l, H l = none → Q (.ref l) (upd H l (.tup ys))) ∨ (SqT K H p ys ∧ Q (.ref p) H))) fTuple := by
  intro G F H α σ s xs ds Q R k h
  unfold fTuple at h
  split at h
  · rename_i d
    obtain ⟨v, rfl, k1⟩ := k.one
    split at h
    · rename_i es q
      obtain ⟨a, ws, rfl, hl, w1, w2⟩ := seq_at R.st k1 q
      exact ⟨a, ws, rfl, .inl ⟨w1 rfl, fin_tup h R hl⟩⟩
    · rename_i es q
      obtain ⟨a, ws, rfl, hl, w1, w2⟩ := seq_at R.st k1 q
      refine ⟨a, ws, rfl, .inr ⟨w2 rfl, ?_⟩⟩
      have z : Has K F α (.ref a) (.tup es) := by
        cases d <;> simp only [seqD] at q <;> try (cases q; done)
        · cases q; exact k1
        · split at q <;> cases q
      exact fin h R z
    · exact h.elim
  · exact h.elim
/-! any, all of truths -/
def blsD : List D → Option (List Bool)
  | [] => some []
  | .bl i :: ds => (blsD ds).map (i :: ·)
  | _ => none
theorem blsD_map : ∀ ns : List Bool, blsD (ns.map .bl) = some ns
  | [] => rfl
  | n :: ns => by simp [blsD, blsD_map ns]
theorem blsD_eq : ∀ {ds : List D} {ns : List Bool}, blsD ds = some ns → ds = ns.map .bl
  | [], ns, h => by simp only [blsD, Option.some.injEq] at h; subst h; rfl
  | d :: ds, ns, h => by
    cases d <;> simp only [blsD] at h <;> try (cases h; done)
    obtain ⟨ms, h1, rfl⟩ := Option.map_eq_some_iff.mp h
    rw [blsD_eq h1]
    rfl
theorem HasL.bls {F : Hp} {α : List Addr} : ∀ {vs : List V} {ns : List Bool}, HasL K F α vs (ns.map .bl) → vs = ns.map .bl
  | _, [], .nil => rfl
  | _, n :: ns, .cons h r => by cases h; rw [HasL.bls r]; rfl
def fAny (all : Bool) : List D → M D := fun ds s => match ds with
  | [d] => match seqD s.s d with
    | some (true, es) => match blsD es with
      | some bs => ret (.bl (if all then bs.all id else bs.any id)) s
      | none => none
    | _ => none
  | _ => none
theorem s_anyall (all : Bool) {r : List V → Hp → VK → Prop} (hr : ∀ vs H Q, (∃ (a : Addr) (bs : List Bool), vs = [V.ref a] ∧ SqL K H a (bs.map V.bl) ∧ Q (.bl (if all then bs.all id else bs.any id)) H) → r vs H Q) : SpA K E r (fAny all) := by
  intro G F H α σ s xs ds Q R k h
  unfold fAny at h
  split at h
  · obtain ⟨v, rfl, k1⟩ := k.one
    split at h
    · rename_i es q
      split at h
      · rename_i bs q2
        obtain ⟨a, ws, rfl, hl, w1, w2⟩ := seq_at R.st k1 q
        have z := blsD_eq q2
        subst z
        rw [hl.bls] at w1
        exact hr _ _ _ ⟨a, bs, rfl, w1 rfl, fin h R (.bl _)⟩
      · exact h.elim
    · exact h.elim
  · exact h.elim
theorem s_any : SpA K E (rAny K) (fAny false) := s_anyall false fun _ _ _ h => h
theorem s_all : SpA K E (rAll K) (fAny true) := s_anyall true fun _ _ _ h => h
/-! sorted: numbers -/
def sortI (ns : List Int) : List Int := ns.mergeSort (fun a b => decide (a ≤ b))
theorem sortI_perm (ns : List Int) : (sortI ns).Perm ns := List.mergeSort_perm ns _
theorem sortI_pw (ns : List Int) : (sortI ns).Pairwise (· ≤ ·) := by
  have h := List.pairwise_mergeSort (le := fun a b : Int => decide (a ≤ b)) (fun a b c h1 h2 => decide_eq_true (Int.le_trans (of_decide_eq_true h1) (of_decide_eq_true h2))) (fun a b => by
    rcases Int.le_total a b with h | h
    · simp [h]
    · simp [h]) ns
  exact h.imp fun h => of_decide_eq_true h
theorem perm_pw_eq : ∀ {xs ys : List Int}, xs.Perm ys → xs.Pairwise (· ≤ ·) → ys.Pairwise (· ≤ ·) → xs = ys := by
  intro xs ys p h1 h2
  exact List.Perm.eq_of_pairwise (fun a b _ _ h3 h4 => Int.le_antisymm h3 h4) h1 h2 p
def fSortI (own : Bool) : List D → M D := fun ds s => match ds with
  | [d] => match intsOf s.s d with
    | some ns => mk own ((sortI ns).map .int) s
    | none => none
  | _ => none
theorem s_sortI (own : Bool) : SpA K E (rSortedI K) (fSortI own) := by
  intro G F H α σ s xs ds Q R k h
  unfold fSortI at h
  split at h
  · obtain ⟨v, rfl, k1⟩ := k.one
    split at h
    · rename_i ns q
      obtain ⟨a, rfl, hs⟩ := ints_at R.st k1 q
      refine ⟨a, ns, rfl, hs, fun ns' p hp pw hn => ?_⟩
      have e : ns' = sortI ns := perm_pw_eq (hp.trans (sortI_perm ns).symm) pw (sortI_pw ns)
      subst e
      exact fin_lst h R (hasL_ints _) p hn
    · exact h.elim
  · exact h.elim
end
end DL

/-! from DL5.lean -/
set_option Elab.async false
set_option linter.all false
set_option maxRecDepth 100000
set_option maxHeartbeats 2000000
namespace DL
open PySem L2
open PyProof.Rows (envOfC)

/-! ### a op b op c -/
def chn (f g : D → D → M D) (ma mb mc : M D) : M D := bnd ma fun x => bnd mb fun y => bnd (f x y) fun k => blOf k fun b => ite' b (bnd mc fun z => g y z) (ret (.bl false))
section
variable {X : Cx} {E : WX} {e a b c o i : Expr} {es : List Expr} {st : Stmt} {pos pos' : Pos}
/-- a two-place reading that gives a truth, on the way -/
def Sp2B (K : Frg) (E : WX) (r : R2) (f : D → D → M D) : Prop := ∀ (G F H : Hp) (α : List Addr) (σ : L2.St) (s : S) (x y : V) (d e : D) (Q : VK), RelS K G F H α σ s → Has K F α x d → Has K F α y e → Wp K G E F α (f d e s) (pV K G σ Q) → r x y H Q
theorem r_chain {K : Frg} {r r' : R2} {f g : D → D → M D} {ma mb mc : M D} (hr : Sp2 K E r f) (hr' : Sp2 K E r' g) {σ : L2.St} {H : Hp} {Q : VK} (h : rE K E (chn f g ma mb mc) σ H Q) : tChain r r' (rE K E ma) (rE K E mb) (rE K E mc) σ H Q := by
  obtain ⟨G, F, α, s, R, h⟩ := h
  refine ⟨G, F, α, s, R, h.bind.mono fun F1 α1 H1 d s1 x1 h1 v R1 k1 => ?_⟩
  refine ⟨G, F1, α1, s1, R1, h1.bind.mono fun F2 α2 H2 e2 s2 x2 h2 w R2 k2 => ?_⟩
  refine hr G F2 H2 α2 σ s2 v w d e2 _ R2 (k1.ext x2) k2 (h2.bind.mono fun F3 α3 H3 k s3 x3 h3 u R3 k3 => ?_)
  cases k3 <;> first | exact h3.elim | skip
  rename_i q
  refine ⟨q, rfl, ?_⟩
  cases q with
  | false => exact iteF (fin h3 R3 (.bl false))
  | true =>
    refine iteT ⟨G, F3, α3, s3, R3, h3.bind.mono fun F4 α4 H4 z s4 x4 h4 y R4 k4 => ?_⟩
    exact hr' G F4 H4 α4 σ s4 w y e2 z Q R4 (k2.ext (x3.trans x4)) k4 h4
theorem d_chain {op op' : CmpOp} {r r' : R2} {f g : D → D → M D} {ma mb mc : M D} (ho : OpR X (compareOp op) r) (ho' : OpR X (compareOp op') r') (hr : Sp2 X.K E r f) (hr' : Sp2 X.K E r' g) (ha : DE X E a ma) (hb : DE X E b mb) (hc : DE X E c mc)
    (hm : lastMarks [op, op'] [b, c] = false := by with_unfolding_all rfl) : DE X E (.Compare a [op, op'] [b, c] pos) (chn f g ma mb mc) :=
  PE.weak (pe_chain ho ho' ha hb hc hm) fun σ H Q h => r_chain hr hr' h
theorem d_tchain {op op' : CmpOp} {r r' : R2} {f g : D → D → M D} {ma mb mc : M D} (ho : OpR X (compareOp op) r) (ho' : OpR X (compareOp op') r') (hr : Sp2 X.K E r f) (hr' : Sp2 X.K E r' g) (ha : DE X E a ma) (hb : DE X E b mb) (hc : DE X E c mc)
    (hm : lastMarks [op, op'] [b, c] = false := by with_unfolding_all rfl) : DT X E (.Compare a [op, op'] [b, c] pos) (tst (chn f g ma mb mc)) :=
  PT.weak (pt_chain ho ho' ha hb hc hm) fun σ H Q h => r_chain hr hr' (r_tst h)

/-! ### a name whose thing is kept for good from here on -/
def frzO : O → D
  | .lst ds => .lst ds
  | .dct ms => .dct ms
  | .ins C fs => .ins C fs
  | .tab _ _ => .non
def nameF (i : Nat) : M D := fun s => match s.e[i]? with
  | some (some (.loc j)) => match s.s[j]? with
    | some (some ob) => if ob.isTab = true then none else some (.ok (frzO ob) ⟨s.e.set i (some (frzO ob)), s.s.set j none⟩)
    | _ => none
  | some (some d) => some (.ok d s)
  | _ => none
theorem has_frz {K : Frg} {F : Hp} {α : List Addr} {a : Addr} {h : HO} {ob : O} (k : HObj K F α h ob) (hf : F a = none) (ht : ¬ ob.isTab = true) : Has K (upd F a h) α (.ref a) (frzO ob) := by
  have x := same_upd (o := h) hf
  cases h <;> cases ob <;> simp only [HObj] at k
  · exact .lst upd_same (k.mono x (List.prefix_refl α))
  · exact .dct upd_same k.1 (k.2.mono x (List.prefix_refl α))
  · obtain ⟨c, k1, k2⟩ := k
    exact .ins c upd_same k1 (k2.mono x (List.prefix_refl α))
  · exact absurd rfl ht
theorem d_nameF (i : Nat) {x : Str} (hN : X.N[i]? = some x := by rfl) (hv : Vis X.env.scope x := by first | exact Or.inl rfl | exact Or.inr (Or.inl rfl) | exact Or.inr (Or.inr rfl)) (hd : (x == ("__debug__" : Str)) = false := by decide)
    (hcd : (x == ("__classdict__" : Str)) = false := by decide) : DE X E (.Name x pos) (nameF i) := by
  refine PE.weak (pe_var hN hv hd hcd) fun σ H Q ⟨G, F, α, s, R, h⟩ => ?_
  unfold nameF at h
  split at h
  · rename_i j q
    split at h
    · rename_i ob q2
      by_cases ht : ob.isTab = true
      · rw [if_pos ht] at h
        exact h.elim
      rw [if_neg ht] at h
      obtain ⟨v, h1, h2⟩ := R.sl i _ q
      cases h2
      rename_i a ha
      refine ⟨.ref a, h1, ?_⟩
      obtain ⟨a', ho, g1, g2, g3, g4⟩ := R.st.obj j ob q2
      rw [ha] at g1
      cases g1
      obtain ⟨R', x⟩ := R.st.frz q2 ha g2
      have hk := has_frz g4 g3 ht
      refine h _ α H x (.ref a) ⟨R', by show (s.e.set i (some (frzO ob))).length = σ.length; rw [List.length_set]; exact R.len, fun l d e => ?_⟩ hk
      rcases set_get e with ⟨rfl, e, _⟩ | ⟨_, e⟩
      · cases e
        exact ⟨_, h1, hk⟩
      · obtain ⟨w, w1, w2⟩ := R.sl l d e
        exact ⟨w, w1, w2.ext x⟩
    · exact h.elim
  · rename_i d _ q
    obtain ⟨v, h1, h2⟩ := R.sl i d q
    exact ⟨v, h1, fin h R h2⟩
  · exact h.elim

/-! ### comprehensions -/
def wipeD (e : List (Option D)) : List Nat → List (Option D)
  | [] => e
  | v :: vs => (wipeD e vs).set v none
theorem wipeD_len (e : List (Option D)) : ∀ vs : List Nat, (wipeD e vs).length = e.length
  | [] => rfl
  | v :: vs => by unfold wipeD; rw [List.length_set, wipeD_len e vs]
theorem wipeD_some {e : List (Option D)} {i : Nat} {d : D} : ∀ {vs : List Nat}, (wipeD e vs)[i]? = some (some d) → e[i]? = some (some d) ∧ i ∉ vs
  | [], h => ⟨h, by simp⟩
  | v :: vs, h => by
    unfold wipeD at h
    rcases set_get h with ⟨_, z, _⟩ | ⟨n, z⟩
    · cases z
    · obtain ⟨h1, h2⟩ := wipeD_some z
      exact ⟨h1, by simp only [List.mem_cons, not_or]; exact ⟨fun e => n e.symm, h2⟩⟩
theorem wipe_in {σ : L2.St} {i : Nat} : ∀ {vs : List Nat}, i ∈ vs → i < σ.length → (wipe σ vs)[i]? = some none
  | v :: vs, h, hi => by
    show ((wipe σ vs).set v none)[i]? = some none
    by_cases q : v = i
    · subst q
      rw [List.getElem?_set_self (by rw [wipe_length]; exact hi)]
    · rw [List.getElem?_set_ne q]
      rcases List.mem_cons.mp h with z | z
      · exact absurd z.symm q
      · exact wipe_in z hi
theorem wipe_but {σ σ' : L2.St} {js vs : List Nat} (b : But js (wipe σ vs) σ') (h : ∀ j ∈ js, j ∈ vs) : wipe σ' vs = wipe σ vs := by
  have hl : σ'.length = σ.length := b.len.trans (wipe_length σ vs)
  apply List.ext_getElem?
  intro i
  by_cases hi : i ∈ vs
  · by_cases hs : i < σ.length
    · rw [wipe_in hi (by rw [hl]; exact hs), wipe_in hi hs]
    · rw [List.getElem?_eq_none (by rw [wipe_length, hl]; omega), List.getElem?_eq_none (by rw [wipe_length]; omega)]
  · rw [wipe_out hi, b.out i fun z => hi (h i z)]
theorem RelS.wipe {K : Frg} {G F H : Hp} {α : List Addr} {σ : L2.St} {s : S} (R : RelS K G F H α σ s) (vs : List Nat) : RelS K G F H α (L2.wipe σ vs) ⟨wipeD s.e vs, s.s⟩ := by
  refine ⟨R.st, by show (wipeD s.e vs).length = _; rw [wipeD_len, wipe_length]; exact R.len, fun i d e => ?_⟩
  obtain ⟨h1, h2⟩ := wipeD_some e
  obtain ⟨v, w1, w2⟩ := R.sl i d h1
  exact ⟨v, by rw [wipe_out h2]; exact w1, w2⟩
/-- the new items -/
def lcR (e0 : List (Option D)) (g : Tg) (tt : M Bool) (te : M D) : List D → Store → Option (List D × Store)
  | [], ς => some ([], ς)
  | d :: ds, ς => (g d ⟨e0, ς⟩).bind fun s1 => match tt s1 with
    | some (.ok true s2) => (match te s2 with
      | some (.ok y s3) => (lcR e0 g tt te ds s3.s).map fun p => (y :: p.1, p.2)
      | _ => none)
    | some (.ok false s2) => lcR e0 g tt te ds s2.s
    | _ => none
def lcK (own : Bool) (vs : List Nat) (g : Tg) (tt : M Bool) (te : M D) (ds : List D) : M D := fun s => match lcR (wipeD s.e vs) g tt te ds s.s with
  | some (ys, ς) => guard' (small ys.length) (mk own ys) ⟨s.e, ς⟩
  | none => none
def lcM (own : Bool) (vs : List Nat) (src : M (List D)) (g : Tg) (tt : M Bool) (te : M D) : M D := bnd src (lcK own vs g tt te)
theorem fin_track {K : Frg} {G F H : Hp} {α : List Addr} {σ : L2.St} {s : S} {Q : VK} {own : Bool} {p : Addr} {acc : List V} {ys : List D} (h : Wp K G E F α (mk own ys s) (pV K G σ Q)) (gp : G p = none) (R : RelS K (upd G p (.lst acc)) F H α σ s) (k : HasL K F α acc ys) : Q (.ref p) H := by
  cases own with
  | false =>
    obtain ⟨R', x⟩ := R.st.settle gp
    exact h _ α H x (.ref p) ⟨R', R.len, fun i d e => let ⟨v, h1, h2⟩ := R.sl i d e; ⟨v, h1, h2.ext x⟩⟩ (.lst upd_same (k.ext x))
  | true =>
    refine h F (α ++ [p]) H ⟨Same.refl F, pre_app α p⟩ (.ref p) ⟨R.st.adopt gp (ob := .lst ys) k, R.len, fun i d e => let ⟨v, h1, h2⟩ := R.sl i d e; ⟨v, h1, h2.mono (Same.refl F) (pre_app α p)⟩⟩ (.loc ?_)
    rw [← R.st.len]
    simp
theorem wp_post {K : Frg} {G : Hp} {F : Hp} {α : List Addr} {β : Type} {b : β} {s : S} {P : Hp → List Addr → Hp → β → S → Prop} (h : ∀ F' α' H', Ext F α F' α' → P F' α' H' b s) : Wp K G E F α (some (.ok b s)) P := h
abbrev W0 : WX := fun _ _ _ _ => False
theorem r_lc {K : Frg} {own : Bool} {vs js : List Nat} {src : M (List D)} {g : Tg} {t : TG} {tt : M Bool} {te : M D} (hg : SpG K t g js) (hj : ∀ j ∈ js, j ∈ vs) {σ : L2.St} {H : Hp} {Q : VK} (h : rE K E (lcM own vs src g tt te) σ H Q) :
    tLc (rIt K E src) t (rT K W0 tt) (rE K W0 te) vs σ H Q := by
  obtain ⟨G, F, α, s, R, h⟩ := h
  refine ⟨G, F, α, s, R, h.bind.mono fun F1 α1 H1 ds s1 x1 h1 R1 J wk p hp => ?_⟩
  have gp : G p = none := R1.st.gx.free hp
  unfold lcK at h1
  cases e0 : lcR (wipeD s1.e vs) g tt te ds s1.s with
  | none => simp only [e0] at h1; exact h1.elim
  | some q0 =>
    obtain ⟨yys, ςe⟩ := q0
    simp only [e0] at h1
    obtain ⟨gs, h2⟩ := wp_guard h1
    have track0 : RelS K (upd G p (.lst [])) F1 (upd H1 p (.lst [])) α1 σ s1 := ⟨R1.st.track hp _, R1.len, R1.sl⟩
    refine ⟨fun i m H' => m = ds.length - i ∧ i ≤ ds.length ∧ ∃ F2 α2 ς2 acc ys zs, Ext F1 α1 F2 α2 ∧ Rel0 K (upd G p (.lst acc)) F2 H' α2 ς2 ∧ HasL K F2 α2 acc ys ∧ lcR (wipeD s1.e vs) g tt te (ds.drop i) ς2 = some (zs, ςe) ∧ yys = ys ++ zs,
      ⟨ds.length, by simp, Nat.zero_le _, F1, α1, s1.s, [], [], yys, Ext.refl _ _, track0.st, .nil, e0, rfl⟩, ?_⟩
    rintro i m H2 ⟨rfl, hi, F2, α2, ς2, acc, ys, zs, x2, R2, k2, e2, ey⟩
    obtain ⟨w1, w2⟩ := wk i F2 H2 α2 x2 R2.ex
    by_cases hlt : i < ds.length
    · have hd : ds.drop i = ds[i] :: ds.drop (i + 1) := List.drop_eq_getElem_cons hlt
      obtain ⟨go, yl⟩ := w1 ds[i] (by simp [hlt])
      refine .inr ⟨go, fun H' => ds.length - (i + 1) = ds.length - (i + 1) ∧ i + 1 ≤ ds.length ∧ ∃ F2 α2 ς2 acc ys zs, Ext F1 α1 F2 α2 ∧ Rel0 K (upd G p (.lst acc)) F2 H' α2 ς2 ∧ HasL K F2 α2 acc ys ∧ lcR (wipeD s1.e vs) g tt te (ds.drop (i + 1)) ς2 = some (zs, ςe) ∧ yys = ys ++ zs,
        fun H' q => ⟨ds.length - (i + 1), by omega, q⟩, fun x H' y => ?_⟩
      obtain ⟨F3, x3, keep, hx⟩ := yl x H' y
      rw [hd] at e2
      have base : RelS K (upd G p (.lst acc)) F2 H2 α2 (L2.wipe σ vs) ⟨wipeD s1.e vs, ς2⟩ := (RelS.wipe (R := ⟨R2, R1.len, fun i d e => let ⟨v, h1, h2⟩ := R1.sl i d e; ⟨v, h1, h2.ext x2⟩⟩) (s := ⟨s1.e, ς2⟩) (σ := σ) vs)
      have e3 : ((g ds[i] ⟨wipeD s1.e vs, ς2⟩).bind fun s1' => match tt s1' with
        | some (.ok true s2) => (match te s2 with
          | some (.ok y s3) => (lcR (wipeD s1.e vs) g tt te (ds.drop (i + 1)) s3.s).map fun p => (y :: p.1, p.2)
          | _ => none)
        | some (.ok false s2) => lcR (wipeD s1.e vs) g tt te (ds.drop (i + 1)) s2.s
        | _ => none) = some (zs, ςe) := e2
      obtain ⟨s3, e4, e5⟩ := Option.bind_eq_some_iff.mp e3
      refine hg (upd G p (.lst acc)) F3 H' α2 (L2.wipe σ vs) _ x ds[i] s3 _ (keep _ _ _ base) hx e4 fun σ3 R3 b3 => ?_
      refine ⟨wipe_but b3 hj, upd G p (.lst acc), F3, α2, s3, R3, ?_⟩
      cases et : tt s3 with
      | none => simp only [et] at e5; cases e5
      | some ot =>
        cases ot with
        | exc C fs ς => simp only [et] at e5; cases e5
        | ok b s4 =>
          refine wp_post fun F4 α4 H4 x4 R4 => ?_
          cases b with
          | false =>
            simp only [et] at e5
            refine iteF ⟨rfl, hlt, F4, α4, s4.s, acc, ys, zs, x2.trans (x3.trans x4), R4.st, k2.ext (x3.trans x4), e5, ey⟩
          | true =>
            simp only [et] at e5
            refine iteT ⟨upd G p (.lst acc), F4, α4, s4, R4, ?_⟩
            cases ee : te s4 with
            | none => simp only [ee] at e5; cases e5
            | some oe =>
              cases oe with
              | exc C fs ς => simp only [ee] at e5; cases e5
              | ok yd s5 =>
                simp only [ee] at e5
                obtain ⟨pr, e6, e7⟩ := Option.map_eq_some_iff.mp e5
                obtain ⟨zs', ςe'⟩ := pr
                cases e7
                refine wp_post fun F5 α5 H5 x5 yv R5 ky => ?_
                have lt : acc.length < sizeLine := by
                  have q := k2.len
                  have q2 := congrArg List.length ey
                  rw [List.length_append, List.length_cons] at q2
                  have q3 := of_decide_eq_true gs
                  have q4 : sizeLine = 16777216 := sizeLine_eq
                  omega
                refine ⟨acc, R5.st.gx p _ upd_same, lt, rfl, hlt, F5, α5, s5.s, acc ++ [yv], ys ++ [yd], zs', x2.trans (x3.trans (x4.trans x5)), R5.st.retrack, (k2.ext (x3.trans (x4.trans x5))).app (.cons ky .nil), e6, by rw [ey, List.append_assoc]; rfl⟩
    · have e : i = ds.length := by omega
      subst e
      refine .inl ⟨w2 (Nat.le_refl _), ?_⟩
      rw [List.drop_length] at e2
      cases e2
      rw [List.append_nil] at ey
      subst ey
      exact fin_track (h2.ext x2) gp (s := ⟨s1.e, ςe⟩) ⟨R2, R1.len, fun i d e => let ⟨v, h1, h2⟩ := R1.sl i d e; ⟨v, h1, h2.ext x2⟩⟩ k2
abbrev DTs (X : Cx) (E : WX) (ifs : List Expr) (m : M Bool) : Prop := PTs X ifs (rT X.K E m)
theorem d_ts0 : DTs X E [] (ret true) := ⟨fun pins s σ H Q I h => pts_nil.run pins s σ H Q I (by
  obtain ⟨G, F, α, s, R, h⟩ := h
  exact h F α H (Ext.refl _ _) R)⟩
theorem d_ts1 {m : M Bool} (h : DT X E c m) : DTs X E [c] m := pts_one h
theorem tLc_mono {wi : TI} {g g' : TG} {tt tt' : TT} {te te' : TE} {vs : List Nat} : True := trivial
theorem d_lc (own : Bool) {elt tg iter : Expr} {ifs : List Expr} {scope : Scope} {ow : List (Str × Nat)} {src : M (List D)} {g : Tg} {js : List Nat} {t : TG} {tt : M Bool} {te : M D} (hc : X.calm = true) (hN : X.N.Nodup) (hi : DI X E tg iter src) (ok : BlkOk X.N X.env.scope scope ow)
    (hg : ∀ (s : Shared) (H : Hp) (C : Addr) (cl : List (Str × Addr)) (fp : List Addr), DG (X.blk s H scope (compEnvC scope cl C X.env) fp) tg g js t) (ht : ∀ (s : Shared) (H : Hp) (C : Addr) (cl : List (Str × Addr)) (fp : List Addr), DTs (X.blk s H scope (compEnvC scope cl C X.env) fp) W0 ifs tt)
    (he : ∀ (s : Shared) (H : Hp) (C : Addr) (cl : List (Str × Addr)) (fp : List Addr), DE (X.blk s H scope (compEnvC scope cl C X.env) fp) W0 elt te) (hj : ∀ j ∈ js, j ∈ ow.map (·.2) := by decide) (hs : ∀ x, foldedSetIterable iter X.env x = pure x := by intro _; rfl) :
    DE X E (.ListComp elt [⟨tg, iter, ifs, 0⟩] scope pos) (lcM own (ow.map (·.2)) src g tt te) := by
  refine ⟨fun pins s σ H Q I h => ?_⟩
  have hsp : SpG X.K t g js := (hg s H 0 [] []).sp
  exact (pe_lc hc hN hi ok (fun s H C cl fp => (hg s H C cl fp).pg) ht he hs).run pins s σ H Q I (r_lc hsp hj h)
theorem d_setLc (i : Nat) (own : Bool) {y : Str} {py spos : Pos} {elt tg iter : Expr} {ifs : List Expr} {scope : Scope} {ow : List (Str × Nat)} {src : M (List D)} {g : Tg} {js : List Nat} {t : TG} {tt : M Bool} {te : M D} (hc : X.calm = true) (hN : X.N.Nodup) (hi : DI X E tg iter src) (ok : BlkOk X.N X.env.scope scope ow)
    (hg : ∀ (s : Shared) (H : Hp) (C : Addr) (cl : List (Str × Addr)) (fp : List Addr), DG (X.blk s H scope (compEnvC scope cl C X.env) fp) tg g js t) (ht : ∀ (s : Shared) (H : Hp) (C : Addr) (cl : List (Str × Addr)) (fp : List Addr), DTs (X.blk s H scope (compEnvC scope cl C X.env) fp) W0 ifs tt)
    (he : ∀ (s : Shared) (H : Hp) (C : Addr) (cl : List (Str × Addr)) (fp : List Addr), DE (X.blk s H scope (compEnvC scope cl C X.env) fp) W0 elt te) (hj : ∀ j ∈ js, j ∈ ow.map (·.2) := by decide)
    (hsw : swapsWith (.ListComp elt [⟨tg, iter, ifs, 0⟩] scope pos) (some (.Name y py)) spos.line X.env = pure true := by exact sw_true rfl rfl rfl (by decide +kernel)) (hy : X.N[i]? = some y := by rfl) (hyl : X.env.scope.names.lookup y = some .local := by rfl) (hs : ∀ x, foldedSetIterable iter X.env x = pure x := by intro _; rfl) :
    DS X E (.Assign [.Name y py] (.ListComp elt [⟨tg, iter, ifs, 0⟩] scope pos) spos) (asg (lcM own (ow.map (·.2)) src g tt te) (gset i)) := by
  refine ⟨fun pins s σ H D I h => ?_⟩
  have hsp : SpG X.K t g js := (hg s H 0 [] []).sp
  refine (ps_setLc (tt := rT X.K W0 tt) (te := rE X.K W0 te) hc hN hy hyl hsw hi ok (fun s H C cl fp => (hg s H C cl fp).pg) ht he hs).run pins s σ H D I ?_
  have q : tAsg (rE X.K E (lcM own (ow.map (·.2)) src g tt te)) (gName i) D σ H := r_asg (js := [i]) (g := gset i) (fun G F H α σ s v d s' Q R k e q => by cases e; exact q _ (R.set k i) (But.set i v σ)) h
  exact r_lc hsp hj q
end

/-! ### things that change -/
section
variable {X : Cx} {E : WX} {e a b c o i : Expr} {es : List Expr} {st : Stmt} {pos pos' : Pos}
theorem RelS.put {K : Frg} {G F H : Hp} {α : List Addr} {σ : L2.St} {s : S} (R : RelS K G F H α σ s) {i : Nat} {ob o' : O} {a : Addr} {h' : HO} (e : s.s[i]? = some (some ob)) (ea : α[i]? = some a) (k : HObj K F α h' o') (nt : ∀ q P, o' = .tab q P → a = P := by exact fun q P z => by cases z) : RelS K G F (upd H a h') α σ { s with s := s.s.set i (some o') } :=
  ⟨R.st.put e ea k nt, R.len, R.sl⟩
def putS (s : S) (i : Nat) (ob : O) : S := { s with s := s.s.set i (some ob) }
/-- the list that a loc means -/
def ownL (ς : Store) : D → Option (Nat × List D)
  | .loc i => match ς[i]? with
    | some (some (.lst ds)) => some (i, ds)
    | _ => none
  | _ => none
theorem own_at {K : Frg} {G F H : Hp} {α : List Addr} {ς : Store} {v : V} {d : D} {i : Nat} {ds : List D} (R : Rel0 K G F H α ς) (h : Has K F α v d) (e : ownL ς d = some (i, ds)) : ∃ a xs, v = .ref a ∧ d = .loc i ∧ α[i]? = some a ∧ ς[i]? = some (some (.lst ds)) ∧ HasL K F α xs ds ∧ H a = some (.lst xs) := by
  cases h <;> simp only [ownL] at e <;> try (cases e; done)
  rename_i a j ha
  split at e
  · rename_i ds' q
    cases e
    obtain ⟨a', h, h1, h2, h3, h4⟩ := R.obj i _ q
    rw [ha] at h1
    cases h1
    obtain ⟨xs, rfl, h5⟩ := h4.lst
    exact ⟨a, xs, rfl, rfl, ha, q, h5, h2⟩
  · cases e
def isL (ς : Store) (d : D) : Bool := match seqD ς d with
  | some (true, _) => true
  | _ => false
def chk {β : Type} (p : Store → Bool) (m : M β) : M β := fun s => guard' (p s.s) m s
theorem wp_chk {K : Frg} {G F : Hp} {α : List Addr} {β : Type} {p : Store → Bool} {m : M β} {s : S} {P : Hp → List Addr → Hp → β → S → Prop} (h : Wp K G E F α (chk p m s) P) : p s.s = true ∧ Wp K G E F α (m s) P := wp_guard h
theorem isL_at {K : Frg} {G F H : Hp} {α : List Addr} {ς : Store} {v : V} {d : D} (R : Rel0 K G F H α ς) (h : Has K F α v d) (e : isL ς d = true) : tyV K "list" v H := by
  unfold isL at e
  split at e
  · rename_i ds q
    obtain ⟨a, xs, rfl, hl, w1, w2⟩ := seq_at R h q
    exact .inl ⟨rfl, xs, w1 rfl⟩
  · cases e
/-- a method of a list -/
def mthL (f : D → List D → M D) (m : M D) (n : M (List D)) : M D := bnd m fun d => chk (fun ς => isL ς d) (bnd n (f d))
theorem d_mthL {name : Str} {apos cpos : Pos} {id : String} {r : V → List V → Hp → VK → Prop} {f : D → List D → M D} {m : M D} {n : M (List D)} (slot : Slot "list" name id) (hty : typeOf (.builtin id) = pure (.type "method_descriptor")) (hm : MtR X id r) (hr : SpM X.K E r f) (ho : DE X E o m) (ha : DA X E (e :: es) n)
    (hbase : attributeBase o name X.env (eval o X.env) = eval o X.env := by rfl)
    (hfew : ((backTo cpos (starEach (e :: es) X.env)).all (fun x => !x.1) && (backToKw cpos (keywordEach [] X.env)).all (fun x => x.1.isSome)
      && decide ((e :: es).length + ([] : List Keyword).length + (if ([] : List Keyword).isEmpty then 0 else 1) < 30)) = true := by rfl)
    (hline : (apos.endLine == cpos.line) = true := by rfl) (hs : starEach (e :: es) X.env = (false, eval e X.env) :: starEach es X.env := by rfl) (hplain : (backTo cpos (starEach es X.env)).any (·.1) = false := by rfl) :
    DE X E (.Call (.Attribute o name apos) (e :: es) [] cpos) (mthL f m n) := by
  refine PE.weak (pe_bm PySem.F.plainAttrs_list slot hty hm ho ha hbase hfew hline hs hplain) fun σ H Q ⟨G, F, α, s, R, h⟩ => ?_
  refine ⟨G, F, α, s, R, h.bind.mono fun F1 α1 H1 d s1 x1 h1 v R1 k1 => ?_⟩
  obtain ⟨g, h2⟩ := wp_chk h1
  refine ⟨isL_at R1.st k1 g, G, F1, α1, s1, R1, h2.bind.mono fun F2 α2 H2 ds s2 x2 h3 vs R2 k2 => ?_⟩
  exact hr G F2 H2 α2 σ s2 v d vs ds Q R2 (k1.ext x2) k2 h3
def fAppend : D → List D → M D := fun d ds s => match ownL s.s d, ds with
  | some (i, xs), [y] => guard' (small xs.length) (ret .non) (putS s i (.lst (xs ++ [y])))
  | _, _ => none
theorem s_append {K : Frg} : SpM K E rAppend fAppend := by
  intro G F H α σ s x d xs ds Q R kx ks h
  unfold fAppend at h
  split at h
  · rename_i i ys y q
    obtain ⟨g, h1⟩ := wp_guard h
    obtain ⟨v, rfl, kv⟩ := ks.one
    obtain ⟨a, zs, rfl, rfl, ea, es, hl, hh⟩ := own_at R.st kx q
    refine ⟨a, zs, v, rfl, rfl, hh, by rw [hl.len]; exact small_lt g, ?_⟩
    exact h1 F α _ (Ext.refl _ _) .non (R.put es ea (o' := .lst (ys ++ [y])) (hl.app (.cons kv .nil))) .non
  · exact h.elim
def fExtend : D → List D → M D := fun d ds s => match ownL s.s d, ds with
  | some (i, xs), [y] => match lstD s.s y with
    | some ys => guard' (small (xs.length + ys.length)) (ret .non) (putS s i (.lst (xs ++ ys)))
    | none => none
  | _, _ => none
theorem s_extend {K : Frg} : SpM K E rExtend fExtend := by
  intro G F H α σ s x d xs ds Q R kx ks h
  unfold fExtend at h
  split at h
  · rename_i i ys y q
    split at h
    · rename_i ws q2
      obtain ⟨g, h1⟩ := wp_guard h
      obtain ⟨v, rfl, kv⟩ := ks.one
      obtain ⟨a, zs, rfl, rfl, ea, es, hl, hh⟩ := own_at R.st kx q
      obtain ⟨b, us, rfl, hl2, hh2⟩ := lst_at R.st kv q2
      refine ⟨a, b, zs, us, rfl, rfl, hh, hh2, by rw [hl.len, hl2.len]; exact small_ok g, ?_⟩
      exact h1 F α _ (Ext.refl _ _) .non (R.put es ea (o' := .lst (ys ++ ws)) (hl.app hl2)) .non
    · exact h.elim
  · exact h.elim
/-- the first place of a flat thing -/
def idxD (y : D) : List D → Option Nat
  | [] => none
  | d :: ds => if eqD d y then some 0 else (idxD y ds).map (· + 1)
def fIndex : D → List D → M D := fun d ds s => match seqD s.s d, ds with
  | some (true, xs), [y] => match idxD y xs with
    | some j => guard' (y.flt && xs.all D.flt) (ret (.int j)) s
    | none => none
  | _, _ => none
theorem idxD_some {y : D} : ∀ {xs : List D} {j : Nat}, idxD y xs = some j → ∃ z, xs[j]? = some z ∧ eqD z y = true ∧ ∀ (m : Nat) (z' : D), m < j → xs[m]? = some z' → eqD z' y = false
  | [], j, h => by cases h
  | d :: ds, j, h => by
    unfold idxD at h
    by_cases c : eqD d y = true
    · rw [if_pos c] at h
      cases h
      exact ⟨d, rfl, c, fun m z' q => by omega⟩
    · rw [if_neg c] at h
      obtain ⟨k, h1, h2⟩ := Option.map_eq_some_iff.mp h
      subst h2
      obtain ⟨z, q1, q2, q3⟩ := idxD_some h1
      refine ⟨z, by simpa using q1, q2, fun m z' hm e => ?_⟩
      cases m with
      | zero => simp at e; subst e; simpa using c
      | succ m => exact q3 m z' (by omega) (by simpa using e)
theorem s_index {K : Frg} : SpM K E (rIndex K) fIndex := by
  intro G F H α σ s x d xs ds Q R kx ks h
  unfold fIndex at h
  split at h
  · rename_i ys y q
    split at h
    · rename_i j q2
      obtain ⟨g, h1⟩ := wp_guard h
      rw [Bool.and_eq_true] at g
      obtain ⟨v, rfl, kv⟩ := ks.one
      obtain ⟨a, zs, rfl, hl, w1, w2⟩ := seq_at R.st kx q
      obtain ⟨z, q3, q4, q5⟩ := idxD_some q2
      obtain ⟨zv, q6, q7⟩ := hl.get q3
      refine ⟨a, zs, v, j, zv, rfl, rfl, w1 rfl, by rw [kv.flt]; exact g.1, by rw [hl.flt]; exact g.2, q6, by rw [q7.eqD kv]; exact q4, fun m z' hm e => ?_, fin h1 R (.int _)⟩
      obtain ⟨d', e1, e2⟩ := hl.getV e
      rw [e2.eqD kv]
      exact q5 m d' hm e1
    · exact h.elim
  · exact h.elim
/-! xs[i] = e -/
def setL (mo mi me : M D) : M Fl := bnd me fun v => bnd mo fun d => bnd mi fun k => fun s => match ownL s.s d, k with
  | some (i, xs), .int j => match ixN xs.length j with
    | some n => some (.ok .nx (putS s i (.lst (xs.set n v))))
    | none => none
  | _, _ => none
theorem d_setL {mo mi me : M D} (he : DE X E e me) (ho : DE X E o mo) (hi : DE X E i mi)
    (ha : ∀ v, assign (.Subscript o i pos') X.env v = (do
      let ov ← holding [v] (eval o X.env)
      let iv ← holding [v, ov] (eval i X.env)
      standAt pos'
      holding [v, ov, iv] (setItem ov iv v)
      release [v, ov, iv] []) := by intro _; rfl)
    (hs : swapsWithSole [.Subscript o i pos'] e pos.line X.env = pure false := by rfl) (hw : swappedStores [.Subscript o i pos'] e X.env = pure none := by rfl)
    (h1 : (assignEach [.Subscript o i pos'] X.env).map (·.2) = [assign (.Subscript o i pos') X.env] := by rfl) : DS X E (.Assign [.Subscript o i pos'] e pos) (setL mo mi me) := by
  refine PS.weak (ps_asg he (pg_sub ho hi set_list ha) hs hw h1) fun D σ H ⟨G, F, α, s, R, h⟩ => ?_
  refine ⟨G, F, α, s, R, h.bind.mono fun F1 α1 H1 d s1 x1 h1 v R1 k1 => ?_⟩
  refine ⟨G, F1, α1, s1, R1, h1.bind.mono fun F2 α2 H2 od s2 x2 h2 ov R2 k2 => ?_⟩
  refine ⟨G, F2, α2, s2, R2, h2.bind.mono fun F3 α3 H3 kd s3 x3 h3 kv R3 k3 => ?_⟩
  split at h3
  · rename_i i' xs j q
    split at h3
    · rename_i n q2
      obtain ⟨a, zs, rfl, rfl, ea, es, hl, hh⟩ := own_at R3.st (k2.ext x3) q
      cases k3
      refine ⟨a, zs, j, n, rfl, rfl, hh, by rw [hl.len]; exact q2, ?_⟩
      exact h3 F3 α3 _ (Ext.refl _ _) σ (R3.put es ea (o' := .lst (xs.set n d)) (HasL.set (k1.ext (x2.trans x3)) n hl))
    · exact h3.elim
  · exact h3.elim
/-! xs[i] += e -/
def rGetL (K : Frg) : V → V → Hp → VK → Prop := fun x y H Q => ∃ p xs i v, x = .ref p ∧ y = .int i ∧ SqL K H p xs ∧ atI xs i = some v ∧ Q v H
theorem get_list : PGet X (rGetL X.K) := by
  intro pins s σ H x y v u Q I rx ry h
  obtain ⟨p, xs, i, z, rfl, rfl, hq, he, q⟩ := h
  cases rx
  obtain ⟨t, rfl⟩ := ry
  obtain ⟨its, r, pl, hz⟩ := I.list hq
  obtain ⟨j, h1, h2, h3, h4, h5⟩ := atI_get he
  obtain ⟨w, ew, rw'⟩ := r.get h2
  have hl := r.length
  have hn := line63
  have fin : EP X pins σ Q w s := ⟨z, H, I, rw', q⟩
  by_cases h0 : 0 ≤ i
  · have hj : i.toNat = j := by
      rw [PySem.seqIndex_of h0 h5] at h1
      exact Option.some.inj h1
    exact PySem.wpAny_getItem_list pl.isList h0 (by omega) (by rw [hj]; simpa using ew) fin
  · have hj : (i + (its.toArray.size : Int)).toNat = j := by
      rw [PySem.seqIndex_neg (by omega) h4] at h1
      rw [List.size_toArray, ← hl]
      exact Option.some.inj h1
    exact PySem.wpAny_getItem_list_neg pl.isList (by omega) (by rw [List.size_toArray] <;> omega) (by omega) (by rw [hj]; simpa using ew) fin
end
end DL

/-! from DL6.lean -/
set_option Elab.async false
set_option linter.all false
set_option maxRecDepth 100000
set_option maxHeartbeats 2000000
namespace DL
open PySem L2
open PyProof.Rows (envOfC)

section
variable {X : Cx} {E : WX} {e a b c o i f : Expr} {es : List Expr} {st : Stmt} {pos pos' p2 apos cpos tpos : Pos}
/-! ### xs[i] += e -/
def augL2 (g : Int → Int → Int) (d : D) (j m : Int) : D → M Fl := fun v s => match ownL s.s d, v with
  | some (i, ys), .int n => match ixN ys.length j with
    | some q => some (.ok .nx (putS s i (.lst (ys.set q (.int (g m n))))))
    | none => none
  | _, _ => none
def augL (g : Int → Int → Int) (mo mi me : M D) : M Fl := bnd mo fun d => bnd mi fun k => fun s => match ownL s.s d, k with
  | some (_, xs), .int j => match atI xs j with
    | some (.int m) => bnd me (augL2 g d j m) s
    | _ => none
  | _, _ => none
theorem d_augL {op : Operator} {g : Int → Int → Int} {mo mi me : M D} (hop : PIp X op (ipI g)) (ho : DE X E o mo) (hi : DE X E i mi) (he : DE X E e me)
    (ha : ∀ ov iv new, augStore i ov iv new = (do holding [new, ov, iv] (setItem ov iv new); release [new, ov, iv] []; pure .next) := by intros; rfl) : DS X E (.AugAssign (.Subscript o i tpos) op e pos) (augL g mo mi me) := by
  refine PS.weak (ps_augS ho hi get_list he hop set_list ha) fun D σ H ⟨G, F, α, s, R, h⟩ => ?_
  refine ⟨G, F, α, s, R, h.bind.mono fun F1 α1 H1 d s1 x1 h1 ov R1 k1 => ?_⟩
  refine ⟨G, F1, α1, s1, R1, h1.bind.mono fun F2 α2 H2 kd s2 x2 h2 kv R2 k2 => ?_⟩
  split at h2
  · rename_i i' xs j q
    split at h2
    · rename_i m q2
      obtain ⟨a, zs, rfl, rfl, ea, es, hl, hh⟩ := own_at R2.st (k1.ext x2) q
      obtain ⟨v, e1, e2⟩ := atI_has hl q2
      cases e2
      cases k2
      refine ⟨a, zs, j, _, rfl, rfl, SqL.of hh, e1, ?_⟩
      refine ⟨G, F2, α2, s2, R2, h2.bind.mono fun F3 α3 H3 vd s3 x3 h3 vv R3 k3 => ?_⟩
      unfold augL2 at h3
      split at h3
      · rename_i i2 ys n q3
        split at h3
        · rename_i qn q4
          obtain ⟨a', zs', ea', eb', ea2, es2, hl2, hh2⟩ := own_at R3.st (k1.ext (x2.trans x3)) q3
          cases ea'
          cases eb'
          cases k3
          refine ⟨m, n, rfl, rfl, a, zs', j, qn, rfl, rfl, hh2, by rw [hl2.len]; exact q4, ?_⟩
          exact h3 F3 α3 _ (Ext.refl _ _) σ (R3.put es2 ea2 (o' := .lst (ys.set qn (.int (g m n)))) (HasL.set (.int _) qn hl2))
        · exact h3.elim
      · exact h3.elim
    · exact h2.elim
  · exact h2.elim
/-! ### x += e, a number in a slot -/
def augN (g : Int → Int → Int) (i : Nat) (me : M D) : M Fl := fun s => match s.e[i]? with
  | some (some (.int m)) => bnd me (fun v => fun s => match v with
    | .int n => some (.ok .nx { s with e := s.e.set i (some (.int (g m n))) })
    | _ => none) s
  | _ => none
theorem d_augN {op : Operator} {g : Int → Int → Int} (i : Nat) {x : Str} {me : M D} (hop : PIp X op (ipI g)) (hN : X.N.Nodup) (he : DE X E e me) (hi : X.N[i]? = some x := by rfl) (hx : Loc X.env.scope x := by first | exact Or.inl rfl | exact Or.inr rfl) (hf : X.fn x = true ∨ X.env.scope.names.lookup x = some .local := by first | exact .inl rfl | exact .inr rfl | assumption) :
    DS X E (.AugAssign (.Name x pos') op e pos) (augN g i me) := by
  refine PS.weak (ps_aug hN hi hx he hop hf) fun D σ H ⟨G, F, α, s, R, h⟩ => ?_
  unfold augN at h
  split at h
  · rename_i m q
    obtain ⟨v, e1, e2⟩ := R.sl i _ q
    cases e2
    refine ⟨_, e1, G, F, α, s, R, h.bind.mono fun F1 α1 H1 vd s1 x1 h1 vv R1 k1 => ?_⟩
    split at h1
    · cases k1
      exact ⟨_, _, rfl, rfl, h1 F1 α1 H1 (Ext.refl _ _) _ (R1.set (.int _) i)⟩
    · exact h1.elim
  · exact h.elim

/-! ### dicts -/
def keyD : D → Option Key
  | .int i => some (.inl i)
  | .str x => some (.inr x)
  | _ => none
def valD (ms : List (Key × D)) (k : Key) : Option D := (ms.find? fun kv => decide (kv.1 = k)).map (·.2)
def putD (ms : List (Key × D)) (k : Key) (v : D) : List (Key × D) :=
  if (ms.any fun kv => decide (kv.1 = k)) = true then ms.map (fun kv => if kv.1 = k then (kv.1, v) else kv) else ms ++ [(k, v)]
/-- a dict, its place in the store if it may change -/
def dctD (ς : Store) : D → Option (List (Key × D))
  | .dct ms => some ms
  | .loc i => match ς[i]? with
    | some (some (.dct ms)) => some ms
    | _ => none
  | _ => none
def ownD (ς : Store) : D → Option (Nat × List (Key × D))
  | .loc i => match ς[i]? with
    | some (some (.dct ms)) => some (i, ms)
    | _ => none
  | _ => none
structure HasM (K : Frg) (F : Hp) (α : List Addr) (kvs : List (Key × V)) (ms : List (Key × D)) : Prop where
  ks : kvs.map (·.1) = ms.map (·.1)
  vs : HasL K F α (kvs.map (·.2)) (ms.map (·.2))
theorem HasM.cases {K : Frg} {F : Hp} {α : List Addr} {P : List (Key × V) → List (Key × D) → Prop} (h0 : P [] []) (h1 : ∀ k v d kvs ms, Has K F α v d → HasM K F α kvs ms → P kvs ms → P ((k, v) :: kvs) ((k, d) :: ms)) : ∀ {kvs : List (Key × V)} {ms : List (Key × D)}, HasM K F α kvs ms → P kvs ms
  | [], [], _ => h0
  | (k, v) :: kvs, (l, d) :: ms, ⟨ks, vs⟩ => by
    simp only [List.map_cons, List.cons.injEq] at ks
    obtain ⟨rfl, ks⟩ := ks
    cases vs with
    | cons hv hr => exact h1 k v d kvs ms hv ⟨ks, hr⟩ (HasM.cases h0 h1 ⟨ks, hr⟩)
  | [], _ :: _, ⟨ks, _⟩ => by simp at ks
  | _ :: _, [], ⟨ks, _⟩ => by simp at ks
theorem HasM.val {K : Frg} {F : Hp} {α : List Addr} {kvs : List (Key × V)} {ms : List (Key × D)} (h : HasM K F α kvs ms) (k : Key) : (valD ms k = none ∧ valV kvs k = none) ∨ ∃ v d, valD ms k = some d ∧ valV kvs k = some v ∧ Has K F α v d := by
  refine HasM.cases (P := fun kvs ms => (valD ms k = none ∧ valV kvs k = none) ∨ ∃ v d, valD ms k = some d ∧ valV kvs k = some v ∧ Has K F α v d) (.inl ⟨rfl, rfl⟩) (fun l v d kvs ms hv _ ih => ?_) h
  by_cases c : l = k
  · subst c
    exact .inr ⟨v, d, by simp [valD], by simp [valV], hv⟩
  · have e1 : valD ((l, d) :: ms) k = valD ms k := by simp [valD, List.find?_cons, c]
    have e2 : valV ((l, v) :: kvs) k = valV kvs k := by simp [valV, List.find?_cons, c]
    rw [e1, e2]
    exact ih
theorem HasM.any {K : Frg} {F : Hp} {α : List Addr} {kvs : List (Key × V)} {ms : List (Key × D)} (h : HasM K F α kvs ms) (k : Key) : (kvs.any fun kv => decide (kv.1 = k)) = ms.any fun kv => decide (kv.1 = k) := by
  refine HasM.cases (P := fun kvs ms => (kvs.any fun kv => decide (kv.1 = k)) = ms.any fun kv => decide (kv.1 = k)) rfl (fun l v d kvs ms _ _ ih => ?_) h
  rw [List.any_cons, List.any_cons, ih]
theorem HasM.app {K : Frg} {F : Hp} {α : List Addr} {kvs : List (Key × V)} {ms : List (Key × D)} (h : HasM K F α kvs ms) {k : Key} {v : V} {d : D} (hv : Has K F α v d) : HasM K F α (kvs ++ [(k, v)]) (ms ++ [(k, d)]) :=
  ⟨by rw [List.map_append, List.map_append, h.ks]; rfl, by rw [List.map_append, List.map_append]; exact h.vs.app (.cons hv .nil)⟩
theorem HasM.over {K : Frg} {F : Hp} {α : List Addr} {kvs : List (Key × V)} {ms : List (Key × D)} (h : HasM K F α kvs ms) {k : Key} {v : V} {d : D} (hv : Has K F α v d) : HasM K F α (kvs.map fun kv => if kv.1 = k then (kv.1, v) else kv) (ms.map fun kv => if kv.1 = k then (kv.1, d) else kv) := by
  refine HasM.cases (P := fun kvs ms => HasM K F α (kvs.map fun kv => if kv.1 = k then (kv.1, v) else kv) (ms.map fun kv => if kv.1 = k then (kv.1, d) else kv)) ⟨rfl, .nil⟩ (fun l w e kvs ms hw _ ih => ?_) h
  rw [List.map_cons, List.map_cons]
  by_cases c : l = k
  · rw [if_pos c, if_pos c]
    exact ⟨by simpa using ih.ks, .cons hv ih.vs⟩
  · rw [if_neg c, if_neg c]
    exact ⟨by simpa using ih.ks, .cons hw ih.vs⟩
theorem HasM.put {K : Frg} {F : Hp} {α : List Addr} {kvs : List (Key × V)} {ms : List (Key × D)} (h : HasM K F α kvs ms) (k : Key) {v : V} {d : D} (hv : Has K F α v d) : HasM K F α (putK kvs k v) (putD ms k d) := by
  unfold putK putD
  rw [h.any k]
  by_cases c : (ms.any fun kv => decide (kv.1 = k)) = true
  · rw [if_pos c, if_pos c]
    exact h.over hv
  · rw [if_neg c, if_neg c]
    exact h.app hv
theorem HasM.len {K : Frg} {F : Hp} {α : List Addr} {kvs : List (Key × V)} {ms : List (Key × D)} (h : HasM K F α kvs ms) : kvs.length = ms.length := by
  have := congrArg List.length h.ks
  simpa using this
theorem HObj.dct {K : Frg} {F : Hp} {α : List Addr} {h : HO} {ms : List (Key × D)} (k : HObj K F α h (.dct ms)) : ∃ kvs, h = .dK kvs ∧ HasM K F α kvs ms := by
  cases h <;> simp only [HObj] at k
  exact ⟨_, rfl, k.1, k.2⟩
theorem dct_at {K : Frg} {G F H : Hp} {α : List Addr} {ς : Store} {v : V} {d : D} {ms : List (Key × D)} (R : Rel0 K G F H α ς) (h : Has K F α v d) (e : dctD ς d = some ms) : ∃ a kvs, v = .ref a ∧ HasM K F α kvs ms ∧ H a = some (.dK kvs) := by
  cases h <;> simp only [dctD] at e <;> try (cases e; done)
  · cases e
    rename_i a kvs h1 h2 h3
    exact ⟨a, kvs, rfl, ⟨h2, h3⟩, R.ex _ _ h1⟩
  · rename_i a j ha
    split at e
    · rename_i ms' q
      cases e
      obtain ⟨a', h, h1, h2, h3, h4⟩ := R.obj j _ q
      rw [ha] at h1
      cases h1
      obtain ⟨kvs, rfl, h5⟩ := h4.dct
      exact ⟨a, kvs, rfl, h5, h2⟩
    · cases e
theorem ownD_at {K : Frg} {G F H : Hp} {α : List Addr} {ς : Store} {v : V} {d : D} {i : Nat} {ms : List (Key × D)} (R : Rel0 K G F H α ς) (h : Has K F α v d) (e : ownD ς d = some (i, ms)) : ∃ a kvs, v = .ref a ∧ d = .loc i ∧ α[i]? = some a ∧ ς[i]? = some (some (.dct ms)) ∧ HasM K F α kvs ms ∧ H a = some (.dK kvs) := by
  cases h <;> simp only [ownD] at e <;> try (cases e; done)
  rename_i a j ha
  split at e
  · rename_i ms' q
    cases e
    obtain ⟨a', h, h1, h2, h3, h4⟩ := R.obj i _ q
    rw [ha] at h1
    cases h1
    obtain ⟨kvs, rfl, h5⟩ := h4.dct
    exact ⟨a, kvs, rfl, rfl, ha, q, h5, h2⟩
  · cases e
theorem key_at {K : Frg} {F : Hp} {α : List Addr} {v : V} {d : D} {k : Key} (h : Has K F α v d) (e : keyD d = some k) : v = kV k := by
  cases h <;> simp only [keyD] at e <;> try (cases e; done)
  · cases e; rfl
  · cases e; rfl
/-- {} -/
def newD : M D := fun s => some (.ok (.loc s.s.length) { s with s := s.s ++ [some (.dct [])] })
theorem d_newD : DE X E (.Dict [] [] pos) newD := by
  refine PE.weak pe_dnewK fun σ H Q ⟨G, F, α, s, R, h⟩ p hp => ?_
  refine h F (α ++ [p]) _ ⟨Same.refl F, pre_app α p⟩ (.ref p) (R.new hp (o := .dct []) ⟨rfl, .nil⟩) (.loc ?_)
  rw [← R.st.len]
  simp
/-- d[k] -/
def getD' (md mk : M D) : M D := bnd md fun d => bnd mk fun k => fun s => match dctD s.s d, keyD k with
  | some ms, some k => match valD ms k with
    | some v => some (.ok v s)
    | none => none
  | _, _ => none
theorem d_getD {md mk : M D} (hu : X.A.units + 1 < cLine) (ho : DE X E o md) (hi : DE X E i mk) (hs : NoSl i := by intro _ _; rfl) : DE X E (.Subscript o i pos) (getD' md mk) := by
  refine PE.weak (pe_dget hu ho hi hs) fun σ H Q ⟨G, F, α, s, R, h⟩ => ?_
  refine ⟨G, F, α, s, R, h.bind.mono fun F1 α1 H1 d s1 x1 h1 v R1 k1 => ?_⟩
  refine ⟨G, F1, α1, s1, R1, h1.bind.mono fun F2 α2 H2 kd s2 x2 h2 kv R2 k2 => ?_⟩
  split at h2
  · rename_i ms k q1 q2
    split at h2
    · rename_i w q3
      obtain ⟨a, kvs, rfl, hm, hh⟩ := dct_at R2.st (k1.ext x2) q1
      rw [key_at k2 q2]
      rcases hm.val k with ⟨z, _⟩ | ⟨v, d', z1, z2, z3⟩
      · rw [q3] at z; cases z
      · rw [q3] at z1
        cases z1
        refine ⟨a, v, rfl, ?_, fin h2 R2 z3⟩
        rw [← z2]
        exact DGet.k hh
    · exact h2.elim
  · exact h2.elim
/-- k in d -/
def inD (neg : Bool) (mk md : M D) : M D := bnd mk fun k => bnd md fun d => fun s => match dctD s.s d, keyD k with
  | some ms, some k => some (.ok (.bl (if neg then !(valD ms k).isSome else (valD ms k).isSome)) s)
  | _, _ => none
theorem isSome_val {K : Frg} {F : Hp} {α : List Addr} {kvs : List (Key × V)} {ms : List (Key × D)} (h : HasM K F α kvs ms) (k : Key) : (valV kvs k).isSome = (valD ms k).isSome := by
  rcases h.val k with ⟨z1, z2⟩ | ⟨v, d, z1, z2, _⟩ <;> rw [z1, z2] <;> rfl
theorem r_inD {K : Frg} {md mk : M D} {σ : L2.St} {H : Hp} {Q : VK} (h : rE K E (inD false mk md) σ H Q) : tDIn (rE K E mk) (rE K E md) σ H Q := by
  obtain ⟨G, F, α, s, R, h⟩ := h
  refine ⟨G, F, α, s, R, h.bind.mono fun F1 α1 H1 d s1 x1 h1 v R1 k1 => ?_⟩
  refine ⟨G, F1, α1, s1, R1, h1.bind.mono fun F2 α2 H2 kd s2 x2 h2 kv R2 k2 => ?_⟩
  split at h2
  · rename_i ms k q1 q2
    obtain ⟨a, kvs, rfl, hm, hh⟩ := dct_at R2.st k2 q1
    rw [key_at k1 q2]
    refine ⟨a, _, rfl, DGet.k hh, ?_⟩
    rw [isSome_val hm k]
    exact fin h2 R2 (.bl _)
  · exact h2.elim
theorem d_inD {md mk : M D} (hu : X.A.units + 1 < cLine) (hi : DE X E i mk) (ho : DE X E o md) (hm : behindInMarks .In o = false := by rfl) : DE X E (.Compare i [.In] [o] pos) (inD false mk md) :=
  PE.weak (pe_cmp (pc_din hu hi ho) hm) fun σ H Q h => r_inD h
theorem d_tinD {md mk : M D} (hu : X.A.units + 1 < cLine) (hi : DE X E i mk) (ho : DE X E o md) (hm : behindInMarks .In o = false := by rfl) : DT X E (.Compare i [.In] [o] pos) (tst (inD false mk md)) :=
  PT.weak (pt_cmp (pc_din hu hi ho) hm) fun σ H Q h => r_inD (r_tst h)
theorem r_notInD {K : Frg} {md mk : M D} {σ : L2.St} {H : Hp} {Q : VK} (h : rE K E (inD true mk md) σ H Q) : tDNotIn (rE K E mk) (rE K E md) σ H Q := by
  obtain ⟨G, F, α, s, R, h⟩ := h
  refine ⟨G, F, α, s, R, h.bind.mono fun F1 α1 H1 d s1 x1 h1 v R1 k1 => ?_⟩
  refine ⟨G, F1, α1, s1, R1, h1.bind.mono fun F2 α2 H2 kd s2 x2 h2 kv R2 k2 => ?_⟩
  split at h2
  · rename_i ms k q1 q2
    obtain ⟨a, kvs, rfl, hm, hh⟩ := dct_at R2.st k2 q1
    rw [key_at k1 q2]
    refine ⟨a, _, rfl, DGet.k hh, ?_⟩
    rw [isSome_val hm k]
    exact fin h2 R2 (.bl _)
  · exact h2.elim
theorem d_notInD {md mk : M D} (hu : X.A.units + 1 < cLine) (hi : DE X E i mk) (ho : DE X E o md) (hm : behindInMarks .NotIn o = false := by rfl) : DE X E (.Compare i [.NotIn] [o] pos) (inD true mk md) :=
  PE.weak (pe_cmp (pc_dnotin hu hi ho) hm) fun σ H Q h => r_notInD h
theorem d_tnotInD {md mk : M D} (hu : X.A.units + 1 < cLine) (hi : DE X E i mk) (ho : DE X E o md) (hm : behindInMarks .NotIn o = false := by rfl) : DT X E (.Compare i [.NotIn] [o] pos) (tst (inD true mk md)) :=
  PT.weak (pt_cmp (pc_dnotin hu hi ho) hm) fun σ H Q h => r_notInD (r_tst h)
/-- d.get(k, x) -/
def get2D (md mk mx : M D) : M D := bnd md fun d => chk (fun ς => (dctD ς d).isSome) (bnd mk fun k => bnd mx fun x => fun s => match dctD s.s d, keyD k with
  | some ms, some k => some (.ok ((valD ms k).getD x) s)
  | _, _ => none)
theorem d_get2D {md mk mx : M D} (hu : X.A.units + 1 < cLine) (ho : DE X E o md) (he : DE X E e mk) (hf : DE X E f mx) (m : M2 X o "get" apos e f cpos := by exact ⟨rfl, rfl, rfl, rfl⟩) : DE X E (.Call (.Attribute o "get" apos) [e, f] [] cpos) (get2D md mk mx) := by
  refine PE.weak (pe_dget2 hu ho he hf m) fun σ H Q ⟨G, F, α, s, R, h⟩ => ?_
  refine ⟨G, F, α, s, R, h.bind.mono fun F1 α1 H1 d s1 x1 h1 v R1 k1 => ?_⟩
  obtain ⟨g, h1⟩ := wp_chk h1
  obtain ⟨ms0, g⟩ := Option.isSome_iff_exists.mp g
  obtain ⟨a, kvs0, rfl, hm0, hh0⟩ := dct_at R1.st k1 g
  refine ⟨a, rfl, .inl ⟨kvs0, .inl hh0⟩, ?_⟩
  refine ⟨G, F1, α1, s1, R1, h1.bind.mono fun F2 α2 H2 kd s2 x2 h2 kv R2 k2 => ?_⟩
  refine ⟨G, F2, α2, s2, R2, h2.bind.mono fun F3 α3 H3 xd s3 x3 h3 xv R3 k3 => ?_⟩
  split at h3
  · rename_i ms k q1 q2
    obtain ⟨a', kvs, ea, hm, hh⟩ := dct_at R3.st (k1.ext (x2.trans x3)) q1
    cases ea
    rw [key_at (k2.ext x3) q2]
    refine ⟨_, DGet.k hh, ?_⟩
    rcases hm.val k with ⟨z1, z2⟩ | ⟨v, d', z1, z2, z3⟩
    · rw [z1] at h3
      rw [z2]
      exact fin h3 R3 k3
    · rw [z1] at h3
      rw [z2]
      exact fin h3 R3 z3
  · exact h3.elim
/-- d[k] = v -/
def putDS (md mk mv : M D) : M Fl := bnd mv fun v => bnd md fun d => bnd mk fun k => fun s => match ownD s.s d, keyD k with
  | some (i, ms), some k => guard' (small ms.length) (ret .nx) (putS s i (.dct (putD ms k v)))
  | _, _ => none
theorem d_putD {md mk mv : M D} (hu : X.A.units + 1 < cLine) (hv : DE X E e mv) (ho : DE X E o md) (hi : DE X E i mk) (hs : swapsWith e (some (.Subscript o i pos')) pos.line X.env = pure false := by rfl) : DS X E (.Assign [.Subscript o i pos'] e pos) (putDS md mk mv) := by
  refine PS.weak (ps_dput hu ho hi hv hs) fun D σ H ⟨G, F, α, s, R, h⟩ => ?_
  refine ⟨G, F, α, s, R, h.bind.mono fun F1 α1 H1 d s1 x1 h1 v R1 k1 => ?_⟩
  refine ⟨G, F1, α1, s1, R1, h1.bind.mono fun F2 α2 H2 od s2 x2 h2 ov R2 k2 => ?_⟩
  refine ⟨G, F2, α2, s2, R2, h2.bind.mono fun F3 α3 H3 kd s3 x3 h3 kv R3 k3 => ?_⟩
  split at h3
  · rename_i j ms k q1 q2
    obtain ⟨g, h3⟩ := wp_guard h3
    obtain ⟨a, kvs, rfl, rfl, ea, es, hm, hh⟩ := ownD_at R3.st (k2.ext x3) q1
    rw [key_at k3 q2]
    refine ⟨a, _, rfl, DPut.k hh (by rw [hm.len]; exact small_lt g), ?_⟩
    have hp := hm.put k (k1.ext (x2.trans x3))
    exact h3 F3 α3 _ (Ext.refl _ _) σ (R3.put es ea (o' := .dct (putD ms k d)) ⟨hp.ks, hp.vs⟩)
  · exact h3.elim
/-- list(d): its keys -/
def kD : Key → D
  | .inl i => .int i
  | .inr x => .str x
theorem has_kD {K : Frg} {F : Hp} {α : List Addr} (k : Key) : Has K F α (kV k) (kD k) := by
  cases k with
  | inl i => exact .int i
  | inr x => exact .str x
theorem has_keys {K : Frg} {F : Hp} {α : List Addr} {kvs : List (Key × V)} {ms : List (Key × D)} (h : HasM K F α kvs ms) : HasL K F α (kvs.map fun (kv : Key × V) => kV kv.1) (ms.map fun (kv : Key × D) => kD kv.1) :=
  HasM.cases (P := fun (kvs : List (Key × V)) (ms : List (Key × D)) => HasL K F α (kvs.map fun (kv : Key × V) => kV kv.1) (ms.map fun (kv : Key × D) => kD kv.1)) .nil (fun k v d kvs ms _ _ ih => show HasL K F α (kV k :: kvs.map fun (kv : Key × V) => kV kv.1) (kD k :: ms.map fun (kv : Key × D) => kD kv.1) from .cons (has_kD k) ih) h
def fListDD (own : Bool) : List D → M D := fun ds s => match ds with
  | [d] => match dctD s.s d with
    | some ms => mk own (ms.map fun (kv : Key × D) => kD kv.1) s
    | none => none
  | _ => none
theorem s_listD {K : Frg} (own : Bool) : SpA K E rListD (fListDD own) := by
  intro G F H α σ s xs ds Q R k h
  unfold fListDD at h
  split at h
  · obtain ⟨v, rfl, k1⟩ := k.one
    split at h
    · rename_i ms q
      obtain ⟨a, kvs, rfl, hm, hh⟩ := dct_at R.st k1 q
      exact ⟨a, kvs, rfl, hh, fin_lst h R (has_keys hm)⟩
    · exact h.elim
  · exact h.elim

/-! ### slices -/
def rO (K : Frg) (E : WX) (m : M (Option Int)) : TO := fun σ H Q => ∃ G F α s, RelS K G F H α σ s ∧ Wp K G E F α (m s) (fun F' α' H' k s' => RelS K G F' H' α' σ s' → Q k H')
abbrev DO (X : Cx) (E : WX) (x : Option Expr) (m : M (Option Int)) : Prop := PO X x (rO X.K E m)
theorem PO.weak {x : Option Expr} {t t' : TO} (h : PO X x t) (k : ∀ σ H Q, t' σ H Q → t σ H Q) : PO X x t' := ⟨fun pins s σ H Q I q => h.run pins s σ H Q I (k σ H Q q)⟩
theorem d_o0 : DO X E none (ret none) := PO.weak po_none fun σ H Q ⟨G, F, α, s, R, h⟩ => h F α H (Ext.refl _ _) R
def oInt (m : M D) : M (Option Int) := bnd m fun d => match d with
  | .int i => ret (some i)
  | _ => fail
theorem d_o1 {m : M D} (h : DE X E e m) : DO X E (some e) (oInt m) := by
  refine PO.weak (po_some h) fun σ H Q ⟨G, F, α, s, R, h⟩ => ?_
  refine ⟨G, F, α, s, R, h.bind.mono fun F1 α1 H1 d s1 x1 h1 v R1 k1 => ?_⟩
  split at h1
  · cases k1
    exact ⟨_, rfl, h1 F1 α1 H1 (Ext.refl _ _) R1⟩
  · exact h1.elim
def cutL (xs : List D) (lo hi : Option Int) : List D := (xs.drop (HT.sIx xs.length 0 lo)).take (HT.sIx xs.length xs.length hi - HT.sIx xs.length 0 lo)
theorem cut_has {K : Frg} {F : Hp} {α : List Addr} {vs : List V} {ds : List D} (h : HasL K F α vs ds) (lo hi : Option Int) : HasL K F α (cutV vs lo hi) (cutL ds lo hi) := by
  unfold cutV cutL
  rw [h.len]
  exact (h.drop _).take _
def slL (own : Bool) (m : M D) (ml mh : M (Option Int)) : M D := bnd m fun d => bnd ml fun lo => bnd mh fun hi => fun s => match seqD s.s d with
  | some (true, ds) => mk own (cutL ds lo hi) s
  | _ => none
theorem d_slL (own : Bool) {lo hi : Option Expr} {m : M D} {ml mh : M (Option Int)} (he : DE X E e m) (hl : DO X E lo ml) (hh : DO X E hi mh) : DE X E (.Subscript e (.Slice lo hi none p2) pos) (slL own m ml mh) := by
  refine PE.weak (pe_slice sl_list he hl hh) fun σ H Q ⟨G, F, α, s, R, h⟩ => ?_
  refine ⟨G, F, α, s, R, h.bind.mono fun F1 α1 H1 d s1 x1 h1 v R1 k1 => ?_⟩
  refine ⟨G, F1, α1, s1, R1, h1.bind.mono fun F2 α2 H2 l s2 x2 h2 R2 => ?_⟩
  refine ⟨G, F2, α2, s2, R2, h2.bind.mono fun F3 α3 H3 u s3 x3 h3 R3 => ?_⟩
  split at h3
  · rename_i ds q
    obtain ⟨a, xs, rfl, hl, w1, w2⟩ := seq_at R3.st (k1.ext (x2.trans x3)) q
    exact ⟨a, xs, rfl, w1 rfl, fin_lst h3 R3 (cut_has hl l u)⟩
  · exact h3.elim

/-! ### isinstance, built-in types -/
def tyN (ς : Store) : D → Option String
  | .non => some "NoneType"
  | .bl _ => some "bool"
  | .int _ => some "int"
  | .str _ => some "str"
  | .lst _ => some "list"
  | .rdl _ => some "list"
  | .tup _ => some "tuple"
  | .dct _ => some "dict"
  | .loc i => match ς[i]? with
    | some (some (.lst _)) => some "list"
    | some (some (.dct _)) => some "dict"
    | _ => none
  | _ => none
theorem tyX_lst {K : Frg} {H : Hp} {a : Addr} {xs : List V} (h : SqL K H a xs) : TyX K H (.ref a) (.type "list") := by
  rcases h with (h | ⟨o, h⟩) | ⟨o, its, n, h1, h2, _⟩
  · exact .base (.lst h)
  · exact .base (.frz h)
  · exact .kList h1 h2
theorem tyX_tup {K : Frg} {H : Hp} {a : Addr} {xs : List V} (h : SqT K H a xs) : TyX K H (.ref a) (.type "tuple") := by
  rcases h with (h | ⟨o, h⟩) | ⟨o, its, n, h1, h2, _⟩
  · exact .base (.tup h)
  · exact .fTuple h
  · exact .kTuple h1 h2
theorem tyX_at {K : Frg} {G F H : Hp} {α : List Addr} {ς : Store} {v : V} {d : D} {T : String} (R : Rel0 K G F H α ς) (h : Has K F α v d) (e : tyN ς d = some T) : TyX K H v (.type T) := by
  cases h <;> simp only [tyN] at e <;> try (cases e; done)
  · cases e; exact .base .non
  · cases e; exact .base (.bl _)
  · cases e; exact .base (.int _)
  · cases e; exact .base (.str _)
  · cases e
    rename_i h1 h2
    exact tyX_lst (SqL.of (R.ex _ _ h1))
  · cases e
    rename_i h1 h2
    exact tyX_lst (R.ex.seq h1)
  · cases e
    rename_i h1 h2
    exact tyX_tup (sqT_seq R.ex h1)
  · cases e
    rename_i h1 h2 h3
    exact .base (.dK (R.ex _ _ h1))
  · rename_i a j ha
    split at e
    · rename_i ds q
      cases e
      obtain ⟨a', h, h1, h2, h3, h4⟩ := R.obj j _ q
      rw [ha] at h1
      cases h1
      obtain ⟨xs, rfl, h5⟩ := h4.lst
      exact .base (.lst h2)
    · rename_i ds q
      cases e
      obtain ⟨a', h, h1, h2, h3, h4⟩ := R.obj j _ q
      rw [ha] at h1
      cases h1
      obtain ⟨xs, rfl, h5⟩ := h4.dct
      exact .base (.dK h2)
    · cases e
def isiD (ς : Store) (d : D) (T : String) : Option Bool := (tyN ς d).bind fun t => kitB t T
def fIsi : List D → M D := fun ds s => match ds with
  | [d, .ty T] => match isiD s.s d T with
    | some b => ret (.bl b) s
    | none => none
  | _ => none
theorem s_isi {K : Frg} : SpA K E (rIsi K) fIsi := by
  intro G F H α σ s xs ds Q R k h
  unfold fIsi at h
  split at h
  · rename_i d T
    obtain ⟨v, w, rfl, k1, k2⟩ := k.two
    split at h
    · rename_i b q
      obtain ⟨t, q1, q2⟩ := Option.bind_eq_some_iff.mp q
      cases k2
      exact ⟨v, .ty T, _, _, b, rfl, .ty T, tyX_at R.st k1 q1, kit_ty q2, fin h R (.bl b)⟩
    · exact h.elim
  · exact h.elim
/-- isinstance(x, (T, U)) -/
def tysD : List D → Option (List String)
  | [] => some []
  | .ty T :: ds => (tysD ds).map (T :: ·)
  | _ => none
theorem tysD_eq : ∀ {ds : List D} {Ts : List String}, tysD ds = some Ts → ds = Ts.map .ty
  | [], ns, h => by simp only [tysD, Option.some.injEq] at h; subst h; rfl
  | d :: ds, ns, h => by
    cases d <;> simp only [tysD] at h <;> try (cases h; done)
    obtain ⟨ms, h1, rfl⟩ := Option.map_eq_some_iff.mp h
    rw [tysD_eq h1]
    rfl
def anyTy (t : String) : List String → Option Bool
  | [] => some false
  | T :: r => match kitB t T with
    | some true => some true
    | some false => anyTy t r
    | none => none
theorem anyTy_kit {K : Frg} (t : String) : ∀ Ts : List String, PySem.W.kitAny K (.type t) (Ts.map .type) = anyTy t Ts
  | [] => rfl
  | T :: r => by
    have ih := anyTy_kit (K := K) t r
    have e : PySem.W.kitOne K (.type t) (.type T) = kitB t T := rfl
    show PySem.W.kitAny K (.type t) (.type T :: r.map .type) = _
    unfold PySem.W.kitAny anyTy
    rw [e, ih]
    cases kitB t T with
    | none => rfl
    | some b => cases b <;> rfl
theorem clsV_tys {K : Frg} {F : Hp} {α : List Addr} : ∀ {vs : List V} {Ts : List String}, HasL K F α vs (Ts.map .ty) → vs = Ts.map .ty ∧ Paired ClsV vs (Ts.map .type)
  | _, [], .nil => ⟨rfl, .nil⟩
  | _, T :: Ts, .cons h r => by
    cases h
    obtain ⟨e, p⟩ := clsV_tys r
    exact ⟨by rw [e]; rfl, .cons (.ty T) p⟩
/-- the tuple of types is one that the call makes -/
def isiT (m : M D) (ts : List String) : M D := bnd m fun d s => match tyN s.s d with
  | some t => match anyTy t ts with
    | some b => ret (.bl b) s
    | none => none
  | none => none
theorem paired_tys : ∀ Ts : List String, Paired ClsV (Ts.map V.ty) (Ts.map Value.type)
  | [] => .nil
  | T :: Ts => .cons (.ty T) (paired_tys Ts)
def tTys (ts : List String) : TA := fun _ H Q => Q (ts.map V.ty) H
theorem pa_tys0 : PA X [] (tTys []) := pa_nil
theorem pa_tys {x : Str} {T : String} {p : Pos} {ts : List String} (hm : X.mg x = none) (hv : bootBuiltins x = some (.type T)) (hr : PA X es (tTys ts)) (hg : Gl X x := by rfl) (hn : x ≠ "__name__" := by decide) (hd : (x == ("__debug__" : Str)) = false := by decide)
    (hs : starEach (.Name x p :: es) X.env = (false, eval (.Name x p) X.env) :: starEach es X.env := by rfl) : PA X (.Name x p :: es) (tTys (T :: ts)) :=
  PA.weak (pa_cons (pe_bltn (v := .ty T) hg hm hv rfl hn hd) hr hs) fun _ _ _ q => q
theorem d_isiT {p tp : Pos} {kx : Nat} {m : M D} {ts : List String} (hm : X.mg "isinstance" = none) (ha : DE X E e m) (ht : PA X es (tTys ts)) (hl : ts.length ≤ 1000 := by decide) (hg : Gl X "isinstance" := by rfl)
    (hs1 : starEach [.Tuple es kx tp] X.env = (false, eval (.Tuple es kx tp) X.env) :: starEach [] X.env := by rfl) (hs2 : starEach [e, .Tuple es kx tp] X.env = (false, eval e X.env) :: starEach [.Tuple es kx tp] X.env := by rfl)
    (hpl : (backTo pos (starEach [.Tuple es kx tp] X.env)).any (·.1) = false := by rfl) :
    DE X E (.Call (.Name "isinstance" p) [e, .Tuple es kx tp] [] pos) (isiT m ts) := by
  refine PE.weak (pe_callB call_isiT hg hm (by decide +kernel) (pa_cons ha (pa_cons (pe_tup ht) pa_nil hs1) hs2) (by decide) (by decide) hs2 hpl) fun σ H Q ⟨G, F, α, s, R, h⟩ => ?_
  refine ⟨G, F, α, s, R, h.bind.mono fun F1 α1 H1 d s1 x1 h1 v R1 k1 => ?_⟩
  refine ⟨?_, fun q hq => ?_⟩
  · have : (ts.map V.ty).length ≤ 1000 := by rw [List.length_map]; exact hl
    have q : sizeLine = 16777216 := sizeLine_eq
    omega
  · split at h1
    · rename_i t q1
      split at h1
      · rename_i b q2
        have R2 := R1.imm hq (.tup (ts.map .ty))
        have k2 := k1.ext (R1.st.immX hq (.tup (ts.map .ty)))
        refine ⟨v, q, ts.map .ty, .type t, ts.map .type, b, rfl, upd_same, paired_tys ts, tyX_at R2.st k2 q1, by rw [anyTy_kit]; exact q2, ?_⟩
        exact h1 _ _ _ (R1.st.immX hq _) (.bl b) R2 (.bl b)
      · exact h1.elim
    · exact h1.elim
theorem d_ty {x : Str} {T : String} (hm : X.mg x = none) (hv : bootBuiltins x = some (.type T)) (hg : Gl X x := by rfl) (hn : x ≠ "__name__" := by decide) (hd : (x == ("__debug__" : Str)) = false := by decide) : DE X E (.Name x pos) (ret (.ty T)) :=
  d_c (pe_bltn (v := .ty T) hg hm hv rfl hn hd) fun _ _ => .ty T
end
end DL

namespace DL
open PySem L2
section
variable {X : Cx} {E : WX} {e a b : Expr} {es : List Expr} {pos : Pos}
/-- a, b = x, y -/
def parS (i j : Nat) (n : M (List D)) : M Fl := bnd n fun ds s => match ds with
  | [v, w] => some (.ok .nx { s with e := (s.e.set i (some v)).set j (some w) })
  | _ => none
theorem d_par (i j : Nat) {n : M (List D)} (hc : X.calm = true) (hN : X.N.Nodup) (ha : DA X E [a, b] n) (h : ∀ {ta : TA}, PA X [a, b] ta → PS X st (tPar i j ta)) : DS X E st (parS i j n) := by
  refine PS.weak (h ha) fun D σ H ⟨G, F, α, s, R, h⟩ => ?_
  refine ⟨G, F, α, s, R, h.bind.mono fun F1 α1 H1 ds s1 x1 h1 vs R1 k1 => ?_⟩
  split at h1
  · obtain ⟨v, w, rfl, kv, kw⟩ := k1.two
    exact ⟨v, w, rfl, h1 F1 α1 H1 (Ext.refl _ _) _ ((R1.set kv i).set kw j)⟩
  · exact h1.elim
end
/-- a call leaves the law: nothing is raised -/
theorem walk_DL {l : PySem.W.OpenLaw} {n k : Nat} {q : Program} {loose : List Str} {XP : (Str → Option Value) → Heap → Prop} {YP : World → Heap → Prop} {d : DefRec} {K : Params → Frg} {x : Str} {f : DF}
    (hn : l.most = some n) (hn2 : n ≤ sizeLine) (hdf : d.params.defaults = []) (hr : Room k callerA)
    (hY : ∀ (w : World) (h : Heap), YP w h → (K w.params).In h)
    (F : ∀ (w : World) (mg : Str → Option Value) (fa : Addr) (h : Heap), (K w.params).In h → h.Ns mainGlobals mg → mg d.name = some (.ref fa) →
      ∃ fd : FuncData, (∀ (s : Shared) (u : Value), BindsTo s fd ⟨[u], []⟩ [(x, u)]) ∧
        ∀ base : Heap, (K w.params).In base → base.Ns mainGlobals mg → FnOk l.prog w (K w.params) mg base (L2.CX l.prog w) k fa fd [x] (spF (K w.params) 1 f))
    (hf : ∀ ns : List Int, ns.length ≤ n → ∃ ς, f [.rdl (ns.map .int)] [] = some (.ok (.bl true) ς)) :
    PySem.W.WalkO q loose XP YP l.row.toRowW d [] (fun f vs => PySem.call f vs) := by
  refine L2.walk_of (CX := fun w => L2.CX l.prog w) (sp := fun w => spF (K w.params) 1 f) hn hn2 hdf hr hY F (fun w H a ns hl ho hS => ?_) fun w H s e s' z => ?_
  · obtain ⟨ς, e⟩ := hf ns hl
    refine ⟨rfl, fun _ => none, H, [], [], [.rdl (ns.map .int)], ⟨Same.refl H, fun a o e => (nomatch e), rfl, fun i o e => by simp at e, fun a o e => (nomatch e), fun i o a e => by simp at e, fun i j oi oj a e => by simp at e, fun i q P e => by simp at e⟩, .cons (.rdl hS (hasL_ints ns)) .nil, ?_⟩
    rw [e]
    intro F' α' H' v _ _ kv
    cases kv
    rfl
  · obtain ⟨_, _, _, _, _, _, _, _, _, _, _, _, z⟩ := z
    exact z.elim
end DL

/-! from DL7.lean -/
set_option Elab.async false
set_option linter.all false
set_option maxRecDepth 100000
set_option maxHeartbeats 2000000
namespace DL
open PySem L2
section
variable {X : Cx} {E : WX} {K : Frg} {e a b : Expr} {es : List Expr} {pos p p2 : Pos}
/-! minus -/
def un1 (f : D → M D) (m : M D) : M D := bnd m f
theorem s_neg : Sp1 K E (rU fun i => .int (-i)) fNeg := by
  intro G F H α σ s x d Q R k h
  unfold fNeg at h
  split at h
  · cases k
    exact ⟨_, rfl, fin h R (.int _)⟩
  · exact h.elim
theorem d_un {op : UnaryOp} {r : V → Hp → VK → Prop} {f : D → M D} {m : M D} (ho : UnR X (unaryOp op) r) (hr : Sp1 X.K E r f) (ha : DE X E a m) : DE X E (.UnaryOp op a pos) (un1 f m) := by
  refine PE.weak (pe_un ho ha) fun σ H Q ⟨G, F, α, s, R, h⟩ => ?_
  refine ⟨G, F, α, s, R, h.bind.mono fun F1 α1 H1 d s1 x1 h1 v R1 k1 => ?_⟩
  exact hr G F1 H1 α1 σ s1 v d Q R1 k1 h1
/-! slices of lists, tuples, texts -/
def cutQ (n : Nat) (lo hi : Option Int) : Bool := decide (HT.sIx n 0 lo = 0 ∧ HT.sIx n n hi = n)
def slAf (own : Bool) (d : D) (lo hi : Option Int) : M D := fun s => match d with
  | .str z => guard' (small z.length) (ret (.str (L2.cutS z lo hi))) s
  | d => match seqD s.s d with
    | some (true, ds) => mk own (cutL ds lo hi) s
    | some (false, ds) => ret (.tup (cutL ds lo hi)) s
    | none => none
def slA (own : Bool) (m : M D) (ml mh : M (Option Int)) : M D := bnd m fun d => bnd ml fun lo => bnd mh fun hi => slAf own d lo hi
theorem cutL_all {ds : List D} {lo hi : Option Int} (h : HT.sIx ds.length 0 lo = 0 ∧ HT.sIx ds.length ds.length hi = ds.length) : cutL ds lo hi = ds := by
  unfold cutL
  rw [h.1, h.2]
  simp
theorem d_slA (own : Bool) {lo hi : Option Expr} {m : M D} {ml mh : M (Option Int)} (he : DE X E e m) (hl : DO X E lo ml) (hh : DO X E hi mh) : DE X E (.Subscript e (.Slice lo hi none p2) pos) (slA own m ml mh) := by
  refine PE.weak (pe_slice (SlR.or sl_list (SlR.or sl_tupA sl_str)) he hl hh) fun σ H Q ⟨G, F, α, s, R, h⟩ => ?_
  refine ⟨G, F, α, s, R, h.bind.mono fun F1 α1 H1 d s1 x1 h1 v R1 k1 => ?_⟩
  refine ⟨G, F1, α1, s1, R1, h1.bind.mono fun F2 α2 H2 l s2 x2 h2 R2 => ?_⟩
  refine ⟨G, F2, α2, s2, R2, h2.bind.mono fun F3 α3 H3 u s3 x3 h3 R3 => ?_⟩
  have k3 := k1.ext (x2.trans x3)
  unfold slAf at h3
  split at h3
  · rename_i z
    obtain ⟨g, h4⟩ := wp_guard h3
    cases k3
    exact .inr (.inr ⟨z, rfl, small_ok g, fin h4 R3 (.str _)⟩)
  · split at h3
    · rename_i ds q
      obtain ⟨a, xs, rfl, hl, w1, w2⟩ := seq_at R3.st k3 q
      exact .inl ⟨a, xs, rfl, w1 rfl, fin_lst h3 R3 (cut_has hl l u)⟩
    · rename_i ds q
      obtain ⟨a, xs, rfl, hl, w1, w2⟩ := seq_at R3.st k3 q
      refine .inr (.inl ⟨a, xs, rfl, w2 rfl, fun c => ?_, fun _ => fin_tup h3 R3 (cut_has hl l u)⟩)
      have z : Has X.K F3 α3 (.ref a) (.tup ds) := by
        cases d <;> simp only [seqD] at q <;> try (cases q; done)
        · cases q; exact k3
        · split at q <;> cases q
      rw [hl.len] at c
      rw [cutL_all c] at h3
      exact fin h3 R3 z
    · exact h3.elim
/-! list(range(..)), tuple(range(..)) -/
def rgN (i j : Int) : Bool := rngB i && rngB j && small (j - i).toNat
theorem rgV_has {F : Hp} {α : List Addr} (i j : Int) : HasL K F α (rgV i j) (rngL i (j - i).toNat) := by
  unfold rgV rngL
  generalize (List.range (j - i).toNat) = l
  induction l with
  | nil => exact .nil
  | cons n l ih => exact .cons (.int _) ih
theorem rgN_ok {i j : Int} (h : rgN i j = true) : RgOk i j := by
  unfold rgN at h
  rw [Bool.and_eq_true, Bool.and_eq_true] at h
  have h1 := rngB_ok h.1.1
  have h2 := rngB_ok h.1.2
  exact ⟨h1.1, h1.2, h2.1, h2.2, by have := of_decide_eq_true h.2; omega⟩
def listRgF (own : Bool) (i j : Int) : M D := guard' (rgN i j) (mk own (rngL i (j - i).toNat))
def tupRgF (i j : Int) : M D := guard' (rgN i j) (ret (.tup (rngL i (j - i).toNat)))
def rg1 (f : Int → Int → M D) (n : M (List D)) : M D := bnd n fun ds => match ds with
  | [.int j] => f 0 j
  | _ => fail
def rg2 (f : Int → Int → M D) (n : M (List D)) : M D := bnd n fun ds => match ds with
  | [.int i, .int j] => f i j
  | _ => fail
abbrev listRg1 (own : Bool) := rg1 (listRgF own)
abbrev listRg2 (own : Bool) := rg2 (listRgF own)
abbrev tupRg1 := rg1 tupRgF
abbrev tupRg2 := rg2 tupRgF
theorem acons_one {K : Frg} {G F : Hp} {α : List Addr} {n : M D} {β : Type} {f : List D → M β} {s : S} {P : Hp → List Addr → Hp → β → S → Prop} (h : Wp K G E F α (bnd (acons n anil) f s) P) : Wp K G E F α (n s) (fun F1 α1 _ d s1 => Wp K G E F1 α1 (f [d] s1) P) := by
  refine h.bind.bind.mono fun F1 α1 H1 d s1 x1 h1 => ?_
  exact h1 F1 α1 H1 (Ext.refl _ _)
theorem acons_two {K : Frg} {G F : Hp} {α : List Addr} {n n' : M D} {β : Type} {f : List D → M β} {s : S} {P : Hp → List Addr → Hp → β → S → Prop} (h : Wp K G E F α (bnd (acons n (acons n' anil)) f s) P) : Wp K G E F α (n s) (fun F1 α1 _ d s1 => Wp K G E F1 α1 (n' s1) (fun F2 α2 _ d' s2 => Wp K G E F2 α2 (f [d, d'] s2) P)) := by
  refine h.bind.bind.mono fun F1 α1 H1 d s1 x1 h1 => ?_
  refine h1.bind.bind.mono fun F2 α2 H2 d2 s2 x2 h2 => ?_
  exact h2 F2 α2 H2 (Ext.refl _ _) F2 α2 H2 (Ext.refl _ _)
def rg1f (f : Int → Int → M D) : List D → M D := fun ds => match ds with
  | [.int j] => f 0 j
  | _ => fail
theorem r_rg1 {f : Int → Int → M D} {n : M D} {k : Int → Int → Hp → VK → Prop} (hk : ∀ (G F H : Hp) (α : List Addr) (σ : L2.St) (s : S) (i j : Int) (Q : VK), RelS K G F H α σ s → Wp K G E F α (f i j s) (pV K G σ Q) → k i j H Q) {σ : L2.St} {H : Hp} {Q : VK} (h : rE K E (rg1 f (acons n anil)) σ H Q) : tRg1 (rE K E n) σ H (fun i j H1 => k i j H1 Q) := by
  obtain ⟨G, F, α, s, R, h⟩ := h
  refine ⟨G, F, α, s, R, (acons_one h).mono fun F1 α1 H1 d s1 x1 h1 v R1 k1 => ?_⟩
  cases k1 <;> first | exact h1.elim | skip
  exact ⟨_, rfl, hk G F1 H1 α1 σ s1 0 _ Q R1 h1⟩
theorem r_rg2 {f : Int → Int → M D} {n n' : M D} {k : Int → Int → Hp → VK → Prop} (hk : ∀ (G F H : Hp) (α : List Addr) (σ : L2.St) (s : S) (i j : Int) (Q : VK), RelS K G F H α σ s → Wp K G E F α (f i j s) (pV K G σ Q) → k i j H Q) {σ : L2.St} {H : Hp} {Q : VK} (h : rE K E (rg2 f (acons n (acons n' anil))) σ H Q) : tRg2 (rE K E n) (rE K E n') σ H (fun i j H1 => k i j H1 Q) := by
  obtain ⟨G, F, α, s, R, h⟩ := h
  refine ⟨G, F, α, s, R, (acons_two h).mono fun F1 α1 H1 d s1 x1 h1 v R1 k1 => ?_⟩
  refine ⟨G, F1, α1, s1, R1, h1.mono fun F2 α2 H2 d2 s2 x2 h2 v2 R2 k2 => ?_⟩
  cases k1 <;> cases k2 <;> first | exact h2.elim | skip
  exact ⟨_, _, rfl, rfl, hk G F2 H2 α2 σ s2 _ _ Q R2 h2⟩
theorem k_listRg (own : Bool) (G F H : Hp) (α : List Addr) (σ : L2.St) (s : S) (i j : Int) (Q : VK) (R : RelS K G F H α σ s) (h : Wp K G E F α (listRgF own i j s) (pV K G σ Q)) : RgOk i j ∧ ∀ q, H q = none → Q (.ref q) (upd H q (.lst (rgV i j))) := by
  obtain ⟨g, h1⟩ := wp_guard h
  exact ⟨rgN_ok g, fin_lst h1 R (rgV_has i j)⟩
theorem k_tupRg (G F H : Hp) (α : List Addr) (σ : L2.St) (s : S) (i j : Int) (Q : VK) (R : RelS K G F H α σ s) (h : Wp K G E F α (tupRgF i j s) (pV K G σ Q)) : RgOk i j ∧ ∀ q, H q = none → Q (.ref q) (upd H q (.tup (rgV i j))) := by
  obtain ⟨g, h1⟩ := wp_guard h
  exact ⟨rgN_ok g, fin_tup h1 R (rgV_has i j)⟩
variable {p1 : Pos}
theorem d_listRg1 (own : Bool) {n : M D} (hc : X.calm = true) (hl : X.mg "list" = none) (hm : X.mg "range" = none) (ha : DE X E a n) (g1 : Gl X "list" := by rfl) (g2 : Gl X "range" := by rfl)
    (na : starEach [a] X.env = (false, eval a X.env) :: starEach [] X.env := by rfl) (nb : starEach [.Call (.Name "range" p1) [a] [] p2] X.env = (false, eval (.Call (.Name "range" p1) [a] [] p2) X.env) :: starEach [] X.env := by rfl) :
    DE X E (.Call (.Name "list" p) [.Call (.Name "range" p1) [a] [] p2] [] pos) (listRg1 own (acons n anil)) :=
  PE.weak (pe_listRg hc g1 hl (prg_1 g2 hm ha na) nb) fun σ H Q h => r_rg1 (k := fun i j H1 Q => RgOk i j ∧ ∀ q, H1 q = none → Q (.ref q) (upd H1 q (.lst (rgV i j)))) (k_listRg own) h
theorem d_listRg2 (own : Bool) {n n' : M D} (hc : X.calm = true) (hl : X.mg "list" = none) (hm : X.mg "range" = none) (ha : DE X E a n) (hb : DE X E b n') (g1 : Gl X "list" := by rfl) (g2 : Gl X "range" := by rfl)
    (na : starEach [a, b] X.env = (false, eval a X.env) :: starEach [b] X.env := by rfl) (na2 : starEach [b] X.env = (false, eval b X.env) :: starEach [] X.env := by rfl) (hp : (backTo p2 (starEach [b] X.env)).any (·.1) = false := by rfl) (nb : starEach [.Call (.Name "range" p1) [a, b] [] p2] X.env = (false, eval (.Call (.Name "range" p1) [a, b] [] p2) X.env) :: starEach [] X.env := by rfl) :
    DE X E (.Call (.Name "list" p) [.Call (.Name "range" p1) [a, b] [] p2] [] pos) (listRg2 own (acons n (acons n' anil))) :=
  PE.weak (pe_listRg hc g1 hl (prg_2 g2 hm ha hb na na2 hp) nb) fun σ H Q h => r_rg2 (k := fun i j H1 Q => RgOk i j ∧ ∀ q, H1 q = none → Q (.ref q) (upd H1 q (.lst (rgV i j)))) (k_listRg own) h
theorem d_tupRg1 {n : M D} (hc : X.calm = true) (hl : X.mg "tuple" = none) (hm : X.mg "range" = none) (ha : DE X E a n) (g1 : Gl X "tuple" := by rfl) (g2 : Gl X "range" := by rfl)
    (na : starEach [a] X.env = (false, eval a X.env) :: starEach [] X.env := by rfl) (nb : starEach [.Call (.Name "range" p1) [a] [] p2] X.env = (false, eval (.Call (.Name "range" p1) [a] [] p2) X.env) :: starEach [] X.env := by rfl) :
    DE X E (.Call (.Name "tuple" p) [.Call (.Name "range" p1) [a] [] p2] [] pos) (tupRg1 (acons n anil)) :=
  PE.weak (pe_tupRg hc g1 hl (prg_1 g2 hm ha na) nb) fun σ H Q h => r_rg1 (k := fun i j H1 Q => RgOk i j ∧ ∀ q, H1 q = none → Q (.ref q) (upd H1 q (.tup (rgV i j)))) k_tupRg h
theorem d_tupRg2 {n n' : M D} (hc : X.calm = true) (hl : X.mg "tuple" = none) (hm : X.mg "range" = none) (ha : DE X E a n) (hb : DE X E b n') (g1 : Gl X "tuple" := by rfl) (g2 : Gl X "range" := by rfl)
    (na : starEach [a, b] X.env = (false, eval a X.env) :: starEach [b] X.env := by rfl) (na2 : starEach [b] X.env = (false, eval b X.env) :: starEach [] X.env := by rfl) (hp : (backTo p2 (starEach [b] X.env)).any (·.1) = false := by rfl) (nb : starEach [.Call (.Name "range" p1) [a, b] [] p2] X.env = (false, eval (.Call (.Name "range" p1) [a, b] [] p2) X.env) :: starEach [] X.env := by rfl) :
    DE X E (.Call (.Name "tuple" p) [.Call (.Name "range" p1) [a, b] [] p2] [] pos) (tupRg2 (acons n (acons n' anil))) :=
  PE.weak (pe_tupRg hc g1 hl (prg_2 g2 hm ha hb na na2 hp) nb) fun σ H Q h => r_rg2 (k := fun i j H1 Q => RgOk i j ∧ ∀ q, H1 q = none → Q (.ref q) (upd H1 q (.tup (rgV i j)))) k_tupRg h
end
end DL

/-! from DL8.lean -/
set_option Elab.async false
set_option linter.all false
set_option maxRecDepth 100000
set_option maxHeartbeats 2000000
/-! DL8: dict comprehensions. -/
namespace DL
open PySem L2
section
variable {X : Cx} {E : WX} {pos : Pos}
/-- the entries -/
def dcR (e0 : List (Option D)) (g : Tg) (tt : M Bool) (tk tv : M D) : List D → Store → List (Key × D) → Option (List (Key × D) × Store)
  | [], ς, ms => some (ms, ς)
  | d :: ds, ς, ms => (g d ⟨e0, ς⟩).bind fun s1 => match tt s1 with
    | some (.ok true s2) => (match tk s2 with
      | some (.ok y s3) => (match tv s3 with
        | some (.ok z s4) => (match keyD y with
          | some k => if small ms.length = true then dcR e0 g tt tk tv ds s4.s (putD ms k z) else none
          | none => none)
        | _ => none)
      | _ => none)
    | some (.ok false s2) => dcR e0 g tt tk tv ds s2.s ms
    | _ => none
def mkd (own : Bool) (ms : List (Key × D)) : M D := fun s => match own with
  | true => some (.ok (.loc s.s.length) { s with s := s.s ++ [some (.dct ms)] })
  | false => some (.ok (.dct ms) s)
def dcK (own : Bool) (vs : List Nat) (g : Tg) (tt : M Bool) (tk tv : M D) (ds : List D) : M D := fun s => match dcR (wipeD s.e vs) g tt tk tv ds s.s [] with
  | some (ms, ς) => mkd own ms ⟨s.e, ς⟩
  | none => none
def dcM (own : Bool) (vs : List Nat) (src : M (List D)) (g : Tg) (tt : M Bool) (tk tv : M D) : M D := bnd src (dcK own vs g tt tk tv)
theorem fin_trackD {K : Frg} {G F H : Hp} {α : List Addr} {σ : L2.St} {s : S} {Q : VK} {own : Bool} {p : Addr} {acc : List (Key × V)} {ms : List (Key × D)} (h : Wp K G E F α (mkd own ms s) (pV K G σ Q)) (gp : G p = none) (R : RelS K (upd G p (.dK acc)) F H α σ s) (k : HasM K F α acc ms) : Q (.ref p) H := by
  cases own with
  | false =>
    obtain ⟨R', x⟩ := R.st.settle gp
    exact h _ α H x (.ref p) ⟨R', R.len, fun i d e => let ⟨v, h1, h2⟩ := R.sl i d e; ⟨v, h1, h2.ext x⟩⟩ (.dct upd_same k.ks (k.vs.ext x))
  | true =>
    refine h F (α ++ [p]) H ⟨Same.refl F, pre_app α p⟩ (.ref p) ⟨R.st.adopt gp (ob := .dct ms) ⟨k.ks, k.vs⟩, R.len, fun i d e => let ⟨v, h1, h2⟩ := R.sl i d e; ⟨v, h1, h2.mono (Same.refl F) (pre_app α p)⟩⟩ (.loc ?_)
    rw [← R.st.len]
    simp
theorem HasM.ext {K : Frg} {F F' : Hp} {α α' : List Addr} {kvs : List (Key × V)} {ms : List (Key × D)} (h : HasM K F α kvs ms) (x : Ext F α F' α') : HasM K F' α' kvs ms := ⟨h.ks, h.vs.ext x⟩
theorem r_dc {K : Frg} {own : Bool} {vs js : List Nat} {src : M (List D)} {g : Tg} {t : TG} {tt : M Bool} {tk tv : M D} (hg : SpG K t g js) (hj : ∀ j ∈ js, j ∈ vs) {σ : L2.St} {H : Hp} {Q : VK} (h : rE K E (dcM own vs src g tt tk tv) σ H Q) :
    tDc (rIt K E src) t (rT K W0 tt) (rE K W0 tk) (rE K W0 tv) vs σ H Q := by
  obtain ⟨G, F, α, s, R, h⟩ := h
  refine ⟨G, F, α, s, R, h.bind.mono fun F1 α1 H1 ds s1 x1 h1 R1 J wk p hp => ?_⟩
  have gp : G p = none := R1.st.gx.free hp
  unfold dcK at h1
  cases e0 : dcR (wipeD s1.e vs) g tt tk tv ds s1.s [] with
  | none => simp only [e0] at h1; exact h1.elim
  | some q0 =>
    obtain ⟨mms, ςe⟩ := q0
    simp only [e0] at h1
    have track0 : RelS K (upd G p (.dK [])) F1 (upd H1 p (.dK [])) α1 σ s1 := ⟨R1.st.track hp _, R1.len, R1.sl⟩
    refine ⟨fun i m H' => m = ds.length - i ∧ i ≤ ds.length ∧ ∃ F2 α2 ς2 acc ms, Ext F1 α1 F2 α2 ∧ Rel0 K (upd G p (.dK acc)) F2 H' α2 ς2 ∧ HasM K F2 α2 acc ms ∧ dcR (wipeD s1.e vs) g tt tk tv (ds.drop i) ς2 ms = some (mms, ςe),
      ⟨ds.length, by simp, Nat.zero_le _, F1, α1, s1.s, [], [], Ext.refl _ _, track0.st, ⟨rfl, .nil⟩, e0⟩, ?_⟩
    rintro i m H2 ⟨rfl, hi, F2, α2, ς2, acc, ms, x2, R2, k2, e2⟩
    obtain ⟨w1, w2⟩ := wk i F2 H2 α2 x2 R2.ex
    by_cases hlt : i < ds.length
    · have hd : ds.drop i = ds[i] :: ds.drop (i + 1) := List.drop_eq_getElem_cons hlt
      obtain ⟨go, yl⟩ := w1 ds[i] (by simp [hlt])
      refine .inr ⟨go, fun H' => ds.length - (i + 1) = ds.length - (i + 1) ∧ i + 1 ≤ ds.length ∧ ∃ F2 α2 ς2 acc ms, Ext F1 α1 F2 α2 ∧ Rel0 K (upd G p (.dK acc)) F2 H' α2 ς2 ∧ HasM K F2 α2 acc ms ∧ dcR (wipeD s1.e vs) g tt tk tv (ds.drop (i + 1)) ς2 ms = some (mms, ςe),
        fun H' q => ⟨ds.length - (i + 1), by omega, q⟩, fun x H' y => ?_⟩
      obtain ⟨F3, x3, keep, hx⟩ := yl x H' y
      rw [hd] at e2
      have base : RelS K (upd G p (.dK acc)) F2 H2 α2 (L2.wipe σ vs) ⟨wipeD s1.e vs, ς2⟩ := (RelS.wipe (R := ⟨R2, R1.len, fun i d e => let ⟨v, h1, h2⟩ := R1.sl i d e; ⟨v, h1, h2.ext x2⟩⟩) (s := ⟨s1.e, ς2⟩) (σ := σ) vs)
      unfold dcR at e2
      obtain ⟨s3, e4, e5⟩ := Option.bind_eq_some_iff.mp e2
      refine hg (upd G p (.dK acc)) F3 H' α2 (L2.wipe σ vs) _ x ds[i] s3 _ (keep _ _ _ base) hx e4 fun σ3 R3 b3 => ?_
      refine ⟨wipe_but b3 hj, upd G p (.dK acc), F3, α2, s3, R3, ?_⟩
      cases et : tt s3 with
      | none => simp only [et] at e5; cases e5
      | some ot =>
        cases ot with
        | exc C fs ς => simp only [et] at e5; cases e5
        | ok b s4 =>
          refine wp_post fun F4 α4 H4 x4 R4 => ?_
          cases b with
          | false =>
            simp only [et] at e5
            refine iteF ⟨rfl, hlt, F4, α4, s4.s, acc, ms, x2.trans (x3.trans x4), R4.st, k2.ext (x3.trans x4), e5⟩
          | true =>
            simp only [et] at e5
            refine iteT ⟨upd G p (.dK acc), F4, α4, s4, R4, ?_⟩
            cases ek : tk s4 with
            | none => simp only [ek] at e5; cases e5
            | some ok =>
              cases ok with
              | exc C fs ς => simp only [ek] at e5; cases e5
              | ok yd s5 =>
                simp only [ek] at e5
                refine wp_post fun F5 α5 H5 x5 yv R5 ky => ?_
                refine ⟨upd G p (.dK acc), F5, α5, s5, R5, ?_⟩
                cases ev : tv s5 with
                | none => simp only [ev] at e5; cases e5
                | some ov =>
                  cases ov with
                  | exc C fs ς => simp only [ev] at e5; cases e5
                  | ok zd s6 =>
                    simp only [ev] at e5
                    refine wp_post fun F6 α6 H6 x6 zv R6 kz => ?_
                    cases eq : keyD yd with
                    | none => simp only [eq] at e5; cases e5
                    | some kk =>
                      simp only [eq] at e5
                      split at e5
                      · rename_i hs
                        have kk' := k2.ext (x3.trans (x4.trans (x5.trans x6)))
                        refine ⟨acc, kk, key_at ky eq, R6.st.gx p _ upd_same, by rw [k2.len]; exact small_lt hs, rfl, hlt, F6, α6, s6.s, putK acc kk zv, putD ms kk zd, x2.trans (x3.trans (x4.trans (x5.trans x6))), R6.st.retrack, kk'.put kk kz, e5⟩
                      · cases e5
    · have e : i = ds.length := by omega
      subst e
      refine .inl ⟨w2 (Nat.le_refl _), ?_⟩
      rw [List.drop_length] at e2
      cases e2
      exact fin_trackD (h1.ext x2) gp (s := ⟨s1.e, ςe⟩) ⟨R2, R1.len, fun i d e => let ⟨v, h1, h2⟩ := R1.sl i d e; ⟨v, h1, h2.ext x2⟩⟩ k2
theorem d_dc (own : Bool) {kx vx tg iter : Expr} {ifs : List Expr} {scope : Scope} {ow : List (Str × Nat)} {src : M (List D)} {g : Tg} {js : List Nat} {t : TG} {tt : M Bool} {tk tv : M D} (hc : X.calm = true) (hN : X.N.Nodup) (hi : DI X E tg iter src) (ok : BlkOk X.N X.env.scope scope ow)
    (hg : ∀ (s : Shared) (H : Hp) (C : Addr) (cl : List (Str × Addr)) (fp : List Addr), DG (X.blk s H scope (compEnvC scope cl C X.env) fp) tg g js t) (ht : ∀ (s : Shared) (H : Hp) (C : Addr) (cl : List (Str × Addr)) (fp : List Addr), DTs (X.blk s H scope (compEnvC scope cl C X.env) fp) W0 ifs tt)
    (hk : ∀ (s : Shared) (H : Hp) (C : Addr) (cl : List (Str × Addr)) (fp : List Addr), DE (X.blk s H scope (compEnvC scope cl C X.env) fp) W0 kx tk)
    (he : ∀ (s : Shared) (H : Hp) (C : Addr) (cl : List (Str × Addr)) (fp : List Addr), DE (X.blk s H scope (compEnvC scope cl C X.env) fp) W0 vx tv) (hj : ∀ j ∈ js, j ∈ ow.map (·.2) := by decide) (hs : ∀ x, foldedSetIterable iter X.env x = pure x := by intro _; rfl) :
    DE X E (.DictComp kx vx [⟨tg, iter, ifs, 0⟩] scope pos) (dcM own (ow.map (·.2)) src g tt tk tv) := by
  refine ⟨fun pins s σ H Q I h => ?_⟩
  have hsp : SpG X.K t g js := (hg s H 0 [] []).sp
  exact (pe_dc hc hN hi ok (fun s H C cl fp => (hg s H C cl fp).pg) ht hk he hs).run pins s σ H Q I (r_dc hsp hj h)
end
end DL

/-! from DL9.lean -/
set_option Elab.async false
set_option linter.all false
set_option maxRecDepth 100000
set_option maxHeartbeats 2000000
/-! DL9: own error classes: made, raised, caught. -/
namespace DL
open PySem L2 PyProof.Rows
theorem Rel0.dead {K : Frg} {G F H : Hp} {α : List Addr} {ς : Store} (R : Rel0 K G F H α ς) (a : Addr) : Rel0 K G F H (α ++ [a]) (ς ++ [none]) := by
  have len := R.len
  have low : ∀ {i : Nat} {oi : O}, (ς ++ [none])[i]? = some (some oi) → i < ς.length ∧ ς[i]? = some (some oi) := fun {i oi} q => by
    by_cases hi : i < ς.length
    · rw [List.getElem?_append_left hi] at q
      exact ⟨hi, q⟩
    · have h1 := (List.getElem?_eq_some_iff.mp q).1
      have hi2 : i = ς.length := by simp at h1; omega
      subst hi2
      simp at q
  have old : ∀ {i : Nat} {b : Addr}, i < ς.length → (α ++ [a])[i]? = some b → α[i]? = some b := fun {i b} hi w => by
    rwa [List.getElem?_append_left (by omega)] at w
  refine ⟨R.ex, R.gx, by simp [len], fun i ob e => ?_, R.fg, fun i oi b e1 e2 => ?_, fun i j oi oj b e1 e2 e3 e4 => ?_, fun i q P e => pre_get (pre_app α a) (R.tb i q P (low e).2)⟩
  · obtain ⟨hi, e'⟩ := low e
    obtain ⟨b, g, h1, h2, h3, h4⟩ := R.obj i ob e'
    exact ⟨b, g, pre_get (pre_app α a) h1, h2, h3, h4.mono (Same.refl F) (pre_app α a)⟩
  · obtain ⟨hi, e'⟩ := low e1
    exact R.gn i oi b e' (old hi e2)
  · obtain ⟨hi, ei⟩ := low e1
    obtain ⟨hj, ej⟩ := low e2
    exact R.inj i j oi oj b ei ej (old hi e3) (old hj e4)
/-! ### an own error class with fields -/
def spInit (K : Frg) (C : Addr) (fs : List Str) : Sp := fun vs H Q E => ∃ a ws, vs = .ref a :: ws ∧ ws.length = fs.length ∧ H a = some (exo a C none) ∧
  ∀ dx, H dx = none → dx ≠ a → Q .non (upd (upd H dx (exd dx (fs.zip ws).reverse)) a (exo a C (some dx)))
structure ExcTx (P : Program) (w : World) (K : Frg) (mg : Str → Option Value) (base : Heap) (x : Str) (k : Nat) (fs : List Str) : Prop where
  ex : ∃ (C fI : Addr) (fd : FuncData) (ps : List Str), clsV K x = .ref C ∧ mg x = some (.ref C) ∧ OexC K C ∧ PySem.W.findIn K (.ref C) "__init__" = some (some (.ref fI)) ∧ PySem.W.typeIn K (.ref fI) = some (.type "function") ∧ Binds K fd ps [] ∧
    FnOk P w K mg base (L2.CX P w) k fI fd ps (spInit K C fs)
section
variable {P : Program} {w : World} {K : Frg} {mg : Str → Option Value} {base : Heap}
/-- def __init__(self, p): self.f = p -/
theorem init_one {x qual f p0 p1 : Str} {st : Stmt} {fI C : Addr} {fd : FuncData} {N : List Str} {q1 q2 q3 q4 : Pos} {k : Nat} (F : Fun K x qual st fI fd) (S : FnScope N [p0, p1] (defScope st)) (hb : defBody st = [.Assign [.Attribute (.Name p0 q1) f q2] (.Name p1 q3) q4])
    (O : OexC K C) (hno : PySem.W.findIn K (.ref C) f = some none) (hN : N = [p0, p1])
    (hv : ∀ (cdv : Value) (A : Around) (outer : List Env) (s : Shared) (H : Hp) (E : XK), PE (cxOf (L2.CX P w) P w K mg base N qual (defScope st) fI cdv A outer s H E) (.Name p0 q1) (tVar 0) ∧ PE (cxOf (L2.CX P w) P w K mg base N qual (defScope st) fI cdv A outer s H E) (.Name p1 q3) (tVar 1))
    (hsw : ∀ (cdv : Value) (s : Shared), swapsWith (.Name p1 q3) (some (.Attribute (.Name p0 q1) f q2)) q4.line (envOfC qual (defScope st) s.heap.objs.size fI cdv) = pure false) : FnOk P w K mg base (L2.CX P w) (k + 1) fI fd [p0, p1] (spInit K C [f]) := by
  refine F.okX S (fun vs H Q E h => ?_) fun cdv A outer s H vs Q E hr h => ⟨_, by rw [hb]; exact pss_one (ps_ost (hv cdv A outer s H E).1 (hv cdv A outer s H E).2 (hsw cdv s)), ?_⟩
  · obtain ⟨a, ws, rfl, hl, _⟩ := h
    rw [List.length_cons, hl]
    rfl
  · obtain ⟨a, ws, rfl, hl, ha, h⟩ := h
    match ws, hl with
    | [y], _ =>
      subst hN
      refine ⟨y, rfl, .ref a, rfl, a, C, rfl, O, hno, .inl ⟨ha, fun dx hd ne => ?_⟩⟩
      exact h dx hd ne
end
/-! ### raise -/
def excF (x : Str) (fs : List Str) (ds : List D) : M Fl := fun s => some (.exc x (fs.zip ds).reverse s)
theorem zip_fst {β : Type} : ∀ {fs : List Str} {ws : List β}, ws.length = fs.length → (fs.zip ws).map (·.1) = fs
  | [], [], _ => rfl
  | f :: fs, w :: ws, h => by
    rw [List.zip_cons_cons, List.map_cons, zip_fst (by simpa using h)]
theorem zip_snd {β : Type} : ∀ {fs : List Str} {ws : List β}, ws.length = fs.length → (fs.zip ws).map (·.2) = ws
  | [], [], _ => rfl
  | f :: fs, w :: ws, h => by
    rw [List.zip_cons_cons, List.map_cons, zip_snd (by simpa using h)]
theorem heap_made {H : Hp} {a dx : Addr} {o1 o2 o3 : HO} {o : HO} (ha : H a = none) (hd : dx ≠ a) : upd (del (upd (upd (upd H a o1) dx o2) a o3) a) dx o = upd H dx o := by
  funext b
  by_cases h1 : b = dx
  · subst h1
    rw [upd_same, upd_same]
  · rw [upd_ne h1, upd_ne h1]
    by_cases h2 : b = a
    · subst h2
      rw [del_same, ha]
    · rw [del_ne h2, upd_ne h2, upd_ne h1, upd_ne h2]
section
variable {X : Cx} {E : WX} {e : Expr} {es : List Expr} {pos pos2 p : Pos}
theorem d_raise {x : Str} {k : Nat} {fs : List Str} {m : M (List D)} (T : ExcTx X.prog X.w X.K X.mg X.base x k fs) (hr : Room (k + 1) X.A) (hc : X.calm = true) (tk : Takes X E) (hn : es.length + 1 = fs.length) (hf : fs.length ≤ 100) (ha : DA X E (e :: es) m) (hg : Gl X x := by rfl)
    (hl : ∀ s ds s', m s = some (.ok ds s') → ds.length = fs.length) (hdb : (x == ("__debug__" : Str)) = false := by decide)
    (he : starEach (e :: es) X.env = (false, eval e X.env) :: starEach es X.env := by rfl) (hpl : (backTo pos (starEach es X.env)).any (·.1) = false := by rfl) :
    DS X E (.Raise (some (.Call (.Name x p) (e :: es) [] pos)) none pos2) (bnd m (excF x fs)) := by
  obtain ⟨C, fI, fd, ps, h1, h2, h3, h4, h5, h6, h7⟩ := T.ex
  refine PS.weak (ps_raise hc tk (pmk_oex h3 h4 h5 h7 hr h6 .nil (passes_call takes0 fun _ _ _ _ h => h) hg h2 ha hdb he hpl)) fun D σ H ⟨G, F, α, s, R, h⟩ => ?_
  refine ⟨G, F, α, s, R, ?_⟩
  have hb := h.bind
  cases q : m s with
  | none => rw [q] at hb; exact hb.elim
  | some o =>
    rw [q] at hb
    cases o with
    | exc C' fs' s' => exact hb
    | ok ds s1 =>
      intro F1 α1 H1 x1 vs R1 k1
      have hlen := hl s ds s1 q
      have hvl : vs.length = fs.length := by rw [k1.len]; exact hlen
      refine ⟨by omega, fun a hna => ⟨a, vs, by rw [List.append_nil], hvl, upd_same, fun dx hdx ne => ⟨rfl, dx, (fs.zip vs).reverse, upd_same, ?_, ?_, ?_⟩⟩⟩
      · rw [upd_ne ne, upd_same]
      · have z := hdx
        rw [upd_ne ne] at z
        exact z
      · have hdx1 : H1 dx = none := by
          have z := hdx
          rw [upd_ne ne] at z
          exact z
        rw [heap_made hna ne]
        have g := hb F1 α1 H1 x1
        have g : Wp X.K G E F1 α1 (some (.exc x (fs.zip ds).reverse s1)) (pS X.K G D) := g
        have w := g (upd F1 dx (.xd (fs.zip vs).reverse)) α1 (upd H1 dx (.xd (fs.zip vs).reverse)) (some dx) σ (R1.st.immX hdx1 _) ⟨R1.st.imm hdx1 _, R1.len, fun i d e => let ⟨v, h1, h2⟩ := R1.sl i d e; ⟨v, h1, h2.ext (R1.st.immX hdx1 _)⟩⟩
          ⟨(fs.zip vs).reverse, upd_same, by rw [List.map_reverse, List.map_reverse, zip_fst hvl, zip_fst hlen], by
            rw [List.map_reverse, List.map_reverse, zip_snd hvl, zip_snd hlen]
            exact (k1.ext (R1.st.immX hdx1 _)).rev⟩
        rw [h1] at w
        exact w
end
/-! ### try: .. except C as n: .. -/
theorem RelS.gone {K : Frg} {G F H : Hp} {α : List Addr} {σ : L2.St} {s : S} (R : RelS K G F H α σ s) (i : Nat) : RelS K G F H α (σ.set i none) ⟨s.e.set i none, s.s⟩ := by
  refine ⟨R.st, by show (s.e.set i none).length = (σ.set i none).length; rw [List.length_set, List.length_set]; exact R.len, fun j d e => ?_⟩
  have e : (s.e.set i none)[j]? = some (some d) := e
  by_cases q : i = j
  · subst q
    by_cases hl : i < s.e.length
    · rw [List.getElem?_set_self hl] at e
      cases e
    · rw [List.getElem?_eq_none (by rw [List.length_set]; omega)] at e
      cases e
  · rw [List.getElem?_set_ne q] at e
    obtain ⟨v, h1, h2⟩ := R.sl j d e
    exact ⟨v, by rw [List.getElem?_set_ne q]; exact h1, h2⟩
theorem has_exn {K : Frg} {F : Hp} {α : List Addr} {od : Option Addr} {fs : List (Str × D)} (h : ExcAt K F α od fs) (a : Addr) : Has K F α (.ref a) (.exn a od fs) := by
  cases od with
  | none =>
    have e : fs = [] := h
    subst e
    exact .exn0
  | some dd =>
    obtain ⟨xs, h1, h2, h3⟩ := h
    exact .exn h1 h2 h3
/-- behind a suite the error's name is gone -/
def goneO (i : Nat) (o : Option (Out Fl)) : Option (Out Fl) := match o with
  | some (.ok fl s) => some (.ok fl ⟨s.e.set i none, s.s⟩)
  | _ => none
open Classical in
/-- the suite's outcome, whichever objects the error and its dict are -/
noncomputable def suiteO (i : Nat) (mh : Addr → Option Addr → Str → M Fl) (C : Str) (fs : List (Str × D)) (s1 : S) : Option (Out Fl) :=
  if h : ∃ r, ∀ a d, goneO i (mh a d C ⟨s1.e.set i (some (.exn a d fs)), s1.s⟩) = some r then some h.choose else none
theorem suiteO_ev {i : Nat} {mh : Addr → Option Addr → Str → M Fl} {C : Str} {fs : List (Str × D)} {s1 : S} {r : Out Fl} (h : ∀ a d, goneO i (mh a d C ⟨s1.e.set i (some (.exn a d fs)), s1.s⟩) = some r) : suiteO i mh C fs s1 = some r := by
  unfold suiteO
  have hx : ∃ r, ∀ a d, goneO i (mh a d C ⟨s1.e.set i (some (.exn a d fs)), s1.s⟩) = some r := ⟨r, h⟩
  rw [dif_pos hx]
  have e1 := hx.choose_spec 0 none
  rw [h 0 none] at e1
  exact e1.symm
noncomputable def tryA (test : Str → Option Bool) (i : Nat) (mb : M Fl) (mh : Addr → Option Addr → Str → M Fl) : M Fl := fun s => match mb s with
  | some (.exc C fs s1) => (match test C with
    | some true => suiteO i mh C fs s1
    | some false => some (.exc C fs s1)
    | none => none)
  | o => o
section
variable {X : Cx} {E : WX} {x n : Str} {c : Value} {i : Nat} {body suite : List Stmt} {b₀ : Stmt} {np pos pos' : Pos}
theorem d_tryA {test : Str → Option Bool} {mb : M Fl} {mh : Addr → Option Addr → Str → M Fl} (hs : X.stack = X.env :: X.outer) (hf : X.env.frame = some X.env.locals) (hN : X.N.Nodup) (hi : X.N[i]? = some n) (hln : X.env.kindOf n = some .local) (hc : Names X x c) (tk : Takes X E)
    (hT : ∀ C b, test C = some b → PySem.W.exmOne X.K (clsV X.K C) c = some b)
    (hb : ∀ (W : WX) (pn : List (Addr × Obj)) (xe : Value → Shared → Prop), Takes (X.tr pn xe) W → PassesOwn (model X.prog X.w) X.A X.env xe → DSs (X.tr pn xe) W body mb)
    (hsu : ∀ (a : Addr) (oe : Obj) (cls : Value) (d : Option Addr) (pn : List (Addr × Obj)) (C : Str), Zc cls d oe → (∃ vs, oe.data = .fields vs) → cls = clsV X.K C → DSs (X.suite a ((a, oe) :: pn)) W0 (b₀ :: suite) (mh a d C)) :
    DS X E (.Try body [.ExceptHandler (some (.Name x np)) (some n) (b₀ :: suite) pos'] [] [] pos) (tryA test i mb mh) := by
  refine PS.weak (ps_try_as (i := i) (tb := fun W => rS X.K W mb) (ts := fun a cls d D σ H => ∃ C, cls = clsV X.K C ∧ rS X.K W0 (mh a d C) D σ H) (Wout := E) hs hf hN hi hln hc tk hb
    (fun a oe cls d pn hz hf => ⟨fun pins s σ H D I h => ?_⟩)) fun D σ H ⟨G, F, α, s, R, h⟩ => ?_
  · obtain ⟨C, e, h⟩ := h
    exact (hsu a oe cls d pn C hz hf e).run pins s σ H D I h
  · refine ⟨G, F, α, s, R, ?_⟩
    unfold tryA at h
    cases e : mb s with
    | none => simp only [e] at h; exact h.elim
    | some o =>
      simp only [e] at h
      cases o with
      | ok fl s1 => exact h
      | exc C fs s1 =>
        simp only at h
        intro F' α' H' od σ' x' R' ke
        cases et : test C with
        | none => simp only [et] at h; exact h.elim
        | some b =>
          refine ⟨b, hT C b et, fun hb a hna => ?_, fun hb => ?_⟩
          · subst hb
            simp only [et] at h
            unfold suiteO at h
            by_cases hx : ∃ r, ∀ a d, goneO i (mh a d C ⟨s1.e.set i (some (.exn a d fs)), s1.s⟩) = some r
            · rw [dif_pos hx] at h
              have sp := hx.choose_spec a od
              generalize hx.choose = r at h sp
              refine ⟨C, rfl, G, F', α', ⟨s1.e.set i (some (.exn a od fs)), s1.s⟩, R'.set (has_exn ke a) i, ?_⟩
              unfold goneO at sp
              cases em : mh a od C ⟨s1.e.set i (some (.exn a od fs)), s1.s⟩ with
              | none => rw [em] at sp; cases sp
              | some om =>
                rw [em] at sp
                cases om with
                | exc _ _ _ => cases sp
                | ok fl s3 =>
                  cases sp
                  have h : ∀ F'' α'' H'', Ext F α F'' α'' → pS X.K G D F'' α'' H'' fl ⟨s3.e.set i none, s3.s⟩ := h
                  intro F'' α'' H'' x''
                  have q := h F'' α'' H'' (x'.trans x'')
                  cases fl with
                  | nx => exact fun σ2 R2 => q _ (R2.gone i)
                  | rt d => exact fun v R2 k => q v R2 k
                  | bk => exact fun σ2 R2 => q _ (R2.gone i)
                  | ct => exact fun σ2 R2 => q _ (R2.gone i)
            · rw [dif_neg hx] at h
              exact h.elim
          · subst hb
            simp only [et] at h
            exact h F' α' H' od σ' x' R' ke
/-- n.f in the suite -/
def fldM (a : Addr) (d : Option Addr) (ok : Bool) (m : M D) (f : Str) : M D := bnd m fun v => match v with
  | .exn a' d' fs => guard' (ok && decide (a' = a ∧ d' = d)) (match fs.lookup f with
    | some x => ret x
    | none => fail)
  | _ => fail
theorem lookup_has {K : Frg} {F : Hp} {α : List Addr} {f : Str} {d : D} : ∀ {xs : List (Str × V)} {fs : List (Str × D)}, xs.map (·.1) = fs.map (·.1) → HasL K F α (xs.map (·.2)) (fs.map (·.2)) → fs.lookup f = some d → ∃ v, xs.lookup f = some v ∧ Has K F α v d
  | [], [], _, _, h => by cases h
  | [], _ :: _, h, _, _ => by simp at h
  | _ :: _, [], h, _, _ => by simp at h
  | (g, v) :: xs, (g', e) :: fs, h1, h2, h3 => by
    simp only [List.map_cons, List.cons.injEq] at h1
    obtain ⟨rfl, h1⟩ := h1
    cases h2 with
    | cons hv hr =>
      rw [List.lookup_cons] at h3 ⊢
      cases q : f == g with
      | true => simp only [q] at h3 ⊢; cases h3; exact ⟨v, rfl, hv⟩
      | false => simp only [q] at h3 ⊢; exact lookup_has h1 hr h3
theorem d_fld {a : Addr} {oe : Obj} {cls : Value} {d : Option Addr} {pn : List (Addr × Obj)} {e : Expr} {m : M D} {f C0 C : Str} (ec : cls = clsV X.K C) (hC : C = C0 → ∃ Ca : Addr, clsV X.K C0 = .ref Ca ∧ XfC X.K Ca ∧ PySem.W.findIn X.K (.ref Ca) f = some none)
    (hz : Zc cls d oe) (hf : ∃ vs, oe.data = .fields vs) (he : DE (X.suite a ((a, oe) :: pn)) W0 e m) (hb : attributeBase e f X.env (eval e X.env) = eval e X.env := by rfl) :
    DE (X.suite a ((a, oe) :: pn)) W0 (.Attribute e f pos) (fldM a d (decide (C = C0)) m f) := by
  by_cases q : C = C0
  · obtain ⟨Ca, h1, h2, h3⟩ := hC q
    refine PE.weak (pe_xf (te := rE X.K W0 m) h2 h3 hz hf he hb) fun σ H Q ⟨G, F, α, s, R, h⟩ => ?_
    refine ⟨G, F, α, s, R, h.bind.mono fun F1 α1 H1 v s1 x1 h1' u R1 k1 => ?_⟩
    cases v with
    | exn a' d' fs =>
      have h1' : Wp X.K G W0 F1 α1 (guard' (decide (C = C0) && decide (a' = a ∧ d' = d)) (match fs.lookup f with
        | some x => ret x
        | none => fail) s1) (pV X.K G σ Q) := h1'
      obtain ⟨g, h2'⟩ := wp_guard h1'
      rw [Bool.and_eq_true] at g
      obtain ⟨_, g⟩ := g
      have g := of_decide_eq_true g
      obtain ⟨rfl, rfl⟩ := g
      cases ex : fs.lookup f with
      | none => rw [ex] at h2'; exact h2'.elim
      | some x =>
        rw [ex] at h2'
        cases k1 with
        | exn0 => cases ex
        | @exn _ dd xs _ k2 k3 k4 =>
          obtain ⟨v, w1, w2⟩ := lookup_has k3 k4 ex
          refine ⟨rfl, by rw [ec, q]; exact h1, dd, xs, v, rfl, R1.st.ex _ _ k2, w1, ?_⟩
          exact fin h2' R1 w2
    | _ => exact h1'.elim
  · refine ⟨fun pins s σ H Q I h => ?_⟩
    obtain ⟨G, F, α, s', R, h⟩ := h
    have h' : rE X.K W0 m σ H (fun _ _ => False) := ⟨G, F, α, s', R, h.bind.mono fun F1 α1 H1 v s1 x1 h1' u R1 k1 => by
      cases v with
      | exn a' d' fs =>
        have h1' : Wp X.K G W0 F1 α1 (guard' (decide (C = C0) && decide (a' = a ∧ d' = d)) (match fs.lookup f with
          | some x => ret x
          | none => fail) s1) (pV X.K G σ Q) := h1'
        obtain ⟨g, _⟩ := wp_guard h1'
        rw [decide_eq_false q] at g
        cases g
      | _ => exact h1'.elim⟩
    refine attr_of hb (thn (he.run pins s σ H _ I h') fun u s1 hh => ?_)
    obtain ⟨_, _, _, _, z⟩ := hh
    exact z.elim
end
end DL

/-! from DL10.lean -/
set_option Elab.async false
set_option linter.all false
set_option maxRecDepth 100000
set_option maxHeartbeats 2000000
/-! DL10: enumerate over lists and tuples, zip. -/
namespace EnT
open PySem
section
variable {prog : Program} {w : World} {A : Around} {E : Value → Shared → Prop} {s : Shared}
theorem ext_of {h h' : Heap} {it : Addr} (k : Heap.SameBut it h h') {l : Addr} {xs : Array Value} (hl : h.IsTuple l xs) (ne : l ≠ it) : h'.IsTuple l xs := hl.extBut k.extBut ne
/-- a tuple's iterator is drawn from -/
theorem draws (calm : A.handled = none) (it l : Addr) (ne : l ≠ it) (xs : Array Value) :
    Draws prog w A it [it, l] xs.size (fun i v => xs[i]? = some v) (fun i h => h.IsTupleIter it l i ∧ h.IsTuple l xs) := by
  constructor
  · rintro i h ⟨⟨o, ho, _⟩, _⟩
    exact ⟨o, ho⟩
  · rintro i h h' ⟨⟨o, ho, r⟩, ⟨o2, ho2, r2⟩⟩ k
    exact ⟨⟨o, k it (List.mem_cons_self ..) o ho, r⟩, ⟨o2, k l (List.mem_cons_of_mem _ (List.mem_cons_self ..)) o2 ho2, r2⟩⟩
  · rintro i s Q E hi ⟨t1, t2⟩ hQ
    have hx : xs[i]? = some xs[i] := Array.getElem?_eq_getElem hi
    exact RZ.nextOf_tuple_item t1 t2 hx fun h' n1 k => hQ _ h' s.toks hx ⟨n1, ext_of k t2 ne⟩ k
  · rintro s Q E ⟨t1, t2⟩ hE
    exact RZ.nextOf_tuple_end calm t1 t2 (Array.getElem?_eq_none (Nat.le_refl _)) hE
/-- .. and is at its end -/
theorem drawsE (calm : A.handled = none) (it l : Addr) (xs : Array Value) (n : Nat) (hn : xs.size ≤ n) :
    Draws prog w A it [it, l] n (fun _ _ => True) (fun i h => h.IsTupleIter it l i ∧ h.IsTuple l xs ∧ i = n) := by
  constructor
  · rintro i h ⟨⟨o, ho, _⟩, _⟩
    exact ⟨o, ho⟩
  · rintro i h h' ⟨⟨o, ho, r⟩, ⟨o2, ho2, r2⟩, z⟩ k
    exact ⟨⟨o, k it (List.mem_cons_self ..) o ho, r⟩, ⟨o2, k l (List.mem_cons_of_mem _ (List.mem_cons_self ..)) o2 ho2, r2⟩, z⟩
  · rintro i s Q E hi ⟨_, _, z⟩ hQ
    omega
  · rintro s Q E ⟨t1, t2, _⟩ hE
    exact RZ.nextOf_tuple_end calm t1 t2 (Array.getElem?_eq_none hn) hE
abbrev itO (l : Addr) : Obj := { cls := .type "tuple_iterator", data := .fields #[.ref l, .int 0 0] }
abbrev enO (it : Addr) : Obj := { cls := .type "enumerate", data := .fields #[.none, .bool false, .ref it, rawInt 0, .none, .none] }
theorem load_tup {l : Addr} {xs : Array Value} (hl : s.heap.IsTuple l xs) : ∃ o, s.heap.get? l = some o := let ⟨o, ho, _⟩ := hl; ⟨o, ho⟩
theorem meets_new (l : Addr) (xs : Array Value) (o : Obj) :
    Meets (Builtin.«enumerate.__new__» ⟨[.type "enumerate", .ref l], []⟩) (fun _ R s => s.heap.get? l = some o ∧ s.heap.IsTuple l xs ∧
      R (.ok (.ret (.ref (s.heap.push (itO l)).objs.size))) { s with heap := (s.heap.push (itO l)).push (enO s.heap.objs.size) }) := by
  refine .of_wp fun prog w A R s h => ?_
  obtain ⟨hp, g, d, tk, os⟩ := s
  obtain ⟨ho, hl, h⟩ := h
  have isub := sub_enumerate
  have hT : Heap.IsTuple (Shared.heap ⟨hp, g, d, tk, os⟩) l xs := hl
  wp_walk using AutoSeq1.wpAny_loadPart' ho
  refine wpAny_stack_any fun st => wpAny_pure ?_
  split
  · rename_i c _ _ _ _ _
    cases (c == Value.type "enumerate") <;> (wp_walk using AutoSeq1.wpAny_loadPart' ho, wpAny_pyIter_tuple hT; exact ⟨_, rfl, h⟩)
  · wp_walk using AutoSeq1.wpAny_loadPart' ho, wpAny_pyIter_tuple hT
    exact ⟨_, rfl, h⟩
theorem call_new {l : Addr} {xs : Array Value} {Q : Value → Shared → Prop} (hl : s.heap.IsTuple l xs)
    (h : ∀ h', IsEnum h' (s.heap.objs.size + 1) s.heap.objs.size 0 .none → h'.IsTupleIter s.heap.objs.size l 0 → (∀ b o, s.heap.get? b = some o → h'.get? b = some o) → Q (.ref (s.heap.objs.size + 1)) { s with heap := h' }) :
    wpAny (model prog w) A (call (.type "enumerate") [.ref l]) Q E s := by
  obtain ⟨o, ho⟩ := load_tup hl
  have size1 : (s.heap.push (itO l)).objs.size = s.heap.objs.size + 1 := Heap.size_push ..
  have en : ((s.heap.push (itO l)).push (enO s.heap.objs.size)).get? (s.heap.objs.size + 1) = some (enO s.heap.objs.size) := by
    rw [← size1]
    exact Heap.get?_push_size _ rfl
  have itr : ((s.heap.push (itO l)).push (enO s.heap.objs.size)).get? s.heap.objs.size = some (itO l) := Heap.get?_push_of_some _ (Heap.get?_push_size _ rfl)
  refine callType_new F.called_enumerate (by decide) (F.typeCall_enumerate_1 _) (F.newCall_enumerate_1 _) (fun obj => F.args_object_init_2 obj _) F.entry_enumerate_new (meets_new l xs o) ⟨ho, hl, ?_⟩
  show _ ∧ _
  rw [size1]
  exact ⟨⟨_, en, rfl⟩, h _ en ⟨_, itr, rfl, rfl⟩ fun b u x => Heap.get?_push_of_some _ (Heap.get?_push_of_some _ x)⟩
end
open L2 PyProof.Rows
/-- the tuple at a, each item in a new pair -/
def IteT (K : PySem.W.Frag) (a : Addr) : It where
  go := fun i H => ∃ (xs : List V) (x : V), SqT K H a xs ∧ xs[i]? = some x
  yld := fun i H v H' => ∃ T x, v = .ref T ∧ H T = none ∧ H' = upd H T (.tup [.int (i : Nat), x]) ∧ ∀ xs, SqT K H a xs → xs[i]? = some x
  stop := fun i H => ∃ xs : List V, SqT K H a xs ∧ xs.length ≤ i
theorem two {b e it : Addr} (h : b ∈ [e, it]) : b = e ∨ b = it := by
  rcases List.mem_cons.mp h with q | q
  · exact .inl q
  · exact .inr (List.mem_singleton.mp q)
theorem turn {P : Program} {w : World} {K : PySem.W.Frag} {elts : List Expr} {kk : Nat} {tpos : Pos} (a e it : Addr) :
    Turn P w K (.Tuple elts kk tpos) (IteT K a) [e, it] e (fun i h => (∃ old, IsEnum h e it ((i : Nat) : Int) old) ∧ h.IsTupleIter it a i ∧ e ≠ it ∧ a ≠ it ∧ a ≠ e) where
  mem := List.mem_cons_self ..
  obj := by
    rintro i h ⟨⟨old, he⟩, ⟨o, ho, hc, hd⟩, _⟩ b hb
    rcases two hb with rfl | rfl
    · exact ⟨_, he, fun v q => by cases q⟩
    · refine ⟨o, ho, fun v q => ?_⟩
      rw [hd] at q
      cases q
  keep := by
    rintro i h h' ⟨⟨old, he⟩, ⟨o, ho, r⟩, ne⟩ k
    exact ⟨⟨old, k e (List.mem_cons_self ..) _ he⟩, ⟨o, k it (List.mem_cons_of_mem _ (List.mem_cons_self ..)) o ho, r⟩, ne⟩
  item := by
    rintro X rfl rfl rfl calm i pins s σ H E I hf ⟨⟨old, he⟩, hit, ne, na, nae⟩ ⟨xs, x, hq, hx⟩
    obtain ⟨its, rv, p, hz⟩ := I.tuple hq
    obtain ⟨u, hu, ru⟩ := rv.get hx
    have le : e < s.heap.objs.size := Heap.lt_size he
    have li : it < s.heap.objs.size := by
      obtain ⟨o, ho, _⟩ := hit
      exact Heap.lt_size ho
    have hlt : i < its.toArray.size := by
      have := (List.getElem?_eq_some_iff.mp hu).1
      simpa using this
    have Dr := draws (prog := X.prog) (w := X.w) (A := X.A.in1) (I.ok.hd calm) it a na its.toArray
    refine wpAny_pyNext_enum_itemD Dr he ⟨hit, p⟩ hlt ne (fun q => (two q).elim (fun z => ne z) (fun z => nae z.symm)) fun u' h' tk hu' ho' st' hT hsz hk => ?_
    obtain rfl : u' = u := by
      have hu' : its.toArray[i]? = some u' := hu'
      rw [List.getElem?_toArray, hu] at hu'
      cases hu'
      rfl
    refine ⟨_, rfl, wpAny_letOwnedTupleGo_enum (s := { s with heap := h', toks := tk + 1 }) ho' fun h'' he' sb => ?_⟩
    have hT2 : h''.get? s.heap.objs.size = some { cls := .type "tuple", data := .seq #[.int i tk, u'] } := (sb.2 _ (Nat.ne_of_gt le)).trans hT
    have fresh : ObjOk X.prog X.w (upd H s.heap.objs.size (.tup [.int (i : Nat), x])) h'' s.heap.objs.size (.tup [.int (i : Nat), x]) :=
      ⟨by show 2 ≤ sizeLine; rw [sizeLine_eq]; decide, [.int i tk, u'], .cons ⟨_, rfl⟩ (.cons ru .nil), _, hT2, rfl, _, rfl⟩
    have J : Inv X pins σ (upd H s.heap.objs.size (.tup [.int (i : Nat), x])) { s with heap := h'', toks := tk + 1 } := by
      refine I.turnedNew (t' := tk + 1) (ch := [e, it]) (fun b ob hb q => ?_) hf (Nat.le_refl _) fresh
      have b1 : b ≠ e := fun z => hb (z ▸ List.mem_cons_self ..)
      have b2 : b ≠ it := fun z => hb (z ▸ List.mem_cons_of_mem _ (List.mem_cons_self ..))
      exact (sb.2 b b1).trans (hk b ob b1 b2 q)
    refine ⟨.ref s.heap.objs.size, _, J, rfl, ⟨_, x, rfl, I.hok.fresh (Nat.le_refl _), rfl, fun ys hy => by rw [I.tuple_inj hy hq]; exact hx⟩, ⟨⟨u', ?_⟩, ?_, ne, na, nae⟩, fun b hb => ?_⟩
    · rw [show ((i + 1 : Nat) : Int) = (i : Int) + 1 by omega]
      exact he'
    · obtain ⟨⟨o, h1, r⟩, _⟩ := st'
      exact ⟨o, (sb.2 it (Ne.symm ne)).trans h1, r⟩
    · have lb : b < s.heap.objs.size := (two hb).elim (fun z => z ▸ le) fun z => z ▸ li
      rw [upd_ne (Nat.ne_of_lt lb)]
      exact (hf b hb).1
  done := by
    rintro X rfl rfl rfl calm i pins s σ H E I hf ⟨⟨old, he⟩, hit, ne, na, nae⟩ ⟨xs, hq, hx⟩
    obtain ⟨its, rv, p, hz⟩ := I.tuple hq
    obtain ⟨f0, f1, f2, f3, f4, f5⟩ := hf it (List.mem_cons_of_mem _ (List.mem_cons_self ..))
    have len := rv.length
    have Dr := drawsE (prog := X.prog) (w := X.w) (A := X.A.in1) (I.ok.hd calm) it a its.toArray i (by rw [List.size_toArray]; omega)
    exact wpAny_pyNext_enum_endD Dr he ⟨hit, p, rfl⟩ fun h' eb => ⟨rfl, I.turned (t' := s.toks) (fun b o hb q => eb b o hb q) f0 f1 f3 f4 f5⟩
  self := by
    rintro A i s Q E ⟨⟨_, he⟩, _⟩ h
    exact wpAny_pyIter_enum he h
def iEnumA (K : PySem.W.Frag) (ta : TA) : TI := fun σ H R => ta σ H fun vs H1 => ∃ a xs, vs = [.ref a] ∧ ((SqL K H1 a xs ∧ R (Ite K a) H1) ∨ (SqT K H1 a xs ∧ R (IteT K a) H1))
theorem pi_enumA {X : Cx} {e : Expr} {ta : TA} {p pos tpos : Pos} {elts : List Expr} {kk : Nat} (hg : Gl X "enumerate") (hm : X.mg "enumerate" = none) (ha : PA X [e] ta) (hs : starEach [e] X.env = [(false, eval e X.env)] := by rfl) :
    PI X (.Tuple elts kk tpos) (.Call (.Name "enumerate" p) [e] [] pos) (iEnumA X.K ta) := by
  refine ⟨fun pins s σ H R I h => Call_ (ld_blt I hg hm boot_enumerate (PyProof.Rows.callWith_type1 (thn (ha.run pos pins s σ H _ I h) fun us s1 hh => ?_) hs rfl))⟩
  obtain ⟨vs, H1, I1, r1, a, xs, ex, q⟩ := hh
  subst ex
  cases r1 with
  | cons r rr =>
    cases rr
    cases r
    have new2 : ∀ b, b ∈ [s1.heap.objs.size + 1, s1.heap.objs.size] → FpOk X pins H1 b := fun b hb => by
      have le : s1.heap.objs.size ≤ b := (two hb).elim (fun z => by rw [z]; exact Nat.le_succ _) fun z => by rw [z]; exact Nat.le_refl _
      exact I1.fpOk le (I1.hok.fresh le)
    rcases q with ⟨hq, q⟩ | ⟨hq, q⟩
    · obtain ⟨its, rv, p', hz⟩ := I1.list hq
      refine call_enumerate_list p'.isList fun h' he hit hsz hk => wpAny_pyIter_enum he ?_
      exact ⟨_, _, _, _, H1, rfl, I1.kept (t' := s1.toks) hk, turn_enum a (s1.heap.objs.size + 1) s1.heap.objs.size, ⟨⟨.none, he⟩, hit, Nat.succ_ne_self _⟩, new2, q⟩
    · obtain ⟨its, rv, p', hz⟩ := I1.tuple hq
      have la : a < s1.heap.objs.size := by
        obtain ⟨o, ho, _⟩ := id p'
        exact Heap.lt_size ho
      refine call_new p' fun h' he hit hk => wpAny_pyIter_enum he ?_
      exact ⟨_, _, _, _, H1, rfl, I1.kept (t' := s1.toks) hk, turn a (s1.heap.objs.size + 1) s1.heap.objs.size, ⟨⟨.none, he⟩, hit, Nat.succ_ne_self _, Nat.ne_of_lt la, Nat.ne_of_lt (Nat.lt_succ_of_lt la)⟩, new2, q⟩
end EnT
namespace DL
open PySem L2
section
variable {X : Cx} {E : WX} {e e2 : Expr} {pos tpos p : Pos}
def enumL (ds : List D) : List D := ds.mapIdx fun i d => .tup [.int (i : Nat), d]
/-- a new pair is a fact from then on -/
theorem pair_fact {K : Frg} {F1 H : Hp} {α1 : List Addr} {T : Addr} {vs : List V} {ds : List D} (e : Same F1 H) (hT : H T = none) (k : HasL K F1 α1 vs ds) :
    ∃ F2, Ext F1 α1 F2 α1 ∧ (∀ G σ s, RelS K G F1 H α1 σ s → RelS K G F2 (upd H T (.tup vs)) α1 σ s) ∧ Has K F2 α1 (.ref T) (.tup ds) := by
  have x : Ext F1 α1 (upd F1 T (.tup vs)) α1 := ⟨same_upd (e.free hT), List.prefix_refl α1⟩
  exact ⟨_, x, fun G σ s R => R.imm hT _, .tup (.inl (.inl upd_same)) (k.ext x)⟩
theorem walks_enL {K : Frg} {F : Hp} {α : List Addr} {a : Addr} {xs : List V} {ds : List D} (h : SqL K F a xs) (k : HasL K F α xs ds) : Walks K F α (Ite K a) (enumL ds) := by
  intro i F1 H α1 x e
  have h1 : SqL K H a xs := e.seq (x.f.seq h)
  refine ⟨fun d q => ?_, fun q => ⟨xs, h1, by rw [k.len]; simpa [enumL] using q⟩⟩
  unfold enumL at q
  rw [List.getElem?_mapIdx] at q
  obtain ⟨d0, w, rfl⟩ := Option.map_eq_some_iff.mp q
  obtain ⟨v, q1, q2⟩ := k.get w
  refine ⟨⟨xs, v, h1, q1⟩, fun y H' z => ?_⟩
  obtain ⟨T, x0, rfl, hT, rfl, z⟩ := z
  have z := z xs h1
  rw [q1] at z
  cases z
  exact pair_fact e hT (.cons (.int _) (.cons (q2.ext x) .nil))
theorem walks_enT {K : Frg} {F : Hp} {α : List Addr} {a : Addr} {xs : List V} {ds : List D} (h : SqT K F a xs) (k : HasL K F α xs ds) : Walks K F α (EnT.IteT K a) (enumL ds) := by
  intro i F1 H α1 x e
  have h1 : SqT K H a xs := sqT_seq e (sqT_seq x.f h)
  refine ⟨fun d q => ?_, fun q => ⟨xs, h1, by rw [k.len]; simpa [enumL] using q⟩⟩
  unfold enumL at q
  rw [List.getElem?_mapIdx] at q
  obtain ⟨d0, w, rfl⟩ := Option.map_eq_some_iff.mp q
  obtain ⟨v, q1, q2⟩ := k.get w
  refine ⟨⟨xs, v, h1, q1⟩, fun y H' z => ?_⟩
  obtain ⟨T, x0, rfl, hT, rfl, z⟩ := z
  have z := z xs h1
  rw [q1] at z
  cases z
  exact pair_fact e hT (.cons (.int _) (.cons (q2.ext x) .nil))
def enumF (ds : List D) : M (List D) := match ds with
  | [d] => (match seqF d with
    | some (_, xs) => ret (enumL xs)
    | none => fail)
  | _ => fail
def enumerateI (n : M (List D)) : M (List D) := bnd n enumF
theorem i_enumerate {elts : List Expr} {kk : Nat} {n : M (List D)} (hm : X.mg "enumerate" = none) (ha : DA X E [e] n) (hg : Gl X "enumerate" := by rfl) (hs : starEach [e] X.env = [(false, eval e X.env)] := by rfl) :
    DI X E (.Tuple elts kk tpos) (.Call (.Name "enumerate" p) [e] [] pos) (enumerateI n) := by
  refine PI.weak (EnT.pi_enumA hg hm ha hs) fun σ H Q ⟨G, F, α, s, R, h⟩ => ?_
  refine ⟨G, F, α, s, R, h.bind.mono fun F1 α1 H1 ds s1 x1 h1 vs R1 k1 => ?_⟩
  match ds, k1 with
  | [d], .cons k .nil =>
    have h1 : Wp X.K G E F1 α1 ((match seqF d with
      | some (_, xs) => ret (enumL xs)
      | none => fail : M (List D)) s1) (pI X.K G σ Q) := h1
    cases q : seqF d with
    | none => rw [q] at h1; exact h1.elim
    | some bx =>
      obtain ⟨b, xs⟩ := bx
      rw [q] at h1
      obtain ⟨a, ys, rfl, hl, w1, w2⟩ := seqF_at k q
      have fin : ∀ J, Walks X.K F1 α1 J (enumL xs) → Q J H1 := h1 F1 α1 H1 (Ext.refl _ _) R1
      refine ⟨a, ys, rfl, ?_⟩
      cases b with
      | true => exact .inl ⟨R1.st.ex.seq (w1 rfl), fin _ (walks_enL (w1 rfl) hl)⟩
      | false => exact .inr ⟨sqT_seq R1.st.ex (w2 rfl), fin _ (walks_enT (w2 rfl) hl)⟩
  | [], _ => exact h1.elim
  | _ :: _ :: _, _ => exact h1.elim
end
end DL

/-! from DL11.lean -/
set_option Elab.async false
set_option linter.all false
set_option maxRecDepth 100000
set_option maxHeartbeats 2000000
/-! DL11: zip of a list or tuple with a list or tuple. -/
namespace ZpT
open PySem
section
variable {prog : Program} {w : World} {A : Around} {E : Value → Shared → Prop} {s : Shared}
variable {z TI TO i1 i2 l1 l2 : Addr} {n1 n2 k1 k2 : Nat} {P1 P2 : Nat → Value → Prop} {S1 S2 : Nat → Heap → Prop} {a b : Value}
/-- kept where another object alone changes -/
theorem fr {it l : Addr} {n : Nat} {Pp : Nat → Value → Prop} {St : Nat → Heap → Prop} (Dr : Draws prog w A it [it, l] n Pp St) {i : Nat} {h h' : Heap} {c : Addr} (k : Heap.ExtBut c h h') (c1 : it ≠ c) (c2 : l ≠ c) (t : St i h) : St i h' :=
  Dr.frame i h h' t fun u hu o e => (EnT.two hu).elim (fun q => k u o (q ▸ c1) e) fun q => k u o (q ▸ c2) e
theorem nx_item {Q : Value → Shared → Prop} (D1 : Draws prog w A i1 [i1, l1] n1 P1 S1) (D2 : Draws prog w A i2 [i2, l2] n2 P2 S2) (D : ZipApart z TI TO i1 i2 l1 l2)
    (z0 : IsZip s.heap z TI TO .none) (p0 : IsPair s.heap TI (.ref i1) (.ref i2)) (o0 : IsPair s.heap TO a b) (t1 : S1 k1 s.heap) (t2 : S2 k2 s.heap) (lt1 : k1 < n1) (lt2 : k2 < n2)
    (hQ : ∀ g tk x y, P1 k1 x → P2 k2 y → IsZip g z TI TO (rawInt s.heap.objs.size) → IsPair g TO x y → S1 (k1 + 1) g → S2 (k2 + 1) g → IsPair g s.heap.objs.size x y →
      (∀ c o, c ≠ z → c ≠ TO → c ≠ i1 → c ≠ i2 → s.heap.get? c = some o → g.get? c = some o) → Q (.ref s.heap.objs.size) { s with heap := g, toks := tk }) :
    wpAny (model prog w) A (Builtin.«zip.__next__» ⟨[.ref z], []⟩) (fun fin s' => ∃ v, fin = .done (.ret v) ∧ Q v s') E s := by
  show wpAny _ _ (field (.ref z) 2 >>= _) _ _ _
  refine wpAny_bind (wpAny_field z0 rfl (x := .bool false) rfl ?_); show wpAny _ _ (field (.ref z) 3 >>= _) _ _ _
  refine wpAny_bind (wpAny_field z0 rfl (x := .ref TI) rfl (wpAny_bind (wpAny_seqItems p0 rfl ?_))); show wpAny _ _ (Builtin.SmallTypes.ownedTupleIsFree (.ref z) >>= _) _ _ _
  refine wpAny_bind ?_; unfold Builtin.SmallTypes.ownedTupleIsFree
  refine wpAny_bind (wpAny_field z0 rfl (x := .none) rfl (wpAny_pure ?_)); simp only [if_true]
  refine wpAny_bind (wpAny_rule (wpAny_bind (wpAny_field z0 rfl (x := .ref TO) rfl (wpAny_bind (wpAny_setField_rec z0 (by simp) fun g1 z1 b1 => ?_)))))
  replace z1 : IsZip g1 z TI TO .ellipsis := z1
  refine wpAny_bind ?_; simp only [List.zipIdx_cons, List.zipIdx_nil, List.forIn_cons, List.forIn_nil]
  refine wpAny_bind (wpAny_bind (wpAny_onRaise ?_)); show wpAny _ _ (Builtin.SmallTypes.nextOf (.ref i1) >>= _) _ _ _
  refine wpAny_bind (D1.item k1 _ _ _ lt1 (fr D1 b1.extBut D.i1z D.l1z t1) fun x g2 tk2 px t1' b2 => wpAny_pure ?_)
  have o2 : IsPair g2 TO a b := b2.extBut _ _ D.TOi1 (b1.extBut _ _ D.TOz o0)
  refine wpAny_bind (wpAny_seqItems o2 rfl (wpAny_bind (wpAny_updateSeq_pair o2 fun g3 o3 b3 => ?_)))
  replace o3 : IsPair g3 TO x b := o3
  refine wpAny_bind (wpAny_letGo (wpAny_pure ?_))
  refine wpAny_bind (wpAny_bind (wpAny_onRaise ?_)); show wpAny _ _ (Builtin.SmallTypes.nextOf (.ref i2) >>= _) _ _ _
  have t2' : S2 k2 g3 := fr D2 b3.extBut D.TOi2.symm D.l2TO (fr D2 b2.extBut D.i12.symm D.l2i1 (fr D2 b1.extBut D.i2z D.l2z t2))
  refine wpAny_bind (D2.item k2 _ _ _ lt2 t2' fun y g4 tk4 py t2n b4 => wpAny_pure ?_)
  have o4 : IsPair g4 TO x b := b4.extBut _ _ D.TOi2 o3
  refine wpAny_bind (wpAny_seqItems o4 rfl (wpAny_bind (wpAny_updateSeq_pair o4 fun g5 o5 b5 => ?_)))
  replace o5 : IsPair g5 TO x y := o5
  refine wpAny_bind (wpAny_letGo (wpAny_pure (wpAny_pure ?_)))
  refine wpAny_bind (wpAny_seqItems o5 rfl (wpAny_bind (wpAny_newTuple ?_)))
  have sz : g5.objs.size = s.heap.objs.size := by rw [b5.1, b4.1, b3.1, b2.1, b1.1]
  have z5 : IsZip g5 z TI TO .ellipsis := b5.extBut _ _ D.TOz.symm (b4.extBut _ _ D.i2z.symm (b3.extBut _ _ D.TOz.symm (b2.extBut _ _ D.i1z.symm z1)))
  have old : ∀ c o, c ≠ z → c ≠ TO → c ≠ i1 → c ≠ i2 → s.heap.get? c = some o → g5.get? c = some o := fun c o q1 q2 q3 q4 e => b5.extBut _ _ q2 (b4.extBut _ _ q4 (b3.extBut _ _ q2 (b2.extBut _ _ q3 (b1.extBut _ _ q1 e))))
  have u1 : S1 (k1 + 1) g5 := fr D1 b5.extBut D.TOi1.symm D.l1TO (fr D1 b4.extBut D.i12 D.l1i2 (fr D1 b3.extBut D.TOi1.symm D.l1TO t1'))
  have u2 : S2 (k2 + 1) g5 := fr D2 b5.extBut D.TOi2.symm D.l2TO t2n
  have zlt : z < g5.objs.size := Heap.lt_size z5
  show wpAny _ _ (Builtin.SmallTypes.ownedTupleHandOut (.ref z) (.ref g5.objs.size) >>= _) _ _ _
  refine wpAny_bind ?_; unfold Builtin.SmallTypes.ownedTupleHandOut
  have z6 : IsZip (g5.push { cls := .type "tuple", data := .seq #[x, y] }) z TI TO .ellipsis := Heap.get?_push_of_some _ z5
  refine wpAny_bind (wpAny_setField_rec z6 (by simp) fun g7 z7 b7 => ?_)
  replace z7 : IsZip g7 z TI TO (rawInt g5.objs.size) := z7
  refine wpAny_setField_rec z7 (by simp) fun g8 z8 b8 => ?_
  replace z8 : IsZip g8 z TI TO (rawInt g5.objs.size) := z8
  have up : ∀ c o, c ≠ z → g5.get? c = some o → g8.get? c = some o := fun c o q e => b8.extBut _ _ q (b7.extBut _ _ q (Heap.get?_push_of_some _ e))
  have pr : IsPair g8 g5.objs.size x y := b8.extBut _ _ (Nat.ne_of_gt zlt) (b7.extBut _ _ (Nat.ne_of_gt zlt) (Heap.get?_push_size _ rfl))
  have v1 : S1 (k1 + 1) g8 := fr D1 (c := z) (fun c o q e => up c o q e) D.i1z D.l1z u1
  have v2 : S2 (k2 + 1) g8 := fr D2 (c := z) (fun c o q e => up c o q e) D.i2z D.l2z u2
  rw [sz] at z8 pr
  refine wpAny_pure ⟨_, rfl, ?_⟩
  show Q (.ref g5.objs.size) _
  rw [sz]
  exact hQ g8 tk4 x y px py z8 (up _ _ D.TOz o5) v1 v2 pr fun c o q1 q2 q3 q4 e => up c o q1 (old c o q1 q2 q3 q4 e)
theorem nx_end {Q : Fin → Shared → Prop} (D1 : Draws prog w A i1 [i1, l1] n1 P1 S1) (D2 : Draws prog w A i2 [i2, l2] n2 P2 S2) (D : ZipApart z TI TO i1 i2 l1 l2)
    (z0 : IsZip s.heap z TI TO .none) (p0 : IsPair s.heap TI (.ref i1) (.ref i2)) (o0 : IsPair s.heap TO a b) (t1 : S1 k1 s.heap) (t2 : S2 k2 s.heap) (over : k1 = n1 ∨ (k1 < n1 ∧ k2 = n2))
    (hE : ∀ g e tk, (∀ c o, c ≠ z → c ≠ TO → c ≠ i1 → c ≠ i2 → s.heap.get? c = some o → g.get? c = some o) → (∃ o, g.get? e = some o ∧ o.cls = .type "StopIteration") → E (.ref e) { s with heap := g, toks := tk }) :
    wpAny (model prog w) A (Builtin.«zip.__next__» ⟨[.ref z], []⟩) Q E s := by
  show wpAny _ _ (field (.ref z) 2 >>= _) _ _ _
  refine wpAny_bind (wpAny_field z0 rfl (x := .bool false) rfl ?_); show wpAny _ _ (field (.ref z) 3 >>= _) _ _ _
  refine wpAny_bind (wpAny_field z0 rfl (x := .ref TI) rfl (wpAny_bind (wpAny_seqItems p0 rfl ?_))); show wpAny _ _ (Builtin.SmallTypes.ownedTupleIsFree (.ref z) >>= _) _ _ _
  refine wpAny_bind ?_; unfold Builtin.SmallTypes.ownedTupleIsFree
  refine wpAny_bind (wpAny_field z0 rfl (x := .none) rfl (wpAny_pure ?_)); simp only [if_true]
  refine wpAny_bind (wpAny_rule (wpAny_bind (wpAny_field z0 rfl (x := .ref TO) rfl (wpAny_bind (wpAny_setField_rec z0 (by simp) fun g1 z1 b1 => ?_)))))
  replace z1 : IsZip g1 z TI TO .ellipsis := z1
  refine wpAny_bind ?_; simp only [List.zipIdx_cons, List.zipIdx_nil, List.forIn_cons, List.forIn_nil]
  refine wpAny_bind (wpAny_bind (wpAny_onRaise ?_)); show wpAny _ _ (Builtin.SmallTypes.nextOf (.ref i1) >>= _) _ _ _
  rcases over with rfl | ⟨lt1, rfl⟩
  · refine wpAny_bind (D1.done _ _ _ (fr D1 b1.extBut D.i1z D.l1z t1) fun g2 e b2 he => ?_)
    obtain ⟨oe, h1, h2⟩ := he
    have z2 : IsZip g2 z TI TO .ellipsis := b2 _ _ D.i1z.symm z1
    have ne : e ≠ z := fun q => by
      subst q
      rw [z2] at h1
      cases h1
      simp at h2
    refine wpAny_setField_rec z2 (by simp) fun g3 _ b3 => hE g3 e s.toks (fun c o q1 _ q3 _ x => b3.extBut _ _ q1 (b2 _ _ q3 (b1.extBut _ _ q1 x))) ⟨oe, b3.extBut _ _ ne h1, h2⟩
  · refine wpAny_bind (D1.item k1 _ _ _ lt1 (fr D1 b1.extBut D.i1z D.l1z t1) fun x g2 tk2 px t1' b2 => wpAny_pure ?_)
    have o2 : IsPair g2 TO a b := b2.extBut _ _ D.TOi1 (b1.extBut _ _ D.TOz o0)
    refine wpAny_bind (wpAny_seqItems o2 rfl (wpAny_bind (wpAny_updateSeq_pair o2 fun g3 o3 b3 => ?_)))
    refine wpAny_bind (wpAny_letGo (wpAny_pure ?_))
    refine wpAny_bind (wpAny_bind (wpAny_onRaise ?_)); show wpAny _ _ (Builtin.SmallTypes.nextOf (.ref i2) >>= _) _ _ _
    have t2' : S2 k2 g3 := fr D2 b3.extBut D.TOi2.symm D.l2TO (fr D2 b2.extBut D.i12.symm D.l2i1 (fr D2 b1.extBut D.i2z D.l2z t2))
    refine wpAny_bind (D2.done _ _ _ t2' fun g4 e b4 he => ?_)
    obtain ⟨oe, h1, h2⟩ := he
    have z4 : IsZip g4 z TI TO .ellipsis := b4 _ _ D.i2z.symm (b3.extBut _ _ D.TOz.symm (b2.extBut _ _ D.i1z.symm z1))
    have ne : e ≠ z := fun q => by
      subst q
      rw [z4] at h1
      cases h1
      simp at h2
    refine wpAny_setField_rec z4 (by simp) fun g5 _ b5 => hE g5 e tk2 (fun c o q1 q2 q3 q4 x => b5.extBut _ _ q1 (b4 _ _ q4 (b3.extBut _ _ q2 (b2.extBut _ _ q3 (b1.extBut _ _ q1 x))))) ⟨oe, b5.extBut _ _ ne h1, h2⟩
theorem py_item {Q : Option Value → Shared → Prop} (D1 : Draws prog w A.in1 i1 [i1, l1] n1 P1 S1) (D2 : Draws prog w A.in1 i2 [i2, l2] n2 P2 S2) (D : ZipApart z TI TO i1 i2 l1 l2)
    (z0 : IsZip s.heap z TI TO .none) (p0 : IsPair s.heap TI (.ref i1) (.ref i2)) (o0 : IsPair s.heap TO a b) (t1 : S1 k1 s.heap) (t2 : S2 k2 s.heap) (lt1 : k1 < n1) (lt2 : k2 < n2)
    (hQ : ∀ g tk x y, P1 k1 x → P2 k2 y → IsZip g z TI TO (rawInt s.heap.objs.size) → IsPair g TO x y → S1 (k1 + 1) g → S2 (k2 + 1) g → IsPair g s.heap.objs.size x y →
      (∀ c o, c ≠ z → c ≠ TO → c ≠ i1 → c ≠ i2 → s.heap.get? c = some o → g.get? c = some o) → Q (some (.ref s.heap.objs.size)) { s with heap := g, toks := tk }) :
    wpAny (model prog w) A (pyNext (.ref z)) Q E s := by
  have ty : s.TypeIs (.ref z) "zip" := ⟨_, z0, rfl⟩
  unfold pyNext
  exact wpAny_bind (wpAny_attempt (wpAny_callSpecial?_slot (name := Str.ofString "__next__") ty F.slot_zip_next (wpAny_call_entry F.slot_zip_next ty F.entry_zip_next
    (nx_item D1 D2 D z0 p0 o0 t1 t2 lt1 lt2 fun g tk x y q1 q2 q3 q4 q5 q6 q7 q8 => wpAny_pure (hQ g tk x y q1 q2 q3 q4 q5 q6 q7 q8)) (F.args_zip_next_1 _))))
theorem py_end {Q : Option Value → Shared → Prop} (D1 : Draws prog w A.in1 i1 [i1, l1] n1 P1 S1) (D2 : Draws prog w A.in1 i2 [i2, l2] n2 P2 S2) (D : ZipApart z TI TO i1 i2 l1 l2)
    (z0 : IsZip s.heap z TI TO .none) (p0 : IsPair s.heap TI (.ref i1) (.ref i2)) (o0 : IsPair s.heap TO a b) (t1 : S1 k1 s.heap) (t2 : S2 k2 s.heap) (over : k1 = n1 ∨ (k1 < n1 ∧ k2 = n2))
    (hQ : ∀ g tk, (∀ c o, c ≠ z → c ≠ TO → c ≠ i1 → c ≠ i2 → s.heap.get? c = some o → g.get? c = some o) → Q none { s with heap := g, toks := tk }) :
    wpAny (model prog w) A (pyNext (.ref z)) Q E s := by
  have ty : s.TypeIs (.ref z) "zip" := ⟨_, z0, rfl⟩
  unfold pyNext
  refine wpAny_bind (wpAny_attempt (wpAny_callSpecial?_slot (name := Str.ofString "__next__") ty F.slot_zip_next (wpAny_call_entry F.slot_zip_next ty F.entry_zip_next
    (nx_end D1 D2 D z0 p0 o0 t1 t2 over fun g e tk k he => ?_) (F.args_zip_next_1 _))))
  obtain ⟨o, ho, hc⟩ := he
  exact wpAny_bind (wpAny_isInstance (T := "StopIteration") (b := true) ⟨o, ho, hc⟩ isSubtype_stop (wpAny_pure (hQ g tk k)))
end
/-! lists (true) and tuples (false) as one -/
def ItS (b : Bool) (h : Heap) (it l : Addr) (i : Nat) : Prop := match b with
  | true => h.IsListIter it l i
  | false => h.IsTupleIter it l i
def SqH (b : Bool) (h : Heap) (l : Addr) (xs : Array Value) : Prop := match b with
  | true => h.IsList l xs
  | false => h.IsTuple l xs
def itN (b : Bool) : String := match b with
  | true => "list_iterator"
  | false => "tuple_iterator"
abbrev itB (b : Bool) (l : Addr) : Obj := { cls := .type (itN b), data := .fields #[.ref l, .int 0 0] }
theorem its_obj {b : Bool} {h : Heap} {it l : Addr} {i : Nat} (t : ItS b h it l i) : ∃ o, h.get? it = some o ∧ ∀ v, o.data ≠ .cell v := by
  cases b with
  | true =>
    obtain ⟨o, ho, hc, hd⟩ := t
    exact ⟨o, ho, fun v q => by rw [hd] at q; cases q⟩
  | false =>
    obtain ⟨o, ho, hc, hd⟩ := t
    exact ⟨o, ho, fun v q => by rw [hd] at q; cases q⟩
theorem its_at {b : Bool} {h h' : Heap} {it l : Addr} {i : Nat} (t : ItS b h it l i) (k : ∀ o, h.get? it = some o → h'.get? it = some o) : ItS b h' it l i := by
  cases b with
  | true => obtain ⟨o, ho, r⟩ := t; exact ⟨o, k o ho, r⟩
  | false => obtain ⟨o, ho, r⟩ := t; exact ⟨o, k o ho, r⟩
theorem sqh_push {b : Bool} {h : Heap} {l : Addr} {xs : Array Value} (t : SqH b h l xs) (u : Obj) : SqH b (h.push u) l xs := by
  cases b with
  | true => obtain ⟨o, ho, r⟩ := t; exact ⟨o, Heap.get?_push_of_some _ ho, r⟩
  | false => obtain ⟨o, ho, r⟩ := t; exact ⟨o, Heap.get?_push_of_some _ ho, r⟩
section
variable {prog : Program} {w : World} {A : Around} {E : Value → Shared → Prop} {s : Shared}
theorem iterB {b : Bool} {l : Addr} {xs : Array Value} {Q : Value → Shared → Prop} (hl : SqH b s.heap l xs) (hQ : Q (.ref s.heap.objs.size) { s with heap := s.heap.push (itB b l) }) : wpAny (model prog w) A (pyIter (.ref l)) Q E s := by
  cases b with
  | true => exact wpAny_pyIter_list hl hQ
  | false => exact wpAny_pyIter_tuple hl hQ
theorem drawsB (b : Bool) (calm : A.handled = none) (it l : Addr) (ne : l ≠ it) (xs : Array Value) :
    Draws prog w A it [it, l] xs.size (fun i v => xs[i]? = some v) (fun i h => ItS b h it l i ∧ SqH b h l xs) := by
  cases b with
  | true => exact Draws.list calm it l ne xs
  | false => exact EnT.draws calm it l ne xs
theorem drawsBE (b : Bool) (calm : A.handled = none) (it l : Addr) (xs : Array Value) (n : Nat) (hn : xs.size ≤ n) :
    Draws prog w A it [it, l] n (fun _ _ => True) (fun i h => ItS b h it l i ∧ SqH b h l xs ∧ i = n) := by
  cases b with
  | false => exact EnT.drawsE calm it l xs n hn
  | true =>
    constructor
    · rintro i h ⟨⟨o, ho, _⟩, _⟩
      exact ⟨o, ho⟩
    · rintro i h h' ⟨⟨o, ho, r⟩, ⟨o2, ho2, r2⟩, z⟩ k
      exact ⟨⟨o, k it (List.mem_cons_self ..) o ho, r⟩, ⟨o2, k l (List.mem_cons_of_mem _ (List.mem_cons_self ..)) o2 ho2, r2⟩, z⟩
    · rintro i s Q E hi ⟨_, _, z⟩ hQ
      omega
    · rintro s Q E ⟨t1, t2, _⟩ hE
      exact wpAny_nextOf_list_end calm t1 t2 (Array.getElem?_eq_none hn) hE
abbrev g1H (b1 : Bool) (h : Heap) (l1 : Addr) : Heap := h.push (itB b1 l1)
abbrev g2H (b1 b2 : Bool) (h : Heap) (l1 l2 : Addr) : Heap := (g1H b1 h l1).push (itB b2 l2)
abbrev g3H (b1 b2 : Bool) (h : Heap) (l1 l2 : Addr) : Heap := (g2H b1 b2 h l1 l2).push { cls := .type "tuple", data := .seq #[.ref h.objs.size, .ref (g1H b1 h l1).objs.size] }
abbrev g4H (b1 b2 : Bool) (h : Heap) (l1 l2 : Addr) : Heap := (g3H b1 b2 h l1 l2).push { cls := .type "tuple", data := .seq #[.none, .none] }
abbrev g5H (b1 b2 : Bool) (h : Heap) (l1 l2 : Addr) : Heap := (g4H b1 b2 h l1 l2).push { cls := .type "zip", data := .fields #[.none, .bool false, .bool false, .ref (g2H b1 b2 h l1 l2).objs.size, .ref (g3H b1 b2 h l1 l2).objs.size] }
theorem meets_zip (b1 b2 : Bool) (l1 l2 : Addr) (xs ys : Array Value) :
    Meets (Builtin.«zip.__new__» ⟨[.type "zip", .ref l1, .ref l2], []⟩) (fun _ R s => SqH b1 s.heap l1 xs ∧ SqH b2 s.heap l2 ys ∧ R (.ok (.ret (.ref (g4H b1 b2 s.heap l1 l2).objs.size))) { s with heap := g5H b1 b2 s.heap l1 l2 }) := by
  refine .of_wp fun prog w A R s h => ?_
  obtain ⟨hp, g, d, tk, os⟩ := s
  obtain ⟨h1, h2, h⟩ := h
  have isub := sub_zip
  have q1 : SqH b1 (Shared.heap ⟨hp, g, d, tk, os⟩) l1 xs := h1
  have q2 : SqH b2 (Shared.heap ⟨hp.push (itB b1 l1), g, d, tk, os⟩) l2 ys := sqh_push h2 _
  wp_walk using iterB q1, iterB q2
  exact ⟨_, rfl, h⟩
theorem call_zipB {b1 b2 : Bool} {l1 l2 : Addr} {xs ys : Array Value} {Q : Value → Shared → Prop} (h1 : SqH b1 s.heap l1 xs) (h2 : SqH b2 s.heap l2 ys)
    (h : ∀ g, IsZip g (s.heap.objs.size + 4) (s.heap.objs.size + 2) (s.heap.objs.size + 3) .none → IsPair g (s.heap.objs.size + 2) (.ref s.heap.objs.size) (.ref (s.heap.objs.size + 1)) →
      IsPair g (s.heap.objs.size + 3) .none .none → ItS b1 g s.heap.objs.size l1 0 → ItS b2 g (s.heap.objs.size + 1) l2 0 → (∀ c o, s.heap.get? c = some o → g.get? c = some o) → Q (.ref (s.heap.objs.size + 4)) { s with heap := g }) :
    wpAny (model prog w) A (call (.type "zip") [.ref l1, .ref l2]) Q E s := by
  refine callType_new F.called_zip (by decide) (F.typeCall_zip_2 _ _) (F.newCall_zip_2 _ _) (fun obj => F.args_object_init_3 obj _ _) F.entry_zip_new (meets_zip b1 b2 l1 l2 xs ys) ⟨h1, h2, ?_⟩
  have s1 : (g1H b1 s.heap l1).objs.size = s.heap.objs.size + 1 := Heap.size_push ..
  have s2 : (g2H b1 b2 s.heap l1 l2).objs.size = s.heap.objs.size + 2 := by rw [Heap.size_push, s1]
  have s3 : (g3H b1 b2 s.heap l1 l2).objs.size = s.heap.objs.size + 3 := by rw [Heap.size_push, s2]
  have s4 : (g4H b1 b2 s.heap l1 l2).objs.size = s.heap.objs.size + 4 := by rw [Heap.size_push, s3]
  have e5 : (g5H b1 b2 s.heap l1 l2).get? (g4H b1 b2 s.heap l1 l2).objs.size = some _ := Heap.get?_push_size _ rfl
  have e4 : (g5H b1 b2 s.heap l1 l2).get? (g3H b1 b2 s.heap l1 l2).objs.size = some _ := Heap.get?_push_of_some _ (Heap.get?_push_size _ rfl)
  have e3 : (g5H b1 b2 s.heap l1 l2).get? (g2H b1 b2 s.heap l1 l2).objs.size = some _ := Heap.get?_push_of_some _ (Heap.get?_push_of_some _ (Heap.get?_push_size _ rfl))
  have e2 : (g5H b1 b2 s.heap l1 l2).get? (g1H b1 s.heap l1).objs.size = some (itB b2 l2) := Heap.get?_push_of_some _ (Heap.get?_push_of_some _ (Heap.get?_push_of_some _ (Heap.get?_push_size _ rfl)))
  have e1 : (g5H b1 b2 s.heap l1 l2).get? s.heap.objs.size = some (itB b1 l1) := Heap.get?_push_of_some _ (Heap.get?_push_of_some _ (Heap.get?_push_of_some _ (Heap.get?_push_of_some _ (Heap.get?_push_size _ rfl))))
  show _ ∧ _
  rw [s2, s3, s4] at e5
  rw [s1, s2] at e3
  rw [s3] at e4
  rw [s1] at e2
  rw [s4]
  refine ⟨⟨_, e5, rfl⟩, h _ e5 e3 e4 ?_ ?_ fun c o x => Heap.get?_push_of_some _ (Heap.get?_push_of_some _ (Heap.get?_push_of_some _ (Heap.get?_push_of_some _ (Heap.get?_push_of_some _ x))))⟩
  · cases b1 with
    | true => exact ⟨_, e1, rfl, rfl⟩
    | false => exact ⟨_, e1, rfl, rfl⟩
  · cases b2 with
    | true => exact ⟨_, e2, rfl, rfl⟩
    | false => exact ⟨_, e2, rfl, rfl⟩
end
open L2 PyProof.Rows
def SqB (K : PySem.W.Frag) (b : Bool) (H : Hp) (a : Addr) (xs : List V) : Prop := match b with
  | true => SqL K H a xs
  | false => SqT K H a xs
theorem sqB_at {X : Cx} {pins : List (Addr × Obj)} {σ : L2.St} {H : Hp} {s : Shared} {b : Bool} {a : Addr} {xs : List V} (I : Inv X pins σ H s) (h : SqB X.K b H a xs) : ∃ its : List Value, Vals xs its ∧ SqH b s.heap a its.toArray ∧ a < s.heap.objs.size := by
  cases b with
  | true =>
    obtain ⟨its, rv, p, _⟩ := I.list h
    exact ⟨its, rv, p.isList, p.lt⟩
  | false =>
    obtain ⟨its, rv, p, _⟩ := I.tuple h
    refine ⟨its, rv, p, ?_⟩
    obtain ⟨o, ho, _⟩ := id p
    exact Heap.lt_size ho
theorem sqB_inj {X : Cx} {pins : List (Addr × Obj)} {σ : L2.St} {H : Hp} {s : Shared} {b : Bool} {a : Addr} {xs ys : List V} (I : Inv X pins σ H s) (h : SqB X.K b H a xs) (h' : SqB X.K b H a ys) : xs = ys := by
  cases b with
  | true => exact I.list_inj h h'
  | false => exact I.tuple_inj h h'
def ItzB (K : PySem.W.Frag) (b1 b2 : Bool) (a b : Addr) : It where
  go := fun i H => ∃ (xs ys : List V) (x y : V), SqB K b1 H a xs ∧ SqB K b2 H b ys ∧ xs[i]? = some x ∧ ys[i]? = some y
  yld := fun i H v H' => ∃ T x y, v = .ref T ∧ H T = none ∧ H' = upd H T (.tup [x, y]) ∧ (∀ xs, SqB K b1 H a xs → xs[i]? = some x) ∧ ∀ ys, SqB K b2 H b ys → ys[i]? = some y
  stop := fun i H => ∃ xs ys : List V, SqB K b1 H a xs ∧ SqB K b2 H b ys ∧ (xs.length ≤ i ∨ ys.length ≤ i)
theorem five {c z TI TO i1 i2 : Addr} (h : c ∈ [z, TI, TO, i1, i2]) : c = z ∨ c = TI ∨ c = TO ∨ c = i1 ∨ c = i2 := by
  simpa only [List.mem_cons, List.not_mem_nil, or_false] using h
theorem turn {P : Program} {w : World} {K : PySem.W.Frag} {elts : List Expr} {kk : Nat} {tpos : Pos} {b1 b2 : Bool} {a b z TI TO i1 i2 : Addr} (D : ZipApart z TI TO i1 i2 a b) :
    Turn P w K (.Tuple elts kk tpos) (ItzB K b1 b2 a b) [z, TI, TO, i1, i2] z (fun i h => IsZip h z TI TO .none ∧ IsPair h TI (.ref i1) (.ref i2) ∧ (∃ x y, IsPair h TO x y) ∧ ItS b1 h i1 a i ∧ ItS b2 h i2 b i) where
  mem := List.mem_cons_self ..
  obj := by
    rintro i h ⟨hz, hp, ⟨x, y, ho⟩, t1, t2⟩ c hc
    rcases five hc with rfl | rfl | rfl | rfl | rfl
    · exact ⟨_, hz, fun v q => by cases q⟩
    · exact ⟨_, hp, fun v q => by cases q⟩
    · exact ⟨_, ho, fun v q => by cases q⟩
    · exact its_obj t1
    · exact its_obj t2
  keep := by
    rintro i h h' ⟨hz, hp, ⟨x, y, ho⟩, t1, t2⟩ k
    exact ⟨k z (by simp) _ hz, k TI (by simp) _ hp, ⟨x, y, k TO (by simp) _ ho⟩, its_at t1 fun o q => k i1 (by simp) o q, its_at t2 fun o q => k i2 (by simp) o q⟩
  item := by
    rintro X rfl rfl rfl calm i pins s σ H E I hf ⟨hz, hp, ⟨x0, y0, ho⟩, t1, t2⟩ ⟨xs, ys, x, y, qx, qy, hx, hy⟩
    obtain ⟨its, rv, p, _⟩ := sqB_at I qx
    obtain ⟨its2, rv2, p2, _⟩ := sqB_at I qy
    obtain ⟨u, hu, ru⟩ := rv.get hx
    obtain ⟨u2, hu2, ru2⟩ := rv2.get hy
    have zl : z < s.heap.objs.size := Heap.lt_size hz
    have d1 := drawsB (prog := X.prog) (w := X.w) (A := X.A.in1) b1 (I.ok.hd calm) i1 a D.l1i1 its.toArray
    have d2 := drawsB (prog := X.prog) (w := X.w) (A := X.A.in1) b2 (I.ok.hd calm) i2 b D.l2i2 its2.toArray
    have n1 : i < its.toArray.size := by simpa using (List.getElem?_eq_some_iff.mp hu).1
    have n2 : i < its2.toArray.size := by simpa using (List.getElem?_eq_some_iff.mp hu2).1
    refine py_item d1 d2 D hz hp ho ⟨t1, p⟩ ⟨t2, p2⟩ n1 n2 fun g tk w1 w2 e1 e2 z' o' c1 c2 pr k => ?_
    obtain rfl : w1 = u := by
      have e1 : its.toArray[i]? = some w1 := e1
      rw [List.getElem?_toArray, hu] at e1
      cases e1
      rfl
    obtain rfl : w2 = u2 := by
      have e2 : its2.toArray[i]? = some w2 := e2
      rw [List.getElem?_toArray, hu2] at e2
      cases e2
      rfl
    refine ⟨_, rfl, wpAny_letOwnedTupleGo_zip (s := { s with heap := g, toks := tk }) z' fun g' z'' sb => ?_⟩
    have pr2 : g'.get? s.heap.objs.size = some { cls := .type "tuple", data := .seq #[w1, w2] } := (sb.2 _ (Nat.ne_of_gt zl)).trans pr
    have made : ObjOk X.prog X.w (upd H s.heap.objs.size (.tup [x, y])) g' s.heap.objs.size (.tup [x, y]) :=
      ⟨by show 2 ≤ sizeLine; rw [sizeLine_eq]; decide, [w1, w2], .cons ru (.cons ru2 .nil), _, pr2, rfl, _, rfl⟩
    have J : Inv X pins σ (upd H s.heap.objs.size (.tup [x, y])) { s with heap := g', toks := tk } := by
      refine I.turnedNew (t' := tk) (ch := [z, TI, TO, i1, i2]) (fun c o hb q => ?_) hf (Nat.le_refl _) made
      have m1 : c ≠ z := fun e => hb (by rw [e]; simp)
      exact (sb.2 c m1).trans (k c o m1 (fun e => hb (by rw [e]; simp)) (fun e => hb (by rw [e]; simp)) (fun e => hb (by rw [e]; simp)) q)
    refine ⟨.ref s.heap.objs.size, _, J, rfl, ⟨_, x, y, rfl, I.hok.fresh (Nat.le_refl _), rfl, fun l hl => by rw [sqB_inj I hl qx]; exact hx, fun l hl => by rw [sqB_inj I hl qy]; exact hy⟩, ⟨z'', ?_, ⟨w1, w2, ?_⟩, ?_, ?_⟩, fun c hc => ?_⟩
    · exact (sb.2 _ D.TIz).trans (k _ _ D.TIz D.TITO D.TIi1 D.TIi2 hp)
    · exact (sb.2 _ D.TOz).trans o'
    · exact its_at c1.1 fun o q => (sb.2 _ D.i1z).trans q
    · exact its_at c2.1 fun o q => (sb.2 _ D.i2z).trans q
    · have lt : c < s.heap.objs.size := by
        rcases five hc with q | q | q | q | q
        · rw [q]; exact zl
        · rw [q]; exact Heap.lt_size hp
        · rw [q]; exact Heap.lt_size ho
        · obtain ⟨_, e, _⟩ := its_obj t1
          rw [q]; exact Heap.lt_size e
        · obtain ⟨_, e, _⟩ := its_obj t2
          rw [q]; exact Heap.lt_size e
      rw [upd_ne (Nat.ne_of_lt lt)]
      exact (hf c hc).1
  done := by
    rintro X rfl rfl rfl calm i pins s σ H E I hf ⟨hz, hp, ⟨x0, y0, ho⟩, t1, t2⟩ ⟨xs, ys, qx, qy, over⟩
    obtain ⟨its, rv, p, _⟩ := sqB_at I qx
    obtain ⟨its2, rv2, p2, _⟩ := sqB_at I qy
    have len1 := rv.length
    have len2 := rv2.length
    have fin : ∀ g tk, (∀ c o, c ≠ z → c ≠ TO → c ≠ i1 → c ≠ i2 → s.heap.get? c = some o → g.get? c = some o) → Inv X pins σ H { s with heap := g, toks := tk } := fun g tk k =>
      I.turnedL (t' := tk) (ch := [z, TI, TO, i1, i2]) (fun c o hb q => k c o (fun e => hb (by rw [e]; simp)) (fun e => hb (by rw [e]; simp)) (fun e => hb (by rw [e]; simp)) (fun e => hb (by rw [e]; simp)) q) hf
    by_cases c1 : its.toArray.size ≤ i
    · have d1 := drawsBE (prog := X.prog) (w := X.w) (A := X.A.in1) b1 (I.ok.hd calm) i1 a its.toArray i c1
      have d2 := drawsB (prog := X.prog) (w := X.w) (A := X.A.in1) b2 (I.ok.hd calm) i2 b D.l2i2 its2.toArray
      exact py_end d1 d2 D hz hp ho ⟨t1, p, rfl⟩ ⟨t2, p2⟩ (.inl rfl) fun g tk k => ⟨rfl, fin g tk k⟩
    · have c2 : its2.toArray.size ≤ i := by
        rw [List.size_toArray] at c1 ⊢
        omega
      have d1 := drawsB (prog := X.prog) (w := X.w) (A := X.A.in1) b1 (I.ok.hd calm) i1 a D.l1i1 its.toArray
      have d2 := drawsBE (prog := X.prog) (w := X.w) (A := X.A.in1) b2 (I.ok.hd calm) i2 b its2.toArray i c2
      exact py_end d1 d2 D hz hp ho ⟨t1, p⟩ ⟨t2, p2, rfl⟩ (.inr ⟨by omega, rfl⟩) fun g tk k => ⟨rfl, fin g tk k⟩
  self := fun A i s Q E st h => wpAny_pyIter_zip st.1 h
def iZipB (K : PySem.W.Frag) (ta : TA) : TI := fun σ H R => ta σ H fun vs H1 => ∃ a b xs ys b1 b2, vs = [.ref a, .ref b] ∧ SqB K b1 H1 a xs ∧ SqB K b2 H1 b ys ∧ R (ItzB K b1 b2 a b) H1
theorem pi_zipB {X : Cx} {e e2 : Expr} {ta : TA} {p pos tpos : Pos} {elts : List Expr} {kk : Nat} (hg : Gl X "zip") (hm : X.mg "zip" = none) (ha : PA X [e, e2] ta)
    (hs : starEach [e, e2] X.env = (false, eval e X.env) :: starEach [e2] X.env := by rfl) (hpl : (backTo pos (starEach [e2] X.env)).any (·.1) = false := by rfl) : PI X (.Tuple elts kk tpos) (.Call (.Name "zip" p) [e, e2] [] pos) (iZipB X.K ta) := by
  refine ⟨fun pins s σ H R I h => Call_ (ld_blt I hg hm PyProof.Rows.boot_zip (PyProof.Rows.callWith_type1 (thn (ha.run pos pins s σ H _ I h) fun us s1 hh => ?_) hs hpl))⟩
  obtain ⟨vs, H1, I1, r1, a, b, xs, ys, b1, b2, ex, qx, qy, q⟩ := hh
  subst ex
  match us, r1 with
  | [_, _], .cons r (.cons r' .nil) =>
    cases r
    cases r'
    obtain ⟨its, rv, p1, la⟩ := sqB_at I1 qx
    obtain ⟨its2, rv2, p2, lb⟩ := sqB_at I1 qy
    have new5 : ∀ c, c ∈ [s1.heap.objs.size + 4, s1.heap.objs.size + 2, s1.heap.objs.size + 3, s1.heap.objs.size, s1.heap.objs.size + 1] → FpOk X pins H1 c := fun c hc => by
      have le : s1.heap.objs.size ≤ c := by
        rcases five hc with rfl | rfl | rfl | rfl | rfl <;> first | exact Nat.le_add_right _ _ | exact Nat.le_refl _
      exact I1.fpOk le (I1.hok.fresh le)
    refine call_zipB p1 p2 fun g hz hp ho t1 t2 k => wpAny_pyIter_zip hz ?_
    exact ⟨_, _, _, _, H1, rfl, I1.kept (t' := s1.toks) k, turn (PySem.W.ktu_apart s1.heap.objs.size a b la lb), ⟨hz, hp, ⟨_, _, ho⟩, t1, t2⟩, new5, q⟩
end ZpT
namespace DL
open PySem L2
section
variable {X : Cx} {E : WX} {e e2 : Expr} {pos tpos p : Pos}
theorem sqB_same {K : Frg} {b : Bool} {H H' : Hp} {a : Addr} {xs : List V} (e : Same H H') (h : ZpT.SqB K b H a xs) : ZpT.SqB K b H' a xs := by
  cases b with
  | true => exact e.seq h
  | false => exact sqT_seq e h
theorem sqB_of {K : Frg} {F : Hp} {α : List Addr} {v : V} {d : D} {b : Bool} {ds : List D} (h : Has K F α v d) (e : seqF d = some (b, ds)) : ∃ a xs, v = .ref a ∧ HasL K F α xs ds ∧ ZpT.SqB K b F a xs := by
  obtain ⟨a, xs, h1, h2, w1, w2⟩ := seqF_at h e
  refine ⟨a, xs, h1, h2, ?_⟩
  cases b with
  | true => exact w1 rfl
  | false => exact w2 rfl
def zipL (ds es : List D) : List D := (ds.zip es).map fun p => .tup [p.1, p.2]
theorem zipL_get {ds es : List D} {i : Nat} {d : D} (h : (zipL ds es)[i]? = some d) : ∃ x y, ds[i]? = some x ∧ es[i]? = some y ∧ d = .tup [x, y] := by
  unfold zipL at h
  rw [List.getElem?_map] at h
  obtain ⟨p, h1, rfl⟩ := Option.map_eq_some_iff.mp h
  obtain ⟨h2, h3⟩ := List.getElem?_zip_eq_some.mp h1
  exact ⟨p.1, p.2, h2, h3, rfl⟩
theorem walks_zip {K : Frg} {F : Hp} {α : List Addr} {a b : Addr} {b1 b2 : Bool} {xs ys : List V} {ds es : List D} (h1 : ZpT.SqB K b1 F a xs) (h2 : ZpT.SqB K b2 F b ys) (k1 : HasL K F α xs ds) (k2 : HasL K F α ys es) : Walks K F α (ZpT.ItzB K b1 b2 a b) (zipL ds es) := by
  intro i F1 H α1 x e
  have q1 : ZpT.SqB K b1 H a xs := sqB_same e (sqB_same x.f h1)
  have q2 : ZpT.SqB K b2 H b ys := sqB_same e (sqB_same x.f h2)
  refine ⟨fun d q => ?_, fun q => ⟨xs, ys, q1, q2, ?_⟩⟩
  · obtain ⟨d1, d2, w1, w2, rfl⟩ := zipL_get q
    obtain ⟨v1, u1, r1⟩ := k1.get w1
    obtain ⟨v2, u2, r2⟩ := k2.get w2
    refine ⟨⟨xs, ys, v1, v2, q1, q2, u1, u2⟩, fun y H' z => ?_⟩
    obtain ⟨T, x1, x2, rfl, hT, rfl, z1, z2⟩ := z
    have z1 := z1 xs q1
    have z2 := z2 ys q2
    rw [u1] at z1
    rw [u2] at z2
    cases z1
    cases z2
    exact pair_fact e hT (.cons (r1.ext x) (.cons (r2.ext x) .nil))
  · rw [k1.len, k2.len]
    unfold zipL at q
    rw [List.length_map, List.length_zip] at q
    omega
def zipF (ds : List D) : M (List D) := match ds with
  | [d, e] => (match seqF d, seqF e with
    | some (_, xs), some (_, ys) => ret (zipL xs ys)
    | _, _ => fail)
  | _ => fail
def zipI (n : M (List D)) : M (List D) := bnd n zipF
theorem i_zip {elts : List Expr} {kk : Nat} {n : M (List D)} (hm : X.mg "zip" = none) (ha : DA X E [e, e2] n) (hg : Gl X "zip" := by rfl) (hs : starEach [e, e2] X.env = (false, eval e X.env) :: starEach [e2] X.env := by rfl) (hpl : (backTo pos (starEach [e2] X.env)).any (·.1) = false := by rfl) :
    DI X E (.Tuple elts kk tpos) (.Call (.Name "zip" p) [e, e2] [] pos) (zipI n) := by
  refine PI.weak (ZpT.pi_zipB hg hm ha hs hpl) fun σ H Q ⟨G, F, α, s, R, h⟩ => ?_
  refine ⟨G, F, α, s, R, h.bind.mono fun F1 α1 H1 ds s1 x1 h1 vs R1 k1 => ?_⟩
  match ds, k1 with
  | [d, d2], .cons k (.cons k' .nil) =>
    have h1 : Wp X.K G E F1 α1 ((match seqF d, seqF d2 with
      | some (_, xs), some (_, ys) => ret (zipL xs ys)
      | _, _ => fail : M (List D)) s1) (pI X.K G σ Q) := h1
    cases q : seqF d with
    | none => rw [q] at h1; exact h1.elim
    | some bx =>
      cases q' : seqF d2 with
      | none => rw [q, q'] at h1; exact h1.elim
      | some by' =>
        obtain ⟨b1, xs⟩ := bx
        obtain ⟨b2, ys⟩ := by'
        rw [q, q'] at h1
        obtain ⟨a, us, rfl, hl, w1⟩ := sqB_of k q
        obtain ⟨b, ws, rfl, hl2, w2⟩ := sqB_of k' q'
        have fin : ∀ J, Walks X.K F1 α1 J (zipL xs ys) → Q J H1 := h1 F1 α1 H1 (Ext.refl _ _) R1
        exact ⟨a, b, us, ws, b1, b2, rfl, sqB_same R1.st.ex w1, sqB_same R1.st.ex w2, fin _ (walks_zip w1 w2 hl hl2)⟩
  | [], _ => exact h1.elim
  | [_], _ => exact h1.elim
  | _ :: _ :: _ :: _, _ => exact h1.elim
end
end DL
namespace DL
open PySem L2
section
variable {X : Cx} {es : List Expr} {pos : Pos}
/-- within a comprehension: K told -/
theorem g_tupK {K : Frg} {k : Nat} {r : List D → S → Option S} {js : List Nat} {u : TGs} (n : Nat) (hc : X.calm = true) (h : DGs X es r js u) (hK : X.K = K := by rfl)
    (hn : (assignEach es X.env).length = n := by rfl) (hst : (assignEach es X.env).findIdx? (·.1) = none := by rfl) : DG X (.Tuple es k pos) (gtup n r) js (gTU K n u) := by
  subst hK
  exact g_tup n hc h hn hst
end
end DL

/-! from DL12.lean -/
set_option Elab.async false
set_option linter.all false
set_option maxRecDepth 100000
set_option maxHeartbeats 2000000
/-! DL12: dict displays. -/
namespace DL
open PySem L2
section
variable {X : Cx} {E : WX} {pos : Pos}
/-- the pairs of a display; nothing is raised -/
def prsR : List (M D × M D) → S → Option (List (D × D) × S)
  | [], s => some ([], s)
  | p :: r, s => match p.1 s with
    | some (.ok k s1) => (match p.2 s1 with
      | some (.ok v s2) => (prsR r s2).map fun q => ((k, v) :: q.1, q.2)
      | _ => none)
    | _ => none
def keysD : List (D × D) → Option (List (Key × D))
  | [] => some []
  | p :: r => match keyD p.1, keysD r with
    | some k, some q => some ((k, p.2) :: q)
    | _, _ => none
def mergeD (ms more : List (Key × D)) : List (Key × D) := more.foldl (fun acc kv => putD acc kv.1 kv.2) ms
def dispM (own : Bool) (prs : List (M D × M D)) : M D := fun s => match prsR prs s with
  | some (ps, s1) => (match keysD ps with
    | some kvs => mkd own (mergeD [] kvs) s1
    | none => none)
  | none => none
theorem r_prs {K : Frg} {G : Hp} {σ : L2.St} : ∀ {prs : List (M D × M D)} {F H : Hp} {α : List Addr} {s s' : S} {ps : List (D × D)} {Q : List (V × V) → Hp → Prop}, prsR prs s = some (ps, s') → RelS K G F H α σ s →
    (∀ F' α' H' vps, Ext F α F' α' → RelS K G F' H' α' σ s' → HasL K F' α' (vps.map (·.1)) (ps.map (·.1)) → HasL K F' α' (vps.map (·.2)) (ps.map (·.2)) → Q vps H') →
    tPairs (prs.map fun p => (rE K W0 p.1, rE K W0 p.2)) σ H Q
  | [], F, H, α, s, s', ps, Q, h, R, k => by
    cases h
    exact k F α H [] (Ext.refl _ _) R .nil .nil
  | p :: r, F, H, α, s, s', ps, Q, h, R, k => by
    unfold prsR at h
    cases e1 : p.1 s with
    | none => simp only [e1] at h; cases h
    | some o1 =>
      cases o1 with
      | exc _ _ _ => simp only [e1] at h; cases h
      | ok kd s1 =>
        simp only [e1] at h
        cases e2 : p.2 s1 with
        | none => simp only [e2] at h; cases h
        | some o2 =>
          cases o2 with
          | exc _ _ _ => simp only [e2] at h; cases h
          | ok vd s2 =>
            simp only [e2] at h
            obtain ⟨q, e3, e4⟩ := Option.map_eq_some_iff.mp h
            obtain ⟨ps', s3⟩ := q
            cases e4
            refine ⟨G, F, α, s, R, ?_⟩
            rw [e1]
            intro F1 α1 H1 x1 v R1 k1
            refine ⟨G, F1, α1, s1, R1, ?_⟩
            rw [e2]
            intro F2 α2 H2 x2 w R2 k2
            exact r_prs e3 R2 fun F3 α3 H3 vps x3 R3 j1 j2 => k F3 α3 H3 ((v, w) :: vps) (x1.trans (x2.trans x3)) R3 (.cons (k1.ext (x2.trans x3)) j1) (.cons (k2.ext x3) j2)
theorem keys_at {K : Frg} {F : Hp} {α : List Addr} : ∀ {vps : List (V × V)} {ps : List (D × D)} {kvs : List (Key × D)}, HasL K F α (vps.map (·.1)) (ps.map (·.1)) → HasL K F α (vps.map (·.2)) (ps.map (·.2)) → keysD ps = some kvs →
    ∃ ks : List (Key × V), vps = ks.map (fun kv => (kV kv.1, kv.2)) ∧ ks.length = kvs.length ∧ HasM K F α ks kvs
  | [], [], kvs, _, _, e => by
    cases e
    exact ⟨[], rfl, rfl, rfl, .nil⟩
  | [], _ :: _, _, h, _, _ => by cases h
  | _ :: _, [], _, h, _, _ => by cases h
  | (x, y) :: vps, (d, e) :: ps, kvs, h1, h2, h => by
    unfold keysD at h
    cases a : keyD d with
    | none => simp only [a] at h; cases h
    | some k =>
      cases b : keysD ps with
      | none => simp only [a, b] at h; cases h
      | some q =>
        simp only [a, b] at h
        cases h
        cases h1 with
        | cons j1 r1 =>
          cases h2 with
          | cons j2 r2 =>
            obtain ⟨ks, w1, w2, w3⟩ := keys_at r1 r2 b
            refine ⟨(k, y) :: ks, ?_, by simp [w2], ?_, ?_⟩
            · rw [List.map_cons, ← w1]
              exact congrArg (fun z => (z, y) :: vps) (key_at j1 a)
            · show k :: ks.map (·.1) = k :: q.map (·.1)
              rw [w3.ks]
            · exact .cons j2 w3.vs
theorem HasM.merge {K : Frg} {F : Hp} {α : List Addr} : ∀ {more : List (Key × V)} {mored : List (Key × D)} {ks : List (Key × V)} {ms : List (Key × D)}, HasM K F α more mored → HasM K F α ks ms → HasM K F α (mergeK ks more) (mergeD ms mored)
  | [], [], _, _, _, h => h
  | [], _ :: _, _, _, ⟨z, _⟩, _ => by simp at z
  | _ :: _, [], _, _, ⟨z, _⟩, _ => by simp at z
  | (k, v) :: more, (l, d) :: mored, ks, ms, ⟨z, w⟩, h => by
    simp only [List.map_cons, List.cons.injEq] at z
    obtain ⟨rfl, z⟩ := z
    cases w with
    | cons w1 w2 => exact HasM.merge (more := more) (mored := mored) ⟨z, w2⟩ (h.put k w1)
theorem keysD_len : ∀ {ps : List (D × D)} {kvs : List (Key × D)}, keysD ps = some kvs → kvs.length = ps.length
  | [], _, h => by cases h; rfl
  | p :: r, kvs, h => by
    unfold keysD at h
    cases a : keyD p.1 with
    | none => simp only [a] at h; cases h
    | some k =>
      cases b : keysD r with
      | none => simp only [a, b] at h; cases h
      | some q =>
        simp only [a, b] at h
        cases h
        rw [List.length_cons, List.length_cons, keysD_len b]
theorem prsR_len : ∀ {prs : List (M D × M D)} {s s' : S} {ps : List (D × D)}, prsR prs s = some (ps, s') → ps.length = prs.length
  | [], _, _, _, h => by cases h; rfl
  | p :: r, s, s', ps, h => by
    unfold prsR at h
    split at h
    · split at h
      · obtain ⟨q, e3, e4⟩ := Option.map_eq_some_iff.mp h
        obtain ⟨ps', s3⟩ := q
        cases e4
        rw [List.length_cons, List.length_cons, prsR_len e3]
      · cases h
    · cases h
theorem d_disp (own : Bool) {keys : List (Option Expr)} {values : List Expr} {prs : List (M D × M D)} (h : PPs X pos keys values (prs.map fun p => (rE X.K W0 p.1, rE X.K W0 p.2))) (hall : keys.all (·.isSome) = true := by rfl) (hl : keys.length = values.length := by rfl) (h0 : keys ≠ [] := by simp) (h15 : keys.length ≤ 15 := by decide) (hp15 : prs.length ≤ 15 := by decide) :
    DE X E (.Dict keys values pos) (dispM own prs) := by
  refine PE.weak (pe_disp h hall hl h0 h15) fun σ H Q ⟨G, F, α, s, R, w⟩ p hp => ?_
  unfold dispM at w
  cases e : prsR prs s with
  | none => simp only [e] at w; exact w.elim
  | some q =>
    obtain ⟨ps, s1⟩ := q
    simp only [e] at w
    cases e2 : keysD ps with
    | none => simp only [e2] at w; exact w.elim
    | some kvs =>
      simp only [e2] at w
      have gp : G p = none := R.st.gx.free hp
      have T : RelS X.K (upd G p (.dK [])) F (upd H p (.dK [])) α σ s := ⟨R.st.track hp _, R.len, R.sl⟩
      refine r_prs e T fun F' α' H' vps x R' j1 j2 => ?_
      obtain ⟨ks, w1, w2, w3⟩ := keys_at j1 j2 e2
      refine ⟨R'.st.gx p _ upd_same, ks, w1, by rw [w2, keysD_len e2, prsR_len e]; exact hp15, ?_⟩
      exact fin_trackD (w.ext x) gp (s := s1) ⟨R'.st.retrack, R'.len, R'.sl⟩ (HasM.merge w3 ⟨rfl, .nil⟩)
end
end DL

/-! from DL13.lean -/
set_option Elab.async false
set_option linter.all false
set_option maxRecDepth 100000
set_option maxHeartbeats 2000000
/-! DL13: sorted, of any data. -/
namespace SrD
open PySem L2
open PySem.W (EachIs)
abbrev VP := V × PyData
def rSortedD (K : PySem.W.Frag) : List V → Hp → VK → Prop := fun vs H Q => ∃ (a : Addr) (bs : List VP), vs = [V.ref a] ∧ SqL K H a (bs.map (·.1)) ∧ (∀ b ∈ bs, Dp K H b.1 b.2) ∧ PySem.W.AllAlike (bs.map (·.2)) ∧ PySem.W.Sortable (bs.map (·.2)) ∧ (∀ b ∈ bs, b.2.depth ≤ 60) ∧
  ∀ p, H p = none → Q (.ref p) (upd H p (.lst ((bs.mergeSort (PySem.W.dataLe false fun b : VP => b.2)).map (·.1))))
theorem each_vals : ∀ {bs : List VP} {us : List Value}, Vals (bs.map (·.1)) us → EachIs (fun v (b : VP) => RelV b.1 v) us bs
  | [], _, .nil => .nil
  | b :: bs, _, .cons r t => .cons r (each_vals t)
theorem vals_each : ∀ {bs : List VP} {us : List Value}, EachIs (fun v (b : VP) => RelV b.1 v) us bs → Vals (bs.map (·.1)) us
  | _, _, .nil => .nil
  | _, _, .cons r t => .cons r (vals_each t)
theorem each_reads {X : Cx} {pins : List (Addr × Obj)} {σ : L2.St} {H : Hp} {s : Shared} (I : Inv X pins σ H s) : ∀ {bs : List VP} {us : List Value}, (∀ b ∈ bs, Dp X.K H b.1 b.2) → EachIs (fun v (b : VP) => RelV b.1 v) us bs → EachIs (fun v (b : VP) => ∃ as, Reads s.heap v b.2 as) us bs
  | _, _, _, .nil => .nil
  | b :: bs, _, hd, .cons r t => .cons (Dp.reads I b.2 b.1 _ (hd b (List.mem_cons_self ..)) r) (each_reads I (fun c hc => hd c (List.mem_cons_of_mem _ hc)) t)
theorem cr_sortedD {X : Cx} (hu : X.A.units + 64 < cLine) : CallR X (.builtin "sorted") (rSortedD X.K) := by
  intro pins s σ H vs us Q I r h
  obtain ⟨a, bs, rfl, hs, hd, hal, hso, hdep, q⟩ := h
  obtain ⟨its, rv, hl, hz⟩ := I.list hs
  rw [Vals.ref1 r]
  have e := each_vals rv
  have len : bs.length ≤ sizeLine := by rw [List.length_map] at hz; exact hz
  refine PySem.W.sorted_data (enc := fun b : VP => b.2) hl.isList e (each_reads I hd e) hal hso len (fun b hb => ?_) fun out ol oe => ?_
  · have := hdep b hb
    omega
  · obtain ⟨ep, he⟩ := PyProof.Rows.sortedAll_at s.heap its out.toArray
    have nl : ((bs.mergeSort (PySem.W.dataLe false fun b : VP => b.2)).map (·.1)).length ≤ sizeLine := by
      rw [List.length_map, List.length_mergeSort]
      exact len
    exact ⟨.ref _, upd H (s.heap.objs.size + 1) (.lst ((bs.mergeSort (PySem.W.dataLe false fun b : VP => b.2)).map (·.1))), I.laid (t' := s.toks) (fun _ _ => PyProof.Rows.sortedAll_old) (Nat.le_succ _) ⟨nl, out, ep, vals_each oe, he⟩, rfl, q _ (I.hok.fresh (Nat.le_succ _))⟩
end SrD
namespace DL
open PySem L2
abbrev leD {β : Type} : β × PyData → β × PyData → Bool := PySem.W.dataLe false fun c => c.2
def alikeB (ps : List PyData) : Bool := ps.all fun d => ps.all fun e => PySem.W.alike d e
def tupB : PyData → Bool
  | .tuple (_ :: _) => true
  | _ => false
def othB : PyData → Bool
  | .none => false
  | .tuple _ => false
  | _ => true
def sortB (ps : List PyData) : Bool := ps.all tupB || ps.all othB
def sortD (ds : List D) (ps : List PyData) : List D := ((ds.zip ps).mergeSort leD).map (·.1)
def fSortD (own : Bool) : List D → M D := fun ds s => match ds with
  | [d] => (match seqD s.s d with
    | some (true, xs) => (match pyL xs with
      | some ps => guard' (alikeB ps && sortB ps && ps.all fun p => decide (p.depth ≤ 60)) (mk own (sortD xs ps)) s
      | none => none)
    | _ => none)
  | _ => none
theorem alikeB_ok {ps : List PyData} (h : alikeB ps = true) : PySem.W.AllAlike ps := fun d hd e he => List.all_eq_true.mp (List.all_eq_true.mp h d hd) e he
theorem sortB_ok {ps : List PyData} (h : sortB ps = true) : PySem.W.Sortable ps := by
  rcases Bool.or_eq_true_iff.mp h with q | q
  · refine .inl fun d hd => ?_
    have w := List.all_eq_true.mp q d hd
    unfold tupB at w
    split at w
    · exact ⟨_, _, rfl⟩
    · cases w
  · refine .inr fun d hd => ?_
    have w := List.all_eq_true.mp q d hd
    exact ⟨fun z => (by subst z; cases w), fun xs z => (by subst z; cases w)⟩
theorem hasL_of {K : Frg} {F : Hp} {α : List Addr} {β : Type} {f : β → V} {g : β → D} : ∀ {l : List β}, (∀ t ∈ l, Has K F α (f t) (g t)) → HasL K F α (l.map f) (l.map g)
  | [], _ => .nil
  | t :: l, h => .cons (h t (List.mem_cons_self ..)) (hasL_of fun u hu => h u (List.mem_cons_of_mem _ hu))
/-- the items, what they are, what they read as -/
theorem triples {K : Frg} {F H : Hp} {α : List Addr} : ∀ {vs : List V} {ds : List D} {ps : List PyData}, HasL K F α vs ds → DpAll K H vs ps → ∃ T : List (V × D × PyData), T.map (·.1) = vs ∧ T.map (·.2.1) = ds ∧ T.map (·.2.2) = ps ∧ ∀ t ∈ T, Has K F α t.1 t.2.1 ∧ Dp K H t.1 t.2.2
  | _, _, _, .nil, .nil => ⟨[], rfl, rfl, rfl, fun t h => by cases h⟩
  | _, _, _, .cons (v := v) (d := d) h r, .cons (d := p) k t => by
    obtain ⟨T, e1, e2, e3, w⟩ := triples r t
    refine ⟨(v, d, p) :: T, by rw [List.map_cons, e1], by rw [List.map_cons, e2], by rw [List.map_cons, e3], fun u hu => ?_⟩
    rcases List.mem_cons.mp hu with rfl | hu
    · exact ⟨h, k⟩
    · exact w u hu
theorem s_sortD {K : Frg} {E : WX} (own : Bool) : SpA K E (SrD.rSortedD K) (fSortD own) := by
  intro G F H α σ s xs ds Q R k h
  unfold fSortD at h
  split at h
  · rename_i d
    obtain ⟨v, rfl, k1⟩ := k.one
    cases q : seqD s.s d with
    | none => simp only [q] at h; exact h.elim
    | some bx =>
      obtain ⟨b, ys⟩ := bx
      cases b with
      | false => simp only [q] at h; exact h.elim
      | true =>
        simp only [q] at h
        cases e : pyL ys with
        | none => simp only [e] at h; exact h.elim
        | some ps =>
          simp only [e] at h
          obtain ⟨g, h1⟩ := wp_guard h
          rw [Bool.and_eq_true, Bool.and_eq_true] at g
          obtain ⟨a, us, rfl, hl, w1, _⟩ := seq_at R.st k1 q
          obtain ⟨T, t1, t2, t3, tw⟩ := triples hl (pyL_at R.st.ex hl e)
          have m1 : (T.map fun t => (t.1, t.2.2)).map (·.1) = us := by rw [List.map_map]; exact t1
          have m2 : (T.map fun t => (t.1, t.2.2)).map (·.2) = ps := by rw [List.map_map]; exact t3
          have m3 : (T.map fun t => (t.2.1, t.2.2)) = ys.zip ps := by
            rw [← t2, ← t3, List.zip_map']
          have q1 : (T.mergeSort fun t u => leD (t.1, t.2.2) (u.1, u.2.2)).map (fun t => (t.1, t.2.2)) = (T.map fun t => (t.1, t.2.2)).mergeSort leD := List.map_mergeSort fun _ _ _ _ => rfl
          have q2 : (T.mergeSort fun t u => leD (t.1, t.2.2) (u.1, u.2.2)).map (fun t => (t.2.1, t.2.2)) = (T.map fun t => (t.2.1, t.2.2)).mergeSort leD := List.map_mergeSort fun _ _ _ _ => rfl
          have hh : HasL K F α ((T.mergeSort fun t u => leD (t.1, t.2.2) (u.1, u.2.2)).map (·.1)) ((T.mergeSort fun t u => leD (t.1, t.2.2) (u.1, u.2.2)).map (·.2.1)) := hasL_of fun t ht => (tw t ((List.mergeSort_perm _ _).mem_iff.mp ht)).1
          have f1 : ((T.map fun t => (t.1, t.2.2)).mergeSort leD).map (·.1) = (T.mergeSort fun t u => leD (t.1, t.2.2) (u.1, u.2.2)).map (·.1) := by
            rw [← q1, List.map_map]
            rfl
          have f2 : sortD ys ps = (T.mergeSort fun t u => leD (t.1, t.2.2) (u.1, u.2.2)).map (·.2.1) := by
            unfold sortD
            rw [← m3, ← q2, List.map_map]
            rfl
          refine ⟨a, T.map fun t => (t.1, t.2.2), rfl, by rw [m1]; exact w1 rfl, fun b hb => ?_, by rw [m2]; exact alikeB_ok g.1.1, by rw [m2]; exact sortB_ok g.1.2, fun b hb => ?_, fun p hp => ?_⟩
          · obtain ⟨t, ht, rfl⟩ := List.mem_map.mp hb
            exact (tw t ht).2
          · have hb2 : b.2 ∈ ps := by
              rw [← m2]
              exact List.mem_map.mpr ⟨b, hb, rfl⟩
            exact of_decide_eq_true (List.all_eq_true.mp g.2 _ hb2)
          · rw [f2] at h1
            have z := fin_lst h1 R hh p hp
            rw [← f1] at z
            exact z
  · exact h.elim
end DL

/-! from DL14.lean -/
set_option Elab.async false
set_option linter.all false
set_option maxRecDepth 100000
set_option maxHeartbeats 2000000
/-! DL14: own classes: made, fields, methods, properties, ==, !=, isinstance, len, in. -/
namespace DL
open PySem L2 PyProof.Rows
def alt {β : Type} (m n : M β) : M β := fun s => match m s with
  | some r => some r
  | none => n s
section
variable {X : Cx} {E : WX} {e : Expr} {st : Stmt}
theorem d_alt {m n : M D} (h : DE X E e m) (k : DE X E e n) : DE X E e (alt m n) := by
  refine ⟨fun pins s σ H Q I q => ?_⟩
  obtain ⟨G, F, α, s', R, q⟩ := q
  unfold alt at q
  cases r : m s' with
  | some o =>
    rw [r] at q
    exact h.run pins s σ H Q I ⟨G, F, α, s', R, by rw [r]; exact q⟩
  | none =>
    rw [r] at q
    exact k.run pins s σ H Q I ⟨G, F, α, s', R, q⟩
theorem d_altT {m n : M Bool} (h : DT X E e m) (k : DT X E e n) : DT X E e (alt m n) := by
  refine ⟨fun pins s σ H Q I q => ?_⟩
  obtain ⟨G, F, α, s', R, q⟩ := q
  unfold alt at q
  cases r : m s' with
  | some o =>
    rw [r] at q
    exact h.run pins s σ H Q I ⟨G, F, α, s', R, by rw [r]; exact q⟩
  | none =>
    rw [r] at q
    exact k.run pins s σ H Q I ⟨G, F, α, s', R, q⟩
theorem d_altS {m n : M Fl} (h : DS X E st m) (k : DS X E st n) : DS X E st (alt m n) := by
  refine ⟨fun pins s σ H Q I q => ?_⟩
  obtain ⟨G, F, α, s', R, q⟩ := q
  unfold alt at q
  cases r : m s' with
  | some o =>
    rw [r] at q
    exact h.run pins s σ H Q I ⟨G, F, α, s', R, by rw [r]; exact q⟩
  | none =>
    rw [r] at q
    exact k.run pins s σ H Q I ⟨G, F, α, s', R, q⟩
theorem d_altI {tg : Expr} {m n : M (List D)} (h : DI X E tg e m) (k : DI X E tg e n) : DI X E tg e (alt m n) := by
  refine ⟨fun pins s σ H Q I q => ?_⟩
  obtain ⟨G, F, α, s', R, q⟩ := q
  unfold alt at q
  cases r : m s' with
  | some o =>
    rw [r] at q
    exact h.run pins s σ H Q I ⟨G, F, α, s', R, by rw [r]; exact q⟩
  | none =>
    rw [r] at q
    exact k.run pins s σ H Q I ⟨G, F, α, s', R, q⟩
end
/-! ### an instance -/
def insD (ς : Store) : D → Option (Str × List (Str × D))
  | .ins C fs => some (C, fs)
  | .loc i => match ς[i]? with
    | some (some (.ins C fs)) => some (C, fs)
    | _ => none
  | _ => none
theorem HObj.ins {K : Frg} {F : Hp} {α : List Addr} {h : HO} {C : Str} {gs : List (Str × D)} (k : HObj K F α h (.ins C gs)) : ∃ Ca dx fs, h = .ins Ca dx fs ∧ clsV K C = .ref Ca ∧ fs.map (·.1) = gs.map (·.1) ∧ HasL K F α (fs.map (·.2)) (gs.map (·.2)) := by
  cases h <;> simp only [HObj] at k
  exact ⟨_, _, _, rfl, k⟩
theorem ins_at {K : Frg} {G F H : Hp} {α : List Addr} {ς : Store} {v : V} {d : D} {C : Str} {gs : List (Str × D)} (R : Rel0 K G F H α ς) (h : Has K F α v d) (e : insD ς d = some (C, gs)) :
    ∃ a Ca dx fs, v = .ref a ∧ clsV K C = .ref Ca ∧ H a = some (.ins Ca dx fs) ∧ fs.map (·.1) = gs.map (·.1) ∧ HasL K F α (fs.map (·.2)) (gs.map (·.2)) := by
  cases h <;> simp only [insD] at e <;> try (cases e; done)
  · cases e
    rename_i a Ca dx fs h2 h1 c h3
    exact ⟨a, Ca, dx, fs, rfl, by assumption, R.ex _ _ (by assumption), by assumption, by assumption⟩
  · rename_i a i ha
    split at e
    · rename_i C' gs' q
      cases e
      obtain ⟨a', h, h1, h2, h3, h4⟩ := R.obj i _ q
      rw [ha] at h1
      cases h1
      obtain ⟨Ca, dx, fs, rfl, c, h5, h6⟩ := h4.ins
      exact ⟨a, Ca, dx, fs, rfl, c, h2, h5, h6⟩
    · cases e
def ownI (ς : Store) : D → Option (Nat × Str × List (Str × D))
  | .loc i => match ς[i]? with
    | some (some (.ins C fs)) => some (i, C, fs)
    | _ => none
  | _ => none
theorem ownI_at {K : Frg} {G F H : Hp} {α : List Addr} {ς : Store} {v : V} {d : D} {i : Nat} {C : Str} {gs : List (Str × D)} (R : Rel0 K G F H α ς) (h : Has K F α v d) (e : ownI ς d = some (i, C, gs)) :
    ∃ a Ca dx fs, v = .ref a ∧ d = .loc i ∧ α[i]? = some a ∧ ς[i]? = some (some (.ins C gs)) ∧ clsV K C = .ref Ca ∧ H a = some (.ins Ca dx fs) ∧ fs.map (·.1) = gs.map (·.1) ∧ HasL K F α (fs.map (·.2)) (gs.map (·.2)) := by
  cases h <;> simp only [ownI] at e <;> try (cases e; done)
  rename_i a j ha
  split at e
  · rename_i C' gs' q
    cases e
    obtain ⟨a', h, h1, h2, h3, h4⟩ := R.obj _ _ q
    rw [ha] at h1
    cases h1
    obtain ⟨Ca, dx, fs, rfl, c, h5, h6⟩ := h4.ins
    exact ⟨a, Ca, dx, fs, rfl, rfl, ha, q, c, h2, h5, h6⟩
  · cases e
theorem lookup_none {β γ : Type} {f : Str} : ∀ {xs : List (Str × β)} {fs : List (Str × γ)}, xs.map (·.1) = fs.map (·.1) → fs.lookup f = none → xs.lookup f = none
  | [], [], _, _ => rfl
  | [], _ :: _, h, _ => by simp at h
  | _ :: _, [], h, _ => by simp at h
  | (g, v) :: xs, (g', e) :: fs, h1, h2 => by
    simp only [List.map_cons, List.cons.injEq] at h1
    obtain ⟨rfl, h1⟩ := h1
    rw [List.lookup_cons] at h2 ⊢
    cases q : f == g with
    | true => simp only [q] at h2; cases h2
    | false => simp only [q] at h2 ⊢; exact lookup_none h1 h2
/-! ### o.f -/
def fldF (C f : Str) (d : D) : M D := fun s => match insD s.s d with
  | some (C', fs) => if C' = C then (match fs.lookup f with
    | some x => some (.ok x s)
    | none => none) else none
  | none => none
def fldI (C f : Str) (m : M D) : M D := bnd m (fldF C f)
/-- the class C has no word f of its own -/
structure FldT (K : Frg) (C f : Str) : Prop where
  ex : ∃ Ca, clsV K C = .ref Ca ∧ Cls K Ca ∧ NoAttr K Ca f
section
variable {X : Cx} {E : WX} {e o : Expr} {pos pos' : Pos}
theorem d_fldI {C f : Str} {m : M D} (T : FldT X.K C f) (he : DE X E e m) (hb : attributeBase e f X.env (eval e X.env) = eval e X.env := by rfl) : DE X E (.Attribute e f pos) (fldI C f m) := by
  obtain ⟨Ca, t1, t2, t3⟩ := T.ex
  refine PE.weak (pe_fld he hb) fun σ H Q ⟨G, F, α, s, R, h⟩ => ?_
  refine ⟨G, F, α, s, R, h.bind.mono fun F1 α1 H1 d s1 x1 h1 v R1 k1 => ?_⟩
  unfold fldF at h1
  split at h1
  · rename_i C' gs q
    split at h1
    · rename_i ec
      subst ec
      split at h1
      · rename_i x q2
        obtain ⟨a, Ca', dx, fs, rfl, c, h2, h3, h4⟩ := ins_at R1.st k1 q
        rw [t1] at c
        cases c
        obtain ⟨v, l1, l2⟩ := lookup_has h3 h4 q2
        exact ⟨a, Ca, dx, fs, v, rfl, h2, t2, t3, l1, fin (d := x) h1 R1 l2⟩
      · exact h1.elim
    · exact h1.elim
  · exact h1.elim
/-! o.f = e -/
def putFD {β : Type} (f : Str) (v : β) : List (Str × β) → List (Str × β)
  | [] => [(f, v)]
  | p :: r => if p.1 = f then (f, v) :: r else p :: putFD f v r
theorem putFD_eq (f : Str) (v : V) : ∀ fs : List (Str × V), putF f v fs = putFD f v fs
  | [] => rfl
  | p :: r => by
    unfold putF putFD
    rw [putFD_eq f v r]
    split
    · rename_i q; rw [q]
    · rfl
theorem putFD_keys {β γ : Type} (f : Str) (v : β) (w : γ) : ∀ {xs : List (Str × β)} {fs : List (Str × γ)}, xs.map (·.1) = fs.map (·.1) → (putFD f v xs).map (·.1) = (putFD f w fs).map (·.1)
  | [], [], _ => rfl
  | [], _ :: _, h => by simp at h
  | _ :: _, [], h => by simp at h
  | (g, v') :: xs, (g', e) :: fs, h1 => by
    simp only [List.map_cons, List.cons.injEq] at h1
    obtain ⟨rfl, h1⟩ := h1
    unfold putFD
    by_cases q : g = f
    · simp [q, h1]
    · simp only [q, if_false, List.map_cons, putFD_keys f v w h1]
theorem putFD_has {K : Frg} {F : Hp} {α : List Addr} {f : Str} {v : V} {d : D} (h : Has K F α v d) : ∀ {xs : List (Str × V)} {fs : List (Str × D)}, xs.map (·.1) = fs.map (·.1) → HasL K F α (xs.map (·.2)) (fs.map (·.2)) → HasL K F α ((putFD f v xs).map (·.2)) ((putFD f d fs).map (·.2))
  | [], [], _, _ => .cons h .nil
  | [], _ :: _, h, _ => by simp at h
  | _ :: _, [], h, _ => by simp at h
  | (g, v') :: xs, (g', e) :: fs, h1, h2 => by
    simp only [List.map_cons, List.cons.injEq] at h1
    obtain ⟨rfl, h1⟩ := h1
    cases h2 with
    | cons hv hr =>
      unfold putFD
      by_cases q : g = f
      · simp only [q, if_true, List.map_cons]
        exact .cons h hr
      · simp only [q, if_false, List.map_cons]
        exact .cons hv (putFD_has h h1 hr)
def setI (C f : Str) (mo me : M D) : M Fl := bnd me fun v => bnd mo fun d => fun s => match ownI s.s d with
  | some (i, C', fs) => if C' = C then guard' (decide (fs.length < 1000)) (fun s => some (.ok .nx (putS s i (.ins C (putFD f v fs))))) s else none
  | none => none
theorem d_setI {C f : Str} {mo me : M D} (T : FldT X.K C f) (he : DE X E e me) (ho : DE X E o mo) (hs : swapsWith e (some (.Attribute o f pos')) pos.line X.env = pure false := by rfl) : DS X E (.Assign [.Attribute o f pos'] e pos) (setI C f mo me) := by
  obtain ⟨Ca, t1, t2, t3⟩ := T.ex
  refine PS.weak (ps_fld ho he hs) fun D σ H ⟨G, F, α, s, R, h⟩ => ?_
  refine ⟨G, F, α, s, R, h.bind.mono fun F1 α1 H1 v s1 x1 h1 u R1 k1 => ?_⟩
  refine ⟨G, F1, α1, s1, R1, h1.bind.mono fun F2 α2 H2 d s2 x2 h2 w R2 k2 => ?_⟩
  split at h2
  · rename_i i C' gs q
    split at h2
    · rename_i ec
      subst ec
      obtain ⟨g, h3⟩ := wp_guard h2
      have g := of_decide_eq_true g
      obtain ⟨a, Ca', dx, fs, rfl, rfl, e1, e2, c, h4, h5, h6⟩ := ownI_at R2.st k2 q
      rw [t1] at c
      cases c
      have hl : fs.length = gs.length := by
        have := congrArg List.length h5
        rwa [List.length_map, List.length_map] at this
      refine ⟨a, Ca, dx, fs, rfl, h4, t2, t3, by omega, ?_⟩
      rw [putFD_eq]
      exact h3 F2 α2 _ (Ext.refl _ _) σ (R2.put e2 e1 ⟨t1, putFD_keys f u v h5, putFD_has (k1.ext x2) h5 h6⟩)
    · exact h2.elim
  · exact h2.elim
end
/-! ### methods -/
/-- values of the parameters that are not written -/
structure Dfl (K : Frg) (fd : FuncData) (ps : List Str) (dv : List D) : Prop where
  ex : ∃ (dvs : List V) (ds : List Value), Vals dvs ds ∧ (∀ F α, HasL K F α dvs dv) ∧ Binds K fd ps ds
theorem Dfl.none {K : Frg} {fd : FuncData} {ps : List Str} (h : Binds K fd ps []) : Dfl K fd ps [] := ⟨[], [], .nil, fun _ _ => .nil, h⟩
structure MetT (P : Program) (w : World) (K : Frg) (mg : Str → Option Value) (base : Heap) (k : Nat) (C m : Str) (n : Nat) (dv : List D) (f : DF) : Prop where
  ex : ∃ (Ca fa : Addr) (fd : FuncData) (ps : List Str), clsV K C = .ref Ca ∧ Cls K Ca ∧ Meth K Ca m fa ∧ Dfl K fd ps dv ∧ ps.length = n ∧ FnOk P w K mg base (L2.CX P w) k fa fd ps (spF K n f)
/-- the object of a method's call -/
def chkI (C m : Str) (d : D) (ς : Store) : Bool := match insD ς d with
  | some (C', fs) => decide (C' = C) && (fs.lookup m).isNone
  | none => false
def mthI (C m : Str) (f : DF) (dv : List D) (mo : M D) (n : M (List D)) : M D := bnd mo fun d => chk (chkI C m d) (bnd n fun ds => callF f (d :: (ds ++ dv)))
section
variable {X : Cx} {E : WX} {e o : Expr} {es : List Expr} {pos apos p : Pos}
def tMethS (C : Addr) (m : Str) (sp : Sp) (dvs : List V) (E : L2.St → XK) (ta : TE) (t : TA) : TE := fun σ H Q => ta σ H fun x H1 => ∃ a dx fs, x = .ref a ∧ H1 a = some (.ins C dx fs) ∧ fs.lookup m = none ∧
  t σ H1 fun vs H2 => sp (x :: (vs ++ dvs)) H2 Q (E σ)
theorem pe_methS' {CX : CXT} {k : Nat} {f C : Addr} {fd : FuncData} {ps : List Str} {sp : Sp} {dvs : List V} {ds : List Value} {E : L2.St → XK} {m : Str} {ta : TE} {t : TA} {pl : Sem Bool} (he : PE X o ta) (c : Cls X.K C) (hm : Meth X.K C m f) (F : FnOk X.prog X.w X.K X.mg X.base CX k f fd ps sp) (hr : Room k X.A) (hb : Binds X.K fd ps ds) (hd : Vals dvs ds) (hx : ∀ σ, PassesAt CX X σ (E σ)) (ha : PA X (e :: es) t)
    (hst : starEach (e :: es) X.env = (false, eval e X.env) :: starEach es X.env := by rfl) (hpl : (backTo pos (starEach es X.env)).any (·.1) = false := by rfl)
    (ht : eval (.Call (.Attribute o m apos) (e :: es) [] pos) X.env = (do
      let ov ← eval o X.env
      standAt apos.atName
      let (f, first) ← holding [ov] (getMethod ov m pl)
      callWith pos f first (backTo pos (starEach (e :: es) X.env)) (backToKw pos (keywordEach [] X.env))) := by rfl) :
    PE X (.Call (.Attribute o m apos) (e :: es) [] pos) (tMethS C m sp dvs E ta t) := by
  refine ⟨fun pins s σ H Q I h => ?_⟩
  refine PySem.W.methodCall_KW (pl := pl) (thn (he.run pins s σ H _ I h) fun u s1 ⟨x, H1, I1, rx, a, dx, fs, ex, ea, l, q⟩ => ?_) ht
  subst ex
  obtain rfl : u = Value.ref a := rx
  refine getmeth_ok I1 ea c hm l ?_
  refine PySem.W.callWith_K (first := [.ref a]) (h₀ := X.base) I.ok.mod.kin hm.kp (thn (ha.run pos pins s1 σ H1 _ I1 q) fun us s2 ⟨vs, H2, I2, r, q2⟩ => ⟨I2.kIn, ?_⟩) hst hpl
  exact run_fnSD (us := .ref a :: us) (vs := .ref a :: vs) F hr hb hd (hx σ) I2 (.cons rfl r) q2
theorem pe_methS0 {CX : CXT} {k : Nat} {f C : Addr} {fd : FuncData} {ps : List Str} {sp : Sp} {dvs : List V} {ds : List Value} {E : L2.St → XK} {m : Str} {ta : TE} {pl : Sem Bool} (he : PE X o ta) (c : Cls X.K C) (hm : Meth X.K C m f) (F : FnOk X.prog X.w X.K X.mg X.base CX k f fd ps sp) (hr : Room k X.A) (hb : Binds X.K fd ps ds) (hd : Vals dvs ds) (hx : ∀ σ, PassesAt CX X σ (E σ))
    (ht : eval (.Call (.Attribute o m apos) [] [] pos) X.env = (do
      let ov ← eval o X.env
      standAt apos.atName
      let (f, first) ← holding [ov] (getMethod ov m pl)
      callWith pos f first (backTo pos (starEach [] X.env)) (backToKw pos (keywordEach [] X.env))) := by rfl) :
    PE X (.Call (.Attribute o m apos) [] [] pos) (tMethS C m sp dvs E ta tNil) := by
  refine ⟨fun pins s σ H Q I h => ?_⟩
  refine PySem.W.methodCall_KW (pl := pl) (thn (he.run pins s σ H _ I h) fun u s1 ⟨x, H1, I1, rx, a, dx, fs, ex, ea, l, q⟩ => ?_) ht
  subst ex
  obtain rfl : u = Value.ref a := rx
  refine getmeth_ok I1 ea c hm l ?_
  exact PySem.W.callWith_K0 (first := [.ref a]) I1.kIn hm.kp (run_fnSD (us := [.ref a]) (vs := [.ref a]) F hr hb hd (hx σ) I1 (.cons rfl .nil) q)
theorem chkI_at {K : Frg} {G F H : Hp} {α : List Addr} {ς : Store} {v : V} {d : D} {C m : Str} {Ca : Addr} (R : Rel0 K G F H α ς) (h : Has K F α v d) (e : chkI C m d ς = true) (hC : clsV K C = .ref Ca) : ∃ a dx fs, v = .ref a ∧ H a = some (.ins Ca dx fs) ∧ fs.lookup m = none := by
  unfold chkI at e
  split at e
  · rename_i C' gs q
    rw [Bool.and_eq_true] at e
    have e1 := of_decide_eq_true e.1
    subst e1
    obtain ⟨a, Ca', dx, fs, rfl, c, h2, h3, h4⟩ := ins_at R h q
    rw [hC] at c
    cases c
    exact ⟨a, dx, fs, rfl, h2, lookup_none h3 (by simpa using e.2)⟩
  · cases e
theorem spF_dv {K : Frg} {G F H : Hp} {α : List Addr} {σ : L2.St} {s : S} {vs dvs : List V} {ds dv : List D} {Q : VK} {n : Nat} {f : DF} (hn : (vs ++ dvs).length = n) (R : RelS K G F H α σ s) (k : HasL K F α vs ds) (hd : ∀ F α, HasL K F α dvs dv) (h : Wp K G E F α (callF f (ds ++ dv) s) (pV K G σ Q)) : spF K n f (vs ++ dvs) H Q (WE E σ) := spF_of hn R (k.app (hd F α)) h
theorem d_mthI {C m : Str} {k n : Nat} {dv : List D} {f : DF} {mo : M D} {ma : M (List D)} (T : MetT X.prog X.w X.K X.mg X.base k C m n dv f) (hr : Room k X.A) (hx : Takes X E) (hn : es.length + 2 + dv.length = n) (ho : DE X E o mo) (ha : DA X E (e :: es) ma)
    (hl : ∀ s ds s', ma s = some (.ok ds s') → ds.length = es.length + 1) {pl : Sem Bool}
    (hst : starEach (e :: es) X.env = (false, eval e X.env) :: starEach es X.env := by rfl) (hpl : (backTo pos (starEach es X.env)).any (·.1) = false := by rfl)
    (ht : eval (.Call (.Attribute o m apos) (e :: es) [] pos) X.env = (do
      let ov ← eval o X.env
      standAt apos.atName
      let (f, first) ← holding [ov] (getMethod ov m pl)
      callWith pos f first (backTo pos (starEach (e :: es) X.env)) (backToKw pos (keywordEach [] X.env))) := by rfl) :
    DE X E (.Call (.Attribute o m apos) (e :: es) [] pos) (mthI C m f dv mo ma) := by
  obtain ⟨Ca, fa, fd, ps, t1, t2, t3, ⟨dvs, dvu, t4, t5, t6⟩, t7, t8⟩ := T.ex
  have hdl : dvs.length = dv.length := (t5 (fun _ => none) []).len
  refine PE.weak (pe_methS' (E := WE E) (pl := pl) ho t2 t3 t8 hr t6 t4 (passAt hx) ha hst hpl ht) fun σ H Q ⟨G, F, α, s, R, h⟩ => ?_
  refine ⟨G, F, α, s, R, h.bind.mono fun F1 α1 H1 d s1 x1 h1 v R1 k1 => ?_⟩
  obtain ⟨g, h2⟩ := wp_chk h1
  obtain ⟨a, dx, fs, rfl, e2, e3⟩ := chkI_at R1.st k1 g t1
  refine ⟨a, dx, fs, rfl, e2, e3, G, F1, α1, s1, R1, ?_⟩
  have hb := h2.bind
  cases q : ma s1 with
  | none => rw [q] at hb; exact hb.elim
  | some o =>
    rw [q] at hb
    cases o with
    | exc C fs ς => exact hb
    | ok ds s2 =>
      intro F2 α2 H2 x2 vs R2 k2
      have hll := hl _ _ _ q
      exact spF_dv (vs := .ref a :: vs) (ds := d :: ds) (by simp only [List.length_append, List.length_cons, k2.len, hll, hdl]; omega) R2 (.cons (k1.ext x2) k2) t5 (hb F2 α2 H2 x2)
theorem d_mthI0 {C m : Str} {k n : Nat} {dv : List D} {f : DF} {mo : M D} (T : MetT X.prog X.w X.K X.mg X.base k C m n dv f) (hr : Room k X.A) (hx : Takes X E) (hn : 1 + dv.length = n) (ho : DE X E o mo) {pl : Sem Bool}
    (ht : eval (.Call (.Attribute o m apos) [] [] pos) X.env = (do
      let ov ← eval o X.env
      standAt apos.atName
      let (f, first) ← holding [ov] (getMethod ov m pl)
      callWith pos f first (backTo pos (starEach [] X.env)) (backToKw pos (keywordEach [] X.env))) := by rfl) :
    DE X E (.Call (.Attribute o m apos) [] [] pos) (mthI C m f dv mo anil) := by
  obtain ⟨Ca, fa, fd, ps, t1, t2, t3, ⟨dvs, dvu, t4, t5, t6⟩, t7, t8⟩ := T.ex
  have hdl : dvs.length = dv.length := (t5 (fun _ => none) []).len
  refine PE.weak (pe_methS0 (E := WE E) (pl := pl) ho t2 t3 t8 hr t6 t4 (passAt hx) ht) fun σ H Q ⟨G, F, α, s, R, h⟩ => ?_
  refine ⟨G, F, α, s, R, h.bind.mono fun F1 α1 H1 d s1 x1 h1 v R1 k1 => ?_⟩
  obtain ⟨g, h2⟩ := wp_chk h1
  obtain ⟨a, dx, fs, rfl, e2, e3⟩ := chkI_at R1.st k1 g t1
  refine ⟨a, dx, fs, rfl, e2, e3, ?_⟩
  exact spF_dv (vs := [.ref a]) (ds := [d]) (by simp only [List.length_append, List.length_cons, List.length_nil, hdl]; omega) R1 (.cons k1 .nil) t5 (h2.bind F1 α1 H1 (Ext.refl _ _))
/-! ### properties -/
structure PrpT (P : Program) (w : World) (K : Frg) (mg : Str → Option Value) (base : Heap) (k : Nat) (C m : Str) (f : DF) : Prop where
  ex : ∃ (Ca pa fa : Addr) (fd : FuncData) (ps : List Str), clsV K C = .ref Ca ∧ Cls K Ca ∧ PropOf K Ca m pa fa ∧ Binds K fd ps [] ∧ ps.length = 1 ∧ FnOk P w K mg base (L2.CX P w) k fa fd ps (spF K 1 f)
/-- what raises nothing -/
def noExc {β : Type} (m : M β) : M β := fun s => match m s with
  | some (.ok b s') => some (.ok b s')
  | _ => none
def prpI (C : Str) (f : DF) (mo : M D) : M D := bnd mo fun d => chk (fun ς => match insD ς d with
  | some (C', _) => decide (C' = C)
  | none => false) (noExc (callF f [d]))
theorem d_prpI {C m : Str} {k : Nat} {f : DF} {mo : M D} (T : PrpT X.prog X.w X.K X.mg X.base k C m f) (hr : Room (k + 1) X.A) (ho : DE X E o mo) (hab : attributeBase o m X.env (eval o X.env) = eval o X.env := by rfl) : DE X E (.Attribute o m pos) (prpI C f mo) := by
  obtain ⟨Ca, pa, fa, fd, ps, t1, t2, t3, t6, t7, t8⟩ := T.ex
  have hx : Passes (L2.CX X.prog X.w) X.nox (fun _ _ _ => False) := passes_call takes0 fun _ _ _ _ h => h
  refine PE.weak (pe_prop (E := fun _ _ _ => False) ho t2 t3 t8 hr t6 .nil hx hab) fun σ H Q ⟨G, F, α, s, R, h⟩ => ?_
  refine ⟨G, F, α, s, R, h.bind.mono fun F1 α1 H1 d s1 x1 h1 v R1 k1 => ?_⟩
  obtain ⟨g, h2⟩ := wp_chk h1
  split at g
  · rename_i C' gs q
    have g := of_decide_eq_true g
    subst g
    obtain ⟨a, Ca', dx, fs, rfl, c, e2, e3, e4⟩ := ins_at R1.st k1 q
    rw [t1] at c
    cases c
    refine ⟨a, dx, fs, rfl, e2, ?_⟩
    unfold noExc at h2
    cases q2 : callF f [d] s1 with
    | none => rw [q2] at h2; exact h2.elim
    | some o =>
      rw [q2] at h2
      cases o with
      | exc _ _ _ => exact h2.elim
      | ok b s' =>
        have h3 : Wp X.K G W0 F1 α1 (callF f [d] s1) (pV X.K G σ Q) := by
          rw [q2]
          exact h2
        have := spF_of (n := 1) rfl R1 (.cons k1 .nil) h3
        exact this
  · cases g
end
end DL

/-! from DL15.lean -/
set_option Elab.async false
set_option linter.all false
set_option maxRecDepth 100000
set_option maxHeartbeats 2000000
/-! DL15: own classes: made by position, by keywords; isinstance; ==, !=. -/
namespace DL
open PySem L2 PyProof.Rows
section
variable {X : Cx} {CX : CXT} {k : Nat} {f C : Addr} {fd : FuncData} {ps : List Str} {sp : Sp} {dvs : List V} {ds : List Value} {E : L2.St → XK} {x : Str} {p pos : Pos} {e : Expr} {es : List Expr} {t : TA}
def tMakeS (C : Addr) (sp : Sp) (dvs : List V) (E : L2.St → XK) (t : TA) : TE := fun σ H Q => t σ H fun vs H1 => ∀ x dx, H1 x = none → H1 dx = none → dx ≠ x →
  sp (.ref x :: (vs ++ dvs)) (upd (upd H1 dx (.own x)) x (.ins C dx [])) (fun v H2 => v = .non ∧ Q (.ref x) H2) (E σ)
theorem run_makeS {pins : List (Addr × Obj)} {σ : L2.St} {H : Hp} {s : Shared} {Q : VK} {us : List Value} {vs : List V} (M : Mk X.K C f) (F : FnOk X.prog X.w X.K X.mg X.base CX k f fd ps sp) (hr : Room (k + 1) X.A) (hb : Binds X.K fd ps ds) (hd : Vals dvs ds)
    (hx : PassesAt CX X σ (E σ)) (I : Inv X pins σ H s) (r : Vals vs us)
    (h : ∀ x dx, H x = none → H dx = none → dx ≠ x → sp (.ref x :: (vs ++ dvs)) (upd (upd H dx (.own x)) x (.ins C dx [])) (fun v H2 => v = .non ∧ Q (.ref x) H2) (E σ)) :
    wpAny (model X.prog X.w) X.A (call (.ref C) us) (EP X pins σ Q) X.xe s := by
  have hq := h (s.heap.objs.size + 1) s.heap.objs.size (I.hok.fresh (Nat.le_succ _)) (I.hok.fresh (Nat.le_refl _)) (Nat.ne_of_lt (Nat.lt_succ_self _))
  have I2 := Inv.made (C := C) I
  have r2 : Vals (V.ref (s.heap.objs.size + 1) :: (vs ++ dvs)) (Value.ref (s.heap.objs.size + 1) :: (us ++ ds)) := .cons rfl (r.append hd)
  have hl : (Value.ref (s.heap.objs.size + 1) :: us ++ ds).length = ps.length := by
    have e := r2.length
    rw [F.len _ _ _ _ hq] at e
    exact e.symm
  refine wpAny_call (make_map (f := f) I.kIn M.makes M.init (beq_iff_eq.mp M.fn) (codeAny_mono (F.run _ X.stack _ _ ⟨Value.ref (s.heap.objs.size + 1) :: us, []⟩ (Value.ref (s.heap.objs.size + 1) :: (us ++ ds)) _ _ (E σ) (hr.make C us [])
    (I2.env0.make C us []) (hb _ (Value.ref (s.heap.objs.size + 1) :: us) I2.kIn hl) r2 hq) fun r s' hq' => ?_))
  cases r with
  | error e => exact hx pins _ _ e s' I2 hq'
  | ok fl =>
    cases fl with
    | ret u =>
      obtain ⟨v, H', I3, rv, ev, q3⟩ := I2.after hq'
      subst ev
      exact ⟨rv, ⟨V.ref (s.heap.objs.size + 1), H', I3, rfl, q3⟩⟩
    | next => exact False.elim hq'
    | brk => exact False.elim hq'
    | cont => exact False.elim hq'
theorem pe_makeS (M : Mk X.K C f) (F : FnOk X.prog X.w X.K X.mg X.base CX k f fd ps sp) (hr : Room (k + 1) X.A) (hg : Gl X x) (hm : X.mg x = some (.ref C)) (hb : Binds X.K fd ps ds) (hd : Vals dvs ds) (hx : ∀ σ, PassesAt CX X σ (E σ))
    (ha : PA X (e :: es) t) (hdb : (x == ("__debug__" : Str)) = false := by decide) (he : starEach (e :: es) X.env = (false, eval e X.env) :: starEach es X.env := by rfl) (hpl : (backTo pos (starEach es X.env)).any (·.1) = false := by rfl) :
    PE X (.Call (.Name x p) (e :: es) [] pos) (tMakeS C sp dvs E t) := by
  refine ⟨fun pins s σ H Q I h => ?_⟩
  refine wpAny_Call_Name_kw (ld_glob I hg hm ?_ hdb)
  refine PySem.W.callWith_K (h₀ := X.base) I.ok.mod.kin M.kp (thn (ha.run pos pins s σ H _ I h) fun us s1 ⟨vs, H1, I1, r, q⟩ => ⟨I1.kIn, ?_⟩) he hpl
  exact run_makeS (E := E) M F hr hb hd (hx σ) I1 r q
theorem pe_makeS0 (M : Mk X.K C f) (F : FnOk X.prog X.w X.K X.mg X.base CX k f fd ps sp) (hr : Room (k + 1) X.A) (hg : Gl X x) (hm : X.mg x = some (.ref C)) (hb : Binds X.K fd ps ds) (hd : Vals dvs ds) (hx : ∀ σ, PassesAt CX X σ (E σ))
    (hdb : (x == ("__debug__" : Str)) = false := by decide) : PE X (.Call (.Name x p) [] [] pos) (tMakeS C sp dvs E tNil) := by
  refine ⟨fun pins s σ H Q I h => ?_⟩
  refine wpAny_Call_Name_kw (ld_glob I hg hm ?_ hdb)
  exact PySem.W.callWith_K0 I.kIn M.kp (run_makeS (E := E) (us := []) M F hr hb hd (hx σ) I .nil h)
/-! with keywords -/
variable {n : Nat} {ks : List Str} {kws : List Keyword} {tk : TA} {g : List Value → List Value → List Value} {gV : List V → List V → List V}
def tMakeKS (C : Addr) (n m : Nat) (sp : Sp) (gV : List V → List V → List V) (E : L2.St → XK) (t tk : TA) : TE := fun σ H Q => t σ H fun vs H1 => tk σ H1 fun zs H2 => vs.length = n ∧ zs.length = m ∧ ∀ x dx, H2 x = none → H2 dx = none → dx ≠ x →
  sp (gV (.ref x :: vs) zs) (upd (upd H2 dx (.own x)) x (.ins C dx [])) (fun v H3 => v = .non ∧ Q (.ref x) H3) (E σ)
theorem run_makeKS {pins : List (Addr × Obj)} {σ : L2.St} {H : Hp} {s : Shared} {Q : VK} {us ws : List Value} {vs zs : List V} (M : Mk X.K C f) (F : FnOk X.prog X.w X.K X.mg X.base CX k f fd ps sp) (hr : Room (k + 1) X.A) (hb : KBn X.K fd ps (n + 1) ks g gV) (hx : PassesAt CX X σ (E σ))
    (I : Inv X pins σ H s) (r : Vals vs us) (rz : Vals zs ws) (l1 : vs.length = n) (l2 : zs.length = ks.length)
    (h : ∀ x dx, H x = none → H dx = none → dx ≠ x → sp (gV (.ref x :: vs) zs) (upd (upd H dx (.own x)) x (.ins C dx [])) (fun v H2 => v = .non ∧ Q (.ref x) H2) (E σ)) :
    wpAny (model X.prog X.w) X.A (call (.ref C) us (ks.zip ws)) (EP X pins σ Q) X.xe s := by
  have hq := h (s.heap.objs.size + 1) s.heap.objs.size (I.hok.fresh (Nat.le_succ _)) (I.hok.fresh (Nat.le_refl _)) (Nat.ne_of_lt (Nat.lt_succ_self _))
  have I2 := Inv.made (C := C) I
  have r1 : Vals (V.ref (s.heap.objs.size + 1) :: vs) (Value.ref (s.heap.objs.size + 1) :: us) := .cons rfl r
  have r2 := hb.rel r1 rz
  have n1 : (Value.ref (s.heap.objs.size + 1) :: us).length = n + 1 := by
    rw [List.length_cons, ← r.length, l1]
  refine wpAny_call (make_map (f := f) I.kIn M.makes M.init (beq_iff_eq.mp M.fn) (codeAny_mono (F.run _ X.stack _ _ ⟨Value.ref (s.heap.objs.size + 1) :: us, ks.zip ws⟩ (g (Value.ref (s.heap.objs.size + 1) :: us) ws) _ _ (E σ) (hr.make C us (ks.zip ws))
    (I2.env0.make C us (ks.zip ws)) (hb.to _ (Value.ref (s.heap.objs.size + 1) :: us) ws I2.kIn n1 (rz.length.symm.trans l2)) r2 hq) fun r s' hq' => ?_))
  cases r with
  | error e => exact hx pins _ _ e s' I2 hq'
  | ok fl =>
    cases fl with
    | ret u =>
      obtain ⟨v, H', I3, rv, ev, q3⟩ := I2.after hq'
      subst ev
      exact ⟨rv, ⟨V.ref (s.heap.objs.size + 1), H', I3, rfl, q3⟩⟩
    | next => exact False.elim hq'
    | brk => exact False.elim hq'
    | cont => exact False.elim hq'
theorem pe_makeKS0 (M : Mk X.K C f) (F : FnOk X.prog X.w X.K X.mg X.base CX k f fd ps sp) (hr : Room (k + 1) X.A) (hg : Gl X x) (hm : X.mg x = some (.ref C)) (hb : KBn X.K fd ps 1 ks g gV) (hx : ∀ σ, PassesAt CX X σ (E σ)) (hkw : PK X kws tk)
    (hall : (backToKw pos (keywordEach kws X.env)).all (·.1.isSome) = true := by rfl) (hks : (backToKw pos (keywordEach kws X.env)).filterMap (·.1) = ks := by rfl) (hdb : (x == ("__debug__" : Str)) = false := by decide)
    (hpl : ((backTo pos (starEach [] X.env)).any (·.1) || (backToKw pos (keywordEach kws X.env)).any (·.1.isNone)) = false := by rfl) :
    PE X (.Call (.Name x p) [] kws pos) (tMakeKS C 0 ks.length sp gV E tNil tk) := by
  refine ⟨fun pins s σ H Q I h => ?_⟩
  refine wpAny_Call_Name_kw (ld_glob I hg hm ?_ hdb)
  refine PySem.W.callWith_KW0 (h₀ := X.base) I.ok.mod.kin M.kp hall ?_ hpl
  refine thn (hkw.run pos pins s σ H _ I h) fun ws s2 ⟨zs, H2, I2, rz, l1, l2, q2⟩ => ⟨I2.kIn, ?_⟩
  rw [hks]
  exact run_makeKS (E := E) (us := []) (vs := []) M F hr hb (hx σ) I2 .nil rz rfl l2 q2
theorem pe_makeKS (M : Mk X.K C f) (F : FnOk X.prog X.w X.K X.mg X.base CX k f fd ps sp) (hr : Room (k + 1) X.A) (hg : Gl X x) (hm : X.mg x = some (.ref C)) (hb : KBn X.K fd ps (n + 1) ks g gV) (hx : ∀ σ, PassesAt CX X σ (E σ)) (ha : PA X (e :: es) t) (hkw : PK X kws tk)
    (hall : (backToKw pos (keywordEach kws X.env)).all (·.1.isSome) = true := by rfl) (hks : (backToKw pos (keywordEach kws X.env)).filterMap (·.1) = ks := by rfl) (hdb : (x == ("__debug__" : Str)) = false := by decide)
    (he : starEach (e :: es) X.env = (false, eval e X.env) :: starEach es X.env := by rfl) (hpl : ((backTo pos (starEach (e :: es) X.env)).any (·.1) || (backToKw pos (keywordEach kws X.env)).any (·.1.isNone)) = false := by rfl) :
    PE X (.Call (.Name x p) (e :: es) kws pos) (tMakeKS C n ks.length sp gV E t tk) := by
  refine ⟨fun pins s σ H Q I h => ?_⟩
  refine wpAny_Call_Name_kw (ld_glob I hg hm ?_ hdb)
  refine PySem.W.callWith_KW (h₀ := X.base) I.ok.mod.kin M.kp hall (thn (ha.run pos pins s σ H _ I h) fun us s1 ⟨vs, H1, I1, r, q⟩ => ?_) hpl he
  refine thn (hkw.run pos pins s1 σ H1 _ I1 q) fun ws s2 ⟨zs, H2, I2, rz, l1, l2, q2⟩ => ⟨I2.kIn, ?_⟩
  rw [hks]
  exact run_makeKS (E := E) M F hr hb (hx σ) I2 r rz l1 l2 q2
end
/-! ### on data -/
def makeO (own : Bool) (ς : Store) : Option OutF → Option (Out D) := fun o => match o with
  | some (.ok .non ς') => (match own with
    | true => some (.ok (.loc ς.length) ⟨[], ς'⟩)
    | false => match ς'[ς.length]? with
      | some (some (.ins C fs)) => some (.ok (.ins C fs) ⟨[], cutS ς (ς'.set ς.length none) (flatN fs)⟩)
      | _ => none)
  | some (.exc x fs ς') => some (.exc x fs ⟨[], cutS ς ς' (flatN fs)⟩)
  | _ => none
def withE (e : List (Option D)) : Option (Out D) → Option (Out D) := fun o => match o with
  | some (.ok d s) => some (.ok d ⟨e, s.s⟩)
  | some (.exc x fs s) => some (.exc x fs ⟨e, s.s⟩)
  | none => none
/-- the arguments behind the object are given by a -/
def makeF (own : Bool) (C : Str) (f : DF) (ds : List D) : M D := fun s => withE s.e (makeO own s.s (f (.loc s.s.length :: ds) (s.s ++ [some (.ins C [])])))
structure MakT (P : Program) (w : World) (K : Frg) (mg : Str → Option Value) (base : Heap) (k : Nat) (C : Str) (n : Nat) (dv : List D) (f : DF) : Prop where
  ex : ∃ (Ca fa : Addr) (fd : FuncData) (ps : List Str), clsV K C = .ref Ca ∧ mg C = some (.ref Ca) ∧ Mk K Ca fa ∧ Dfl K fd ps dv ∧ ps.length = n ∧ FnOk P w K mg base (L2.CX P w) k fa fd ps (spF K n f)
theorem flatN_has {K : Frg} {F : Hp} {α α' : List Addr} {a : Addr} {C : Str} {fs : List (Str × D)} (h : Has K F α (.ref a) (.ins C fs)) (e : flatN fs = true) : Has K F α' (.ref a) (.ins C fs) := h.anyα (by simpa [D.flat] using e)
theorem make_sp {K : Frg} {E : WX} {G F H : Hp} {α : List Addr} {σ : L2.St} {s : S} {Q : VK} {own : Bool} {C : Str} {Ca : Addr} {f : DF} {n : Nat} {ds : List D} {vs' : V → List V} {C' : Str} (hC : clsV K C = .ref Ca) (R : RelS K G F H α σ s)
    (hv : ∀ (x : Addr) (F' : Hp) (α' : List Addr), Ext F α F' α' → HasL K F' α' (vs' (.ref x)) ds) (hn : ∀ v, (vs' v).length + 1 = n)
    (h : Wp K G E F α (makeF own C f ds s) (pV K G σ Q)) (x dx : Addr) (hx : H x = none) (hd : H dx = none) (ne : dx ≠ x) :
    spF K n f (.ref x :: vs' (.ref x)) (upd (upd H dx (.own x)) x (.ins Ca dx [])) (fun v H2 => v = .non ∧ Q (.ref x) H2) (WE E σ) := by
  have R1 := R.st.imm hd (.own x)
  have hx1 : upd H dx (.own x) x = none := by rw [upd_ne (fun z => ne z.symm)]; exact hx
  have R2 := R1.new hx1 (o := .ins C []) (h := .ins Ca dx []) ⟨hC, rfl, .nil⟩
  have X1 : Ext F α (upd F dx (.own x)) (α ++ [x]) := ⟨(R.st.immX hd (.own x)).f, pre_app α x⟩
  refine ⟨by rw [List.length_cons]; exact hn _, G, upd F dx (.own x), α ++ [x], s.s ++ [some (.ins C [])], .loc s.s.length :: ds, R2, .cons (.loc (by rw [← R.st.len]; simp)) (hv x _ _ X1), ?_⟩
  unfold makeF at h
  have hi : (α ++ [x])[s.s.length]? = some x := by rw [← R.st.len]; simp
  cases e : f (.loc s.s.length :: ds) (s.s ++ [some (.ins C [])]) with
  | none => rw [e] at h; exact h.elim
  | some o =>
    rw [e] at h
    cases o with
    | exc x0 fs ς' =>
      intro F' α' H' od x' R' ke
      obtain ⟨α'', x'', R'', c⟩ := cut_cases (b := flatN fs) R.st (X1.trans x') R'
      refine h F' α'' H' od σ x'' (R.back x'' R'') ?_
      rcases c with rfl | c
      · exact ke
      · unfold ExcAt at ke ⊢
        cases od with
        | none => exact ke
        | some d =>
          obtain ⟨xs, h1, h2, h3⟩ := ke
          exact ⟨xs, h1, h2, h3.anyα (by rw [← flatN_eq]; exact c)⟩
    | ok d ς' =>
      intro F' α' H' v x' R' kv
      cases d <;> first | exact h.elim | skip
      cases kv
      refine ⟨rfl, ?_⟩
      have ha : α'[s.s.length]? = some x := pre_get x'.a hi
      cases own with
      | true =>
        exact h F' α' H' (X1.trans x') _ (R.back (X1.trans x') R') (.loc ha)
      | false =>
        have h : Wp K G E F α (withE s.e (match ς'[s.s.length]? with
          | some (some (.ins C fs)) => some (.ok (.ins C fs) ⟨[], cutS s.s (ς'.set s.s.length none) (flatN fs)⟩)
          | _ => none)) (pV K G σ Q) := h
        split at h
        · rename_i C2 fs q
          obtain ⟨a', ho, h1, h2, h3, h4⟩ := R'.obj _ _ q
          rw [ha] at h1
          cases h1
          obtain ⟨Rf, xf⟩ := R'.frz q ha h2
          have hf := has_frz h4 h3 (by intro z; cases z)
          obtain ⟨α'', x'', R'', c⟩ := cut_cases (b := flatN fs) R.st ((X1.trans x').trans xf) Rf
          refine h _ α'' H' x'' _ (R.back x'' R'') ?_
          rcases c with rfl | c
          · exact hf
          · exact flatN_has hf c
        · exact h.elim
section
variable {X : Cx} {E : WX} {e o : Expr} {es : List Expr} {pos p : Pos} {kws : List Keyword}
theorem d_make {C : Str} {k n : Nat} {dv : List D} {f : DF} {m : M (List D)} (own : Bool) (T : MakT X.prog X.w X.K X.mg X.base k C n dv f) (hr : Room (k + 1) X.A) (hx : Takes X E) (hn : es.length + 2 + dv.length = n) (ha : DA X E (e :: es) m) (hg : Gl X C := by rfl)
    (hl : ∀ s ds s', m s = some (.ok ds s') → ds.length = es.length + 1) (hdb : (C == ("__debug__" : Str)) = false := by decide)
    (he : starEach (e :: es) X.env = (false, eval e X.env) :: starEach es X.env := by rfl) (hpl : (backTo pos (starEach es X.env)).any (·.1) = false := by rfl) :
    DE X E (.Call (.Name C p) (e :: es) [] pos) (bnd m fun ds => makeF own C f (ds ++ dv)) := by
  obtain ⟨Ca, fa, fd, ps, t1, t2, t3, ⟨dvs, dvu, t4, t5, t6⟩, t7, t8⟩ := T.ex
  have hdl : dvs.length = dv.length := (t5 (fun _ => none) []).len
  refine PE.weak (pe_makeS (E := WE E) t3 t8 hr hg t2 t6 t4 (passAt hx) ha hdb he hpl) fun σ H Q ⟨G, F, α, s, R, h⟩ => ?_
  refine ⟨G, F, α, s, R, ?_⟩
  have hb := h.bind
  cases q : m s with
  | none => rw [q] at hb; exact hb.elim
  | some o =>
    rw [q] at hb
    cases o with
    | exc C fs ς => exact hb
    | ok ds s1 =>
      intro F1 α1 H1 x1 vs R1 k1 x dx hx hd ne
      have hll := hl _ _ _ q
      exact make_sp (vs' := fun _ => vs ++ dvs) (C' := C) t1 R1 (fun _ F' α' xx => (k1.ext xx).app (t5 F' α')) (fun _ => by simp only [List.length_append, k1.len, hll, hdl]; omega) (hb F1 α1 H1 x1) x dx hx hd ne
theorem d_make0 {C : Str} {k n : Nat} {dv : List D} {f : DF} (own : Bool) (T : MakT X.prog X.w X.K X.mg X.base k C n dv f) (hr : Room (k + 1) X.A) (hx : Takes X E) (hn : 1 + dv.length = n) (hg : Gl X C := by rfl) (hdb : (C == ("__debug__" : Str)) = false := by decide) :
    DE X E (.Call (.Name C p) [] [] pos) (makeF own C f dv) := by
  obtain ⟨Ca, fa, fd, ps, t1, t2, t3, ⟨dvs, dvu, t4, t5, t6⟩, t7, t8⟩ := T.ex
  have hdl : dvs.length = dv.length := (t5 (fun _ => none) []).len
  refine PE.weak (pe_makeS0 (E := WE E) t3 t8 hr hg t2 t6 t4 (passAt hx) hdb) fun σ H Q ⟨G, F, α, s, R, h⟩ => ?_
  intro x dx hx hd ne
  exact make_sp (vs' := fun _ => dvs) (C' := C) t1 R (fun _ F' α' xx => t5 F' α') (fun _ => by rw [hdl]; omega) h x dx hx hd ne
/-! with keywords: g puts the positional data and the keywords' into the parameters' order, defaults among them -/
structure MakK (P : Program) (w : World) (K : Frg) (mg : Str → Option Value) (base : Heap) (k : Nat) (C : Str) (n np : Nat) (ks : List Str) (gD : List D → List D → List D) (f : DF) : Prop where
  ex : ∃ (Ca fa : Addr) (fd : FuncData) (ps : List Str) (g : List Value → List Value → List Value) (gV : List V → List V → List V), clsV K C = .ref Ca ∧ mg C = some (.ref Ca) ∧ Mk K Ca fa ∧ KBn K fd ps (np + 1) ks g gV ∧ ps.length = n ∧ FnOk P w K mg base (L2.CX P w) k fa fd ps (spF K n f) ∧
    (∀ (x : V) (vs zs : List V), vs.length = np → zs.length = ks.length → ∃ rest, gV (x :: vs) zs = x :: rest ∧ rest.length + 1 = n ∧ ∀ (F : Hp) (α : List Addr) (ds es : List D), HasL K F α vs ds → HasL K F α zs es → HasL K F α rest (gD ds es))
def DK (X : Cx) (E : WX) (kws : List Keyword) (m : M (List D)) : Prop := PK X kws (rA X.K E m)
theorem PK.weak {t t' : TA} (h : PK X kws t) (k : ∀ σ H Q, t' σ H Q → t σ H Q) : PK X kws t' := ⟨fun p pins s σ H Q I q => h.run p pins s σ H Q I (k σ H Q q)⟩
theorem d_kn : DK X E [] anil := PK.weak pk_nil fun σ H Q ⟨G, F, α, s, R, h⟩ => h F α H (Ext.refl _ _) [] R .nil
theorem d_kc {nm : Option Str} {kpos : Pos} {m : M D} {n : M (List D)} (ha : DE X E e m) (hr : DK X E kws n) : DK X E (⟨nm, e, kpos⟩ :: kws) (acons m n) := by
  refine PK.weak (pk_cons ha hr) fun σ H Q ⟨G, F, α, s, R, h⟩ => ?_
  refine ⟨G, F, α, s, R, h.bind.mono fun F1 α1 H1 d s1 x1 h1 v R1 k1 => ?_⟩
  refine ⟨G, F1, α1, s1, R1, h1.bind.mono fun F2 α2 H2 ds s2 x2 h2 vs R2 k2 => ?_⟩
  exact h2 F2 α2 H2 (Ext.refl _ _) _ R2 (.cons (k1.ext x2) k2)
theorem d_makeK0 {C : Str} {k n : Nat} {ks : List Str} {gD : List D → List D → List D} {f : DF} {m : M (List D)} (own : Bool) (T : MakK X.prog X.w X.K X.mg X.base k C n 0 ks gD f) (hr : Room (k + 1) X.A) (hx : Takes X E) (hk : DK X E kws m) (hg : Gl X C := by rfl)
    (hl : ∀ s ds s', m s = some (.ok ds s') → ds.length = ks.length)
    (hall : (backToKw pos (keywordEach kws X.env)).all (·.1.isSome) = true := by rfl) (hks : (backToKw pos (keywordEach kws X.env)).filterMap (·.1) = ks := by rfl) (hdb : (C == ("__debug__" : Str)) = false := by decide)
    (hpl : ((backTo pos (starEach [] X.env)).any (·.1) || (backToKw pos (keywordEach kws X.env)).any (·.1.isNone)) = false := by rfl) :
    DE X E (.Call (.Name C p) [] kws pos) (bnd m fun es => makeF own C f (gD [] es)) := by
  obtain ⟨Ca, fa, fd, ps, g, gV, t1, t2, t3, t4, t5, t6, t7⟩ := T.ex
  refine PE.weak (pe_makeKS0 (E := WE E) t3 t6 hr hg t2 t4 (passAt hx) hk hall hks hdb hpl) fun σ H Q ⟨G, F, α, s, R, h⟩ => ?_
  refine ⟨G, F, α, s, R, ?_⟩
  have hb := h.bind
  cases q : m s with
  | none => rw [q] at hb; exact hb.elim
  | some o =>
    rw [q] at hb
    cases o with
    | exc C fs ς => exact hb
    | ok ds s1 =>
      intro F1 α1 H1 x1 zs R1 k1
      have hll := hl _ _ _ q
      have lz : zs.length = ks.length := by rw [k1.len, hll]
      refine ⟨rfl, lz, fun x dx hx hd ne => ?_⟩
      obtain ⟨rest, e1, e2, e3⟩ := t7 (.ref x) [] zs rfl lz
      rw [e1]
      exact make_sp (vs' := fun _ => rest) (C' := C) t1 R1 (fun _ F' α' xx => e3 F' α' [] ds .nil (k1.ext xx)) (fun _ => e2) (hb F1 α1 H1 x1) x dx hx hd ne
theorem d_makeK {C : Str} {k n np : Nat} {ks : List Str} {gD : List D → List D → List D} {f : DF} {mp m : M (List D)} (own : Bool) (T : MakK X.prog X.w X.K X.mg X.base k C n np ks gD f) (hr : Room (k + 1) X.A) (hx : Takes X E) (ha : DA X E (e :: es) mp) (hk : DK X E kws m) (hg : Gl X C := by rfl)
    (hlp : ∀ s ds s', mp s = some (.ok ds s') → ds.length = np) (hl : ∀ s ds s', m s = some (.ok ds s') → ds.length = ks.length)
    (hall : (backToKw pos (keywordEach kws X.env)).all (·.1.isSome) = true := by rfl) (hks : (backToKw pos (keywordEach kws X.env)).filterMap (·.1) = ks := by rfl) (hdb : (C == ("__debug__" : Str)) = false := by decide)
    (he : starEach (e :: es) X.env = (false, eval e X.env) :: starEach es X.env := by rfl) (hpl : ((backTo pos (starEach (e :: es) X.env)).any (·.1) || (backToKw pos (keywordEach kws X.env)).any (·.1.isNone)) = false := by rfl) :
    DE X E (.Call (.Name C p) (e :: es) kws pos) (bnd mp fun ds => bnd m fun es => makeF own C f (gD ds es)) := by
  obtain ⟨Ca, fa, fd, ps, g, gV, t1, t2, t3, t4, t5, t6, t7⟩ := T.ex
  refine PE.weak (pe_makeKS (E := WE E) t3 t6 hr hg t2 t4 (passAt hx) ha hk hall hks hdb he hpl) fun σ H Q ⟨G, F, α, s, R, h⟩ => ?_
  refine ⟨G, F, α, s, R, ?_⟩
  have hb := h.bind
  cases q : mp s with
  | none => rw [q] at hb; exact hb.elim
  | some o =>
    rw [q] at hb
    cases o with
    | exc C fs ς => exact hb
    | ok ds s1 =>
      intro F1 α1 H1 x1 vs R1 k1
      have hb2 := (hb F1 α1 H1 x1).bind
      refine ⟨G, F1, α1, s1, R1, ?_⟩
      cases q2 : m s1 with
      | none => rw [q2] at hb2; exact hb2.elim
      | some o =>
        rw [q2] at hb2
        cases o with
        | exc C fs ς => exact hb2
        | ok es s2 =>
          intro F2 α2 H2 x2 zs R2 k2
          have lv : vs.length = np := by rw [k1.len, hlp _ _ _ q]
          have lz : zs.length = ks.length := by rw [k2.len, hl _ _ _ q2]
          refine ⟨lv, lz, fun x dx hx hd ne => ?_⟩
          obtain ⟨rest, e1, e2, e3⟩ := t7 (.ref x) vs zs lv lz
          rw [e1]
          exact make_sp (vs' := fun _ => rest) (C' := C) t1 R2 (fun _ F' α' xx => e3 F' α' ds es ((k1.ext x2).ext xx) (k2.ext xx)) (fun _ => e2) (hb2 F2 α2 H2 x2) x dx hx hd ne
end
end DL

/-! from DL16.lean -/
set_option Elab.async false
set_option linter.all false
set_option maxRecDepth 100000
set_option maxHeartbeats 2000000
/-! DL16: isinstance of own classes; ==, != by an own __eq__. -/
namespace PySem.W
open PySem PySem.Calls PyProof.Rows Builtin
theorem kitOne_of {K : Frag} {t : Value} {C : Addr} {b : Bool} (ic : isClsIn K C = true) (ti : typeIn K (.ref C) = some (.type "type")) (hs : subIn K t (.ref C) = some b) (hb : t = .ref C → b = true) : kitOne K t (.ref C) = some b := by
  unfold kitOne
  by_cases q : t = .ref C
  · rw [if_pos (by rw [q]; exact beq_self_eq_true _), hb q]
  · rw [if_neg (by simpa using q)]
    unfold kitCls
    dsimp only
    rw [if_pos (by rw [Bool.and_eq_true]; exact ⟨ic, by rw [ti]; exact beq_self_eq_true _⟩)]
    exact hs
theorem one_bind (self : Value) : bindSpecial (.builtin "object.__ne__") self = pure (.builtin "object.__ne__", [self]) :=
  (Slot.of (T := "object") (name := "__ne__") (owner := "object") (n := "__ne__") (by rw [typeLookup_type, builtinLookup_eq_fast]; kernel_rfl) (by decide +kernel) (by decide +kernel) (by decide +kernel)
    (.inl (by decide +kernel)) (by rw [isSubtype_type]; kernel_rfl)).bind self
theorem plain_one : plainId "object.__ne__" = true :=
  (Slot.of (T := "object") (name := "__ne__") (owner := "object") (n := "__ne__") (by rw [typeLookup_type, builtinLookup_eq_fast]; kernel_rfl) (by decide +kernel) (by decide +kernel) (by decide +kernel)
    (.inl (by decide +kernel)) (by rw [isSubtype_type]; kernel_rfl)).plain
section
variable {prog : Program} {w : World} {A : Around} {E : Value → Shared → Prop} {s : Shared} {K : Frag} {x C L f : Addr} {h₀ : Heap} {m : Str → Option Value} {ox : Obj} {od : Option Obj} {b tb : Value}
/-- != where the class has an own __eq__ and object's __ne__ -/
theorem cmpNe_K {Q : Value → Shared → Prop} (hu : A.units + 1 < cLine) (F : Fr h₀ L s.heap m) (X₀ : K.In h₀) (I : InstAt s.heap x ox C od) (hb : Looks (model prog w) s.heap (typeOf b) tb) (hn : notFirst K C tb = true)
    (hne : findIn K (.ref C) "__ne__" = some (some (.builtin "object.__ne__"))) (hs : findIn K (.ref C) "__eq__" = some (some (.ref f))) (hf : isFn K (.ref f) = true) (ho : subIn K (.ref C) (.type "object") = some true)
    (h : wpAny (model prog w) A.in1 (call (.ref f) [.ref x, b]) (fun v s' => ∃ r, v = .bool r ∧ Q (.bool (!r)) s') E s) : wpAny (model prog w) A (richCompare .NotEq (.ref x) b) Q E s := by
  have X := X₀.keeps F.keep
  have hu0 : A.units < cLine := Nat.lt_of_succ_lt hu
  have inner : wpAny (model prog w) A.in1 (Builtin.«object.__ne__» ⟨[.ref x, b], []⟩) (fun fin s' => match fin with
      | .done f => (match f with | .ret v => ∃ r, v = .bool r ∧ Q (.bool r) s' | _ => False)
      | .again _ => False) E s := by
    unfold Builtin.«object.__ne__»
    have hu1 : A.in1.units < cLine := hu
    repeat (first
      | with_reducible refine wpAny_cRoomFor hu1 ?_
      | (refine wpAny_bind (m := callSpecialIfBound? (.ref x) (Str.ofString "__eq__") [b]) (ifBound_K X I hs hf (wpAny_mono h (fun r s' hr => by
          obtain ⟨b', rfl, hq⟩ := hr
          repeat (first | exact ⟨_, rfl, hq⟩ | exact wpAny_pure ⟨_, rfl, hq⟩ | (refine wpAny_bind (m := truthy (.bool _)) (wpAny_truthy_bool ?_)) | wp_step)) fun _ _ e => e)))
      | wp_step)
  have one : wpAny (model prog w) A (tryCompare (.ref x) "__ne__" b) (fun r s' => ∃ v, r = some v ∧ Q v s') E s := by
    unfold tryCompare
    refine wpAny_bind ?_
    simp only [callSpecialIfBound?, bindSpecialIfBound?]
    refine wpAny_holding (wpAny_bind (wpAny_bind (wpAny_bind (I.type.here ((looks_findIn X hne).here ?_)))))
    refine wpAny_bind (wpAny_askSetting (wpAny_ite ?_))
    have fin : wpAny (model prog w) A (call (.builtin "object.__ne__") ([.ref x] ++ [b]) >>= fun v => pure (some v)) (fun r s' => wpAny (model prog w) A (match r with
        | some .notImplemented | none => pure none
        | some v => pure (some v)) (fun r s' => ∃ v, r = some v ∧ Q v s') E s') E s := by
      refine wpAny_bind (wpAny_call (codeAny_call_builtin plain_one PySem.F.cmpEntry_ne (check_slot PySem.F.cmpKind_ne PySem.F.cmpSplit_ne (I.type.andThen (looks_subIn X ho)) (PySem.F.cmpArgs_ne _ _) (wpAny_mono inner (fun fin s' hq => ?_) fun _ _ e => e))))
      cases fin with
      | again c => exact hq.elim
      | done fl =>
        cases fl with
        | ret v =>
          obtain ⟨r, rfl, q⟩ := hq
          exact wpAny_pure (wpAny_pure ⟨_, rfl, q⟩)
        | _ => exact hq.elim
    split
    · exact wpAny_bind (by rw [one_bind]; exact wpAny_pure (wpAny_pure fin))
    · exact wpAny_tryCatch (wpAny_bind (by rw [one_bind]; exact wpAny_pure (wpAny_pure fin)))
  unfold richCompare
  simp only [oneThing_ref]
  refine wpAny_holding (wpAny_bind (wpAny_cRoomFor hu0 ?_))
  refine wpAny_bind (I.type.here (wpAny_bind (hb.here ?_)))
  split
  · rename_i q
    have e : subIn K tb (.ref C) = some false := by
      rcases Bool.or_eq_true_iff.mp hn with e | e
      · rw [beq_iff_eq.mp e] at q; simp at q
      · exact beq_iff_eq.mp e
    refine wpAny_bind ((looks_subIn X e).here ?_)
    simp only [Bool.false_eq_true, if_false]
    refine wpAny_bind (wpAny_mono one (fun r s' z => ?_) fun _ _ e => e)
    obtain ⟨v, rfl, hq⟩ := z
    exact wpAny_pure hq
  · refine wpAny_bind (wpAny_pure ?_)
    simp only [Bool.false_eq_true, if_false]
    refine wpAny_bind (wpAny_mono one (fun r s' z => ?_) fun _ _ e => e)
    obtain ⟨v, rfl, hq⟩ := z
    exact wpAny_pure hq
end
end PySem.W
namespace DL
open PySem L2 PyProof.Rows
/-- what ==, isinstance and the like ask of an own class -/
structure ClsX (K : Frg) (C : Str) : Prop where
  ex : ∃ Ca, clsV K C = .ref Ca ∧ Cls K Ca ∧ PySem.W.findIn K (.ref Ca) "__class__" = some (some (.builtin "object.__class__")) ∧ PySem.W.specialIn K (.builtin "object.__class__") "__get__" = some (some (.builtin "getset_descriptor.__get__")) ∧
    PySem.W.takesIn K (.builtin "object.__class__") = some true ∧ PySem.W.mroIn K Ca (.type "object") = some true
theorem ClsX.ty {K : Frg} {C : Str} (T : ClsX K C) {H : Hp} {a Ca dx : Addr} {fs : List (Str × V)} (e : H a = some (.ins Ca dx fs)) (c : clsV K C = .ref Ca) : TyX K H (.ref a) (.ref Ca) := by
  obtain ⟨Cb, t1, t2, t3, t4, t5, t6⟩ := T.ex
  rw [t1] at c
  cases c
  exact .base (.ins e t2 t3 t4 t5 t6)
def tys0 : List String := ["NoneType", "bool", "int", "str", "list", "tuple", "dict"]
theorem tyN_in {ς : Store} {d : D} {T : String} (h : tyN ς d = some T) : T ∈ tys0 := by
  cases d <;> simp only [tyN] at h <;> first | (cases h; done) | (cases h; simp [tys0]; done) | skip
  split at h <;> first | (cases h; done) | (cases h; simp [tys0])
/-- isinstance(x, C) -/
structure IsT (K : Frg) (mg : Str → Option Value) (C : Str) (others : List Str) : Prop where
  ex : ∃ Ca, clsV K C = .ref Ca ∧ mg C = some (.ref Ca) ∧ PySem.W.isClsIn K Ca = true ∧ PySem.W.typeIn K (.ref Ca) = some (.type "type") ∧ PySem.W.subIn K (.ref Ca) (.ref Ca) = some true
  self : ClsX K C
  tys : ∀ T ∈ tys0, ∀ Ca, clsV K C = .ref Ca → PySem.W.subIn K (.type T) (.ref Ca) = some false
  oth : ∀ C' ∈ others, ClsX K C' ∧ ∀ Ca Cb, clsV K C = .ref Ca → clsV K C' = .ref Cb → PySem.W.subIn K (.ref Cb) (.ref Ca) = some false ∧ Cb ≠ Ca
def isiF' (C : Str) (others : List Str) (d : D) : M D := fun s => match insD s.s d with
  | some (C', _) => if C' = C then some (.ok (.bl true) s) else if C' ∈ others then some (.ok (.bl false) s) else none
  | none => match tyN s.s d with
    | some _ => some (.ok (.bl false) s)
    | none => none
def isiC (C : Str) (others : List Str) (m : M D) : M D := bnd m (isiF' C others)
section
variable {X : Cx} {E : WX} {e o : Expr} {pos p q : Pos}
theorem d_isiC {C : Str} {others : List Str} {m : M D} (T : IsT X.K X.mg C others) (hm : X.mg "isinstance" = none) (he : DE X E e m) (hg : Gl X "isinstance" := by rfl) (hgC : Gl X C := by rfl) (hd : (C == ("__debug__" : Str)) = false := by decide)
    (h1 : starEach [e, .Name C q] X.env = (false, eval e X.env) :: starEach [.Name C q] X.env := by rfl) (h2 : starEach [.Name C q] X.env = (false, eval (.Name C q) X.env) :: starEach [] X.env := by rfl)
    (hpl : (backTo pos (starEach [.Name C q] X.env)).any (·.1) = false := by rfl) : DE X E (.Call (.Name "isinstance" p) [e, .Name C q] [] pos) (isiC C others m) := by
  obtain ⟨Ca, t1, t2, t3, t4, t5⟩ := T.ex
  refine PE.weak (pe_callB call_isi hg hm (by decide +kernel) (pa_cons he (pa_cons (pe_glob (v := .ref Ca) hgC t2 rfl hd) pa_nil h2) h1) (by decide) (by decide) h1 hpl) fun σ H Q ⟨G, F, α, s, R, h⟩ => ?_
  refine ⟨G, F, α, s, R, h.bind.mono fun F1 α1 H1 d s1 x1 hw v R1 k1 => ?_⟩
  show rIsi X.K [v, .ref Ca] H1 Q
  unfold isiF' at hw
  split at hw
  · rename_i C' gs q
    obtain ⟨a, Cb, dx, fs, rfl, c, e2, _, _⟩ := ins_at R1.st k1 q
    split at hw
    · rename_i ec
      subst ec
      have c' := c
      rw [t1] at c'
      cases c'
      exact ⟨_, _, _, _, true, rfl, .own Ca, T.self.ty e2 c, PySem.W.kitOne_of t3 t4 t5 (fun _ => rfl), fin (d := .bl true) hw R1 (.bl true)⟩
    · split at hw
      · rename_i n1 n2
        obtain ⟨T', o1⟩ := T.oth C' n2
        obtain ⟨o1, o2⟩ := o1 Ca Cb t1 c
        exact ⟨_, _, _, _, false, rfl, .own Ca, T'.ty e2 c, PySem.W.kitOne_of t3 t4 o1 (fun z => absurd (by cases z; rfl) o2), fin (d := .bl false) hw R1 (.bl false)⟩
      · exact hw.elim
  · split at hw
    · rename_i q0 T0 q
      exact ⟨_, _, _, _, false, rfl, .own Ca, tyX_at R1.st k1 q, PySem.W.kitOne_of t3 t4 (T.tys T0 (tyN_in q) Ca t1) (fun z => by cases z), fin (d := .bl false) hw R1 (.bl false)⟩
    · exact hw.elim
/-! ### == and != by an own __eq__ -/
structure EqT (P : Program) (w : World) (K : Frg) (mg : Str → Option Value) (base : Heap) (k : Nat) (C : Str) (f : DF) : Prop where
  ex : ∃ (Ca fa : Addr) (fd : FuncData) (ps : List Str), clsV K C = .ref Ca ∧ PySem.W.findIn K (.ref Ca) "__eq__" = some (some (.ref fa)) ∧ PySem.W.isFn K (.ref fa) = true ∧ Binds K fd ps [] ∧ ps.length = 2 ∧ FnOk P w K mg base (L2.CX P w) k fa fd ps (spF K 2 f) ∧
    PySem.W.findIn K (.ref Ca) "__ne__" = some (some (.builtin "object.__ne__")) ∧ PySem.W.subIn K (.ref Ca) (.type "object") = some true
  self : ClsX K C
  tys : ∀ T ∈ tys0, ∀ Ca, clsV K C = .ref Ca → PySem.W.subIn K (.type T) (.ref Ca) = some false
def rEqI (K : Frg) (Ca : Addr) (neg : Bool) (sp : Sp) : R2 := fun x y H Q => ∃ a dx fs t, x = .ref a ∧ H a = some (.ins Ca dx fs) ∧ TyX K H y t ∧ PySem.W.notFirst K Ca t = true ∧
  sp [x, y] H (fun v H' => ∃ b, v = .bl b ∧ Q (.bl (if neg then !b else b)) H') (fun _ _ _ => False)
theorem run_eqI {k : Nat} {fa : Addr} {fd : FuncData} {ps : List Str} {sp : Sp} {A : Around} {pins : List (Addr × Obj)} {σ : L2.St} {H : Hp} {s : Shared} {P : V → Hp → Prop} {R : Value → Shared → Prop} {vs : List V} {us : List Value} (F : FnOk X.prog X.w X.K X.mg X.base (L2.CX X.prog X.w) k fa fd ps sp) (hr : Room k A) (hfr : A.frames = X.A.frames) (hb : Binds X.K fd ps [])
    (I : Inv X pins σ H s) (r : L2.Vals vs us) (h : sp vs H P (fun _ _ _ => False)) (hR : ∀ v u H' s', RelV v u → P v H' → Inv X pins σ H' s' → R u s') : wpAny (model X.prog X.w) A (call (.ref fa) us) R X.xe s := by
  have e0 : Env0 X.prog X.w X.K X.mg X.base A X.stack s H := by
    have e := I.env0
    exact ⟨by rw [hfr]; exact e.frames, e.mod, e.bs, e.bsz, e.funs, e.frf, e.hok, e.bare⟩
  have hl := F.len _ _ _ _ h
  have r2 : us.length = ps.length := by rw [← hl, r.length]
  refine wpAny_call (codeAny_mono (F.run A X.stack s H ⟨us, []⟩ us vs P _ hr e0 (by
    have := hb s us I.kIn (by simpa using r2)
    simpa using this) r h) fun r s' hq => ?_)
  cases r with
  | error e =>
    obtain ⟨_, _, _, _, _, _, _, _, _, _, _, _, z⟩ := hq
    exact z.elim
  | ok fl =>
    cases fl with
    | ret u =>
      obtain ⟨v, H', I', rv, q⟩ := I.after hq
      exact hR v u H' s' rv q I'
    | next => exact False.elim hq
    | brk => exact False.elim hq
    | cont => exact False.elim hq

theorem insAt_of {pins : List (Addr × Obj)} {σ : L2.St} {H : Hp} {s : Shared} {a Ca dx : Addr} {fs : List (Str × V)} (I : Inv X pins σ H s) (ea : H a = some (.ins Ca dx fs)) : ∃ ox od, PySem.W.InstAt s.heap a ox Ca od := by
  obtain ⟨mA, J, _⟩ := ins_get I.hok ea
  obtain ⟨od, J, _⟩ := J.look
  exact ⟨_, _, J⟩
theorem op_eqI {k : Nat} {Ca fa : Addr} {fd : FuncData} {ps : List Str} {sp : Sp} (F : FnOk X.prog X.w X.K X.mg X.base (L2.CX X.prog X.w) k fa fd ps sp) (hr : Room (k + 1) X.A) (hb : Binds X.K fd ps []) (hs : PySem.W.findIn X.K (.ref Ca) "__eq__" = some (some (.ref fa))) (hf : PySem.W.isFn X.K (.ref fa) = true) :
    OpR X (compareOp .Eq) (rEqI X.K Ca false sp) := by
  intro pins s σ H x y v u Q I rx ry h
  obtain ⟨a, dx, fs, t, rfl, ea, ty, nf, h⟩ := h
  cases rx
  obtain ⟨ox, od, J⟩ := insAt_of I ea
  obtain ⟨m, hF⟩ := I.fr
  obtain ⟨P, Z, p, _⟩ := kit_of I ry ty
  show wpAny (model X.prog X.w) X.A (richCompare .Eq (.ref a) u) (EP X pins σ Q) X.xe s
  refine PySem.W.cmp_K (op := .Eq) (tb := t) hr.units0 hF I.ok.mod.kin J (Z.ty _ _ I.kIn p) nf hs hf ?_
  refine run_eqI F (hr.mono (Nat.le_succ k)) rfl hb I (.cons (show L2.RelV (.ref a) (.ref a) from rfl) (.cons ry .nil)) h fun v w H' s' rv q I' => ?_
  obtain ⟨b, rfl, q⟩ := q
  cases rv
  exact ⟨.bl b, H', I', rfl, q⟩
theorem op_neI {k : Nat} {Ca fa : Addr} {fd : FuncData} {ps : List Str} {sp : Sp} (F : FnOk X.prog X.w X.K X.mg X.base (L2.CX X.prog X.w) k fa fd ps sp) (hr : Room (k + 1) X.A) (hb : Binds X.K fd ps []) (hs : PySem.W.findIn X.K (.ref Ca) "__eq__" = some (some (.ref fa))) (hf : PySem.W.isFn X.K (.ref fa) = true)
    (hn : PySem.W.findIn X.K (.ref Ca) "__ne__" = some (some (.builtin "object.__ne__"))) (ho : PySem.W.subIn X.K (.ref Ca) (.type "object") = some true) : OpR X (compareOp .NotEq) (rEqI X.K Ca true sp) := by
  intro pins s σ H x y v u Q I rx ry h
  obtain ⟨a, dx, fs, t, rfl, ea, ty, nf, h⟩ := h
  cases rx
  obtain ⟨ox, od, J⟩ := insAt_of I ea
  obtain ⟨m, hF⟩ := I.fr
  obtain ⟨P, Z, p, _⟩ := kit_of I ry ty
  show wpAny (model X.prog X.w) X.A (richCompare .NotEq (.ref a) u) (EP X pins σ Q) X.xe s
  refine PySem.W.cmpNe_K (tb := t) (by have := hr.un; omega) hF I.ok.mod.kin J (Z.ty _ _ I.kIn p) nf hn hs hf ho ?_
  refine run_eqI F hr.in1 rfl hb I (.cons (show L2.RelV (.ref a) (.ref a) from rfl) (.cons ry .nil)) h fun v w H' s' rv q I' => ?_
  obtain ⟨b, rfl, q⟩ := q
  cases rv
  exact ⟨b, rfl, .bl (!b), H', I', rfl, q⟩
def eqOk (C : Str) (ς : Store) (d e : D) : Bool := (match insD ς d with
  | some (C', _) => decide (C' = C)
  | none => false) && (match insD ς e with
  | some (C', _) => decide (C' = C)
  | none => (tyN ς e).isSome)
/-- a def's answer, a truth; it raises nothing -/
def tru (neg : Bool) (e : List (Option D)) (o : Option OutF) : Option (Out D) := match o with
  | some (.ok (.bl b) ς) => some (.ok (.bl (if neg then !b else b)) ⟨e, ς⟩)
  | _ => none
def eqF (neg : Bool) (C : Str) (f : DF) : D → D → M D := fun d e => chk (fun ς => eqOk C ς d e) fun s => tru neg s.e (f [d, e] s.s)
theorem spF_tru {K : Frg} {G F H : Hp} {α : List Addr} {σ : L2.St} {s : S} {neg : Bool} {vs : List V} {ds : List D} {f : DF} {Q : VK} {n : Nat} (hn : vs.length = n) (R : RelS K G F H α σ s) (k : HasL K F α vs ds) (h : Wp K G E F α (tru neg s.e (f ds s.s)) (pV K G σ Q)) :
    spF K n f vs H (fun v H' => ∃ b, v = .bl b ∧ Q (.bl (if neg then !b else b)) H') (fun _ _ _ => False) := by
  refine ⟨hn, G, F, α, s.s, ds, R.st, k, ?_⟩
  unfold tru at h
  cases e : f ds s.s with
  | none => rw [e] at h; exact h.elim
  | some o =>
    rw [e] at h
    cases o with
    | exc _ _ _ => exact h.elim
    | ok d ς =>
      cases d <;> first | exact h.elim | skip
      rename_i b
      intro F' α' H' v x R' kv
      cases kv
      exact ⟨b, rfl, h F' α' H' x _ (R.back x R') (.bl _)⟩
theorem s_eqI {K : Frg} {neg : Bool} {C : Str} {f : DF} {Ca : Addr} {fa : Addr} (hC : clsV K C = .ref Ca) (T : ClsX K C) (tys : ∀ T ∈ tys0, ∀ Ca, clsV K C = .ref Ca → PySem.W.subIn K (.type T) (.ref Ca) = some false) : Sp2 K E (rEqI K Ca neg (spF K 2 f)) (eqF neg C f) := by
  intro G F H α σ s x y d e Q R kx ky h
  obtain ⟨g, h1⟩ := wp_chk h
  unfold eqOk at g
  rw [Bool.and_eq_true] at g
  obtain ⟨g1, g2⟩ := g
  split at g1
  · rename_i C' gs q
    have g1 := of_decide_eq_true g1
    subst g1
    obtain ⟨a, Cb, dx, fs, rfl, c, e2, _, _⟩ := ins_at R.st kx q
    rw [hC] at c
    cases c
    have hty : ∃ t, TyX K H y t ∧ PySem.W.notFirst K Ca t = true := by
      split at g2
      · rename_i C2 gs2 q2
        have g2 := of_decide_eq_true g2
        subst g2
        obtain ⟨a2, Cb, dx2, fs2, rfl, c2, e3, _, _⟩ := ins_at R.st ky q2
        have c2' := c2
        rw [hC] at c2'
        cases c2'
        exact ⟨_, T.ty e3 c2, by unfold PySem.W.notFirst; rw [beq_self_eq_true]; rfl⟩
      · cases q3 : tyN s.s e with
        | none => rw [q3] at g2; cases g2
        | some T0 =>
          refine ⟨_, tyX_at R.st ky q3, ?_⟩
          unfold PySem.W.notFirst
          rw [tys T0 (tyN_in q3) Ca hC]
          simp
    obtain ⟨t, ty, nf⟩ := hty
    exact ⟨a, dx, fs, t, rfl, e2, ty, nf, spF_tru rfl R (.cons kx (.cons ky .nil)) h1⟩
  · cases g1
theorem d_eqI {C : Str} {k : Nat} {f : DF} {ma mb : M D} {a b : Expr} (T : EqT X.prog X.w X.K X.mg X.base k C f) (hr : Room (k + 1) X.A) (ha : DE X E a ma) (hb : DE X E b mb) (hm : behindInMarks .Eq b = false := by exact nomark _) : DE X E (.Compare a [.Eq] [b] pos) (op2 (eqF false C f) ma mb) := by
  obtain ⟨Ca, fa, fd, ps, t1, t2, t3, t4, t5, t6, t7, t8⟩ := T.ex
  exact PE.weak (pe_cmpR (op_eqI t6 hr t4 t2 t3) ha hb hm) (r_op2 (s_eqI (fa := fa) t1 T.self T.tys))
theorem d_neI {C : Str} {k : Nat} {f : DF} {ma mb : M D} {a b : Expr} (T : EqT X.prog X.w X.K X.mg X.base k C f) (hr : Room (k + 1) X.A) (ha : DE X E a ma) (hb : DE X E b mb) (hm : behindInMarks .NotEq b = false := by exact nomark _) : DE X E (.Compare a [.NotEq] [b] pos) (op2 (eqF true C f) ma mb) := by
  obtain ⟨Ca, fa, fd, ps, t1, t2, t3, t4, t5, t6, t7, t8⟩ := T.ex
  exact PE.weak (pe_cmpR (op_neI t6 hr t4 t2 t3 t7 t8) ha hb hm) (r_op2 (s_eqI (fa := fa) t1 T.self T.tys))
/-! ### x in o, x not in o by an own __contains__; len(o) by an own __len__ -/
structure DunT (P : Program) (w : World) (K : Frg) (mg : Str → Option Value) (base : Heap) (k : Nat) (C m : Str) (n : Nat) (f : DF) : Prop where
  ex : ∃ (Ca fa : Addr) (fd : FuncData) (ps : List Str), clsV K C = .ref Ca ∧ PySem.W.findIn K (.ref Ca) m = some (some (.ref fa)) ∧ PySem.W.isFn K (.ref fa) = true ∧ Binds K fd ps [] ∧ ps.length = n ∧ FnOk P w K mg base (L2.CX P w) k fa fd ps (spF K n f)
def rInI (Ca : Addr) (neg : Bool) (sp : Sp) : R2 := fun x y H Q => ∃ a dx fs, y = .ref a ∧ H a = some (.ins Ca dx fs) ∧ sp [y, x] H (fun v H' => ∃ b, v = .bl b ∧ Q (.bl (if neg then !b else b)) H') (fun _ _ _ => False)
theorem op_inI {k : Nat} {Ca fa : Addr} {fd : FuncData} {ps : List Str} {sp : Sp} (F : FnOk X.prog X.w X.K X.mg X.base (L2.CX X.prog X.w) k fa fd ps sp) (hr : Room k X.A) (hb : Binds X.K fd ps []) (hs : PySem.W.findIn X.K (.ref Ca) "__contains__" = some (some (.ref fa))) (hf : PySem.W.isFn X.K (.ref fa) = true) :
    OpR X (compareOp .In) (rInI Ca false sp) := by
  intro pins s σ H x y v u Q I rx ry h
  obtain ⟨a, dx, fs, rfl, ea, h⟩ := h
  cases ry
  obtain ⟨ox, od, J⟩ := insAt_of I ea
  obtain ⟨m, hF⟩ := I.fr
  refine PySem.W.in_K hF I.ok.mod.kin J hs hf ?_
  refine run_eqI F hr rfl hb I (.cons (show L2.RelV (.ref a) (.ref a) from rfl) (.cons rx .nil)) h fun v w H' s' rv q I' => ?_
  obtain ⟨b, rfl, q⟩ := q
  cases rv
  exact wpAny_truthy_bool ⟨.bl b, H', I', rfl, q⟩
theorem op_notInI {k : Nat} {Ca fa : Addr} {fd : FuncData} {ps : List Str} {sp : Sp} (F : FnOk X.prog X.w X.K X.mg X.base (L2.CX X.prog X.w) k fa fd ps sp) (hr : Room k X.A) (hb : Binds X.K fd ps []) (hs : PySem.W.findIn X.K (.ref Ca) "__contains__" = some (some (.ref fa))) (hf : PySem.W.isFn X.K (.ref fa) = true) :
    OpR X (compareOp .NotIn) (rInI Ca true sp) := by
  intro pins s σ H x y v u Q I rx ry h
  obtain ⟨a, dx, fs, rfl, ea, h⟩ := h
  cases ry
  obtain ⟨ox, od, J⟩ := insAt_of I ea
  obtain ⟨m, hF⟩ := I.fr
  refine PySem.W.notIn_K hF I.ok.mod.kin J hs hf ?_
  refine run_eqI F hr rfl hb I (.cons (show L2.RelV (.ref a) (.ref a) from rfl) (.cons rx .nil)) h fun v w H' s' rv q I' => ?_
  obtain ⟨b, rfl, q⟩ := q
  cases rv
  exact wpAny_truthy_bool ⟨.bl (!b), H', I', rfl, q⟩
def inIF (neg : Bool) (C : Str) (f : DF) : D → D → M D := fun d e => chk (fun ς => match insD ς e with
  | some (C', _) => decide (C' = C)
  | none => false) fun s => tru neg s.e (f [e, d] s.s)
theorem s_inI {K : Frg} {neg : Bool} {C : Str} {f : DF} {Ca : Addr} (hC : clsV K C = .ref Ca) : Sp2 K E (rInI Ca neg (spF K 2 f)) (inIF neg C f) := by
  intro G F H α σ s x y d e Q R kx ky h
  obtain ⟨g, h1⟩ := wp_chk h
  split at g
  · rename_i C' gs q
    have g := of_decide_eq_true g
    subst g
    obtain ⟨a, Cb, dx, fs, rfl, c, e2, _, _⟩ := ins_at R.st ky q
    rw [hC] at c
    cases c
    exact ⟨a, dx, fs, rfl, e2, spF_tru rfl R (.cons ky (.cons kx .nil)) h1⟩
  · cases g
theorem d_inI {C : Str} {k : Nat} {f : DF} {ma mb : M D} {a b : Expr} (T : DunT X.prog X.w X.K X.mg X.base k C "__contains__" 2 f) (hr : Room k X.A) (ha : DE X E a ma) (hb : DE X E b mb) (hm : behindInMarks .In b = false := by rfl) : DE X E (.Compare a [.In] [b] pos) (op2 (inIF false C f) ma mb) := by
  obtain ⟨Ca, fa, fd, ps, t1, t2, t3, t4, t5, t6⟩ := T.ex
  exact PE.weak (pe_cmpR (op_inI t6 hr t4 t2 t3) ha hb hm) (r_op2 (s_inI t1))
theorem d_notInI {C : Str} {k : Nat} {f : DF} {ma mb : M D} {a b : Expr} (T : DunT X.prog X.w X.K X.mg X.base k C "__contains__" 2 f) (hr : Room k X.A) (ha : DE X E a ma) (hb : DE X E b mb) (hm : behindInMarks .NotIn b = false := by rfl) : DE X E (.Compare a [.NotIn] [b] pos) (op2 (inIF true C f) ma mb) := by
  obtain ⟨Ca, fa, fd, ps, t1, t2, t3, t4, t5, t6⟩ := T.ex
  exact PE.weak (pe_cmpR (op_notInI t6 hr t4 t2 t3) ha hb hm) (r_op2 (s_inI t1))
/-- a def's answer, a length -/
def lenO (e : List (Option D)) (o : Option OutF) : Option (Out D) := match o with
  | some (.ok (.int i) ς) => if (0 ≤ i ∧ i ≤ 1000000000) then some (.ok (.int i) ⟨e, ς⟩) else none
  | _ => none
def lenIF (C : Str) (f : DF) : List D → M D := fun ds => match ds with
  | [d] => chk (fun ς => match insD ς d with
    | some (C', _) => decide (C' = C)
    | none => false) fun s => lenO s.e (f [d] s.s)
  | _ => fail
theorem d_lenI {C : Str} {k : Nat} {f : DF} {m : M (List D)} (T : DunT X.prog X.w X.K X.mg X.base k C "__len__" 1 f) (hr : Room (k + 1) X.A) (hm : X.mg "len" = none) (ha : DA X E [e] m) (hg : Gl X "len" := by rfl)
    (he : starEach [e] X.env = (false, eval e X.env) :: starEach [] X.env := by rfl) (hpl : (backTo pos (starEach [] X.env)).any (·.1) = false := by rfl) : DE X E (.Call (.Name "len" p) [e] [] pos) (bnd m (lenIF C f)) := by
  obtain ⟨Ca, fa, fd, ps, t1, t2, t3, t4, t5, t6⟩ := T.ex
  have hc : CallR X (.builtin "len") (fun xs H Q => ∃ a dx fs, xs = [.ref a] ∧ H a = some (.ins Ca dx fs) ∧ spF X.K 1 f [.ref a] H (fun v H' => ∃ i : Int, v = .int i ∧ 0 ≤ i ∧ i ≤ 1000000000 ∧ Q (.int i) H') (fun _ _ _ => False)) := by
    intro pins s σ H xs us Q I r h
    obtain ⟨a, dx, fs, rfl, ea, h⟩ := h
    cases r with
    | cons r1 r2 =>
      cases r2
      cases r1
      obtain ⟨ox, od, J⟩ := insAt_of I ea
      obtain ⟨m, hF⟩ := I.fr
      refine PySem.W.len_K hF I.ok.mod.kin J t2 t3 ?_
      refine run_eqI t6 hr.in1 rfl t4 I (.cons (show L2.RelV (.ref a) (.ref a) from rfl) .nil) h fun v w H' s' rv q I' => ?_
      obtain ⟨i, rfl, i1, i2, q⟩ := q
      obtain ⟨t, rfl⟩ := rv
      refine ⟨⟨i1, ?_⟩, .int i, H', I'.tok _, ⟨_, rfl⟩, q⟩
      have : (1000000000 : Int) < 2 ^ 63 := by decide
      omega
  refine PE.weak (pe_callB hc hg hm boot_len ha (by decide) (by decide) he hpl) fun σ H Q ⟨G, F, α, s, R, h⟩ => ?_
  refine ⟨G, F, α, s, R, h.bind.mono fun F1 α1 H1 ds s1 x1 h1 vs R1 k1 => ?_⟩
  unfold lenIF at h1
  split at h1
  · rename_i d
    obtain ⟨v, rfl, k2⟩ := k1.one
    obtain ⟨g, h2⟩ := wp_chk h1
    split at g
    · rename_i C' gs q
      have g := of_decide_eq_true g
      subst g
      obtain ⟨a, Cb, dx, fs, rfl, c, e2, _, _⟩ := ins_at R1.st k2 q
      rw [t1] at c
      cases c
      refine ⟨a, dx, fs, rfl, e2, rfl, G, F1, α1, s1.s, [d], R1.st, k1, ?_⟩
      unfold lenO at h2
      cases q2 : f [d] s1.s with
      | none => rw [q2] at h2; exact h2.elim
      | some o =>
        rw [q2] at h2
        cases o with
        | exc _ _ _ => exact h2.elim
        | ok d' ς =>
          cases d' <;> first | exact h2.elim | skip
          rename_i i
          intro F' α' H' v x R' kv
          cases kv
          by_cases hi : 0 ≤ i ∧ i ≤ 1000000000
          · simp only [hi, and_self, if_true] at h2
            exact ⟨i, rfl, hi.1, hi.2, h2 F' α' H' x _ (R1.back x R') (.int i)⟩
          · simp only [hi, if_false] at h2
            exact h2.elim
    · cases g
  · exact h1.elim
end
end DL

/-! from DL17.lean -/
set_option Elab.async false
set_option linter.all false
set_option maxRecDepth 100000
set_option maxHeartbeats 2000000
/-! DL17: constants of the module, divmod, abs, min and max of data, defs with defaults. -/
namespace DL
open PySem L2
open PyProof.Rows (envOfC reads_det)
open PySem.W (dataLt minD maxD AlikeAll min_list_data max_list_data min_tuple_data max_tuple_data min_list_default max_list_default min_tuple_default max_tuple_default)
section
variable {X : Cx} {E : WX} {pos : Pos}
theorem d_glI {x : Str} {i : Int} (h : ∃ t, X.mg x = some (.int i t)) (hg : Gl X x := by rfl) (hd : (x == ("__debug__" : Str)) = false := by decide) : DE X E (.Name x pos) (ret (.int i)) := by
  obtain ⟨t, h⟩ := h
  exact d_c (pe_glob (v := .int i) hg h ⟨t, rfl⟩ hd) fun _ _ => .int i
theorem d_glS {x : Str} {i : Str} (h : ∃ t, X.mg x = some (.str i t)) (hg : Gl X x := by rfl) (hd : (x == ("__debug__" : Str)) = false := by decide) : DE X E (.Name x pos) (ret (.str i)) := by
  obtain ⟨t, h⟩ := h
  exact d_c (pe_glob (v := .str i) hg h ⟨t, rfl⟩ hd) fun _ _ => .str i
/-- a constant that is a tuple of the written part -/
theorem d_glT {x : Str} {a : Addr} {ds : List D} (h : X.mg x = some (.ref a)) (hs : ∀ F α, Has X.K F α (.ref a) (.tup ds)) (hg : Gl X x := by rfl) (hd : (x == ("__debug__" : Str)) = false := by decide) : DE X E (.Name x pos) (ret (.tup ds)) :=
  d_c (pe_glob (v := .ref a) hg h rfl hd) hs
end
/-- a written tuple -/
theorem has_ktup {K : Frg} {a : Addr} {oc : Option Addr} {its : Array Value} {n : Nat} {sl : Array (Option Value)} {vs : List V} {ds : List D} (l : K.lookup a = some ⟨.type "tuple", oc, .seq its n, sl⟩) (hs : its.size ≤ sizeLine) (hv : Vals vs its.toList) (h : ∀ F α, HasL K F α vs ds) :
    ∀ F α, Has K F α (.ref a) (.tup ds) := fun F α => .tup (.inr ⟨_, its, n, l, rfl, rfl, hs, hv⟩) (h F α)
section
variable {K : Frg} {E : WX}
def fDivmod : List D → M D := fun ds => match ds with
  | [.int i, .int j] => guard' (decide (0 < j ∧ j < 1073741824)) (ret (.tup [.int (i / j), .int (i % j)]))
  | _ => fail
theorem s_divmod : SpA K E (fun xs H Q => ∃ i j, xs = [.int i, .int j] ∧ CDiv i j ∧ ∀ p, H p = none → Q (.ref p) (upd H p (.tup [.int (i / j), .int (i % j)]))) fDivmod := by
  intro G F H α σ s xs ds Q R k h
  unfold fDivmod at h
  split at h
  · rename_i i j
    obtain ⟨v, w, rfl, k1, k2⟩ := k.two
    cases k1
    cases k2
    obtain ⟨g, h1⟩ := wp_guard h
    exact ⟨i, j, rfl, (show 0 < j ∧ j < 1073741824 from of_decide_eq_true g), fin_tup h1 R (.cons (.int _) (.cons (.int _) .nil))⟩
  · exact h.elim
def fAbs : List D → M D := fun ds => match ds with
  | [.int i] => ret (.int (if i < 0 then -i else i))
  | _ => fail
theorem s_abs : SpA K E (fun xs H Q => ∃ i, xs = [.int i] ∧ Q (.int (if i < 0 then -i else i)) H) fAbs := by
  intro G F H α σ s xs ds Q R k h
  unfold fAbs at h
  split at h
  · obtain ⟨v, rfl, k1⟩ := k.one
    cases k1
    exact ⟨_, rfl, fin h R (.int _)⟩
  · exact h.elim
end
/-! ### min, max of data -/
mutual
def plB : D → Bool
  | .non => true
  | .bl _ => true
  | .int _ => true
  | .str _ => true
  | .tup ds => plBL ds
  | _ => false
def plBL : List D → Bool
  | [] => true
  | d :: ds => plB d && plBL ds
end
mutual
theorem py0_inj : ∀ {d e : D} {p : PyData}, plB d = true → plB e = true → py0 d = some p → py0 e = some p → d = e
  | .non, e, p, _, h2, q1, q2 => by
    simp only [py0] at q1; cases q1
    cases e <;> simp only [py0, plB] at q2 h2 <;> first | rfl | (cases q2; done) | (cases h2; done) | skip
    obtain ⟨_, _, z⟩ := Option.map_eq_some_iff.mp q2; cases z
  | .bl b, e, p, _, h2, q1, q2 => by
    simp only [py0] at q1; cases q1
    cases e <;> simp only [py0, plB] at q2 h2 <;> first | (cases q2; rfl) | (cases q2; done) | (cases h2; done) | skip
    obtain ⟨_, _, z⟩ := Option.map_eq_some_iff.mp q2; cases z
  | .int b, e, p, _, h2, q1, q2 => by
    simp only [py0] at q1; cases q1
    cases e <;> simp only [py0, plB] at q2 h2 <;> first | (cases q2; rfl) | (cases q2; done) | (cases h2; done) | skip
    obtain ⟨_, _, z⟩ := Option.map_eq_some_iff.mp q2; cases z
  | .str b, e, p, _, h2, q1, q2 => by
    simp only [py0] at q1; cases q1
    cases e <;> simp only [py0, plB] at q2 h2 <;> first | (cases q2; rfl) | (cases q2; done) | (cases h2; done) | skip
    obtain ⟨_, _, z⟩ := Option.map_eq_some_iff.mp q2; cases z
  | .tup ds, e, p, h1, h2, q1, q2 => by
    simp only [py0] at q1
    obtain ⟨ps, q3, rfl⟩ := Option.map_eq_some_iff.mp q1
    cases e <;> simp only [py0, plB] at q2 h2 <;> first | (cases q2; done) | (cases h2; done) | skip
    rename_i es
    obtain ⟨ps', q4, z⟩ := Option.map_eq_some_iff.mp q2
    cases z
    simp only [plB] at h1
    rw [pyL_inj h1 h2 q3 q4]
  | .lst _, _, _, h1, _, _, _ => by simp [plB] at h1
  | .rdl _, _, _, h1, _, _, _ => by simp [plB] at h1
  | .dct _, _, _, h1, _, _, _ => by simp [plB] at h1
  | .ins _ _, _, _, h1, _, _, _ => by simp [plB] at h1
  | .loc _, _, _, h1, _, _, _ => by simp [plB] at h1
  | .ty _, _, _, h1, _, _, _ => by simp [plB] at h1
  | .adr _, _, _, h1, _, _, _ => by simp [plB] at h1
  | .exn _ _ _, _, _, h1, _, _, _ => by simp [plB] at h1
theorem pyL_inj : ∀ {ds es : List D} {ps : List PyData}, plBL ds = true → plBL es = true → pyL ds = some ps → pyL es = some ps → ds = es
  | [], [], _, _, _, _, _ => rfl
  | [], e :: es, ps, _, _, q1, q2 => by
    simp only [pyL] at q1; cases q1
    simp only [pyL] at q2
    split at q2 <;> cases q2
  | d :: ds, [], ps, _, _, q1, q2 => by
    simp only [pyL] at q2; cases q2
    simp only [pyL] at q1
    split at q1 <;> cases q1
  | d :: ds, e :: es, ps, h1, h2, q1, q2 => by
    simp only [pyL] at q1 q2
    simp only [plBL, Bool.and_eq_true] at h1 h2
    split at q1
    · rename_i p1 ps1 w1 w2
      cases q1
      split at q2
      · rename_i p2 ps2 w3 w4
        cases q2
        rw [py0_inj h1.1 h2.1 w1 w3, pyL_inj h1.2 h2.2 w2 w4]
      · cases q2
    · cases q1
end
theorem pyL_len : ∀ {ds : List D} {ps : List PyData}, pyL ds = some ps → ps.length = ds.length
  | [], ps, h => by simp only [pyL] at h; cases h; rfl
  | d :: ds, ps, h => by
    simp only [pyL] at h
    split at h
    · rename_i p qs h1 h2
      cases h
      rw [List.length_cons, List.length_cons, pyL_len h2]
    · cases h
theorem pyL_at' : ∀ {ds : List D} {ps : List PyData}, pyL ds = some ps → ∀ (i : Nat) (d : D), ds[i]? = some d → ∃ p, ps[i]? = some p ∧ py0 d = some p
  | [], ps, h, i, d, e => by simp at e
  | d0 :: ds, ps, h, i, d, e => by
    simp only [pyL] at h
    split at h
    · rename_i p qs h1 h2
      cases h
      cases i with
      | zero => simp at e; subst e; exact ⟨p, rfl, h1⟩
      | succ i => exact pyL_at' h2 i d (by simpa using e)
    · cases h
def bestL (lt : PyData → PyData → Bool) (t : D × PyData) (ts : List (D × PyData)) : D × PyData := ts.foldl (fun a y => if lt y.2 a.2 then y else a) t
theorem bestL_snd (lt : PyData → PyData → Bool) : ∀ (ts : List (D × PyData)) (t : D × PyData), (bestL lt t ts).2 = (ts.map (·.2)).foldl (fun a y => if lt y a then y else a) t.2 ∧ bestL lt t ts ∈ t :: ts
  | [], t => ⟨rfl, List.mem_cons_self⟩
  | u :: ts, t => by
    have h := bestL_snd lt ts (if lt u.2 t.2 then u else t)
    unfold bestL at h ⊢
    rw [List.foldl_cons, List.map_cons, List.foldl_cons]
    have e : (if lt u.2 t.2 = true then u else t).2 = if lt u.2 t.2 = true then u.2 else t.2 := by split <;> rfl
    rw [e] at h
    refine ⟨h.1, ?_⟩
    rcases List.mem_cons.mp h.2 with q | q
    · rw [q]
      split
      · exact List.mem_cons_of_mem _ List.mem_cons_self
      · exact List.mem_cons_self
    · exact List.mem_cons_of_mem _ (List.mem_cons_of_mem _ q)
def ltD (mn : Bool) (p q : PyData) : Bool := if mn then dataLt p q else dataLt q p
def noneB : PyData → Bool
  | .none => false
  | _ => true
def mmOk (ds : List D) (ps : List PyData) : Bool := plBL ds && (alikeB ps && (ps.all noneB && decide (PyData.depthAll ps ≤ 60)))
def mmD (mn : Bool) (ds : List D) : Option D := match ds, pyL ds with
  | d :: ds', some (p :: ps') => if mmOk ds (p :: ps') then some (bestL (ltD mn) (d, p) (ds'.zip ps')).1 else none
  | _, _ => none
theorem alikeAll_of {ps : List PyData} (h : alikeB ps = true) (h2 : ps.all noneB = true) : AlikeAll ps := by
  refine ⟨fun x hx y hy => alikeB_ok h x hx y hy, fun x hx z => ?_⟩
  subst z
  have := List.all_eq_true.mp h2 _ hx
  cases this
/-- what the best item is -/
theorem mmD_at {mn : Bool} {ds : List D} {d : D} (h : mmD mn ds = some d) : ∃ (p : PyData) (ps : List PyData), pyL ds = some (p :: ps) ∧ mmOk ds (p :: ps) = true ∧
    (∀ (i : Nat) (e : D) (q : PyData), ds[i]? = some e → py0 e = some q → q = (if mn then minD p ps else maxD p ps) → e = d) := by
  unfold mmD at h
  split at h
  · rename_i d0 ds' p ps' q
    split at h
    · rename_i g
      cases h
      refine ⟨p, ps', q, g, fun i e q1 h1 h2 h3 => ?_⟩
      have hb := bestL_snd (ltD mn) (ds'.zip ps') (d0, p)
      have ql : ps'.length = ds'.length := by
        have := pyL_len q
        simpa using this
      have m2 : (ds'.zip ps').map (·.2) = ps' := by rw [List.map_snd_zip]; omega
      rw [m2] at hb
      have e2 : (bestL (ltD mn) (d0, p) (ds'.zip ps')).2 = if mn then minD p ps' else maxD p ps' := by
        rw [hb.1]
        cases mn <;> rfl
      have hm : bestL (ltD mn) (d0, p) (ds'.zip ps') ∈ (d0 :: ds').zip (p :: ps') := hb.2
      obtain ⟨j, hj⟩ := List.getElem?_of_mem hm
      rw [List.getElem?_zip_eq_some] at hj
      obtain ⟨pj, w1, w2⟩ := pyL_at' q j _ hj.1
      rw [hj.2] at w1
      cases w1
      unfold mmOk at g
      rw [Bool.and_eq_true] at g
      have pl : ∀ (l : List D), plBL l = true → ∀ x ∈ l, plB x = true := by
        intro l
        induction l with
        | nil => intro _ x hx; cases hx
        | cons a l ih =>
          intro hl x hx
          simp only [plBL, Bool.and_eq_true] at hl
          rcases List.mem_cons.mp hx with rfl | hx
          · exact hl.1
          · exact ih hl.2 x hx
      refine py0_inj (p := q1) (pl _ g.1 e (List.mem_of_getElem? h1)) (pl _ g.1 _ (List.mem_of_getElem? hj.1)) h2 ?_
      rw [w2, e2, h3]
    · cases h
  · cases h
def fMM (mn : Bool) : List D → M D := fun ds s => match ds with
  | [d] => (match seqD s.s d with
    | some (_, xs) => optM (mmD mn xs) s
    | none => none)
  | _ => none
where optM (o : Option D) : M D := fun s => match o with
  | some d => some (.ok d s)
  | none => none
def fMMd (mn : Bool) : List D → D → M D := fun ds dd s => match ds with
  | [d] => (match seqD s.s d with
    | some (_, []) => some (.ok dd s)
    | some (_, x :: xs) => fMM.optM (mmD mn (x :: xs)) s
    | none => none)
  | _ => none
section
variable {X : Cx} {E : WX}
theorem iList {pins : List (Addr × Obj)} {σ : L2.St} {H : Hp} {s : Shared} {a : Addr} {xs : List V} (I : Inv X pins σ H s) (h : SqL X.K H a xs) : ∃ its : List Value, L2.Vals xs its ∧ s.heap.IsList a its.toArray := by
  obtain ⟨its, rv, hl, _⟩ := I.list h
  exact ⟨its, rv, hl.isList⟩
def rMM (K : Frg) (mn : Bool) : List V → Hp → VK → Prop := fun vs H Q => ∃ (a : Addr) (xs : List V) (p : PyData) (ps : List PyData), vs = [.ref a] ∧ (SqL K H a xs ∨ SqT K H a xs) ∧ DpAll K H xs (p :: ps) ∧ AlikeAll (p :: ps) ∧ PyData.depthAll (p :: ps) ≤ 60 ∧
  ∀ (i : Nat) (v : V) (q : PyData), xs[i]? = some v → (p :: ps)[i]? = some q → q = (if mn then minD p ps else maxD p ps) → Q v H
theorem dpAll_at {K : Frg} {H : Hp} : ∀ {vs : List V} {ps : List PyData}, DpAll K H vs ps → ∀ (i : Nat) (v : V), vs[i]? = some v → ∃ p, ps[i]? = some p ∧ Dp K H v p
  | _, _, .nil, i, v, h => by simp at h
  | _, _, .cons h r, 0, v, e => by simp at e; subst e; exact ⟨_, rfl, h⟩
  | _, _, .cons h r, i + 1, v, e => dpAll_at r i v (by simpa using e)
theorem cr_mm (mn : Bool) (hc : X.calm = true) (hu : X.A.units + 64 < cLine) : CallR X (.builtin (if mn then "min" else "max")) (rMM X.K mn) := by
  intro pins s σ H vs us Q I r h
  obtain ⟨a, xs, p, ps, rfl, hs, hd, hal, hdep, q⟩ := h
  cases r with
  | cons r1 r2 =>
    cases r2
    cases r1
    have hh : X.A.handled = none := I.ok.hd hc
    have fin : ∀ (its : List Value), L2.Vals xs its → ∀ (i : Nat) v h' tk bs, its.toArray[i]? = some v → Reads h' v (if mn then minD p ps else maxD p ps) bs → (∀ b o, s.heap.get? b = some o → h'.get? b = some o) → EP X pins σ Q v { s with heap := h', toks := tk } := by
      intro its rv i v h' tk bs hv hr hk
      have hv' : its[i]? = some v := by simpa using hv
      obtain ⟨x, hx, rx⟩ := (show ∃ x, xs[i]? = some x ∧ L2.RelV x v from by
        have hl : i < its.length := (List.getElem?_eq_some_iff.mp hv').1
        have hl2 : i < xs.length := by rw [rv.length]; exact hl
        obtain ⟨u, hu, ru⟩ := rv.get (List.getElem?_eq_getElem hl2)
        rw [hv'] at hu
        cases hu
        exact ⟨_, List.getElem?_eq_getElem hl2, ru⟩)
      obtain ⟨qd, w1, w2⟩ := dpAll_at hd i x hx
      obtain ⟨as, rd⟩ := Dp.reads I qd x v w2 rx
      have e := (reads_det (fun b o e _ => hk b o e) rd hr).1
      exact ⟨x, H, I.kept (t' := tk) hk, rx, q i x qd hx w1 e.symm⟩
    rcases hs with hs | hs
    · obtain ⟨its, rv, hl⟩ := iList I hs
      obtain ⟨as, ra⟩ := Dp.readsAll I (p :: ps) xs its hd rv
      cases mn with
      | true => exact min_list_data hh hl (by simpa using ra) hal (by show X.A.units + 1 + _ < _; omega) (fin its rv)
      | false => exact max_list_data hh hl (by simpa using ra) hal (by show X.A.units + 1 + _ < _; omega) (fin its rv)
    · obtain ⟨its, rv, hl, _⟩ := I.tuple hs
      obtain ⟨as, ra⟩ := Dp.readsAll I (p :: ps) xs its hd rv
      cases mn with
      | true => exact min_tuple_data hh hl (by simpa using ra) hal (by show X.A.units + 1 + _ < _; omega) (fin its rv)
      | false => exact max_tuple_data hh hl (by simpa using ra) hal (by show X.A.units + 1 + _ < _; omega) (fin its rv)
end

section
variable {K : Frg} {E : WX}
theorem getBoth {F : Hp} {α : List Addr} {vs : List V} {ds : List D} (h : HasL K F α vs ds) {i : Nat} {v : V} (e : vs[i]? = some v) : ∃ d, ds[i]? = some d ∧ Has K F α v d := h.getV e
theorem s_mm (mn : Bool) : SpA K E (rMM K mn) (fMM mn) := by
  intro G F H α σ s xs ds Q R k h
  unfold fMM at h
  split at h
  · rename_i d
    obtain ⟨v, rfl, k1⟩ := k.one
    split at h
    · rename_i kd ys q
      obtain ⟨a, us, rfl, hl, w1, w2⟩ := seq_at R.st k1 q
      unfold fMM.optM at h
      cases e : mmD mn ys with
      | none => rw [e] at h; exact h.elim
      | some d0 =>
        rw [e] at h
        obtain ⟨p, ps, e1, g, e2⟩ := mmD_at e
        unfold mmOk at g
        simp only [Bool.and_eq_true] at g
        have hd := pyL_at R.st.ex hl e1
        refine ⟨a, us, p, ps, rfl, ?_, hd, alikeAll_of g.2.1 g.2.2.1, of_decide_eq_true g.2.2.2, fun i v q1 hv hq he => ?_⟩
        · cases kd
          · exact .inr (w2 rfl)
          · exact .inl (w1 rfl)
        · obtain ⟨di, hdi, hvi⟩ := hl.getV hv
          obtain ⟨pi, z1, z2⟩ := pyL_at' e1 i di hdi
          rw [hq] at z1
          cases z1
          rw [← e2 i di _ hdi z2 he] at h
          exact fin (d := di) h R hvi
    · exact h.elim
  · exact h.elim
end
/-! ### defs with defaults -/
/-- THE RULE for a def, with defaults or without -/
theorem fn_defD {P : Program} {w : World} {K : Frg} {mg : Str → Option Value} {base : Heap} {x qual : Str} {st : Stmt} {f : Addr} {fd : FuncData} {N ps : List Str} {k : Nat} {body : M Fl} {dvs : List V} {kws : List (Str × V)} (F : FunD K x qual (defArgs st) (defBody st) (defScope st) dvs kws f fd) (S : FnScope N ps (defScope st))
    (hbody : ∀ (cdv : Value) (A : Around) (outer : List Env) (s : Shared) (H : Hp) (E : XK), Room k (A.deeper (envOfC qual (defScope st) s.heap.objs.size f cdv)) →
      DSs (cxOf (L2.CX P w) P w K mg base N qual (defScope st) f cdv A outer s H E) (XW E) (defBody st) body) : FnOk P w K mg base (L2.CX P w) (k + 1) f fd ps (spF K ps.length (mdef N.length body)) := by
  refine F.ok S (fun vs H Q E h => h.1) fun cdv A outer s H vs Q E hr h => ⟨_, hbody cdv A outer s H E hr, ?_⟩
  refine mdef_run ?_ h
  have := congrArg List.length S.pre
  rw [List.length_take] at this
  omega
theorem Dfl.of {K : Frg} {x qual : Str} {params : Arguments} {body : List Stmt} {scope : Scope} {dvs : List V} {f : Addr} {fd : FuncData} {ps : List Str} {dv : List D} (F : FunD K x qual params body scope dvs [] f fd) (n j : Nat) (hd : dvs ≠ []) (hn : n + (dvs.length - j) = ps.length) (hv : ∀ F α, HasL K F α (dvs.drop j) dv)
    (h : ∀ (T : Addr) (kV doc pm : Value) (an : Option Addr) (cdv ct : Value) (us its : List Value), us.length = n → its.length = dvs.length →
      ∃ k, bindArgs (PySem.W.fnOf x qual params body scope (.ref T) kV doc pm an cdv ct) ⟨us, []⟩ = seqItems? (.ref T) >>= k ∧ k (some its.toArray) = pure (ps.zip (us ++ its.drop j))) : Dfl K fd ps dv := by
  obtain ⟨ds, h1, h2⟩ := F.binds1 n j hd hn h
  exact ⟨_, ds, h1, hv, h2⟩
theorem funD_mk {K : Frg} {x qual : Str} {st : Stmt} {f T : Addr} {oc : Value} {od an oT : Option Addr} {osl sT : Array (Option Value)} {kV doc pm cdv ct : Value} {its : List Value} {n : Nat} {dvs : List V}
    (l : K.lookup f = some ⟨oc, od, .func (PySem.W.fnOf x qual (defArgs st) (defBody st) (defScope st) (.ref T) kV doc pm an cdv ct), osl⟩) (c : PySem.W.codeIn K cdv qual = true) (k : PySem.W.keepIn K (.ref f) = true)
    (t : K.lookup T = some ⟨.type "tuple", oT, .seq its.toArray n, sT⟩) (hv : L2.Vals dvs its) (hd : dvs ≠ []) : FunD K x qual (defArgs st) (defBody st) (defScope st) dvs [] f (PySem.W.fnOf x qual (defArgs st) (defBody st) (defScope st) (.ref T) kV doc pm an cdv ct) :=
  ⟨⟨oc, od, .ref T, kV, doc, pm, an, cdv, ct, osl, rfl, l, c, .inr ⟨hd, T, _, its, n, rfl, t, rfl, hv⟩, .inl rfl⟩, k⟩
end DL

/-! from DL18.lean -/
set_option Elab.async false
set_option linter.all false
set_option maxRecDepth 100000
set_option maxHeartbeats 2000000
/-! DL18: is True, is not True. -/
namespace DL
open PySem L2
section
variable {E : WX} {K : Frg}
def fIsB (neg : Bool) : D → D → M D := fun d e => match d, e with
  | .bl a, .bl b => ret (.bl (if neg then !decide (a = b) else decide (a = b)))
  | _, _ => fail
theorem s_isB : Sp2 K E rIsB (fIsB false) := by
  intro G F H α σ s x y d e Q R kx ky h
  unfold fIsB at h
  split at h
  · cases kx
    cases ky
    exact ⟨_, _, rfl, rfl, fin h R (.bl _)⟩
  · exact h.elim
theorem s_notB : Sp2 K E rNotB (fIsB true) := by
  intro G F H α σ s x y d e Q R kx ky h
  unfold fIsB at h
  split at h
  · cases kx
    cases ky
    exact ⟨_, _, rfl, rfl, fin h R (.bl _)⟩
  · exact h.elim
end
end DL

/-! from DL19.lean -/
set_option Elab.async false
set_option linter.all false
set_option maxRecDepth 100000
set_option maxHeartbeats 2000000
/-! DL19: sum of a list's or a tuple's numbers. -/
namespace DL
open PySem L2 PySem.W PyProof.Rows PyProof.V
section
variable {X : Cx} {E : WX} {K : Frg}
def rSumA (K : Frg) : List V → Hp → VK → Prop := fun vs H Q => ∃ (a : Addr) (ns : List Int), vs = [V.ref a] ∧ (SqL K H a (ns.map V.int) ∨ SqT K H a (ns.map V.int)) ∧ Q (.int ns.sum) H
theorem cr_sumA (hc : X.calm = true) : CallR X (.builtin "sum") (rSumA X.K) := by
  intro pins s σ H vs us Q I r h
  obtain ⟨a, ns, rfl, hs | hs, q⟩ := h
  · exact cr_sum hc pins s σ H _ us Q I r ⟨a, ns, rfl, hs, q⟩
  · obtain ⟨its, rv, hl, _⟩ := I.tuple hs
    rw [Vals.ref1 r]
    have hi := rv.ints
    obtain ⟨xs, hx⟩ := hi.allInts.items
    have hn := hi.numsOf
    rw [show its = its.toArray.toList from rfl, hx] at hn
    rw [hx] at hl
    rw [nums_intItems] at hn
    refine PySem.W.ktm_sumG (I.ok.hd hc) hl fun h' tk t' hk => ?_
    rw [preSum_eq, List.take_of_length_le (by simp), hn]
    exact ⟨.int _, H, I.kept hk, ⟨_, rfl⟩, q⟩
def intsA (ς : Store) (d : D) : Option (List Int) := match seqD ς d with
  | some (_, ds) => intsD ds
  | _ => none
def fSumA : List D → M D := fun ds s => match ds with
  | [d] => match intsA s.s d with
    | some ns => ret (.int ns.sum) s
    | none => none
  | _ => none
theorem s_sumA : SpA K E (rSumA K) fSumA := by
  intro G F H α σ s xs ds Q R k h
  unfold fSumA at h
  split at h
  · obtain ⟨v, rfl, k1⟩ := k.one
    split at h
    · rename_i ns q
      unfold intsA at q
      split at q
      · rename_i kd ds e
        obtain ⟨a, xs, rfl, hl, w1, w2⟩ := seq_at R.st k1 e
        have z := intsD_eq q
        subst z
        rw [hl.ints] at w1 w2
        refine ⟨a, ns, rfl, ?_, fin h R (.int _)⟩
        cases kd
        · exact .inr (w2 rfl)
        · exact .inl (w1 rfl)
      · cases q
    · exact h.elim
  · exact h.elim
end
end DL

/-! from DL20.lean -/
set_option Elab.async false
set_option linter.all false
set_option maxRecDepth 100000
set_option maxHeartbeats 4000000
/-! DL20: a list made by two fors. -/
namespace DL
open PySem L2
def lcR2 (e0 : List (Option D)) (g : Tg) (tt : M Bool) (src1 : M (List D)) (vs1 : List Nat) (g1 : Tg) (tt1 : M Bool) (te : M D) : List D → Store → Option (List D × Store)
  | [], ς => some ([], ς)
  | d :: ds, ς => (g d ⟨e0, ς⟩).bind fun s1 => match tt s1 with
    | some (.ok true s2) => (match src1 s2 with
      | some (.ok ds1 s3) => (lcR (wipeD s3.e vs1) g1 tt1 te ds1 s3.s).bind fun p => (lcR2 e0 g tt src1 vs1 g1 tt1 te ds p.2).map fun q => (p.1 ++ q.1, q.2)
      | _ => none)
    | some (.ok false s2) => lcR2 e0 g tt src1 vs1 g1 tt1 te ds s2.s
    | _ => none
def lcK2 (own : Bool) (vs : List Nat) (g : Tg) (tt : M Bool) (src1 : M (List D)) (vs1 : List Nat) (g1 : Tg) (tt1 : M Bool) (te : M D) (ds : List D) : M D := fun s => match lcR2 (wipeD s.e vs) g tt src1 vs1 g1 tt1 te ds s.s with
  | some (ys, ς) => guard' (small ys.length) (mk own ys) ⟨s.e, ς⟩
  | none => none
def lcM2 (own : Bool) (vs : List Nat) (src : M (List D)) (g : Tg) (tt : M Bool) (src1 : M (List D)) (vs1 : List Nat) (g1 : Tg) (tt1 : M Bool) (te : M D) : M D := bnd src (lcK2 own vs g tt src1 vs1 g1 tt1 te)
theorem lcR_ext {e0 : List (Option D)} {g : Tg} {tt : M Bool} {te : M D} : True := trivial
theorem r_lc2 {K : Frg} {E : WX} {own : Bool} {vs js vs1 js1 : List Nat} {src src1 : M (List D)} {g g1 : Tg} {t t1 : TG} {tt tt1 : M Bool} {te : M D} (hg : SpG K t g js) (hj : ∀ j ∈ js, j ∈ vs) (hg1 : SpG K t1 g1 js1) (hj1 : ∀ j ∈ js1, j ∈ vs1) {σ : L2.St} {H : Hp} {Q : VK}
    (h : rE K E (lcM2 own vs src g tt src1 vs1 g1 tt1 te) σ H Q) :
    tLc2 (rIt K E src) t (rT K W0 tt) (rIt K W0 src1) t1 (rT K W0 tt1) (rE K W0 te) vs vs1 σ H Q := by
  obtain ⟨G, F, α, s, R, h⟩ := h
  refine ⟨G, F, α, s, R, h.bind.mono fun F1 α1 H1 ds s1 x1 h1 R1 J wk p hp => ?_⟩
  have gp : G p = none := R1.st.gx.free hp
  unfold lcK2 at h1
  cases e0 : lcR2 (wipeD s1.e vs) g tt src1 vs1 g1 tt1 te ds s1.s with
  | none => simp only [e0] at h1; exact h1.elim
  | some q0 =>
    obtain ⟨yys, ςe⟩ := q0
    simp only [e0] at h1
    obtain ⟨gs, h2⟩ := wp_guard h1
    have track0 : RelS K (upd G p (.lst [])) F1 (upd H1 p (.lst [])) α1 σ s1 := ⟨R1.st.track hp _, R1.len, R1.sl⟩
    refine ⟨fun i m H' => m = ds.length - i ∧ i ≤ ds.length ∧ ∃ F2 α2 ς2 acc ys zs, Ext F1 α1 F2 α2 ∧ Rel0 K (upd G p (.lst acc)) F2 H' α2 ς2 ∧ HasL K F2 α2 acc ys ∧ lcR2 (wipeD s1.e vs) g tt src1 vs1 g1 tt1 te (ds.drop i) ς2 = some (zs, ςe) ∧ yys = ys ++ zs,
      ⟨ds.length, by simp, Nat.zero_le _, F1, α1, s1.s, [], [], yys, Ext.refl _ _, track0.st, .nil, e0, rfl⟩, ?_⟩
    rintro i m H2 ⟨rfl, hi, F2, α2, ς2, acc, ys, zs, x2, R2, k2, e2, ey⟩
    obtain ⟨w1, w2⟩ := wk i F2 H2 α2 x2 R2.ex
    by_cases hlt : i < ds.length
    · have hd : ds.drop i = ds[i] :: ds.drop (i + 1) := List.drop_eq_getElem_cons hlt
      obtain ⟨go, yl⟩ := w1 ds[i] (by simp [hlt])
      refine .inr ⟨go, fun H' => ds.length - (i + 1) = ds.length - (i + 1) ∧ i + 1 ≤ ds.length ∧ ∃ F2 α2 ς2 acc ys zs, Ext F1 α1 F2 α2 ∧ Rel0 K (upd G p (.lst acc)) F2 H' α2 ς2 ∧ HasL K F2 α2 acc ys ∧ lcR2 (wipeD s1.e vs) g tt src1 vs1 g1 tt1 te (ds.drop (i + 1)) ς2 = some (zs, ςe) ∧ yys = ys ++ zs,
        fun H' q => ⟨ds.length - (i + 1), by omega, q⟩, fun x H' y => ?_⟩
      obtain ⟨F3, x3, keep, hx⟩ := yl x H' y
      rw [hd] at e2
      have base : RelS K (upd G p (.lst acc)) F2 H2 α2 (L2.wipe σ vs) ⟨wipeD s1.e vs, ς2⟩ := (RelS.wipe (R := ⟨R2, R1.len, fun i d e => let ⟨v, h1, h2⟩ := R1.sl i d e; ⟨v, h1, h2.ext x2⟩⟩) (s := ⟨s1.e, ς2⟩) (σ := σ) vs)
      have e3 : ((g ds[i] ⟨wipeD s1.e vs, ς2⟩).bind fun s1' => match tt s1' with
        | some (.ok true s2) => (match src1 s2 with
          | some (.ok ds1 s3) => (lcR (wipeD s3.e vs1) g1 tt1 te ds1 s3.s).bind fun p => (lcR2 (wipeD s1.e vs) g tt src1 vs1 g1 tt1 te (ds.drop (i + 1)) p.2).map fun q => (p.1 ++ q.1, q.2)
          | _ => none)
        | some (.ok false s2) => lcR2 (wipeD s1.e vs) g tt src1 vs1 g1 tt1 te (ds.drop (i + 1)) s2.s
        | _ => none) = some (zs, ςe) := e2
      obtain ⟨s3, e4, e5⟩ := Option.bind_eq_some_iff.mp e3
      refine hg (upd G p (.lst acc)) F3 H' α2 (L2.wipe σ vs) _ x ds[i] s3 _ (keep _ _ _ base) hx e4 fun σ3 R3 b3 => ?_
      refine ⟨wipe_but b3 hj, upd G p (.lst acc), F3, α2, s3, R3, ?_⟩
      cases et : tt s3 with
      | none => simp only [et] at e5; cases e5
      | some ot =>
        cases ot with
        | exc C fs ς => simp only [et] at e5; cases e5
        | ok b s4 =>
          refine wp_post fun F4 α4 H4 x4 R4 => ?_
          cases b with
          | false =>
            simp only [et] at e5
            refine iteF ⟨rfl, hlt, F4, α4, s4.s, acc, ys, zs, x2.trans (x3.trans x4), R4.st, k2.ext (x3.trans x4), e5, ey⟩
          | true =>
            simp only [et] at e5
            refine iteT ⟨upd G p (.lst acc), F4, α4, s4, R4, ?_⟩
            cases es : src1 s4 with
            | none => simp only [es] at e5; cases e5
            | some os =>
              cases os with
              | exc C fs ς => simp only [es] at e5; cases e5
              | ok ds1 s5 =>
                simp only [es] at e5
                obtain ⟨pin, e6, e7⟩ := Option.bind_eq_some_iff.mp e5
                obtain ⟨pr, e8, e9⟩ := Option.map_eq_some_iff.mp e7
                obtain ⟨yin, ςi⟩ := pin
                obtain ⟨zr, ςr⟩ := pr
                cases e9
                simp only at e8 ey
                refine wp_post fun F5 α5 H5 x5 R5 J1 wk1 => ?_
                refine ⟨fun j m H' => m = ds1.length - j ∧ j ≤ ds1.length ∧ ∃ F6 α6 ς6 acc6 y1 z1, Ext F5 α5 F6 α6 ∧ Rel0 K (upd G p (.lst acc6)) F6 H' α6 ς6 ∧ HasL K F6 α6 acc6 (ys ++ y1) ∧ lcR (wipeD s5.e vs1) g1 tt1 te (ds1.drop j) ς6 = some (z1, ςi) ∧ yin = y1 ++ z1,
                  ⟨ds1.length, by simp, Nat.zero_le _, F5, α5, s5.s, acc, [], yin, Ext.refl _ _, R5.st, by rw [List.append_nil]; exact k2.ext (x3.trans (x4.trans x5)), e6, rfl⟩, ?_⟩
                rintro j m6 H6 ⟨rfl, hj6, F6, α6, ς6, acc6, y1, z1, x6, R6, k6, e10, ey1⟩
                obtain ⟨v1, v2⟩ := wk1 j F6 H6 α6 x6 R6.ex
                by_cases jl : j < ds1.length
                · have hd1 : ds1.drop j = ds1[j] :: ds1.drop (j + 1) := List.drop_eq_getElem_cons jl
                  obtain ⟨go1, yl1⟩ := v1 ds1[j] (by simp [jl])
                  refine .inr ⟨go1, fun H' => ds1.length - (j + 1) = ds1.length - (j + 1) ∧ j + 1 ≤ ds1.length ∧ ∃ F6 α6 ς6 acc6 y1 z1, Ext F5 α5 F6 α6 ∧ Rel0 K (upd G p (.lst acc6)) F6 H' α6 ς6 ∧ HasL K F6 α6 acc6 (ys ++ y1) ∧ lcR (wipeD s5.e vs1) g1 tt1 te (ds1.drop (j + 1)) ς6 = some (z1, ςi) ∧ yin = y1 ++ z1,
                    fun H' q => ⟨ds1.length - (j + 1), by omega, q⟩, fun x7 H7 y7 => ?_⟩
                  obtain ⟨F7, x7', keep7, hx7⟩ := yl1 x7 H7 y7
                  rw [hd1] at e10
                  have base7 : RelS K (upd G p (.lst acc6)) F6 H6 α6 (L2.wipe σ3 vs1) ⟨wipeD s5.e vs1, ς6⟩ := (RelS.wipe (R := ⟨R6, R5.len, fun i d e => let ⟨v, h1, h2⟩ := R5.sl i d e; ⟨v, h1, h2.ext x6⟩⟩) (s := ⟨s5.e, ς6⟩) (σ := σ3) vs1)
                  have e11 : ((g1 ds1[j] ⟨wipeD s5.e vs1, ς6⟩).bind fun s1' => match tt1 s1' with
                    | some (.ok true s2) => (match te s2 with
                      | some (.ok y s3) => (lcR (wipeD s5.e vs1) g1 tt1 te (ds1.drop (j + 1)) s3.s).map fun p => (y :: p.1, p.2)
                      | _ => none)
                    | some (.ok false s2) => lcR (wipeD s5.e vs1) g1 tt1 te (ds1.drop (j + 1)) s2.s
                    | _ => none) = some (z1, ςi) := e10
                  obtain ⟨s8, e12, e13⟩ := Option.bind_eq_some_iff.mp e11
                  refine hg1 (upd G p (.lst acc6)) F7 H7 α6 (L2.wipe σ3 vs1) _ x7 ds1[j] s8 _ (keep7 _ _ _ base7) hx7 e12 fun σ8 R8 b8 => ?_
                  refine ⟨wipe_but b8 hj1, upd G p (.lst acc6), F7, α6, s8, R8, ?_⟩
                  cases et1 : tt1 s8 with
                  | none => simp only [et1] at e13; cases e13
                  | some ot1 =>
                    cases ot1 with
                    | exc C fs ς => simp only [et1] at e13; cases e13
                    | ok b1 s9 =>
                      refine wp_post fun F9 α9 H9 x9 R9 => ?_
                      cases b1 with
                      | false =>
                        simp only [et1] at e13
                        refine iteF ⟨rfl, jl, F9, α9, s9.s, acc6, y1, z1, x6.trans (x7'.trans x9), R9.st, k6.ext (x7'.trans x9), e13, ey1⟩
                      | true =>
                        simp only [et1] at e13
                        refine iteT ⟨upd G p (.lst acc6), F9, α9, s9, R9, ?_⟩
                        cases ee : te s9 with
                        | none => simp only [ee] at e13; cases e13
                        | some oe =>
                          cases oe with
                          | exc C fs ς => simp only [ee] at e13; cases e13
                          | ok yd s10 =>
                            simp only [ee] at e13
                            obtain ⟨pr, e14, e15⟩ := Option.map_eq_some_iff.mp e13
                            obtain ⟨z1', ςi'⟩ := pr
                            cases e15
                            refine wp_post fun F10 α10 H10 x10 yv R10 ky => ?_
                            have lt : acc6.length < sizeLine := by
                              have q := k6.len
                              rw [List.length_append] at q
                              have q2 := congrArg List.length ey
                              have q4 := congrArg List.length ey1
                              simp only [List.length_append, List.length_cons] at q2 q4
                              have q3 := of_decide_eq_true gs
                              have q5 : sizeLine = 16777216 := sizeLine_eq
                              omega
                            refine ⟨acc6, R10.st.gx p _ upd_same, lt, rfl, jl, F10, α10, s10.s, acc6 ++ [yv], y1 ++ [yd], z1', x6.trans (x7'.trans (x9.trans x10)), R10.st.retrack, ?_, e14, by rw [ey1, List.append_assoc]; rfl⟩
                            rw [← List.append_assoc]
                            exact (k6.ext (x7'.trans (x9.trans x10))).app (.cons ky .nil)
                · have ej : j = ds1.length := by omega
                  subst ej
                  rw [List.drop_length] at e10
                  cases e10
                  rw [List.append_nil] at ey1
                  subst ey1
                  refine .inl ⟨v2 (Nat.le_refl _), rfl, hlt, F6, α6, ςi, acc6, ys ++ yin, zr, x2.trans (x3.trans (x4.trans (x5.trans x6))), R6, k6, e8, by rw [ey, List.append_assoc]⟩
    · have e : i = ds.length := by omega
      subst e
      refine .inl ⟨w2 (Nat.le_refl _), ?_⟩
      rw [List.drop_length] at e2
      cases e2
      rw [List.append_nil] at ey
      subst ey
      exact fin_track (h2.ext x2) gp (s := ⟨s1.e, ςe⟩) ⟨R2, R1.len, fun i d e => let ⟨v, h1, h2⟩ := R1.sl i d e; ⟨v, h1, h2.ext x2⟩⟩ k2
section
variable {X : Cx} {E : WX} {pos : Pos}
theorem d_lc2 (own : Bool) {elt tg iter tg1 iter1 : Expr} {ifs ifs1 : List Expr} {scope : Scope} {ow : List (Str × Nat)} {vs1 : List Nat} {src src1 : M (List D)} {g g1 : Tg} {js js1 : List Nat} {t t1 : TG} {tt tt1 : M Bool} {te : M D} (hc : X.calm = true) (hN : X.N.Nodup) (hi : DI X E tg iter src) (ok : BlkOk X.N X.env.scope scope ow)
    (hg : ∀ (s : Shared) (H : Hp) (C : Addr) (cl : List (Str × Addr)) (fp : List Addr), DG (X.blk s H scope (compEnvC scope cl C X.env) fp) tg g js t) (ht : ∀ (s : Shared) (H : Hp) (C : Addr) (cl : List (Str × Addr)) (fp : List Addr), DTs (X.blk s H scope (compEnvC scope cl C X.env) fp) W0 ifs tt)
    (hi1 : ∀ (s : Shared) (H : Hp) (C : Addr) (cl : List (Str × Addr)) (fp : List Addr), DI (X.blk s H scope (compEnvC scope cl C X.env) fp) W0 tg1 iter1 src1)
    (hg1 : ∀ (s : Shared) (H : Hp) (C : Addr) (cl : List (Str × Addr)) (fp : List Addr), DG (X.blk s H scope (compEnvC scope cl C X.env) fp) tg1 g1 js1 t1) (ht1 : ∀ (s : Shared) (H : Hp) (C : Addr) (cl : List (Str × Addr)) (fp : List Addr), DTs (X.blk s H scope (compEnvC scope cl C X.env) fp) W0 ifs1 tt1)
    (he : ∀ (s : Shared) (H : Hp) (C : Addr) (cl : List (Str × Addr)) (fp : List Addr), DE (X.blk s H scope (compEnvC scope cl C X.env) fp) W0 elt te) (hj : ∀ j ∈ js, j ∈ ow.map (·.2) := by decide) (hj1 : ∀ j ∈ js1, j ∈ vs1 := by decide) (hv : ∀ i ∈ vs1, i ∈ ow.map (·.2) := by decide)
    (hs : ∀ x, foldedSetIterable iter X.env x = pure x := by intro _; rfl) (hs1 : ∀ env x, foldedSetIterable iter1 env x = pure x := by intro _ _; rfl) :
    DE X E (.ListComp elt [⟨tg, iter, ifs, 0⟩, ⟨tg1, iter1, ifs1, 0⟩] scope pos) (lcM2 own (ow.map (·.2)) src g tt src1 vs1 g1 tt1 te) := by
  refine ⟨fun pins s σ H Q I h => ?_⟩
  have hsp : SpG X.K t g js := (hg s H 0 [] []).sp
  have hsp1 : SpG X.K t1 g1 js1 := (hg1 s H 0 [] []).sp
  exact (pe_lc2 hc hN hi ok hv (fun s H C cl fp => (hg s H C cl fp).pg) ht hi1 (fun s H C cl fp => (hg1 s H C cl fp).pg) ht1 he hs hs1).run pins s σ H Q I (r_lc2 hsp hj hsp1 hj1 h)
theorem d_setLc2 (i : Nat) (own : Bool) {y : Str} {py spos : Pos} {elt tg iter tg1 iter1 : Expr} {ifs ifs1 : List Expr} {scope : Scope} {ow : List (Str × Nat)} {vs1 : List Nat} {src src1 : M (List D)} {g g1 : Tg} {js js1 : List Nat} {t t1 : TG} {tt tt1 : M Bool} {te : M D} (hc : X.calm = true) (hN : X.N.Nodup) (hi : DI X E tg iter src) (ok : BlkOk X.N X.env.scope scope ow)
    (hg : ∀ (s : Shared) (H : Hp) (C : Addr) (cl : List (Str × Addr)) (fp : List Addr), DG (X.blk s H scope (compEnvC scope cl C X.env) fp) tg g js t) (ht : ∀ (s : Shared) (H : Hp) (C : Addr) (cl : List (Str × Addr)) (fp : List Addr), DTs (X.blk s H scope (compEnvC scope cl C X.env) fp) W0 ifs tt)
    (hi1 : ∀ (s : Shared) (H : Hp) (C : Addr) (cl : List (Str × Addr)) (fp : List Addr), DI (X.blk s H scope (compEnvC scope cl C X.env) fp) W0 tg1 iter1 src1)
    (hg1 : ∀ (s : Shared) (H : Hp) (C : Addr) (cl : List (Str × Addr)) (fp : List Addr), DG (X.blk s H scope (compEnvC scope cl C X.env) fp) tg1 g1 js1 t1) (ht1 : ∀ (s : Shared) (H : Hp) (C : Addr) (cl : List (Str × Addr)) (fp : List Addr), DTs (X.blk s H scope (compEnvC scope cl C X.env) fp) W0 ifs1 tt1)
    (he : ∀ (s : Shared) (H : Hp) (C : Addr) (cl : List (Str × Addr)) (fp : List Addr), DE (X.blk s H scope (compEnvC scope cl C X.env) fp) W0 elt te) (hj : ∀ j ∈ js, j ∈ ow.map (·.2) := by decide) (hj1 : ∀ j ∈ js1, j ∈ vs1 := by decide) (hv : ∀ i ∈ vs1, i ∈ ow.map (·.2) := by decide)
    (hsw : swapsWith (.ListComp elt [⟨tg, iter, ifs, 0⟩, ⟨tg1, iter1, ifs1, 0⟩] scope pos) (some (.Name y py)) spos.line X.env = pure true := by exact sw_true rfl rfl rfl (by decide +kernel)) (hy : X.N[i]? = some y := by rfl) (hyl : X.env.scope.names.lookup y = some .local := by rfl)
    (hs : ∀ x, foldedSetIterable iter X.env x = pure x := by intro _; rfl) (hs1 : ∀ env x, foldedSetIterable iter1 env x = pure x := by intro _ _; rfl) :
    DS X E (.Assign [.Name y py] (.ListComp elt [⟨tg, iter, ifs, 0⟩, ⟨tg1, iter1, ifs1, 0⟩] scope pos) spos) (asg (lcM2 own (ow.map (·.2)) src g tt src1 vs1 g1 tt1 te) (gset i)) := by
  refine ⟨fun pins s σ H D I h => ?_⟩
  have hsp : SpG X.K t g js := (hg s H 0 [] []).sp
  have hsp1 : SpG X.K t1 g1 js1 := (hg1 s H 0 [] []).sp
  refine (ps_setLc2 (tt := rT X.K W0 tt) (tt1 := rT X.K W0 tt1) (te := rE X.K W0 te) (wi1 := rIt X.K W0 src1) hc hN hy hyl hsw hi ok hv (fun s H C cl fp => (hg s H C cl fp).pg) ht hi1 (fun s H C cl fp => (hg1 s H C cl fp).pg) ht1 he hs hs1).run pins s σ H D I ?_
  have q : tAsg (rE X.K E (lcM2 own (ow.map (·.2)) src g tt src1 vs1 g1 tt1 te)) (gName i) D σ H := r_asg (js := [i]) (g := gset i) (fun G F H α σ s v d s' Q R k e q => by cases e; exact q _ (R.set k i) (But.set i v σ)) h
  exact r_lc2 hsp hj hsp1 hj1 q
end
end DL

/-! from DL21.lean -/
set_option Elab.async false
set_option linter.all false
set_option maxRecDepth 100000
set_option maxHeartbeats 2000000
/-! DL21: min and max with default=. -/
namespace DL
open PySem L2 PyProof.Rows PySem.W SrtR
section
variable {X : Cx} {E : WX}
def rMMK (K : Frg) (mn : Bool) : List V → List V → Hp → VK → Prop := fun vs zs H Q => ∃ (a : Addr) (xs : List V) (ps : List PyData) (d : V), vs = [.ref a] ∧ zs = [d] ∧ (SqL K H a xs ∨ SqT K H a xs) ∧ DpAll K H xs ps ∧ AlikeAll ps ∧ PyData.depthAll ps ≤ 60 ∧
  (xs = [] → Q d H) ∧ ∀ (p : PyData) (ps' : List PyData) (i : Nat) (v : V) (q : PyData), ps = p :: ps' → xs[i]? = some v → ps[i]? = some q → q = (if mn then minD p ps' else maxD p ps') → Q v H
theorem dpAll_nil {K : Frg} {H : Hp} {vs : List V} (h : DpAll K H vs []) : vs = [] := by cases h; rfl
theorem cr_mmK (mn : Bool) (hc : X.calm = true) (hu : X.A.units + 64 < cLine) : CallRK X (.builtin (if mn then "min" else "max")) ["default"] (rMMK X.K mn) := by
  intro pins s σ H vs zs us ws Q I r rz h
  obtain ⟨a, xs, ps, d, rfl, rfl, hs, hd, hal, hdep, h0, q⟩ := h
  cases r with
  | cons r1 r2 =>
    cases r2
    cases r1
    obtain ⟨w, rfl, rw⟩ := rz.one
    have hh : X.A.handled = none := I.ok.hd hc
    have fin0 : ps = [] → ∀ h' tk, (∀ b o, s.heap.get? b = some o → h'.get? b = some o) → EP X pins σ Q w { s with heap := h', toks := tk } := fun e h' tk hk => by
      subst e
      exact ⟨d, H, I.kept (t' := tk) hk, rw, h0 (dpAll_nil hd)⟩
    have fin : ∀ (its : List Value), L2.Vals xs its → ∀ (y : PyData) (ys : List PyData) (i : Nat) v h' tk bs, ps = y :: ys → its.toArray[i]? = some v → Reads h' v (if mn then minD y ys else maxD y ys) bs → (∀ b o, s.heap.get? b = some o → h'.get? b = some o) → EP X pins σ Q v { s with heap := h', toks := tk } := by
      intro its rv y ys i v h' tk bs ey hv hr hk
      have hv' : its[i]? = some v := by simpa using hv
      obtain ⟨x, hx, rx⟩ := (show ∃ x, xs[i]? = some x ∧ L2.RelV x v from by
        have hl : i < its.length := (List.getElem?_eq_some_iff.mp hv').1
        have hl2 : i < xs.length := by rw [rv.length]; exact hl
        obtain ⟨u, hu, ru⟩ := rv.get (List.getElem?_eq_getElem hl2)
        rw [hv'] at hu
        cases hu
        exact ⟨_, List.getElem?_eq_getElem hl2, ru⟩)
      obtain ⟨qd, w1, w2⟩ := dpAll_at hd i x hx
      obtain ⟨as, rd⟩ := Dp.reads I qd x v w2 rx
      have e := (reads_det (fun b o e _ => hk b o e) rd hr).1
      exact ⟨x, H, I.kept (t' := tk) hk, rx, q y ys i x qd ey hx w1 e.symm⟩
    show wpAny (model X.prog X.w) X.A (call (.builtin (if mn then "min" else "max")) [.ref a] [(Str.ofString "default", w)]) (EP X pins σ Q) X.xe s
    rcases hs with hs | hs
    · obtain ⟨its, rv, hl⟩ := iList I hs
      obtain ⟨as, ra⟩ := Dp.readsAll I ps xs its hd rv
      cases mn with
      | true => exact min_list_default hh hl (by simpa using ra) hal (by show X.A.units + 1 + _ < _; omega) fin0 (fin its rv)
      | false => exact max_list_default hh hl (by simpa using ra) hal (by show X.A.units + 1 + _ < _; omega) fin0 (fin its rv)
    · obtain ⟨its, rv, hl, _⟩ := I.tuple hs
      obtain ⟨as, ra⟩ := Dp.readsAll I ps xs its hd rv
      cases mn with
      | true => exact min_tuple_default hh hl (by simpa using ra) hal (by show X.A.units + 1 + _ < _; omega) fin0 (fin its rv)
      | false => exact max_tuple_default hh hl (by simpa using ra) hal (by show X.A.units + 1 + _ < _; omega) fin0 (fin its rv)
end
def fMMk (mn : Bool) : List D → List D → M D := fun ds es s => match ds, es with
  | [d], [dd] => (match seqD s.s d with
    | some (_, []) => some (.ok dd s)
    | some (_, x :: xs) => fMM.optM (mmD mn (x :: xs)) s
    | none => none)
  | _, _ => none
theorem s_mmk {K : Frg} {E : WX} {G F H : Hp} {α : List Addr} {σ : L2.St} {s : S} {xs zs : List V} {ds es : List D} {Q : VK} {mn : Bool} (R : RelS K G F H α σ s) (k : HasL K F α xs ds) (kz : HasL K F α zs es) (h : Wp K G E F α (fMMk mn ds es s) (pV K G σ Q)) : rMMK K mn xs zs H Q := by
  unfold fMMk at h
  split at h
  · rename_i d dd
    obtain ⟨v, rfl, k1⟩ := k.one
    obtain ⟨z, rfl, k2⟩ := kz.one
    split at h
    · rename_i kd q
      obtain ⟨a, us, rfl, hl, w1, w2⟩ := seq_at R.st k1 q
      cases hl
      refine ⟨a, [], [], z, rfl, rfl, ?_, .nil, ⟨(fun x hx => by cases hx), (fun x hx => by cases hx)⟩, by simp [PyData.depthAll], fun _ => fin (d := dd) h R k2, fun p ps' i v q e => by cases e⟩
      cases kd
      · exact .inr (w2 rfl)
      · exact .inl (w1 rfl)
    · rename_i kd y ys q
      obtain ⟨a, us, rfl, hl, w1, w2⟩ := seq_at R.st k1 q
      unfold fMM.optM at h
      cases e : mmD mn (y :: ys) with
      | none => rw [e] at h; exact h.elim
      | some d0 =>
        rw [e] at h
        obtain ⟨p, ps, e1, g, e2⟩ := mmD_at e
        unfold mmOk at g
        simp only [Bool.and_eq_true] at g
        have hd := pyL_at R.st.ex hl e1
        refine ⟨a, us, p :: ps, z, rfl, rfl, ?_, hd, alikeAll_of g.2.1 g.2.2.1, of_decide_eq_true g.2.2.2, fun e0 => ?_, fun p' ps' i v q1 ep hv hq he => ?_⟩
        · cases kd
          · exact .inr (w2 rfl)
          · exact .inl (w1 rfl)
        · subst e0
          cases hl
        · cases ep
          obtain ⟨di, hdi, hvi⟩ := hl.getV hv
          obtain ⟨pi, z1, z2⟩ := pyL_at' e1 i di hdi
          rw [hq] at z1
          cases z1
          rw [← e2 i di _ hdi z2 he] at h
          exact fin (d := di) h R hvi
    · exact h.elim
  · exact h.elim
section
variable {X : Cx} {E : WX} {e : Expr} {kws : List Keyword} {p pos : Pos}
theorem d_mmk (mn : Bool) {x : Str} {m mk : M (List D)} (hc : X.calm = true) (hu : X.A.units + 64 < cLine) (hm : X.mg x = none) (hv : bootBuiltins x = some (.builtin (if mn then "min" else "max"))) (ha : DA X E [e] m) (hk : DK X E kws mk) (hg : Gl X x := by rfl) (hn : x ≠ "__name__" := by decide) (hdb : (x == ("__debug__" : Str)) = false := by decide)
    (he : backTo pos (starEach [e] X.env) = (false, eval e X.env) :: backTo pos (starEach [] X.env) := by rfl) (hpl : (backTo pos (starEach [e] X.env)).any (·.1) = false := by rfl)
    (hall : (backToKw pos (keywordEach kws X.env)).all (·.1.isSome) = true := by rfl) (hnone : (backToKw pos (keywordEach kws X.env)).any (·.1.isNone) = false := by rfl) (hks : (backToKw pos (keywordEach kws X.env)).filterMap (·.1) = [("default" : Str)] := by rfl) :
    DE X E (.Call (.Name x p) [e] kws pos) (bnd m fun ds => bnd mk fun es => fMMk mn ds es) := by
  refine PE.weak (pe_callBK (cr_mmK mn hc hu) hg hm hv ha hk hn hdb he hpl hall hnone hks) fun σ H Q ⟨G, F, α, s, R, h⟩ => ?_
  refine ⟨G, F, α, s, R, h.bind.mono fun F1 α1 H1 ds s1 x1 h1 vs R1 k1 => ?_⟩
  refine ⟨G, F1, α1, s1, R1, h1.bind.mono fun F2 α2 H2 es s2 x2 h2 zs R2 k2 => ?_⟩
  exact s_mmk R2 (k1.ext x2) k2 h2
end
end DL

/-! from DL22.lean -/
set_option Elab.async false
set_option linter.all false
set_option maxRecDepth 100000
set_option maxHeartbeats 2000000
/-! DL22: min and max of two data. -/
namespace PySem
open PySem PySem.SeqAt PyProof.Rows PySem.W
section
variable {prog : Program} {w : World} {A : Around} {E : Value → Shared → Prop} {s : Shared}
theorem call_min_twoH {a b : Value} {Q : Value → Shared → Prop}
    (h : wpAny (model prog w) A.in1 (pyIter (.ref s.heap.objs.size)) (fun it s₂ => ∃ I fp wr G n P St H bt, it = .ref I ∧ WalksS prog w A.in1 I fp wr G n P St ∧ St 0 s₂ ∧ (∀ b ∈ fp, b < s₂.heap.objs.size) ∧ 0 < n ∧
      (∀ b o, H.get? b = some o → b ∉ wr) ∧ (∀ b o, H.get? b = some o → s₂.heap.get? b = some o) ∧ CmpIn prog w A.in1 .Lt H P bt ∧ ∀ v s', P (argBest bt (n - 1)) v → Moved wr G s₂ s' → Q v s') E
      { s with heap := s.heap.push { cls := .type "tuple", data := .seq #[a, b] } }) :
    wpAny (model prog w) A (call (.builtin "min") [a, b]) Q E s := by
  have hname : (toString "min" ++ toString ".loop" : String) = "min.loop" := by decide
  refine call_function_tree F.kind_min F.plain_min F.entry_min (F.args_min2 _ _) ?_
  show wpAny _ A.in1 (Builtin.Builtins.bindParams "min" ["key", "default"] 0 ⟨[], []⟩ >>= _) _ _ s
  refine wpAny_bind (wpAny_of_eq (show Builtin.Builtins.bindParams "min" ["key", "default"] 0 ⟨[], []⟩ = pure [none, none] from rfl) ?_)
  show wpAny _ A.in1 (newTuple [a, b] >>= _) _ _ s
  refine wpAny_bind (wpAny_newObj_type ?_)
  refine wpAny_bind (wpAny_mono h (fun it s₂ h₂ => ?_) fun _ _ e => e)
  obtain ⟨I, fp, wr, G, n, P, St, H, bt, rfl, W, hst, hfp, hn, hw, hkeep, hcmp, hQ⟩ := h₂
  refine wpAny_bind (wpAny_newObj_type ?_)
  have hSf : s₂.heap.objs.size ∉ fp := fun hm => Nat.lt_irrefl _ (hfp _ hm)
  rw [hname]
  refine wpAny_pure ⟨plainId_quiet F.plain_min_loop _, codeAny_min_loop_firstH W H hw bt hcmp s₂.heap.objs.size hSf (fresh_in hkeep) _ hn (fun b o e => Heap.get?_push_of_some _ (hkeep b o e)) (W.frame 0 s₂ _ s₂.toks hst (Nat.le_refl _) fun b _ o e => Heap.get?_push_of_some _ e) (Heap.get?_push_size _ rfl) fun v s' hP hm => ?_⟩
  exact hQ v s' hP (Moved.drop_new (tk := s₂.toks) hm (Nat.le_refl _))
theorem call_max_twoH {a b : Value} {Q : Value → Shared → Prop}
    (h : wpAny (model prog w) A.in1 (pyIter (.ref s.heap.objs.size)) (fun it s₂ => ∃ I fp wr G n P St H bt, it = .ref I ∧ WalksS prog w A.in1 I fp wr G n P St ∧ St 0 s₂ ∧ (∀ b ∈ fp, b < s₂.heap.objs.size) ∧ 0 < n ∧
      (∀ b o, H.get? b = some o → b ∉ wr) ∧ (∀ b o, H.get? b = some o → s₂.heap.get? b = some o) ∧ CmpIn prog w A.in1 .Gt H P bt ∧ ∀ v s', P (argBest bt (n - 1)) v → Moved wr G s₂ s' → Q v s') E
      { s with heap := s.heap.push { cls := .type "tuple", data := .seq #[a, b] } }) :
    wpAny (model prog w) A (call (.builtin "max") [a, b]) Q E s := by
  have hname : (toString "max" ++ toString ".loop" : String) = "max.loop" := by decide
  refine call_function_tree F.kind_max F.plain_max F.entry_max (F.args_max2 _ _) ?_
  show wpAny _ A.in1 (Builtin.Builtins.bindParams "max" ["key", "default"] 0 ⟨[], []⟩ >>= _) _ _ s
  refine wpAny_bind (wpAny_of_eq (show Builtin.Builtins.bindParams "max" ["key", "default"] 0 ⟨[], []⟩ = pure [none, none] from rfl) ?_)
  show wpAny _ A.in1 (newTuple [a, b] >>= _) _ _ s
  refine wpAny_bind (wpAny_newObj_type ?_)
  refine wpAny_bind (wpAny_mono h (fun it s₂ h₂ => ?_) fun _ _ e => e)
  obtain ⟨I, fp, wr, G, n, P, St, H, bt, rfl, W, hst, hfp, hn, hw, hkeep, hcmp, hQ⟩ := h₂
  refine wpAny_bind (wpAny_newObj_type ?_)
  have hSf : s₂.heap.objs.size ∉ fp := fun hm => Nat.lt_irrefl _ (hfp _ hm)
  rw [hname]
  refine wpAny_pure ⟨plainId_quiet F.plain_max_loop _, codeAny_max_loop_firstH W H hw bt hcmp s₂.heap.objs.size hSf (fresh_in hkeep) _ hn (fun b o e => Heap.get?_push_of_some _ (hkeep b o e)) (W.frame 0 s₂ _ s₂.toks hst (Nat.le_refl _) fun b _ o e => Heap.get?_push_of_some _ e) (Heap.get?_push_size _ rfl) fun v s' hP hm => ?_⟩
  exact hQ v s' hP (Moved.drop_new (tk := s₂.toks) hm (Nat.le_refl _))
theorem mm_two_data (mn : Bool) {a b : Value} {x y : PyData} {as : List Addr} {Q : Value → Shared → Prop} (hh : A.handled = none) (hr : ReadsAll s.heap [a, b] [x, y] as) (ha : AlikeAll [x, y]) (hu : A.units + 1 + PyData.depthAll [x, y] < cLine)
    (h : ∀ (i : Nat) v h' tk bs, [a, b][i]? = some v → Reads h' v (if mn then minD x [y] else maxD x [y]) bs → (∀ b o, s.heap.get? b = some o → h'.get? b = some o) → Q v { s with heap := h', toks := tk }) :
    wpAny (model prog w) A (call (.builtin (if mn then "min" else "max")) [a, b]) Q E s := by
  let s0 : Shared := { s with heap := s.heap.push { cls := .type "tuple", data := .seq #[a, b] } }
  have k0 : ∀ b o, s.heap.get? b = some o → s0.heap.get? b = some o := fun b o e => Heap.get?_push_of_some _ e
  have hT : s0.heap.IsTuple s.heap.objs.size #[a, b] := ⟨_, Heap.get?_push_size _ rfl, rfl, 0, rfl⟩
  have hr0 : ReadsAll s0.heap (#[a, b] : Array Value).toList [x, y] as := ReadsAll.keeps k0 hr
  have fin : ∀ (f : PyData → PyData → Bool) v s' (o : Obj), (#[a, b] : Array Value)[argBest (fun i j => f ([x, y].getD i .none) ([x, y].getD j .none)) ((#[a, b] : Array Value).size - 1)]? = some v → Moved [s0.heap.objs.size] (fun a b => b = a) { s0 with heap := s0.heap.push o } s' →
      (if f y x then y else x) = (if mn then minD x [y] else maxD x [y]) → Q v s' := by
    intro f v s' o hP m he
    obtain ⟨h', tk, rfl, hk'⟩ := moved_old rfl rfl m
    obtain ⟨bs, r, _, _, _⟩ := readsAll_atA hr0 _ v hP
    have e2 := (argBest_fold f PyData.none x [y] 1 (Nat.le_refl _)).2
    refine h _ v h' tk bs (by simpa using hP) ?_ fun b o e => hk' b o (k0 b o e)
    rw [← he]
    have e3 : (if f y x then y else x) = ([y].take 1).foldl (fun a y => if f y a then y else a) x := rfl
    rw [e3, ← e2]
    exact reads_keeps hk' r
  cases mn with
  | true =>
    refine call_min_twoH (iter_tupleW (A := A.in1) (s := s0) hh hT fun s₂ e W st hfp hw hk => ?_)
    subst e
    exact ⟨_, _, _, _, _, _, _, s0.heap, _, rfl, W, st, hfp, Nat.zero_lt_succ _, hw, hk, cmpIn_lt (A := A.in1) hr0 ha (by show A.units + 1 + _ < _; exact hu), fun v s' hP m => fin dataLt v s' _ hP m rfl⟩
  | false =>
    refine call_max_twoH (iter_tupleW (A := A.in1) (s := s0) hh hT fun s₂ e W st hfp hw hk => ?_)
    subst e
    exact ⟨_, _, _, _, _, _, _, s0.heap, _, rfl, W, st, hfp, Nat.zero_lt_succ _, hw, hk, cmpIn_gt (A := A.in1) hr0 ha (by show A.units + 1 + _ < _; exact hu), fun v s' hP m => fin (fun p q => dataLt q p) v s' _ hP m rfl⟩
end
end PySem
namespace DL
open PySem L2 PyProof.Rows PySem.W SrtR
section
variable {X : Cx} {E : WX}
def rMMt (K : Frg) (mn : Bool) : List V → Hp → VK → Prop := fun vs H Q => ∃ (p q : PyData), DpAll K H vs [p, q] ∧ AlikeAll [p, q] ∧ PyData.depthAll [p, q] ≤ 60 ∧
  ∀ (i : Nat) (v : V) (z : PyData), vs[i]? = some v → [p, q][i]? = some z → z = (if mn then minD p [q] else maxD p [q]) → Q v H
theorem dpAll_len {K : Frg} {H : Hp} : ∀ {vs : List V} {ps : List PyData}, DpAll K H vs ps → vs.length = ps.length
  | _, _, .nil => rfl
  | _, _, .cons _ r => congrArg (· + 1) (dpAll_len r)
theorem cr_mmt (mn : Bool) (hc : X.calm = true) (hu : X.A.units + 64 < cLine) : CallR X (.builtin (if mn then "min" else "max")) (rMMt X.K mn) := by
  intro pins s σ H vs us Q I r h
  obtain ⟨p, q, hd, hal, hdep, hq⟩ := h
  have hh : X.A.handled = none := I.ok.hd hc
  obtain ⟨as, ra⟩ := Dp.readsAll I [p, q] vs us hd r
  have hl : vs.length = 2 := by
    have := dpAll_len hd
    simpa using this
  obtain ⟨v1, v2, rfl⟩ : ∃ v1 v2, vs = [v1, v2] := by
    match vs, hl with
    | [v1, v2], _ => exact ⟨_, _, rfl⟩
  obtain ⟨a, b, rfl, _, _⟩ := vals2 r
  refine mm_two_data mn hh ra hal (by show X.A.units + 1 + _ < _; omega) fun i v h' tk bs hv hr hk => ?_
  obtain ⟨x, hx, rx⟩ := (show ∃ x, [v1, v2][i]? = some x ∧ L2.RelV x v from by
    have hl : i < 2 := (List.getElem?_eq_some_iff.mp hv).1
    obtain ⟨u, hu, ru⟩ := r.get (List.getElem?_eq_getElem (by simpa using hl))
    rw [hv] at hu
    cases hu
    exact ⟨_, List.getElem?_eq_getElem (by simpa using hl), ru⟩)
  obtain ⟨qd, w1, w2⟩ := dpAll_at hd i x hx
  obtain ⟨as, rd⟩ := Dp.reads I qd x v w2 rx
  have e := (reads_det (fun b o e _ => hk b o e) rd hr).1
  exact ⟨x, H, I.kept (t' := tk) hk, rx, hq i x qd hx w1 e.symm⟩
end
def fMMt (mn : Bool) : List D → M D := fun ds => match ds with
  | [a, b] => fMM.optM (mmD mn [a, b])
  | _ => fail
section
variable {K : Frg} {E : WX}
theorem s_mmt (mn : Bool) : SpA K E (rMMt K mn) (fMMt mn) := by
  intro G F H α σ s xs ds Q R k h
  unfold fMMt at h
  split at h
  · rename_i a b
    unfold fMM.optM at h
    cases e : mmD mn [a, b] with
    | none => rw [e] at h; exact h.elim
    | some d0 =>
      rw [e] at h
      obtain ⟨p, ps, e1, g, e2⟩ := mmD_at e
      obtain ⟨q, rfl⟩ : ∃ q, ps = [q] := by
        have := pyL_len e1
        match ps, this with
        | [q], _ => exact ⟨q, rfl⟩
      unfold mmOk at g
      simp only [Bool.and_eq_true] at g
      have hd := pyL_at R.st.ex k e1
      refine ⟨p, q, hd, alikeAll_of g.2.1 g.2.2.1, of_decide_eq_true g.2.2.2, fun i v q1 hv hq he => ?_⟩
      obtain ⟨di, hdi, hvi⟩ := k.getV hv
      obtain ⟨pi, z1, z2⟩ := pyL_at' e1 i di hdi
      rw [hq] at z1
      cases z1
      rw [← e2 i di _ hdi z2 he] at h
      exact fin (d := di) h R hvi
  · exact h.elim
end
end DL

/-! from DL23.lean -/
set_option Elab.async false
set_option linter.all false
set_option maxRecDepth 100000
set_option maxHeartbeats 4000000
/-! DL23: several clauses `except C as n`, one after the other. -/
namespace DL
open PySem L2 PyProof.Rows
/-- a clause: its class, the slot of its name, its suite -/
abbrev Clause := Value × Nat × (Addr → Value → Option Addr → TS)
/-- what the clauses wish of an exception: the first that fits takes it -/
def wAsL (K : Frg) (Wout : WX) (D : Ends) : List Clause → WX
  | [] => Wout
  | q :: r => wAs K q.1 q.2.1 q.2.2 (wAsL K Wout D r) D
inductive AsOk (X : Cx) : List ExceptHandler → List Clause → Prop
  | nil : AsOk X [] []
  | cons {x n : Str} {c : Value} {i : Nat} {ts : Addr → Value → Option Addr → TS} {b₀ : Stmt} {suite : List Stmt} {np pos' : Pos} {hds : List ExceptHandler} {l : List Clause} (hi : X.N[i]? = some n) (hln : X.env.kindOf n = some .local) (hc : Names X x c)
      (su : ∀ (a : Addr) (oe : Obj) (cls : Value) (d : Option Addr) (pn : List (Addr × Obj)), Zc cls d oe → (∃ vs, oe.data = .fields vs) → PSs (X.suite a ((a, oe) :: pn)) (b₀ :: suite) (ts a cls d)) (r : AsOk X hds l) :
      AsOk X (.ExceptHandler (some (.Name x np)) (some n) (b₀ :: suite) pos' :: hds) ((c, i, ts) :: l)
section
variable {X : Cx} {pins : List (Addr × Obj)} {σ : L2.St} {H : Hp} {B : Heap} {sI s : Shared} {h : Heap} {a : Addr} {cls : Value} {d : Option Addr} {D : Ends} {W : WX}
/-- an exception that has landed in the def's frame -/
structure Lit (X : Cx) (pins : List (Addr × Obj)) (σ : L2.St) (H : Hp) (B : Heap) (sI s : Shared) (h : Heap) (a : Addr) (cls : Value) (d : Option Addr) : Prop where
  inv : Inv X pins σ H sI
  nb : ∀ b o, sI.heap.get? b = some o → b ∉ frs X.stack → B.get? b = some o
  up : sI.heap.UpToSlots h
  fl : HandSPX.FlyingZ B (X.env :: X.outer) a (Zc cls d) h
  na : H a = none
  os : s.os = sI.os
  ag : AllBare s.gens
theorem Lit.more {h' : Heap} (L : Lit X pins σ H B sI s h a cls d) (fl : HandSPX.FlyingZ B (X.env :: X.outer) a (Zc cls d) h') (up : h.UpToSlots h') : Lit X pins σ H B sI s h' a cls d :=
  ⟨L.inv, L.nb, L.up.trans up, fl, L.na, L.os, L.ag⟩
theorem Lit.here (L : Lit X pins σ H B sI s h a cls d) : Inv X pins σ H { s with heap := h } := L.inv.landed L.nb L.fl.1 L.up L.os L.ag
/-- the exception's object, and the state as a suite sees it -/
theorem Lit.sees (L : Lit X pins σ H B sI s h a cls d) (hf : X.env.frame = some X.env.locals) : ∃ oe, h.get? a = some oe ∧ Zc cls d oe ∧ (∃ vs, oe.data = .fields vs) ∧ Inv (X.suite a ((a, oe) :: (X.pn ++ pins))) [] σ H { s with heap := h } := by
  obtain ⟨oe, vs, g1, g2, g3⟩ := L.fl.there
  have out : a ∉ frs (X.env :: X.outer) := fun hm => by
    obtain ⟨_, o', g4, nf⟩ := L.fl.2.2.1.mem hm
    rw [g1] at g4
    cases g4
    exact nf _ g3
  have nL : a ≠ X.env.locals := fun z => out (List.mem_filterMap.mpr ⟨X.env, List.mem_cons_self, by rw [hf, z]⟩)
  have nF : a ∉ X.fs := fun hm => by
    obtain ⟨y, hy, q⟩ := List.mem_filterMap.mp hm
    exact out (List.mem_filterMap.mpr ⟨y, List.mem_cons_of_mem _ hy, q⟩)
  exact ⟨oe, g1, g2, ⟨vs, g3⟩, L.here.suite g1 g3 L.na nL nF⟩
/-- no clause fits: it goes on -/
theorem Lit.goesOn (L : Lit X pins σ H B sI s h a cls d) (hs : X.stack = X.env :: X.outer) (hf : X.env.frame = some X.env.locals) (tk : Takes X W) (w : W cls d σ H) :
    wpAny (model X.prog X.w) X.A (handleBy (.ref a) X.env []) (SP X pins D) X.xe { s with heap := h } := by
  refine wpAny_handleBy_nil ?_
  obtain ⟨_, _, _, _, _, T, _, _, g1, _, g2, g3, _⟩ := id L.fl
  unfold PySem.passOn
  refine wpAny_bind (wpAny_field g1 g2 g3 ?_)
  rw [if_neg (show ¬ ((Value.ref T == Value.none) = true) from by simp)]
  have out : wpAny (model X.prog X.w) X.A (setFlight (.ref a) X.env.frame) (fun _ s' => wpAny (model X.prog X.w) X.A (throw (.ref a) : Sem Flow) (SP X pins D) X.xe s') X.xe { s with heap := h } := by
    rw [hf]
    exact HandSPX.setFlight_upZ L.fl fun h' held up' => wpAny_throw (tk _ _ ⟨a, B, sI, pins, σ, H, cls, d, rfl, L.inv, L.nb, L.up.trans up', .inr (.inr (by rw [hs]; exact held)), L.na, L.os, L.ag, w⟩)
  first
    | exact wpAny_bind (wpAny_pure (wpAny_bind out))
    | exact wpAny_bind out
/-- the clauses, one after the other -/
theorem Lit.clauses {Wout : WX} (L : Lit X pins σ H B sI s h a cls d) (ok : X.Ok) (hs : X.stack = X.env :: X.outer) (hf : X.env.frame = some X.env.locals) (hN : X.N.Nodup) (tk : Takes X Wout) {hds : List ExceptHandler} {l : List Clause} (k : AsOk X hds l) :
    wAsL X.K Wout D l cls d σ H → wpAny (model X.prog X.w) X.A (handleBy (.ref a) X.env hds) (SP X pins D) X.xe { s with heap := h } := by
  induction k with
  | nil => exact fun w => L.goesOn hs hf tk w
  | @cons x n c i ts b₀ suite np pos' hds2 l2 hi hln hc su r ih =>
    rintro ⟨b, hb, yes, no⟩
    obtain ⟨oe, g1, g2, _, S⟩ := L.sees hf
    refine wpAny_handleBy_cons (codeAny_handlers_test ?_) (by intro q; cases q)
    have fit := PySem.W.exm_one (M := model X.prog X.w) (L.here.kIn) (show PySem.W.Looks (model X.prog X.w) h (typeOf (.ref a)) cls from fun A Q E s k q => wpAny_typeOf_ref (k _ _ g1) (by rw [g2.1]; exact q)) hb
    have name : ∀ {Q : Value → Shared → Prop} {E : Value → Shared → Prop}, Q c { s with heap := h } → wpAny (model X.prog X.w) (X.A.mark (some (.ref a))) (eval (.Name x np) X.env) Q E { s with heap := h } := fun {Q E} q => by
      obtain ⟨n1, n2, n3 | ⟨n3, n4, n5⟩⟩ := hc
      · exact ld_glob (X := X.suite a ((a, oe) :: (X.pn ++ pins))) S n1 n3 q n2
      · exact ld_blt (X := X.suite a ((a, oe) :: (X.pn ++ pins))) S n1 n3 n4 q n5 n2
    refine name (fit.here ?_)
    cases b with
    | false => exact ih (no rfl)
    | true =>
      refine codeAny_handlers_suite_as (HandSPX.lands_againZ L.fl fun h' fl' up' => ?_)
      obtain ⟨oe', k1, k2, k3, S'⟩ := (L.more fl' up').sees hf
      refine store_ok (X := X.suite a ((a, oe') :: (X.pn ++ pins))) (v := .ref a) S' hN hi (.inl hln) rfl (fun s5 S5 => ?_) (.inr hln)
      refine wpAny_mono ((su a oe' cls d (X.pn ++ pins) k2 k3).run [] s5 _ H _ S5 (yes rfl a L.na)) (fun f s6 q => ?_) fun _ _ z => False.elim z
      have gone : ∀ {τ : L2.St} {J : Hp} {Q : Shared → Prop}, Inv (X.suite a ((a, oe') :: (X.pn ++ pins))) [] τ J s6 → (∀ s7, Inv X pins (τ.set i none) J s7 → Q s7) →
          wpAny (model X.prog X.w) X.A (do bindName X.env n .none; unbindBehindTheSuite X.env n pos') (fun _ s7 => Q s7) X.xe s6 := fun {τ J Q} S6 hq => gone_ok (S6.unsuite ok) hN hi hln hq
      cases f with
      | next => obtain ⟨τ, J, S6, q⟩ := q; exact gone S6 fun s7 I7 => ⟨_, _, I7, q⟩
      | brk => obtain ⟨τ, J, S6, q⟩ := q; exact gone S6 fun s7 I7 => ⟨_, _, I7, q⟩
      | cont => obtain ⟨τ, J, S6, q⟩ := q; exact gone S6 fun s7 I7 => ⟨_, _, I7, q⟩
      | ret u => obtain ⟨v, τ, J, S6, rv, q⟩ := q; exact gone S6 fun s7 I7 => ⟨_, _, _, I7, rv, q⟩
end
section
variable {X : Cx} {body : List Stmt} {h₀ : ExceptHandler} {hds : List ExceptHandler} {l : List Clause} {pos : Pos} {tb : WX → TS} {Wout : WX}
theorem ps_tryL (hs : X.stack = X.env :: X.outer) (hf : X.env.frame = some X.env.locals) (hN : X.N.Nodup) (tk : Takes X Wout)
    (hb : ∀ (W : WX) (pn : List (Addr × Obj)) (xe : Value → Shared → Prop), Takes (X.tr pn xe) W → PassesOwn (model X.prog X.w) X.A X.env xe → PSs (X.tr pn xe) body (tb W))
    (hh : AsOk X (h₀ :: hds) l) : PS X (.Try body (h₀ :: hds) [] [] pos) (fun D σ H => tb (wAsL X.K Wout D l) D σ H) := by
  refine ⟨fun pins s σ H D I h => ?_⟩
  have ok := I.ok
  refine wpAny_Try_except (wpAny_mono ((hb (wAsL X.K Wout D l) (X.pn ++ pins) (fun e s₁ => wpAny (model X.prog X.w) X.A (noteFrame e X.env) (fun _ s₂ => wpAny (model X.prog X.w) X.A (setFlight e none) (fun _ s₃ =>
    wpAny (model X.prog X.w) X.A (handleBy e X.env (h₀ :: hds)) (SP X pins D) X.xe s₃) X.xe s₂) X.xe s₁) (fun u s' xx => ?_) PassesOwn.looking).run [] s σ H D (I.toTry _) h) (fun f s1 q => ?_) (fun _ _ z => z))
  · obtain ⟨a, B, sI, pins', σ', H', cls, d, rfl, J, nb, up, sky, na, os, ag, w⟩ := xx
    refine Sky.land Zc.steady (by rw [ok.frames, hs]) hf (show Sky B (X.env :: X.outer) a (Zc cls d) X.env.locals s'.heap by rw [← hs]; exact sky) fun h3 fl3 up3 => ?_
    exact Lit.clauses (B := B) (sI := sI) (s := s') ⟨J.ofTry ok, nb, up.trans up3, fl3, na, os, ag⟩ ok hs hf hN tk hh w
  · cases f with
    | next => obtain ⟨τ, J, I', q⟩ := q; exact wpAny_execs_nil ⟨τ, J, I'.ofTry ok, q⟩
    | brk => obtain ⟨τ, J, I', q⟩ := q; exact ⟨τ, J, I'.ofTry ok, q⟩
    | cont => obtain ⟨τ, J, I', q⟩ := q; exact ⟨τ, J, I'.ofTry ok, q⟩
    | ret u => obtain ⟨v, τ, J, I', rv, q⟩ := q; exact ⟨v, τ, J, I'.ofTry ok, rv, q⟩
end
/-! ### over data -/
/-- a clause over data: which errors it takes, its name's slot, its suite -/
structure ClD where
  test : Str → Option Bool
  i : Nat
  mh : Addr → Option Addr → Str → M Fl
noncomputable def clauseL (C : Str) (fs : List (Str × D)) (s : S) : List ClD → Option (Out Fl)
  | [] => some (.exc C fs s)
  | q :: r => match q.test C with
    | some true => suiteO q.i q.mh C fs s
    | some false => clauseL C fs s r
    | none => none
noncomputable def tryL (mb : M Fl) (L : List ClD) : M Fl := fun s => match mb s with
  | some (.exc C fs s1) => clauseL C fs s1 L
  | o => o
/-- what a clause's suite does, for the rules -/
def ClD.ts (K : Frg) (q : ClD) : Addr → Value → Option Addr → TS := fun a cls d D σ H => ∃ C, cls = clsV K C ∧ rS K W0 (q.mh a d C) D σ H
inductive AsD (X : Cx) : List ExceptHandler → List ClD → List Clause → Prop
  | nil : AsD X [] [] []
  | cons {x n : Str} {c : Value} {q : ClD} {b₀ : Stmt} {suite : List Stmt} {np pos' : Pos} {hds : List ExceptHandler} {L : List ClD} {l : List Clause} (hi : X.N[q.i]? = some n) (hln : X.env.kindOf n = some .local) (hc : Names X x c)
      (hT : ∀ C b, q.test C = some b → PySem.W.exmOne X.K (clsV X.K C) c = some b)
      (su : ∀ (a : Addr) (oe : Obj) (cls : Value) (d : Option Addr) (pn : List (Addr × Obj)) (C : Str), Zc cls d oe → (∃ vs, oe.data = .fields vs) → cls = clsV X.K C → DSs (X.suite a ((a, oe) :: pn)) W0 (b₀ :: suite) (q.mh a d C)) (r : AsD X hds L l) :
      AsD X (.ExceptHandler (some (.Name x np)) (some n) (b₀ :: suite) pos' :: hds) (q :: L) ((c, q.i, q.ts X.K) :: l)
theorem AsD.ok {X : Cx} {hds : List ExceptHandler} {L : List ClD} {l : List Clause} (k : AsD X hds L l) : AsOk X hds l := by
  induction k with
  | nil => exact .nil
  | cons hi hln hc hT su r ih =>
    refine .cons hi hln hc (fun a oe cls d pn hz hf => ⟨fun pins s σ H D I h => ?_⟩) ih
    obtain ⟨C, e, h⟩ := h
    exact (su a oe cls d pn C hz hf e).run pins s σ H D I h
section
variable {X : Cx} {E : WX} {G F : Hp} {α : List Addr} {D : Ends} {C : Str} {fs : List (Str × DL.D)} {s1 : S}
theorem clause_wish {hds : List ExceptHandler} {L : List ClD} {l : List Clause} (k : AsD X hds L l) (h : Wp X.K G E F α (clauseL C fs s1 L) (pS X.K G D)) {F' H' : Hp} {α' : List Addr} {od : Option Addr} {σ' : L2.St} (x' : Ext F α F' α') (R' : RelS X.K G F' H' α' σ' s1) (ke : ExcAt X.K F' α' od fs) :
    wAsL X.K E D l (clsV X.K C) od σ' H' := by
  induction k with
  | nil => exact h F' α' H' od σ' x' R' ke
  | @cons x n c q b₀ suite np pos' hds L l hi hln hc hT su r ih =>
    unfold clauseL at h
    cases et : q.test C with
    | none => simp only [et] at h; exact h.elim
    | some b =>
      refine ⟨b, hT C b et, fun hb a hna => ?_, fun hb => ?_⟩
      · subst hb
        simp only [et] at h
        unfold suiteO at h
        by_cases hx : ∃ r, ∀ a d, goneO q.i (q.mh a d C ⟨s1.e.set q.i (some (.exn a d fs)), s1.s⟩) = some r
        · rw [dif_pos hx] at h
          have sp := hx.choose_spec a od
          generalize hx.choose = r at h sp
          refine ⟨C, rfl, G, F', α', ⟨s1.e.set q.i (some (.exn a od fs)), s1.s⟩, R'.set (has_exn ke a) q.i, ?_⟩
          unfold goneO at sp
          cases em : q.mh a od C ⟨s1.e.set q.i (some (.exn a od fs)), s1.s⟩ with
          | none => rw [em] at sp; cases sp
          | some om =>
            rw [em] at sp
            cases om with
            | exc _ _ _ => cases sp
            | ok fl s3 =>
              cases sp
              have h : ∀ F'' α'' H'', Ext F α F'' α'' → pS X.K G D F'' α'' H'' fl ⟨s3.e.set q.i none, s3.s⟩ := h
              intro F'' α'' H'' x''
              have z := h F'' α'' H'' (x'.trans x'')
              cases fl with
              | nx => exact fun σ2 R2 => z _ (R2.gone q.i)
              | rt d => exact fun v R2 k => z v R2 k
              | bk => exact fun σ2 R2 => z _ (R2.gone q.i)
              | ct => exact fun σ2 R2 => z _ (R2.gone q.i)
        · rw [dif_neg hx] at h
          exact h.elim
      · subst hb
        simp only [et] at h
        exact ih h
end
section
variable {X : Cx} {E : WX} {body : List Stmt} {h₀ : ExceptHandler} {hds : List ExceptHandler} {L : List ClD} {l : List Clause} {pos : Pos} {mb : M Fl}
theorem d_tryL (hs : X.stack = X.env :: X.outer) (hf : X.env.frame = some X.env.locals) (hN : X.N.Nodup) (tk : Takes X E)
    (hb : ∀ (W : WX) (pn : List (Addr × Obj)) (xe : Value → Shared → Prop), Takes (X.tr pn xe) W → PassesOwn (model X.prog X.w) X.A X.env xe → DSs (X.tr pn xe) W body mb)
    (k : AsD X (h₀ :: hds) L l) : DS X E (.Try body (h₀ :: hds) [] [] pos) (tryL mb L) := by
  refine PS.weak (ps_tryL (tb := fun W => rS X.K W mb) (Wout := E) hs hf hN tk hb k.ok) fun D σ H ⟨G, F, α, s, R, h⟩ => ?_
  refine ⟨G, F, α, s, R, ?_⟩
  unfold tryL at h
  cases e : mb s with
  | none => simp only [e] at h; exact h.elim
  | some o =>
    simp only [e] at h
    cases o with
    | ok fl s1 => exact h
    | exc C fs s1 => exact fun F' α' H' od σ' x' R' ke => clause_wish k h x' R' ke
end
end DL

/-! from DL24.lean -/
set_option Elab.async false
set_option linter.all false
set_option maxRecDepth 100000
set_option maxHeartbeats 4000000
/-! DL24: defs called within an except suite (they raise nothing there). -/
namespace DL
open PySem PySem.Spec L2 PyProof.Rows
/-- what a def promises while an exception is handled: p is its object -/
structure FnQ (P : Program) (w : World) (K : Frg) (mg : Str → Option Value) (base : Heap) (CX : CXT) (k : Nat) (f : Addr) (fd : FuncData) (ps : List Str) (sp : Sp) : Prop where
  len : ∀ vs H Q E, sp vs H Q E → vs.length = ps.length
  run : ∀ (A : Around) (outer : List Env) (s : Shared) (H : Hp) (args : Args) (us : List Value) (vs : List V) (Q : VK) (E : XK) (p : Addr × Obj), L2H.RoomH k A → L2H.PinOk outer H s p → Env0 P w K mg base A outer s H → BindsTo s fd args (ps.zip us) → Vals vs us → sp vs H Q E →
    codeAny (model P w) A (.call (.ref f) args) (CR CX outer P w H s Q E) s
section
variable {P : Program} {w : World} {K : Frg} {mg : Str → Option Value} {base : Heap} {x qual : Str} {st : Stmt} {f : Addr} {fd : FuncData} {N ps : List Str} {k : Nat} {body : M Fl}
/-- THE RULE for such a def -/
theorem fn_hot (F : Fun K x qual st f fd) (S : FnScope N ps (defScope st))
    (hbody : ∀ (cdv : Value) (A : Around) (outer : List Env) (s : Shared) (H : Hp) (E : XK) (p : Addr × Obj), L2H.RoomH k (A.deeper (envOfC qual (defScope st) s.heap.objs.size f cdv)) →
      DSs (L2H.cxH (L2.CX P w) P w K mg base N qual (defScope st) f cdv A outer s H E p) (XW E) (defBody st) body) : FnQ P w K mg base (L2.CX P w) (k + 1) f fd ps (spF K ps.length (mdef N.length body)) := by
  obtain ⟨oc, od, kV, doc, pm, an, cdv, ct, osl, rfl, lk, hcd⟩ := F.ex
  have pl : ps.length ≤ N.length := by
    have := congrArg List.length S.pre
    rw [List.length_take] at this
    omega
  refine ⟨fun vs H Q E h => h.1, fun A outer s H args us vs Q E p room pin e0 bind r sp => ?_⟩
  have base_in : K.In s.heap := e0.mod.kin.keeps fun b o e => (e0.bs b o e).1
  have par : ∀ y ∈ ps.zip us, (defScope st).names.lookup y.1 = some .local ∨ ((defScope st).names.lookup y.1 = some .cell ∧ ((cellsFrom (s.heap.objs.size + 1) (defScope st).names []).lookup y.1).isSome = true) := fun y hy => by
    rcases S.par y.1 (List.of_mem_zip hy).1 with q | q
    · exact .inl q
    · exact .inr ⟨q, PySem.W.cellsFrom_some _ _ _ (.inl q)⟩
  refine codeAny_call_function room.depth (base_in _ _ lk) rfl S.co S.gen rfl (PySem.W.codeRec_of base_in hcd) (bind _ _ _ _ ?_)
  refine wpAny_newFunctionEnv_cells S.kind par fun env he s1 y => ?_
  subst he
  refine ⟨(e0.mod.nolimit.keeps fun b o e => (e0.bs b o e).1).keeps y.toInCall.keep, codeAny_func ?_⟩
  have I := L2H.inv_startH (CX := L2.CX P w) (E := E) S pin e0 sp.1 r y
  refine wpAny_mono ((hbody cdv A outer s H E p (room.deeper _)).run [] s1 (L2.start N vs) H _ I (mdef_run pl sp)) (fun fl s' q => ?_) fun _ _ z => z
  cases fl with
  | ret u => obtain ⟨v, σ', H', J, rv, q⟩ := q; exact ⟨v, H', J.os, J.bare, J.base, J.hok, rv, q⟩
  | next => obtain ⟨σ', H', J, q⟩ := q; exact ⟨V.non, H', J.os, J.bare, J.base, J.hok, rfl, q⟩
  | brk => obtain ⟨_, _, _, q⟩ := q; exact q.elim
  | cont => obtain ⟨_, _, _, q⟩ := q; exact q.elim
end
structure CalQ (P : Program) (w : World) (K : Frg) (mg : Str → Option Value) (base : Heap) (k : Nat) (x : Str) (n : Nat) (f : DF) : Prop where
  ex : ∃ (fa : Addr) (fd : FuncData) (ps : List Str), mg x = some (.ref fa) ∧ PySem.W.keepIn K (.ref fa) = true ∧ Binds K fd ps [] ∧ ps.length = n ∧ FnQ P w K mg base (L2.CX P w) k fa fd ps (spF K n f)
section
variable {X : Cx} {E : WX} {e : Expr} {es : List Expr} {pos : Pos}
theorem d_callQ {x : Str} {q : Pos} {k n : Nat} {f : DF} {m : M (List D)} (C : CalQ X.prog X.w X.K X.mg X.base k x n f) {p : Addr × Obj} (hp : p ∈ X.pn) (hr : L2H.RoomH k X.A) (hx : Takes X E) (hn : es.length + 1 = n) (ha : DA X E (e :: es) m) (hg : Gl X x := by rfl)
    (hl : ∀ s ds s', m s = some (.ok ds s') → ds.length = n) (hdb : (x == ("__debug__" : Str)) = false := by decide)
    (he : starEach (e :: es) X.env = (false, eval e X.env) :: starEach es X.env := by rfl) (hpl : (backTo pos (starEach es X.env)).any (·.1) = false := by rfl) : DE X E (.Call (.Name x q) (e :: es) [] pos) (bnd m (callF f)) := by
  obtain ⟨fa, fd, ps, h1, h2, h3, h4, h5⟩ := C.ex
  have hPE : PE X (.Call (.Name x q) (e :: es) [] pos) (tCallS (spF X.K n f) (WE E) (rA X.K E m)) := by
    refine ⟨fun pins s σ H Q I h => ?_⟩
    refine wpAny_Call_Name_kw (ld_glob I hg h1 ?_ hdb)
    refine PySem.W.callWith_K (h₀ := X.base) I.ok.mod.kin h2 (thn (ha.run pos pins s σ H _ I h) fun us s1 ⟨vs, H1, I1, r, sp⟩ => ⟨I1.kIn, ?_⟩) he hpl
    have hl : us.length = ps.length := by rw [← r.length]; exact h5.len _ _ _ _ sp
    have b := h3 s1 us I1.kIn (by rw [List.append_nil]; exact hl)
    rw [List.append_nil] at b
    have at_p := I1.pin p (List.mem_append_left _ hp)
    have pin : L2H.PinOk X.stack H1 s1 p := ⟨at_p.1, at_p.2.1, fun hm => (List.mem_cons.mp (I1.stkSub p.1 hm)).elim at_p.2.2.1 at_p.2.2.2.1, at_p.2.2.2.2⟩
    refine wpAny_call (codeAny_mono (h5.run X.A X.stack s1 H1 ⟨us, []⟩ us vs Q (WE E σ) p hr pin I1.env0 b r sp) fun rr s' hq => ?_)
    cases rr with
    | error e => exact passAt hx σ pins H1 s1 e s' I1 hq
    | ok fl =>
      cases fl with
      | ret u => exact I1.after hq
      | next => exact hq.elim
      | brk => exact hq.elim
      | cont => exact hq.elim
  refine PE.weak hPE fun σ H Q ⟨G, F, α, s, R, h⟩ => ?_
  refine ⟨G, F, α, s, R, ?_⟩
  have hb := h.bind
  cases q : m s with
  | none => rw [q] at hb; exact hb.elim
  | some o =>
    rw [q] at hb
    cases o with
    | exc C fs s' => exact hb
    | ok ds s1 =>
      intro F1 α1 H1 x1 vs R1 k1
      exact spF_of (by rw [k1.len]; exact hl s ds s1 q) R1 k1 (hb F1 α1 H1 x1)
end
end DL

/-! from DL25.lean -/
set_option Elab.async false
set_option linter.all false
set_option maxRecDepth 100000
set_option maxHeartbeats 4000000
/-! DL25: own == and != as tests. -/
namespace DL
open PySem L2 PyProof.Rows
section
variable {X : Cx} {E : WX} {pos : Pos}
theorem d_teqI {C : Str} {k : Nat} {f : DF} {ma mb : M D} {a b : Expr} (T : EqT X.prog X.w X.K X.mg X.base k C f) (hr : Room (k + 1) X.A) (ha : DE X E a ma) (hb : DE X E b mb) (hm : behindInMarks .Eq b = false := by exact nomark _) : DT X E (.Compare a [.Eq] [b] pos) (tst (op2 (eqF false C f) ma mb)) := by
  obtain ⟨Ca, fa, fd, ps, t1, t2, t3, t4, t5, t6, t7, t8⟩ := T.ex
  exact d_tcmp (op_eqI t6 hr t4 t2 t3) (s_eqI (fa := fa) t1 T.self T.tys) ha hb hm
theorem d_tneI {C : Str} {k : Nat} {f : DF} {ma mb : M D} {a b : Expr} (T : EqT X.prog X.w X.K X.mg X.base k C f) (hr : Room (k + 1) X.A) (ha : DE X E a ma) (hb : DE X E b mb) (hm : behindInMarks .NotEq b = false := by exact nomark _) : DT X E (.Compare a [.NotEq] [b] pos) (tst (op2 (eqF true C f) ma mb)) := by
  obtain ⟨Ca, fa, fd, ps, t1, t2, t3, t4, t5, t6, t7, t8⟩ := T.ex
  exact d_tcmp (op_neI t6 hr t4 t2 t3 t7 t8) (s_eqI (fa := fa) t1 T.self T.tys) ha hb hm
end
/-! a, b = x, y, told before its values -/
theorem d_parH {X : Cx} {E : WX} {a b : Expr} {st : Stmt} (i j : Nat) {n : M (List D)} (h : ∀ {ta : TA}, PA X [a, b] ta → PS X st (tPar i j ta)) (ha : DA X E [a, b] n) : DS X E st (parS i j n) := by
  refine PS.weak (h ha) fun D σ H ⟨G, F, α, s, R, h⟩ => ?_
  refine ⟨G, F, α, s, R, h.bind.mono fun F1 α1 H1 ds s1 x1 h1 vs R1 k1 => ?_⟩
  split at h1
  · obtain ⟨v, w, rfl, kv, kw⟩ := k1.two
    exact ⟨v, w, rfl, h1 F1 α1 H1 (Ext.refl _ _) _ ((R1.set kv i).set kw j)⟩
  · exact h1.elim
/-- room within a suite -/
theorem roomQ {X : Cx} {a : Addr} {pn : List (Addr × Obj)} {j k : Nat} (hr : Room k X.A) (h : j ≤ k) : L2H.RoomH j (X.suite a pn).A := ⟨(hr.mono h).dp, (hr.mono h).un⟩
/-- all parameters are written, the last ones by name -/
theorem kbn_all {K : Frg} {x qual : Str} {params : Arguments} {body : List Stmt} {scope : Scope} {dvs : List V} {f : Addr} {fd : FuncData} {ps : List Str} (F : FunD K x qual params body scope dvs [] f fd) (n : Nat) (ks : List Str) (hd : dvs ≠ [])
    (h : ∀ (T : Addr) (kV doc pm : Value) (an : Option Addr) (cdv ct : Value) (us its ws : List Value), us.length = n → its.length = dvs.length → ws.length = ks.length →
      ∃ k, bindArgs (PySem.W.fnOf x qual params body scope (.ref T) kV doc pm an cdv ct) ⟨us, ks.zip ws⟩ = seqItems? (.ref T) >>= k ∧ k (some its.toArray) = pure (ps.zip (us ++ ws))) :
    KBn K fd ps n ks (fun us ws => us ++ ws) (fun vs zs => vs ++ zs) := by
  obtain ⟨its, q⟩ := F.kbindsD n ks (fun us _ ws => us ++ ws) hd (fun r1 _ r3 => r1.append r3) h
  exact q
theorem exm_of {K : Frg} {t : Value} {C : Addr} {b : Bool} (ic : PySem.W.isClsIn K C = true) (ti : PySem.W.typeIn K (.ref C) = some (.type "type")) (hs : PySem.W.subIn K t (.ref C) = some b) (hx : PySem.W.subIn K (.ref C) (.type "BaseException") = some true) : PySem.W.exmOne K t (.ref C) = some b := by
  have ic' : (PySem.W.clsIn K C).isSome = true := ic
  unfold PySem.W.exmOne PySem.W.kitCls
  simp [hx, ic', ti, hs]
end DL

/-! from DL26.lean -/
set_option Elab.async false
set_option linter.all false
set_option maxRecDepth 100000
set_option maxHeartbeats 4000000
/-! DL26: repr of numbers, truths, texts and None. -/
namespace DL
open PySem PySem.Spec L2 PyProof.Rows
def fRepr : List D → M D := fun ds => match ds with
  | [.int i] => guard' (decide (i.natAbs.log2 < 1920)) (ret (.str (toString i : String)))
  | [.bl b] => ret (.str (if b then "True" else "False"))
  | [.str x] => guard' (decide ((reprText x).length ≤ sizeLine)) (ret (.str (reprText x)))
  | [.non] => ret (.str "None")
  | _ => fail
def reprR (xs : List V) (H : Hp) (Q : VK) : Prop := (∃ i : Int, xs = [.int i] ∧ i.natAbs.log2 < 1920 ∧ Q (.str (toString i : String)) H) ∨ (∃ b : Bool, xs = [.bl b] ∧ Q (.str (if b then "True" else "False")) H) ∨ (∃ x : Str, xs = [.str x] ∧ (reprText x).length ≤ sizeLine ∧ Q (.str (reprText x)) H) ∨ (xs = [.non] ∧ Q (.str "None") H)
theorem call_reprD {X : Cx} : CallR X (.builtin "repr") reprR := by
  intro pins s σ H xs us Q I r h
  rcases h with ⟨i, rfl, hz, q⟩ | ⟨b, rfl, q⟩ | ⟨x, rfl, hz, q⟩ | ⟨rfl, q⟩
  · obtain ⟨u, rfl, t, rfl⟩ := vals1 r
    exact PySem.P.repr_of_int hz ⟨.str _, H, I.tok _, ⟨_, rfl⟩, q⟩
  · obtain ⟨u, rfl, rfl⟩ := vals1 r
    exact PySem.P.repr_of_bool ⟨.str _, H, I.tok _, ⟨_, rfl⟩, q⟩
  · obtain ⟨u, rfl, t, rfl⟩ := vals1 r
    exact PySem.P.repr_of_str ⟨.str _, H, I.tok _, ⟨_, rfl⟩, q⟩ hz
  · obtain ⟨u, rfl, rfl⟩ := vals1 r
    exact PySem.P.repr_of_none ⟨.str _, H, I.tok _, ⟨_, rfl⟩, q⟩
theorem s_reprD {K : Frg} {E : WX} : SpA K E reprR fRepr := by
  intro G F H α σ s xs ds Q R k h
  unfold fRepr at h
  split at h
  · obtain ⟨v, rfl, k1⟩ := k.one
    cases k1
    obtain ⟨g, h1⟩ := wp_guard h
    exact .inl ⟨_, rfl, of_decide_eq_true g, fin h1 R (.str _)⟩
  · obtain ⟨v, rfl, k1⟩ := k.one
    cases k1
    exact .inr (.inl ⟨_, rfl, fin h R (.str _)⟩)
  · obtain ⟨v, rfl, k1⟩ := k.one
    cases k1
    obtain ⟨g, h1⟩ := wp_guard h
    exact .inr (.inr (.inl ⟨_, rfl, of_decide_eq_true g, fin h1 R (.str _)⟩))
  · obtain ⟨v, rfl, k1⟩ := k.one
    cases k1
    exact .inr (.inr (.inr ⟨rfl, fin h R (.str _)⟩))
  · exact h.elim
end DL

/-! from DL27.lean -/
set_option Elab.async false
set_option linter.all false
set_option maxRecDepth 100000
set_option maxHeartbeats 4000000
/-! DL27: x op y, both of an own class that has the operator. -/
namespace DL
open PySem PySem.Spec L2 PyProof.Rows
section
variable {X : Cx} {E : WX} {pos : Pos}
def rBinI (Ca : Addr) (sp : Sp) : R2 := fun x y H Q => ∃ a dx fs b dy gs, x = .ref a ∧ H a = some (.ins Ca dx fs) ∧ y = .ref b ∧ H b = some (.ins Ca dy gs) ∧ TyX X.K H (.ref b) (.ref Ca) ∧ sp [x, y] H Q (fun _ _ _ => False)
theorem back_of {Q : Value → Shared → Prop} {v : V} {u : Value} {s' : Shared} (rv : L2.RelV v u) (q : Q u s') : PySem.W.CmpBack Q u s' := by
  cases v <;> first
    | (obtain ⟨t, rfl⟩ := rv; exact q)
    | (cases rv; exact q)
theorem op_binI {op : Operator} {k : Nat} {Ca fa : Addr} {fd : FuncData} {ps : List Str} {sp : Sp} (F : FnOk X.prog X.w X.K X.mg X.base (L2.CX X.prog X.w) k fa fd ps sp) (hr : Room k X.A) (hb : Binds X.K fd ps []) (hs : PySem.W.findIn X.K (.ref Ca) (PySem.dunder op.info.2) = some (some (.ref fa))) (hf : PySem.W.isFn X.K (.ref fa) = true) (sf : PySem.W.selfFirst X.K Ca = true) :
    OpR X (binaryOp op) (rBinI (X := X) Ca sp) := by
  intro pins s σ H x y v u Q I rx ry h
  obtain ⟨a, dx, fs, b, dy, gs, rfl, ea, rfl, eb, ty, h⟩ := h
  cases rx
  obtain ⟨ox, od, J⟩ := insAt_of I ea
  obtain ⟨m, hF⟩ := I.fr
  obtain ⟨P, Z, p, _⟩ := kit_of I ry ty
  refine PySem.W.binop_K hF I.ok.mod.kin J (Z.ty _ _ I.kIn p) sf hs hf ?_
  refine run_eqI F hr rfl hb I (.cons (show L2.RelV (.ref a) (.ref a) from rfl) (.cons ry .nil)) h fun v w H' s' rv q I' => ?_
  exact back_of rv ⟨v, H', I', rv, q⟩
/-- a def's answer; it raises nothing -/
def okO (e : List (Option D)) (o : Option OutF) : Option (Out D) := match o with
  | some (.ok d ς) => some (.ok d ⟨e, ς⟩)
  | _ => none
def isI (C : Str) (ς : Store) (d : D) : Bool := match insD ς d with
  | some (C', _) => decide (C' = C)
  | none => false
def binIF (C : Str) (f : DF) : D → D → M D := fun d e => chk (fun ς => isI C ς d && isI C ς e) fun s => okO s.e (f [d, e] s.s)
theorem spF_ok {K : Frg} {G F H : Hp} {α : List Addr} {σ : L2.St} {s : S} {vs : List V} {ds : List D} {f : DF} {Q : VK} {n : Nat} (hn : vs.length = n) (R : RelS K G F H α σ s) (k : HasL K F α vs ds) (h : Wp K G E F α (okO s.e (f ds s.s)) (pV K G σ Q)) :
    spF K n f vs H Q (fun _ _ _ => False) := by
  refine ⟨hn, G, F, α, s.s, ds, R.st, k, ?_⟩
  unfold okO at h
  cases e : f ds s.s with
  | none => rw [e] at h; exact h.elim
  | some o =>
    rw [e] at h
    cases o with
    | exc _ _ _ => exact h.elim
    | ok d ς => exact fun F' α' H' v x R' kv => h F' α' H' x v (R.back x R') kv
theorem s_binI {K : Frg} {C : Str} {f : DF} {Ca : Addr} (hK : X.K = K) (hC : clsV K C = .ref Ca) (T : ClsX K C) : Sp2 K E (rBinI (X := X) Ca (spF K 2 f)) (binIF C f) := by
  subst hK
  intro G F H α σ s x y d e Q R kx ky h
  obtain ⟨g, h1⟩ := wp_chk h
  rw [Bool.and_eq_true] at g
  obtain ⟨g1, g2⟩ := g
  unfold isI at g1 g2
  split at g1
  · rename_i C' gs q
    have g1 := of_decide_eq_true g1
    subst g1
    obtain ⟨a, Cb, dx, fs, rfl, c, e2, _, _⟩ := ins_at R.st kx q
    rw [hC] at c
    cases c
    split at g2
    · rename_i C2 gs2 q2
      have g2 := of_decide_eq_true g2
      subst g2
      obtain ⟨a2, Cb, dx2, fs2, rfl, c2, e3, _, _⟩ := ins_at R.st ky q2
      have c2' := c2
      rw [hC] at c2'
      cases c2'
      exact ⟨a, dx, fs, a2, dx2, fs2, rfl, e2, rfl, e3, T.ty e3 c2, spF_ok rfl R (.cons kx (.cons ky .nil)) h1⟩
    · cases g2
  · cases g1
theorem d_binI {op : Operator} {C m : Str} {k : Nat} {f : DF} {ma mb : M D} {a b : Expr} (T : DunT X.prog X.w X.K X.mg X.base k C m 2 f) (cx : ClsX X.K C) (sf : ∀ Ca, clsV X.K C = .ref Ca → PySem.W.selfFirst X.K Ca = true) (hm : PySem.dunder op.info.2 = m) (hr : Room k X.A) (ha : DE X E a ma) (hb : DE X E b mb) : DE X E (.BinOp a op b pos) (op2 (binIF C f) ma mb) := by
  obtain ⟨Ca, fa, fd, ps, t1, t2, t3, t4, t5, t6⟩ := T.ex
  subst hm
  exact d_op (op_binI t6 hr t4 t2 t3 (sf Ca t1)) (s_binI rfl t1 cx) ha hb
end
end DL

/-! from DL28.lean -/
set_option Elab.async false
set_option linter.all false
set_option maxRecDepth 100000
set_option maxHeartbeats 4000000
/-! DL28: list(o), o of an own class whose __iter__ gives the iterator of a tuple that it holds. -/
namespace DL
open PySem PySem.Spec L2 PyProof.Rows ItX
/-- at it an iterator over the tuple at t, the next place is i -/
def ItP (t it : Addr) (i : Nat) : HO := .ext fun h => h.IsTupleIter it t i
theorem itP_ok {P : Program} {w : World} {H : Hp} {h : Heap} {t it : Addr} {i : Nat} (e : h.IsTupleIter it t i) : ObjOk P w H h it (ItP t it i) := by
  obtain ⟨o, ho, r⟩ := e
  exact ⟨⟨o, ho, r⟩, ⟨o, ho⟩, fun h1 h2 ⟨o, ho, r⟩ k => ⟨o, k _ ho, r⟩⟩
/-- it lies behind all that is known -/
def NewA (H : Hp) (it : Addr) : Prop := H it = none ∧ ∀ b u, H b = some u → b < it
section
variable {X : Cx} {pins : List (Addr × Obj)} {σ : L2.St} {H : Hp} {s : Shared}
theorem newA_of (I : Inv X pins σ H s) : NewA H s.heap.objs.size := by
  refine ⟨I.hok.fresh (Nat.le_refl _), fun b u e => ?_⟩
  exact Nat.lt_of_not_le fun z => by
    rw [I.hok.fresh z] at e
    cases e
def rIterT (K : PySem.W.Frag) : List V → Hp → VK → Prop := fun xs H Q => ∃ (t : Addr) (zs : List V), xs = [.ref t] ∧ SqT K H t zs ∧ ∀ it, NewA H it → Q (.ref it) (upd H it (ItP t it 0))
theorem call_iterT : CallR X (.builtin "iter") (rIterT X.K) := by
  intro pins s σ H xs us Q I r h
  obtain ⟨t, zs, rfl, ht, q⟩ := h
  obtain rfl := Vals.ref1 r
  obtain ⟨its, rv, pt, hz⟩ := I.tuple ht
  have tt : s.heap.IsTuple t its.toArray := pt
  refine Calls.call_function_entry (by decide +kernel) (by decide +kernel) PySem.W.kdk_entry_iter (PySem.W.kdk_args_iter _) ?_
  unfold Builtin.«iter»
  refine wpAny_bind (m := someArgs "iter" 1 2 _) (wpAny_of_eq (a := [Value.ref t]) (by first | rfl | kernel_rfl!) ?_)
  refine wpAny_bind (m := pyIter (.ref t)) (wpAny_pyIter_tuple tt (wpAny_pure ⟨_, rfl, ?_⟩))
  exact ⟨.ref s.heap.objs.size, _, I.laid (t' := s.toks) (fun b u e => Heap.get?_push_of_some _ e) (Nat.le_refl _) (itP_ok ⟨_, Heap.get?_push_size _ rfl, rfl, rfl⟩), rfl, q _ (newA_of I)⟩
end
/-- what such an __iter__ promises -/
def spIt (K : PySem.W.Frag) (Ca : Addr) (fld : Str) : Sp := fun vs H Q _ => ∃ a dx fs t zs, vs = [.ref a] ∧ H a = some (.ins Ca dx fs) ∧ fs.lookup fld = some (.ref t) ∧ SqT K H t zs ∧ ∀ it, NewA H it → Q (.ref it) (upd H it (ItP t it 0))
theorem fn_iter {P : Program} {w : World} {K : Frg} {mg : Str → Option Value} {base : Heap} {x qual : Str} {st : Stmt} {f Ca : Addr} {fd : FuncData} {N : List Str} {k : Nat} {fld self : Str} {p1 p2 p3 p4 p5 : Pos} (F : Fun K x qual st f fd) (S : FnScope N [self] (defScope st))
    (hb : defBody st = [.Return (some (.Call (.Name "iter" p1) [.Attribute (.Name self p2) fld p3] [] p4)) p5]) (hN : N = [self]) (cl : Cls K Ca) (na : NoAttr K Ca fld)
    (hv : ∀ (cdv : Value) (A : Around) (outer : List Env) (s : Shared) (H : Hp) (E : XK), PE (cxOf (L2.CX P w) P w K mg base N qual (defScope st) f cdv A outer s H E) (.Call (.Name "iter" p1) [.Attribute (.Name self p2) fld p3] [] p4) (tCB (rIterT K) (tCons (tFld K (tVar 0) fld) tNil))) :
    FnOk P w K mg base (L2.CX P w) (k + 1) f fd [self] (spIt K Ca fld) := by
  refine F.okX S (fun vs H Q E h => ?_) fun cdv A outer s H vs Q E hr h => ⟨_, by rw [hb]; exact pss_one (ps_ret (hv cdv A outer s H E)), ?_⟩
  · obtain ⟨a, dx, fs, t, zs, rfl, _⟩ := h
    rfl
  · obtain ⟨a, dx, fs, t, zs, rfl, ha, hl, ht, q⟩ := h
    subst hN
    exact ⟨.ref a, rfl, a, Ca, dx, fs, .ref t, rfl, ha, cl, na, hl, t, zs, rfl, ht, q⟩
theorem sqT_upd {K : PySem.W.Frag} {H : Hp} {t q : Addr} {zs : List V} {o : HO} (h : SqT K H t zs) (hq : ∀ u, H q = some u → (∃ ys, u = .lst ys) ∨ ∃ φ, u = .ext φ) : SqT K (upd H q o) t zs := by
  have ne : ∀ u, H t = some u → (∀ ys, u ≠ .lst ys) → (∀ φ, u ≠ .ext φ) → t ≠ q := fun u e n1 n2 z => by
    subst z
    rcases hq u e with ⟨ys, rfl⟩ | ⟨φ, rfl⟩
    · exact n1 _ rfl
    · exact n2 _ rfl
  rcases h with (h | ⟨ob, h⟩) | h
  · exact .inl (.inl (by rw [upd_ne (ne _ h (fun _ z => nomatch z) fun _ z => nomatch z)]; exact h))
  · exact .inl (.inr ⟨ob, by rw [upd_ne (ne _ h (fun _ z => nomatch z) fun _ z => nomatch z)]; exact h⟩)
  · exact .inr h
theorem upd_comm {H : Hp} {a b : Addr} {x y : HO} (h : a ≠ b) : upd (upd H a x) b y = upd (upd H b y) a x := by
  funext c
  by_cases h1 : c = a
  · rw [h1, upd_ne h, upd_same, upd_same]
  · by_cases h2 : c = b
    · rw [h2, upd_same, upd_ne (fun z => h z.symm), upd_same]
    · rw [upd_ne h2, upd_ne h1, upd_ne h1, upd_ne h2]
section
variable {X : Cx} {pins : List (Addr × Obj)} {σ : L2.St}
/-- the loop that fills the list at q from the iterator at it -/
theorem tup_loop {A1 : Around} {Rs : Result → Shared → Prop} {H : Hp} {q it t : Addr} {zs : List V} (calm : A1.in1.handled = none) (hn : X.s_0.heap.objs.size ≤ it) (qi : q ≠ it) (hT : ∀ i acc, SqT X.K (upd (upd H q (.lst acc)) it (ItP t it i)) t zs) (hz : zs.length < sizeLine)
    (hdone : ∀ s, Inv X pins σ (dropH (upd (upd H q (.lst zs)) it (ItP t it zs.length)) it) s → Rs (.ok (.ret .none)) s) :
    ∀ (m i : Nat) (s : Shared), i + m = zs.length → Inv X pins σ (upd (upd H q (.lst (zs.take i))) it (ItP t it i)) s → codeAny (model X.prog X.w) A1 (.builtin "list.extend.loop" ⟨[.ref q, .ref it, .none], []⟩) Rs s := by
  intro m
  induction m with
  | zero =>
    intro i s hi I
    have iz : i = zs.length := by omega
    subst iz
    rw [List.take_length] at I
    obtain ⟨its, rv, pt, _⟩ := I.tuple (hT _ _)
    have hit : s.heap.IsTupleIter it t zs.length := (I.hok it _ upd_same).1
    refine codeAny_builtin PySem.F.entry_extend_loop ?_
    rw [Around.under_plainId PySem.F.plain_extend_loop _]
    refine wpAny_bind (m := pyNext (.ref it)) (wpAny_pyNext_tuple_end calm hit (items := its.toArray) pt ?_ fun h' k => wpAny_pure (hdone _ ?_))
    · have := rv.length
      rw [List.getElem?_toArray]
      exact List.getElem?_eq_none (by omega)
    · have I2 := inv_drop I (upd_same (H := upd H q (.lst zs)) (a := it) (o := ItP t it zs.length))
      exact I2.turnedL (t' := s.toks) (ch := [it]) (fun b o hb e => k b o (by simpa using hb) e) fun b hb => by
        rw [List.mem_singleton.mp hb]
        exact inv_fp I upd_same hn
  | succ m ih =>
    intro i s hi I
    have il : i < zs.length := by omega
    obtain ⟨its, rv, pt, _⟩ := I.tuple (hT _ _)
    have hit : s.heap.IsTupleIter it t i := (I.hok it _ upd_same).1
    obtain ⟨u, hu, ru⟩ := rv.get (List.getElem?_eq_getElem il)
    refine codeAny_builtin PySem.F.entry_extend_loop ?_
    rw [Around.under_plainId PySem.F.plain_extend_loop _]
    refine wpAny_bind (m := pyNext (.ref it)) (wpAny_pyNext_tuple_item hit (items := its.toArray) (x := u) pt (by rw [List.getElem?_toArray]; exact hu) fun h' n1 k => ?_)
    have mu : Mut ((upd (upd H q (.lst (zs.take i))) it (ItP t it i)) it) := by rw [upd_same]; exact True.intro
    obtain ⟨ob, hob, _⟩ := id n1
    have I1 : Inv X pins σ (upd (upd (upd H q (.lst (zs.take i))) it (ItP t it i)) it (ItP t it (i + 1))) { s with heap := h' } := I.write (x := it) (e := it) (t' := s.toks) mu (.inl rfl) (fun b o nb z => (k.2 b nb).trans z) ⟨_, hob⟩ (itP_ok n1)
    rw [upd_upd] at I1
    have hq : (upd (upd H q (.lst (zs.take i))) it (ItP t it (i + 1))) q = some (.lst (zs.take i)) := by rw [upd_ne qi, upd_same]
    obtain ⟨z, its2, k2, r2, hl, e⟩ := I1.lstM hq
    have ln : (zs.take i).length = i := by rw [List.length_take]; omega
    show wpAny _ A1.in1 (updateSeq q (·.push u) >>= _) _ _ _
    refine wpAny_bind (wpAny_updateSeq e rfl (wpAny_pure ⟨plainId_quiet PySem.F.plain_extend_loop _, ?_⟩) (by rw [List.size_toArray]; have := r2.length; omega) (by show (its2.toArray.push u).size ≤ sizeLine + 1; rw [Array.size_push, List.size_toArray]; have := r2.length; omega))
    refine ih (i + 1) _ (by omega) ?_
    have I3 := I1.lset (f := (·.push u)) (its' := its2 ++ [u]) (t' := s.toks) hq e (by simp) (r2.append (.cons ru .nil)) (by rw [List.length_append, List.length_singleton]; omega)
    rw [upd_comm (fun z => qi z.symm), upd_upd] at I3
    have et : zs.take (i + 1) = zs.take i ++ [zs[i]] := by rw [List.take_add_one, List.getElem?_eq_getElem il]; rfl
    rw [et]
    exact I3
end
end DL

/-! from DL29.lean -/
set_option Elab.async false
set_option linter.all false
set_option maxRecDepth 100000
set_option maxHeartbeats 4000000
namespace DL
open PySem PySem.Spec L2 PyProof.Rows ItX
/-- a class whose __iter__ and __len__ are defs -/
structure ItT (K : PySem.W.Frag) (Ca fi fl : Addr) : Prop where
  it : PySem.W.findIn K (.ref Ca) "__iter__" = some (some (.ref fi))
  itF : PySem.W.isFn K (.ref fi) = true
  ln : PySem.W.findIn K (.ref Ca) "__len__" = some (some (.ref fl))
  lnF : PySem.W.isFn K (.ref fl) = true
section
variable {X : Cx} {pins : List (Addr × Obj)} {σ : L2.St} {H : Hp} {s : Shared}
theorem tup_hint {M : Model} {A : Around} {E : Value → Shared → Prop} {K : PySem.W.Frag} {Ca fi fl a : Addr} {ox : Obj} {od : Option Obj} {Q : Bool → Shared → Prop} (hc : ItT K Ca fi fl) (hK : K.In s.heap) (J : PySem.W.InstAt s.heap a ox Ca od)
    (h : wpAny M A (call (.builtin "len") [.ref a]) (fun n s' => ∃ k t, n = .int k t ∧ k.toNat ≤ sizeLine ∧ ∀ b, Q b s') (fun _ _ => False) s) : wpAny M A (Builtin.List.listLengthHint (.ref a)) Q E s := by
  unfold Builtin.List.listLengthHint
  refine wpAny_bind (wpAny_bind (J.type.here ((PySem.W.looks_findIn hK hc.ln).here ?_)))
  refine PySem.W.KFB.if_not rfl ?_
  refine wpAny_ite_split (fun _ => ?_) (fun z => absurd rfl z)
  refine wpAny_bind (wpAny_rule ?_)
  refine wpAny_bind (wpAny_attempt (wpAny_mono h (fun n s' hq => ?_) fun _ _ z => z.elim))
  obtain ⟨k, t, rfl, kz, q⟩ := hq
  refine wpAny_bind (m := asInt? (.int k t)) (wpAny_pure ?_)
  refine PySem.W.KFB.if_not (show Builtin.List.listTooLong k.toNat = false from decide_eq_false (by omega)) ?_
  exact wpAny_pure (q _)
/-- a def is called that raises nothing; whatever would become of an exception -/
theorem run_any {k : Nat} {fa : Addr} {fd : FuncData} {ps : List Str} {sp : Sp} {A : Around} {P : V → Hp → Prop} {R : Value → Shared → Prop} {EE : Value → Shared → Prop} {vs : List V} {us : List Value} (F : FnOk X.prog X.w X.K X.mg X.base (L2.CX X.prog X.w) k fa fd ps sp) (hr : Room k A) (hfr : A.frames = X.A.frames) (hb : Binds X.K fd ps [])
    (I : Inv X pins σ H s) (r : L2.Vals vs us) (h : sp vs H P (fun _ _ _ => False)) (hR : ∀ v u H' s', RelV v u → P v H' → Inv X pins σ H' s' → R u s') : wpAny (model X.prog X.w) A (call (.ref fa) us) R EE s := by
  have e0 : Env0 X.prog X.w X.K X.mg X.base A X.stack s H := by
    have e := I.env0
    exact ⟨by rw [hfr]; exact e.frames, e.mod, e.bs, e.bsz, e.funs, e.frf, e.hok, e.bare⟩
  have hl := F.len _ _ _ _ h
  have r2 : us.length = ps.length := by rw [← hl, r.length]
  refine wpAny_call (codeAny_mono (F.run A X.stack s H ⟨us, []⟩ us vs P _ hr e0 (by
    have := hb s us I.kIn (by simpa using r2)
    simpa using this) r h) fun r s' hq => ?_)
  cases r with
  | error e =>
    obtain ⟨_, _, _, _, _, _, _, _, _, _, _, _, z⟩ := hq
    exact z.elim
  | ok fl =>
    cases fl with
    | ret u =>
      obtain ⟨v, H', I', rv, q⟩ := I.after hq
      exact hR v u H' s' rv q I'
    | next => exact False.elim hq
    | brk => exact False.elim hq
    | cont => exact False.elim hq
/-- what the length's def gives, the new list at q and the iterator at it being there -/
def LenAt (K : PySem.W.Frag) (spL : Sp) (a q it t : Addr) (zs : List V) (H : Hp) (Q : VK) : Prop :=
  spL [.ref a] (upd (upd H q (.lst [])) it (ItP t it 0)) (fun v H3 => (∃ i : Int, v = .int i ∧ 0 ≤ i ∧ i ≤ 16000000) ∧ H3 q = some (.lst []) ∧ H3 it = some (ItP t it 0) ∧ SqT K H3 t zs ∧
    Q (.ref q) (dropH (upd (upd H3 q (.lst zs)) it (ItP t it zs.length)) it)) (fun _ _ _ => False)
def rOwnT (K : PySem.W.Frag) (Ca : Addr) (fld : Str) (spL : Sp) : List V → Hp → VK → Prop := fun xs H Q => ∃ a dx fs t zs, xs = [.ref a] ∧ H a = some (.ins Ca dx fs) ∧ fs.lookup fld = some (.ref t) ∧ SqT K H t zs ∧ zs.length < sizeLine ∧
  ∀ q it, H q = none → NewA (upd H q (.lst [])) it → LenAt K spL a q it t zs H Q
theorem hz1 {i : Int} (h : i ≤ 16000000) : i.toNat ≤ sizeLine := by rw [sizeLine_eq]; omega
theorem call_listT {kI kL : Nat} {fi fl Ca : Addr} {fdI fdL : FuncData} {psI psL : List Str} {fld : Str} {spL : Sp} (hc : ItT X.K Ca fi fl) (FI : FnOk X.prog X.w X.K X.mg X.base (L2.CX X.prog X.w) kI fi fdI psI (spIt X.K Ca fld)) (bI : Binds X.K fdI psI [])
    (FL : FnOk X.prog X.w X.K X.mg X.base (L2.CX X.prog X.w) kL fl fdL psL spL) (bL : Binds X.K fdL psL []) (hcalm : X.calm = true) (hrI : Room (kI + 4) X.A) (hrL : Room (kL + 4) X.A) : CallR X (.type "list") (rOwnT X.K Ca fld spL) := by
  intro pins s σ H xs us Q I rv h
  obtain ⟨a, dx, fs, t, zs, rfl, ha, hl, ht, hz, hQ⟩ := h
  obtain ⟨u, rfl, ru⟩ := rv.one
  cases ru
  have calm : X.A.handled = none := I.ok.hd hcalm
  refine callType_codes (Q₁ := fun obj s₁ => obj = .ref s.heap.objs.size ∧ s₁ = { s with heap := s.heap.push { cls := .type "list", data := .seq #[] } }) PySem.F.called_list (PySem.F.typeCall_list_1 _) PySem.F.entry_list_init
    (code_list_new _ ⟨rfl, rfl⟩) fun obj s₁ h₁ => ?_
  obtain ⟨rfl, rfl⟩ := h₁
  have hS : (s.heap.push { cls := .type "list", data := .seq #[] }).get? s.heap.objs.size = some { cls := .type "list", data := .seq #[] } := Heap.get?_push_size _ rfl
  refine ⟨⟨_, hS, rfl⟩, PySem.F.args_list_init_2 _ _, ?_⟩
  have fr : H s.heap.objs.size = none := I.hok.fresh (Nat.le_refl _)
  have sz : X.s_0.heap.objs.size ≤ s.heap.objs.size := I.sz
  have I1 : Inv X pins σ (upd H s.heap.objs.size (.lst [])) { s with heap := s.heap.push { cls := .type "list", data := .seq #[] } } := I.lnew (its := []) (t' := s.toks) .nil (Nat.zero_le _)
  generalize s.heap.objs.size = q at *
  show wpAny _ _ (do let old ← Builtin.List.listItems (.ref q); Builtin.List.listUpdate (.ref q) (fun _ => #[]); letGo old.toList.reverse; Builtin.List.listExtendWith (.ref q) (.ref a) .none) _ _ _
  refine wpAny_bind ?_
  unfold Builtin.List.listItems
  refine wpAny_bind (wpAny_seqItems hS rfl (wpAny_pure ?_))
  refine wpAny_bind (m := updateSeq q (fun _ => #[])) (wpAny_updateSeq hS rfl ?_)
  have I2 := I1.lset (f := fun _ => #[]) (its := []) (its' := []) (ys := []) (t' := s.toks) upd_same hS rfl .nil (Nat.zero_le _)
  rw [upd_upd] at I2
  refine wpAny_bind (wpAny_letGo ?_)
  have ha2 : upd H q (.lst []) a = some (.ins Ca dx fs) := by rw [upd_ne (ne_of_none ha fr)]; exact ha
  have ht2 : SqT X.K (upd H q (.lst [])) t zs := sqT_upd ht fun u e => by rw [fr] at e; cases e
  obtain ⟨mA, J, _⟩ := ins_get I2.hok ha2
  obtain ⟨od, J, _⟩ := J.look
  obtain ⟨m0, hF⟩ := I2.fr
  unfold Builtin.List.listExtendWith
  refine wpAny_bind (J.type.here ?_)
  have qa : q ≠ a := fun z => by rw [z] at fr; rw [ha] at fr; cases fr
  have h1 : Builtin.List.listSameRef (.ref q) (.ref a) = false := by simp [Builtin.List.listSameRef, qa]
  have h2 : (Value.ref Ca == Value.type "list") = false := rfl
  have h3 : (Value.ref Ca == Value.type "tuple") = false := rfl
  simp only [h1, h2, h3, Bool.or_false, Bool.false_eq_true, if_false]
  refine wpAny_bind (PySem.W.owit_iter hF I2.ok.mod.kin J hc.it hc.itF ?_)
  refine run_any FI (hrI.in1.in1.mono (by omega)) rfl bI I2 (.cons (show L2.RelV (.ref a) (.ref a) from rfl) .nil) (P := fun v H' => ∃ it, v = .ref it ∧ NewA (upd H q (.lst [])) it ∧ H' = upd (upd H q (.lst [])) it (ItP t it 0)) ⟨a, dx, fs, t, zs, rfl, ha2, hl, ht2, fun it n => ⟨it, rfl, n, rfl⟩⟩ fun v u H' s' rv hq I' => ?_
  obtain ⟨it, rfl, nw, rfl⟩ := hq
  cases rv
  have hit : s'.heap.IsTupleIter it t 0 := (I'.hok it _ upd_same).1
  have qi : q < it := nw.2 q _ upd_same
  unfold PySem.W.OwitIt
  refine wpAny_specialOf hit.typeIs F.slot_tuple_iterator_next.lookup ?_
  obtain ⟨mA', J', _⟩ := ins_get I'.hok (show (upd (upd H q (.lst [])) it (ItP t it 0)) a = some (.ins Ca dx fs) by
    rw [upd_ne (fun z => by rw [z] at ha2; rw [nw.1] at ha2; cases ha2)]
    exact ha2)
  obtain ⟨od', J', _⟩ := J'.look
  obtain ⟨m1, hF'⟩ := I'.fr
  refine wpAny_bind (wpAny_holding (tup_hint hc I'.kIn J' ?_))
  refine PySem.W.len_K hF' I'.ok.mod.kin J' hc.ln hc.lnF ?_
  refine run_any FL (hrL.in1.in1.in1.mono (by omega)) rfl bL I' (.cons (show L2.RelV (.ref a) (.ref a) from rfl) .nil) (hQ q it fr nw) fun v u H3 s3 rv hq3 I3 => ?_
  obtain ⟨⟨i, rfl, i0, i1⟩, q3, it3, t3, fin⟩ := hq3
  obtain ⟨tk, rfl⟩ := rv
  have big : (16000000 : Int) < 2 ^ 63 := by decide
  refine ⟨⟨i0, by omega⟩, i, _, rfl, hz1 i1, fun b => ?_⟩
  have base : upd (upd H3 q (.lst (zs.take 0))) it (ItP t it 0) = H3 := by
    funext c
    by_cases e1 : c = it
    · rw [e1, upd_same, it3]
    · rw [upd_ne e1]
      by_cases e2 : c = q
      · rw [e2, upd_same, q3]
        rfl
      · rw [upd_ne e2]
  have loop : ∀ s4, Inv X pins σ H3 s4 → codeAny (model X.prog X.w) X.A.in1 (.builtin "list.extend.loop" ⟨[.ref q, .ref it, .none], []⟩) (wants (fun r s₂ => r = .none ∧ EP X pins σ Q (.ref q) s₂) X.xe) s4 := fun s4 I4 => by
    refine tup_loop (A1 := X.A.in1) (Rs := wants (fun r s₂ => r = .none ∧ EP X pins σ Q (.ref q) s₂) X.xe) (H := H3) (q := q) (it := it) (t := t) (zs := zs) calm (show X.s_0.heap.objs.size ≤ it by omega) (show q ≠ it by omega) (fun j acc => ?_) hz (fun s5 I5 => ⟨rfl, .ref q, _, I5, rfl, fin⟩) zs.length 0 s4 (by omega) (by rw [base]; exact I4)
    refine sqT_upd (sqT_upd t3 fun u e => ?_) fun u e => ?_
    · rw [q3] at e
      cases e
      exact .inl ⟨_, rfl⟩
    · rw [upd_ne (show q ≠ it by omega).symm, it3] at e
      cases e
      exact .inr ⟨_, rfl⟩
  have I3' := I3.tok (s3.toks + 1)
  refine wpAny_ite_split (fun _ => ?_) (fun _ => wpAny_pure ⟨plainId_quiet PySem.F.plain_extend_loop _, loop _ I3'⟩)
  obtain ⟨z, its, c, r3, hl3, e3⟩ := I3'.lstM q3
  cases r3
  refine wpAny_bind (wpAny_rule (wpAny_bind (m := Builtin.List.listTouch (.ref q)) ?_))
  have I4 := I3'.lset (f := (·.push Value.none)) (its' := [Value.none]) (ys := [.non]) (t' := s3.toks + 1) q3 e3 (by simp) (.cons rfl .nil) (by rw [List.length_singleton, sizeLine_eq]; decide)
  obtain ⟨z4, its4, c4, r4, hl4, e4⟩ := I4.lstM upd_same
  obtain ⟨u4, rfl, ru4⟩ := r4.one
  have I5 := I4.lset (f := (·.pop)) (its := [u4]) (its' := []) (ys := []) (t' := s3.toks + 1) upd_same e4 (by rfl) .nil (Nat.zero_le _)
  rw [upd_upd] at I5
  have same : upd H3 q (.lst []) = H3 := by
    funext c
    by_cases e : c = q
    · rw [e, upd_same, q3]
    · rw [upd_ne e]
  rw [same] at I5
  refine wpAny_bind (m := updateSeq q (·.push .none)) (wpAny_updateSeq e3 rfl ?_)
  exact wpAny_updateSeq e4 rfl (wpAny_pure ⟨plainId_quiet PySem.F.plain_extend_loop _, loop _ I5⟩) (by show 1 ≤ sizeLine; rw [sizeLine_eq]; decide) (by show 0 ≤ sizeLine + 1; exact Nat.zero_le _)
end
end DL

/-! from DL30.lean -/
set_option Elab.async false
set_option linter.all false
set_option maxRecDepth 100000
set_option maxHeartbeats 4000000
/-! DL30: list(o), on data. -/
namespace DL
open PySem PySem.Spec L2 PyProof.Rows ItX
section
variable {K : Frg} {G F H : Hp} {α : List Addr} {ς : Store}
/-- what was tracked by itself is forgotten -/
theorem Rel0.dropT {p : Addr} {o : HO} (R : Rel0 K (upd G p o) F H α ς) (gp : G p = none) : Rel0 K G F (dropH H p) α ς := by
  have fp : F p = none := R.fg p o upd_same
  have ne : ∀ b u, F b = some u → b ≠ p := fun b u e z => by rw [z, fp] at e; cases e
  have ng : ∀ b u, G b = some u → b ≠ p := fun b u e z => by rw [z, gp] at e; cases e
  constructor
  · exact fun b u e => by rw [dropH_ne (ne b u e)]; exact R.ex b u e
  · exact fun b u e => by
      rw [dropH_ne (ng b u e)]
      exact R.gx b u (by rw [upd_ne (ng b u e)]; exact e)
  · exact R.len
  · intro i ob e
    obtain ⟨a, h, h1, h2, h3, h4⟩ := R.obj i ob e
    have nap : a ≠ p := fun z => by
      have := R.gn i ob a e h1
      rw [z, upd_same] at this
      cases this
    exact ⟨a, h, h1, by rw [dropH_ne nap]; exact h2, h3, h4⟩
  · exact fun a ob e => R.fg a ob (by rw [upd_ne (ng a ob e)]; exact e)
  · intro i ob a e ha
    have := R.gn i ob a e ha
    by_cases z : a = p
    · rw [z]
      exact gp
    · rwa [upd_ne z] at this
  · exact R.inj
  · exact R.tb
end
theorem hasL_len {K : Frg} {F : Hp} {α : List Addr} : ∀ {vs : List V} {ds : List D}, HasL K F α vs ds → vs.length = ds.length
  | [], [], _ => rfl
  | _ :: vs, _ :: ds, h => by
    cases h with
    | cons _ h2 =>
      simp only [List.length_cons]
      rw [hasL_len h2]
/-- list(o): the tuple in the field fld; the length's def is asked ahead of it -/
def lenOk (es : List D) (o : Option OutF) : Option Store := match o with
  | some (.ok (.int i) ς) => if (0 ≤ i ∧ i ≤ 16000000) ∧ es.length < 16000000 then some ς else none
  | _ => none
def fListI (own : Bool) (C fld : Str) (f : DF) : List D → M D := fun ds s => match ds with
  | [d] => match insD s.s d with
    | some (C', gs) => if C' = C then (match gs.lookup fld with
      | some (.tup es) => match lenOk es (f [d] s.s) with
        | some ς => mk own es ⟨s.e, ς⟩
        | none => none
      | _ => none) else none
    | none => none
  | _ => none
theorem s_listI {K : Frg} {E : WX} {Ca : Addr} {own : Bool} {C fld : Str} {f : DF} (hC : clsV K C = .ref Ca) : SpA K E (rOwnT K Ca fld (spF K 1 f)) (fListI own C fld f) := by
  intro G F H α σ s xs ds Q R k h
  unfold fListI at h
  split at h
  · rename_i d
    obtain ⟨v, rfl, k1⟩ := k.one
    split at h
    · rename_i C' gs q
      split at h
      · rename_i ec
        subst ec
        split at h
        · rename_i es q2
          obtain ⟨a, Cb, dx, fs, rfl, c, e2, h3, h4⟩ := ins_at R.st k1 q
          rw [hC] at c
          cases c
          obtain ⟨v, l1, l2⟩ := lookup_has h3 h4 q2
          cases l2
          rename_i t zs ht hz
          have htH : SqT K H t zs := sqT_seq R.st.ex ht
          split at h
          · rename_i ς' ql
            unfold lenOk at ql
            split at ql
            · rename_i i ς1 qf
              split at ql
              · rename_i bounds
                cases ql
                have lz : zs.length = es.length := hasL_len hz
                refine ⟨a, dx, fs, t, zs, rfl, e2, l1, htH, by rw [sizeLine_eq]; omega, fun p it hp nw => ?_⟩
                have gq : G p = none := R.st.gx.free hp
                have hit : H it = none := by
                  have := nw.1
                  by_cases z : it = p
                  · rw [z]
                    exact hp
                  · rwa [upd_ne z] at this
                have nqi : p ≠ it := fun z => by
                  have := nw.1
                  rw [← z, upd_same] at this
                  cases this
                have gi : G it = none := R.st.gx.free hit
                have R2 := (R.st.track hp (.lst [])).track nw.1 (ItP t it 0)
                refine ⟨rfl, _, F, α, s.s, [d], R2, .cons k1 .nil, ?_⟩
                rw [qf]
                intro F' α' H3 v x R3 kv
                cases kv
                refine ⟨⟨i, rfl, bounds.1.1, bounds.1.2⟩, R3.gx p _ (by rw [upd_ne nqi, upd_same]), R3.gx it _ upd_same, sqT_seq R3.ex (sqT_seq x.f ht), ?_⟩
                have R4 := (R3.dropT (by rw [upd_ne nqi.symm]; exact gi)).retrack (o' := .lst zs)
                have eH : dropH (upd (upd H3 p (.lst zs)) it (ItP t it zs.length)) it = upd (dropH H3 it) p (.lst zs) := by
                  funext b
                  by_cases b1 : b = it
                  · rw [b1, dropH_same, upd_ne nqi.symm, dropH_same]
                  · rw [dropH_ne b1, upd_ne b1]
                    by_cases b2 : b = p
                    · rw [b2, upd_same, upd_same]
                    · rw [upd_ne b2, upd_ne b2, dropH_ne b1]
                rw [eH]
                have hz' : HasL K F' α' zs es := hz.ext x
                cases own with
                | false =>
                  obtain ⟨R5, x5⟩ := R4.settle gq
                  exact h _ _ _ (x.trans x5) (.ref p) (R.back (x.trans x5) R5) (.lst upd_same (hz'.ext x5))
                | true =>
                  have R5 := R4.adopt gq (show HObj K F' α' (.lst zs) (.lst es) from hz')
                  have x5 : Ext F' α' F' (α' ++ [p]) := ⟨Same.refl F', List.prefix_append ..⟩
                  refine h _ _ _ (x.trans x5) (.ref p) (R.back (x.trans x5) R5) (.loc ?_)
                  rw [← R4.len]
                  simp
              · cases ql
            · cases ql
          · exact h.elim
        · exact h.elim
      · exact h.elim
    · exact h.elim
  · exact h.elim
end DL
namespace DL
open PySem PySem.Spec L2 PyProof.Rows ItX
/-- what list(o) asks of the class C -/
structure LstT (P : Program) (w : World) (K : Frg) (mg : Str → Option Value) (base : Heap) (k : Nat) (C fld : Str) (f : DF) : Prop where
  ex : ∃ (Ca fi fl : Addr) (fdI fdL : FuncData) (psI psL : List Str), clsV K C = .ref Ca ∧ ItT K Ca fi fl ∧ FnOk P w K mg base (L2.CX P w) k fi fdI psI (spIt K Ca fld) ∧ Binds K fdI psI [] ∧ FnOk P w K mg base (L2.CX P w) k fl fdL psL (spF K 1 f) ∧ Binds K fdL psL []
section
variable {X : Cx} {E : WX} {e : Expr} {pos p : Pos}
theorem d_listI {C fld : Str} {k : Nat} {f : DF} {m : M (List D)} (own : Bool) (T : LstT X.prog X.w X.K X.mg X.base k C fld f) (hc : X.calm = true) (hr : Room (k + 4) X.A) (hm : X.mg "list" = none) (ha : DA X E [e] m) (hg : Gl X "list" := by rfl)
    (he : starEach [e] X.env = (false, eval e X.env) :: starEach [] X.env := by rfl) (hpl : (backTo pos (starEach [] X.env)).any (·.1) = false := by rfl) : DE X E (.Call (.Name "list" p) [e] [] pos) (bnd m (fListI own C fld f)) := by
  obtain ⟨Ca, fi, fl, fdI, fdL, psI, psL, t1, t2, t3, t4, t5, t6⟩ := T.ex
  exact d_callTy (call_listT t2 t3 t4 t5 t6 hc hr hr) (s_listI t1) hm (by decide +kernel) ha hg (by decide) (by decide) he hpl
end
end DL

/-! from DL31.lean -/
set_option Elab.async false
set_option linter.all false
set_option maxRecDepth 100000
set_option maxHeartbeats 4000000
/-! DL31: operators of own classes, as facts. -/
namespace DL
open PySem PySem.Spec L2 PyProof.Rows
structure BinT (P : Program) (w : World) (K : Frg) (mg : Str → Option Value) (base : Heap) (k : Nat) (C m : Str) (f : DF) : Prop where
  d : DunT P w K mg base k C m 2 f
  cx : ClsX K C
  sf : ∀ Ca, clsV K C = .ref Ca → PySem.W.selfFirst K Ca = true
theorem d_binT {X : Cx} {E : WX} {pos : Pos} {op : Operator} {C m : Str} {k : Nat} {f : DF} {ma mb : M D} {a b : Expr} (T : BinT X.prog X.w X.K X.mg X.base k C m f) (hm : PySem.dunder op.info.2 = m) (hr : Room k X.A) (ha : DE X E a ma) (hb : DE X E b mb) : DE X E (.BinOp a op b pos) (op2 (binIF C f) ma mb) := d_binI T.d T.cx T.sf hm hr ha hb
end DL
namespace DL
open PySem PySem.Spec L2 PyProof.Rows
/-- a, b, c = x, y, z, plain local names -/
def parS3 (i j l : Nat) (n : M (List D)) : M Fl := bnd n fun ds s => match ds with
  | [v, w, x] => some (.ok .nx { s with e := ((s.e.set i (some v)).set j (some w)).set l (some x) })
  | _ => none
theorem d_par3 {X : Cx} {E : WX} {a b c : Expr} {st : Stmt} (i j l : Nat) {n : M (List D)} (h : ∀ {ta : TA}, PA X [a, b, c] ta → PS X st (tPar3 i j l ta)) (ha : DA X E [a, b, c] n) : DS X E st (parS3 i j l n) := by
  refine PS.weak (h ha) fun D σ H ⟨G, F, α, s, R, h⟩ => ?_
  refine ⟨G, F, α, s, R, h.bind.mono fun F1 α1 H1 ds s1 x1 h1 vs R1 k1 => ?_⟩
  split at h1
  · cases k1 with
    | cons k1 k2 =>
      cases k2 with
      | cons k2 k3 =>
        cases k3 with
        | cons k3 k4 =>
          cases k4
          exact ⟨_, _, _, rfl, h1 F1 α1 H1 (Ext.refl _ _) _ (((R1.set k1 i).set k2 j).set k3 l)⟩
  · exact h1.elim
end DL

/-! from DL32.lean -/
set_option Elab.async false
set_option linter.all false
set_option maxRecDepth 100000
set_option maxHeartbeats 2000000
/-! DL32: expressions that only read (the body of a lambda): all that stands stays as it is. -/
namespace PuX
open PySem PySem.Spec PySem.Calls PyProof.Rows L2
abbrev Le (h h' : Heap) : Prop := ∀ b o, h.get? b = some o → h'.get? b = some o
theorem Le.refl (h : Heap) : Le h h := fun _ _ e => e
theorem Le.trans {h h1 h2 : Heap} (a : Le h h1) (b : Le h1 h2) : Le h h2 := fun c o e => b c o (a c o e)
/-- how a value reads -/
def RD (h : Heap) (v : Value) (d : PyData) : Prop := ∃ as, Reads h v d as
theorem RD.le {h h' : Heap} {v : Value} {d : PyData} (r : RD h v d) (l : Le h h') : RD h' v d := by
  obtain ⟨as, r⟩ := r
  exact ⟨as, PyProof.Rows.Reads.keeps l r⟩
section
variable {prog : Program} {w : World} {A : Around} {env : Env} {h₀ : Heap} {s₀ : Shared}
/-- e reads as d, whatever is laid behind h₀ -/
def PurE (prog : Program) (w : World) (A : Around) (env : Env) (h₀ : Heap) (s₀ : Shared) (e : Expr) (d : PyData) : Prop :=
  ∀ (h : Heap) (tk : Nat) (Q : Value → Shared → Prop) (E : Value → Shared → Prop), Le h₀ h → (∀ v h' tk', Le h h' → RD h' v d → Q v { s₀ with heap := h', toks := tk' }) →
    wpAny (model prog w) A (eval e env) Q E { s₀ with heap := h, toks := tk }
theorem pur_int {i : Int} {j pos} : PurE prog w A env h₀ s₀ (.Constant (.int i) j pos) (.int i) := fun h tk Q E l q =>
  wpAny_Constant_int (q _ h _ (Le.refl h) ⟨[], .int i _⟩)
theorem pur_local {x : Str} {u : Value} {d : PyData} {pos : Pos} {m : Str → Option Value} (hk : env.scope.kind = .function) (hl : env.scope.names.lookup x = some .local) (hn : h₀.Ns env.locals m) (hm : m x = some u) (hr : RD h₀ u d) (hd : (x == ("__debug__" : Str)) = false := by decide) :
    PurE prog w A env h₀ s₀ (.Name x pos) d := fun h tk Q E l q =>
  wpAny_Name (wpAny_loadName_local hk hl (hn.keeps l) hm (q _ h _ (Le.refl h) (hr.le l))) hd
theorem pur_free {x : Str} {u : Value} {d : PyData} {pos : Pos} {c : Addr} (hk : env.scope.kind = .function) (hl : env.scope.names.lookup x = some .free) (hc : env.cells.lookup x = some c) (hcell : h₀.IsCell c (some u)) (hr : RD h₀ u d) (hd : (x == ("__debug__" : Str)) = false := by decide) (hcd : (x == ("__classdict__" : Str)) = false := by decide) :
    PurE prog w A env h₀ s₀ (.Name x pos) d := fun h tk Q E l q => by
  obtain ⟨o, ho, hd'⟩ := hcell
  exact wpAny_Name (wpAny_loadName_free hk hl hc ⟨o, l _ _ ho, hd'⟩ (q _ h _ (Le.refl h) (hr.le l)) hcd) hd
theorem reads_get {h : Heap} : ∀ {vs : List Value} {ds : List PyData} {as : List Addr} {i : Nat} {d : PyData}, ReadsAll h vs ds as → ds[i]? = some d → ∃ v, vs[i]? = some v ∧ RD h v d
  | _, _, _, 0, d, .cons r _, e => by simp at e; subst e; exact ⟨_, rfl, _, r⟩
  | _, _, _, i + 1, d, .cons _ t, e => by
    obtain ⟨v, h1, h2⟩ := reads_get (i := i) (d := d) t (by simpa using e)
    exact ⟨v, by simpa using h1, h2⟩
  | _, _, _, i, d, .nil, e => by simp at e
theorem reads_len {h : Heap} : ∀ {vs : List Value} {ds : List PyData} {as : List Addr}, ReadsAll h vs ds as → vs.length = ds.length
  | _, _, _, .nil => rfl
  | _, _, _, .cons _ t => by rw [List.length_cons, List.length_cons, reads_len t]
/-- a sequence's item -/
theorem pur_ix {a b : Expr} {ds : List PyData} {i : Int} {d : PyData} {pos : Pos} (ha : PurE prog w A env h₀ s₀ a (.list ds) ∨ PurE prog w A env h₀ s₀ a (.tuple ds)) (hb : PurE prog w A env h₀ s₀ b (.int i)) (hd : atI ds i = some d) (hz : ds.length ≤ sizeLine) (hs : PlainIx b) : PurE prog w A env h₀ s₀ (.Subscript a b pos) d := by
  obtain ⟨j, h1, h2, h3, h4, h5⟩ := atI_get hd
  have hn := line63
  rcases ha with ha | ha
  · intro h tk Q E l q
    refine Subscript_ (ha h tk _ E l fun v h1' tk1 l1 rv => hb h1' tk1 _ E (l.trans l1) fun u h2' tk2 l2 ru => ?_)
    obtain ⟨as, rv⟩ := rv.le l2
    obtain ⟨bs, ru⟩ := ru
    cases ru with
    | int _ t => ?_
    cases rv with
    | @list a' o vs n _ _ e0 e1 e2 e3 => ?_
    obtain ⟨z, z1, z2⟩ := reads_get e3 h2
    have zl := reads_len e3
    rw [Array.length_toList] at zl
    have fin : Q z { s₀ with heap := h2', toks := tk2 } := q z h2' tk2 (l1.trans l2) z2
    have pl : h2'.IsList a' vs := ⟨o, e0, e1, n, e2⟩
    by_cases h0 : 0 ≤ i
    · have hj : i.toNat = j := by
        rw [seqIndex_of h0 h5] at h1
        exact Option.some.inj h1
      exact item_listR pl h0 (by omega) (by rw [hj]; simpa using z1) fin (hs _ _)
    · have hj : (i + (vs.size : Int)).toNat = j := by
        rw [seqIndex_neg (by omega) h4] at h1
        rw [zl]
        exact Option.some.inj h1
      exact subscriptTail_builtinR (x := z) pl.typeIs slot_list_getitem.lookup
        (wpAny_getItem_list_neg (Q := fun r s' => r = z ∧ Q r s') pl (by omega) (by rw [zl]; omega) (by omega) (by rw [hj]; simpa using z1) ⟨rfl, fin⟩) (hs _ _)
  · intro h tk Q E l q
    refine Subscript_ (ha h tk _ E l fun v h1' tk1 l1 rv => hb h1' tk1 _ E (l.trans l1) fun u h2' tk2 l2 ru => ?_)
    obtain ⟨as, rv⟩ := rv.le l2
    obtain ⟨bs, ru⟩ := ru
    cases ru with
    | int _ t => ?_
    cases rv with
    | @tuple a' o vs n _ _ e0 e1 e2 e3 => ?_
    obtain ⟨z, z1, z2⟩ := reads_get e3 h2
    have zl := reads_len e3
    rw [Array.length_toList] at zl
    have fin : Q z { s₀ with heap := h2', toks := tk2 } := q z h2' tk2 (l1.trans l2) z2
    have pl : IsTup h2' a' vs := ⟨o, e0, e1, n, e2⟩
    exact subscriptTail_builtinR (x := z) pl.typeIs slot_tuple_getitem.lookup
      (getItem_tuple (j := j) (Q := fun r s' => r = z ∧ Q r s') pl (by omega) (by omega) (by rw [zl]; exact h1) (by simpa using z1) ⟨rfl, fin⟩) (hs _ _)
theorem pur_sub {a b : Expr} {i j : Int} {pos : Pos} (ha : PurE prog w A env h₀ s₀ a (.int i)) (hb : PurE prog w A env h₀ s₀ b (.int j)) : PurE prog w A env h₀ s₀ (.BinOp a .Sub b pos) (.int (i - j)) := fun h tk Q E l q => by
  refine wpAny_BinOp (ha h tk _ E l fun v h1 tk1 l1 rv => hb h1 tk1 _ E (l.trans l1) fun u h2 tk2 l2 ru => ?_)
  obtain ⟨as, rv⟩ := rv
  obtain ⟨bs, ru⟩ := ru
  cases rv
  cases ru
  exact sub_int (q _ h2 _ (l1.trans l2) ⟨[], .int _ _⟩)
theorem pur_neg {a : Expr} {i : Int} {pos : Pos} (ha : PurE prog w A env h₀ s₀ a (.int i)) : PurE prog w A env h₀ s₀ (.UnaryOp .USub a pos) (.int (-i)) := fun h tk Q E l q => by
  refine UnaryOp_ (ha h tk _ E l fun v h1 tk1 l1 rv => ?_)
  obtain ⟨as, rv⟩ := rv
  cases rv
  exact neg_int (q _ h1 _ l1 ⟨[], .int _ _⟩)
theorem pur_tup2 {a b : Expr} {d e : PyData} {x1} {pos : Pos} (ha : PurE prog w A env h₀ s₀ a d) (hb : PurE prog w A env h₀ s₀ b e)
    (hs : backTo pos (starEach [a, b] env) = [(false, eval a env), (false, eval b env)] := by rfl) : PurE prog w A env h₀ s₀ (.Tuple [a, b] x1 pos) (.tuple [d, e]) := fun h tk Q E l q => by
  refine wpAny_Tuple_spliced ?_
  rw [hs]
  refine spliced_cons (ha h tk _ E l fun v h1 tk1 l1 rv => spliced_cons (hb h1 tk1 _ E (l.trans l1) fun u h2 tk2 l2 ru => spliced_nil ⟨(by show 2 ≤ sizeLine; decide), ?_⟩))
  have lp : Le h2 (h2.push { cls := .type "tuple", data := .seq #[v, u] }) := fun b o e => Heap.get?_push_of_some _ e
  obtain ⟨as, rv⟩ := rv.le (l2.trans lp)
  obtain ⟨bs, ru⟩ := ru.le lp
  exact q _ _ _ (l1.trans (l2.trans lp)) ⟨_, .tuple (Heap.get?_push_size _ rfl) rfl rfl (.cons rv (.cons ru .nil))⟩
end
/-! ### keys: data without lists and dicts -/
mutual
def plainP : PyData → Bool
  | .list _ => false
  | .dict _ => false
  | .tuple ds => plainPs ds
  | _ => true
def plainPs : List PyData → Bool
  | [] => true
  | d :: ds => plainP d && plainPs ds
end
mutual
theorem reads_plain {h : Heap} : ∀ {v : Value} {d : PyData} {as : List Addr}, Reads h v d as → plainP d = true → as = []
  | _, _, _, .none, _ => rfl
  | _, _, _, .bool _, _ => rfl
  | _, _, _, .int _ _, _ => rfl
  | _, _, _, .str _ _, _ => rfl
  | _, _, _, .list _ _ _ _, e => by simp [plainP] at e
  | _, _, _, .tuple _ _ _ r, e => reads_plains r (by simpa [plainP] using e)
  | _, _, _, .dict _ _ _ _ _, e => by simp [plainP] at e
theorem reads_plains {h : Heap} : ∀ {vs : List Value} {ds : List PyData} {as : List Addr}, ReadsAll h vs ds as → plainPs ds = true → as = []
  | _, _, _, .nil, _ => rfl
  | _, _, _, .cons r t, e => by
    simp only [plainPs, Bool.and_eq_true] at e
    rw [reads_plain r e.1, reads_plains t e.2]
    rfl
end
section
variable {prog : Program} {w : World} {A : Around} {h₁ : Heap} {s₀ : Shared}
/-- a lambda of one parameter, called -/
theorem lam_call {f c' : Addr} {q x : Str} {params : Arguments} {body : Expr} {scope : Scope} {cl : List (Str × Addr)} {pm ctv : Value} {h : Heap} {tk : Nat} {v : Value} {k : PyData}
    (hf : h₁.get? f = some (PySem.W.kla_obj "<lambda>" q params body scope cl pm c' ctv)) (hcd : h₁.CodeRec (.ref c') q) (NL : h₁.NoLimit) (hdp : A.depth < recursionLimit)
    (sk : scope.kind = .function) (co : scope.isCoroutine = false) (gen : scope.isGenerator = false) (hbind : bindArgs (PySem.W.kla_fn "<lambda>" q params body scope cl pm (.ref c') ctv) ⟨[v], []⟩ = pure [(x, v)]) (hx : scope.names.lookup x = some .local) (hcell : ∀ y ∈ scope.names, y.2 ≠ .cell) (l : Le h₁ h)
    (hk : plainP k = true)
    (hbody : ∀ (L : Addr) (g : Heap), Le h g → g.Ns L (fun y => [(x, v)].lookup y) → PurE prog w (A.deeper (PySem.W.envX q scope L f (.ref c') cl)) (PySem.W.envX q scope L f (.ref c') cl) g s₀ body k) :
    wpAny (model prog w) A (call (.ref f) [v]) (PySem.W.KeyPure k { s₀ with heap := h, toks := tk }) (fun _ _ => False) { s₀ with heap := h, toks := tk } := by
  have rc : codeAny (model prog w) A (.call (.ref f) ⟨[v], []⟩) (fun r s' => ∃ u, r = .ok (.ret u) ∧ PySem.W.KeyPure k { s₀ with heap := h, toks := tk } u s') { s₀ with heap := h, toks := tk } := by
    obtain ⟨c2, oc, vs, t, e2, hoc, hd, hv⟩ := hcd
    refine PySem.W.kla_callFunE hdp (l _ _ hf) rfl co gen rfl ⟨c2, oc, vs, t, e2, l _ _ hoc, hd, hv⟩ ?_
    rw [hbind]
    refine wpAny_pure (wpAny_newFunctionEnv hcell (fun y hy => by rw [List.mem_singleton.mp hy]; exact hx) (fun g hns hsb => ⟨(NL.keeps l).fresh _ hsb, ?_⟩) sk)
    show codeAny _ _ (.expr body (PySem.W.envX q scope h.objs.size f (.ref c') cl)) _ _
    have kp : Le h g := fun b o e => hsb.extBut b o (Nat.ne_of_lt (Heap.lt_size e)) (Heap.get?_push_of_some _ e)
    refine PySem.W.kla_codeExpr (hbody h.objs.size g kp hns g _ _ _ (Le.refl g) fun u g' tk' lg ru => ?_)
    obtain ⟨as, ru⟩ := ru
    have e := reads_plain ru hk
    subst e
    exact ⟨u, rfl, g', tk', rfl, kp.trans lg, ru⟩
  refine wpAny_call (codeAny_mono rc fun r s' hq => ?_)
  obtain ⟨u, rfl, hq⟩ := hq
  exact hq
end
end PuX

/-! from DL33.lean -/
set_option Elab.async false
set_option linter.all false
set_option maxRecDepth 100000
set_option maxHeartbeats 4000000
/-! DL33: sorted(.., key=lambda x: ..): the key's body by a small language. -/
namespace DL
open PySem PySem.Spec L2 PyProof.Rows
inductive KX where
  | prm | var (i : Nat) | int (n : Int) | ix (a b : KX) | sub (a b : KX) | neg (a : KX) | tup (a b : KX)
def KX.den (vs : Nat → Option PyData) (p : PyData) : KX → Option PyData
  | .prm => some p
  | .var i => vs i
  | .int n => some (.int n)
  | .ix a b => match a.den vs p, b.den vs p with
    | some (.list ds), some (.int i) => if small ds.length = true then atI ds i else none
    | some (.tuple ds), some (.int i) => if small ds.length = true then atI ds i else none
    | _, _ => none
  | .sub a b => match a.den vs p, b.den vs p with
    | some (.int i), some (.int j) => some (.int (i - j))
    | _, _ => none
  | .neg a => match a.den vs p with
    | some (.int i) => some (.int (-i))
    | _ => none
  | .tup a b => match a.den vs p, b.den vs p with
    | some x, some y => some (.tuple [x, y])
    | _, _ => none
open PuX
/-- what the body e of a lambda gives, its parameter being px -/
def KEv (N : List Str) (sc : Scope) (px : Str) (k : KX) (e : Expr) : Prop :=
  ∀ (prog : Program) (w : World) (A : Around) (env : Env) (g : Heap) (s₀ : Shared) (vs : Nat → Option PyData) (p : PyData), env.scope = sc → sc.kind = .function →
    (∃ (m : Str → Option Value) (v : Value), g.Ns env.locals m ∧ m px = some v ∧ RD g v p) →
    (∀ (i : Nat) (x : Str) (pd : PyData), N[i]? = some x → sc.names.lookup x = some .free → vs i = some pd → ∃ (c : Addr) (u : Value), env.cells.lookup x = some c ∧ g.IsCell c (some u) ∧ RD g u pd) →
    ∀ d, k.den vs p = some d → PurE prog w A env g s₀ e d
section
variable {N : List Str} {sc : Scope} {px : Str} {a b : KX} {ea eb : Expr} {pos : Pos}
theorem k_prm (hl : sc.names.lookup px = some .local) (hd : (px == ("__debug__" : Str)) = false := by decide) : KEv N sc px .prm (.Name px pos) := by
  intro prog w A env g s₀ vs p he hk hp hc d h
  obtain ⟨m, v, h1, h2, h3⟩ := hp
  cases h
  exact pur_local (by rw [he]; exact hk) (by rw [he]; exact hl) h1 h2 h3 hd
theorem k_var (i : Nat) {x : Str} (hN : N[i]? = some x) (hl : sc.names.lookup x = some .free) (hd : (x == ("__debug__" : Str)) = false := by decide) (hcd : (x == ("__classdict__" : Str)) = false := by decide) : KEv N sc px (.var i) (.Name x pos) := by
  intro prog w A env g s₀ vs p he hk hp hc d h
  obtain ⟨c, u, h1, h2, h3⟩ := hc i x d hN hl h
  exact pur_free (by rw [he]; exact hk) (by rw [he]; exact hl) h1 h2 h3 hd hcd
theorem k_int {n : Int} {j} : KEv N sc px (.int n) (.Constant (.int n) j pos) := by
  intro prog w A env g s₀ vs p he hk hp hc d h
  cases h
  exact pur_int
theorem k_ix (ha : KEv N sc px a ea) (hb : KEv N sc px b eb) (hs : PlainIx eb) : KEv N sc px (.ix a b) (.Subscript ea eb pos) := by
  intro prog w A env g s₀ vs p he hk hp hc d h
  have qa := ha prog w A env g s₀ vs p he hk hp hc
  have qb := hb prog w A env g s₀ vs p he hk hp hc
  simp only [KX.den] at h
  split at h
  · rename_i ds i z1 z2
    split at h
    · rename_i hz
      exact pur_ix (.inl (qa _ z1)) (qb _ z2) h (Nat.le_of_lt (small_lt hz)) hs
    · cases h
  · rename_i ds i z1 z2
    split at h
    · rename_i hz
      exact pur_ix (.inr (qa _ z1)) (qb _ z2) h (Nat.le_of_lt (small_lt hz)) hs
    · cases h
  · cases h
theorem k_sub (ha : KEv N sc px a ea) (hb : KEv N sc px b eb) : KEv N sc px (.sub a b) (.BinOp ea .Sub eb pos) := by
  intro prog w A env g s₀ vs p he hk hp hc d h
  have qa := ha prog w A env g s₀ vs p he hk hp hc
  have qb := hb prog w A env g s₀ vs p he hk hp hc
  simp only [KX.den] at h
  split at h
  · rename_i i j z1 z2
    cases h
    exact pur_sub (qa _ z1) (qb _ z2)
  · cases h
theorem k_neg (ha : KEv N sc px a ea) : KEv N sc px (.neg a) (.UnaryOp .USub ea pos) := by
  intro prog w A env g s₀ vs p he hk hp hc d h
  have qa := ha prog w A env g s₀ vs p he hk hp hc
  simp only [KX.den] at h
  split at h
  · rename_i i z1
    cases h
    exact pur_neg (qa _ z1)
  · cases h
theorem k_tup {x1} (ha : KEv N sc px a ea) (hb : KEv N sc px b eb) (hs : ∀ env, backTo pos (starEach [ea, eb] env) = [(false, eval ea env), (false, eval eb env)] := by intro _; rfl) : KEv N sc px (.tup a b) (.Tuple [ea, eb] x1 pos) := by
  intro prog w A env g s₀ vs p he hk hp hc d h
  have qa := ha prog w A env g s₀ vs p he hk hp hc
  have qb := hb prog w A env g s₀ vs p he hk hp hc
  simp only [KX.den] at h
  split at h
  · rename_i x y z1 z2
    cases h
    exact pur_tup2 (qa _ z1) (qb _ z2) (hs env)
  · cases h
end
/-! ### the lambda is made -/
section
variable {X : Cx} {pins : List (Addr × Obj)} {σ : L2.St} {H : Hp} {s : Shared}
/-- how the heap's description stands behind the making: the table holds the code object c' -/
inductive Made (X : Cx) (pins : List (Addr × Obj)) (σ : L2.St) (H : Hp) (P : Addr) (ps : Array Value) (q : Str) (c' : Addr) (s' : Shared) : Prop where
  | old : H c' = some (LamX.CodeO c' q) → Inv X pins σ H s' → Made X pins σ H P ps q c' s'
  | new (more : Array Value) : H c' = none → TriplesOk (ps ++ more).toList → (∀ (p' : Pos) (cv : Value), codeAmong p' (ps ++ more).toList = some cv → codeAmong p' ps.toList = some cv ∨ cv = .ref c') →
      Inv X pins σ (upd (upd H P (.tbl (ps ++ more))) c' (LamX.CodeO c' q)) s' → Made X pins σ H P ps q c' s'
theorem lam_mk {c P : Addr} {ps : Array Value} {params : Arguments} {body : Expr} {scope : Scope} {pos : Pos} {E : Value → Shared → Prop} {Q : Value → Shared → Prop} (I : Inv X pins σ H s) (TB : LamX.TabB X.base X.mg c P) (hcode : X.env.code = .ref c)
    (hP : H P = some (.tbl ps)) (ht : TriplesOk ps.toList) (ha : ∀ (p' : Pos) (cv : Value), codeAmong p' ps.toList = some cv → ∃ c, cv = .ref c ∧ H c = some (LamX.CodeO c (X.env.qual ++ "<lambda>"))) (hdef : defaultsOf params X.env = ([], [])) (hfree : ∀ y ∈ scope.names, y.2 = .free → ∃ c, X.env.cells.lookup y.1 = some c)
    (h : ∀ (f c' : Addr) (pm ctv : Value) (s' : Shared), Made X pins σ H P ps (X.env.qual ++ "<lambda>") c' s' → s'.heap.get? f = some (PySem.W.kla_obj "<lambda>" (X.env.qual ++ "<lambda>") params body scope (cloFrom X.env.cells scope.names []) pm c' ctv) → Q (.ref f) s') :
    wpAny (model X.prog X.w) X.A (eval (.Lambda params body scope pos) X.env) Q E s := by
  have base := I.bk
  have gP : s.heap.get? P = some { cls := .none, data := .fields ps } := I.hok P _ hP
  refine PySem.W.kla_eval hdef ?_
  rcases hc : codeAmong pos ps.toList with _ | cv
  · refine PySem.W.kla_makeFunction (c := c) (closure_ok hfree) I.ok.glob (I.mod.glob.keeps base) hcode (TB.code.keeps base) gP ht hc TB.gP (TB.bm.keeps base) ?_
    intro c' ctv h' tk hx hge hlt hrec htb
    obtain ⟨c2, oc, vs, t, e2, hoc, hd, hv⟩ := hrec
    cases e2
    have up : ∀ {b : Addr} {o : Obj}, h'.get? b = some o → (h'.push (PySem.W.kla_obj "<lambda>" (X.env.qual ++ "<lambda>") params body scope (cloFrom X.env.cells scope.names []) ((X.mg "__name__").getD .none) c' ctv)).get? b = some o := fun e => Heap.get?_push_of_some _ e
    have J := LamX.inv_table (q := X.env.qual ++ "<lambda>") (t' := tk) (more := #[rawInt pos.line, rawInt pos.col, .ref c']) I hP (fun b o hb e => up (hx b o hb e)) (up htb) hge ⟨oc, vs, t, up hoc, hd, hv⟩
    have eL : (ps ++ #[rawInt pos.line, rawInt pos.col, .ref c']).toList = ps.toList ++ [rawInt pos.line, rawInt pos.col, .ref c'] := by simp
    refine h _ c' _ ctv _ (.new #[rawInt pos.line, rawInt pos.col, .ref c'] (I.hok.fresh hge) (by rw [eL]; exact PySem.TriplesOk_snoc _ _ _ _ ht) (fun p' cv hcv => ?_) J) (Heap.get?_push_size _ rfl)
    rw [eL] at hcv
    exact LamX.among_app _ ht hcv
  · obtain ⟨c', rfl, hco⟩ := ha pos cv hc
    refine PySem.W.kla_makeFunctionHit (c := c) (closure_ok hfree) I.ok.glob (I.mod.glob.keeps base) hcode (TB.code.keeps base) gP ht hc (TB.bm.keeps base) ?_
    intro ctv h' tk hx hsz
    exact h _ c' _ ctv _ (.old hco (I.kept fun b o e => Heap.get?_push_of_some _ (hx b o e))) (Heap.get?_push_size _ rfl)
/-- a description in both cases -/
def madeH (H : Hp) (P : Addr) (ps more : Array Value) (c' : Addr) (q : Str) : Hp := upd (upd H P (.tbl (ps ++ more))) c' (LamX.CodeO c' q)
end
/-! ### sorted(xs, key=lambda x: body) -/
def keyPs (vs : Nat → Option PyData) (k : KX) : List D → Option (List PyData)
  | [] => some []
  | x :: xs => match py0 x with
    | some p => (match k.den vs p, keyPs vs k xs with
      | some d, some ds => some (d :: ds)
      | _, _ => none)
    | none => none
def slotP (s : S) (i : Nat) : Option PyData := match s.e[i]? with
  | some (some d) => pyS s.s d
  | _ => none
def fSortK (own : Bool) (ti : Nat) (q : Str) (P : Addr) (k : KX) : List D → M D := fun ds s => match ds with
  | [d] => (match seqD s.s d with
    | some (true, xs) => (match s.s[ti]? with
      | some (some (.tab q' P')) => if q' = q ∧ P' = P then (match keyPs (slotP s) k xs with
        | some ks => guard' ((alikeB ks && sortB ks) && (ks.all (fun p => decide (p.depth ≤ 60)) && (ks.all plainP && small xs.length))) (mk own (sortD xs ks)) s
        | none => none) else none
      | _ => none)
    | _ => none)
  | _ => none
theorem tripK {K : Frg} {F : Hp} {α : List Addr} {vs : Nat → Option PyData} {k : KX} : ∀ {us : List V} {xs : List D} {ks : List PyData}, HasL K F α us xs → keyPs vs k xs = some ks →
    ∃ T : List (V × D × PyData), T.map (·.1) = us ∧ T.map (·.2.1) = xs ∧ T.map (·.2.2) = ks ∧ ∀ t ∈ T, Has K F α t.1 t.2.1 ∧ ∃ p, py0 t.2.1 = some p ∧ k.den vs p = some t.2.2
  | _, _, _, .nil, e => by
    simp only [keyPs, Option.some.injEq] at e
    subst e
    exact ⟨[], rfl, rfl, rfl, fun t h => by cases h⟩
  | _, _, _, .cons (v := v) (d := d) h r, e => by
    simp only [keyPs] at e
    split at e
    · rename_i p hp
      split at e
      · rename_i kd ks hk hks
        cases e
        obtain ⟨T, e1, e2, e3, w⟩ := tripK r hks
        refine ⟨(v, d, kd) :: T, by rw [List.map_cons, e1], by rw [List.map_cons, e2], by rw [List.map_cons, e3], fun u hu => ?_⟩
        rcases List.mem_cons.mp hu with rfl | hu
        · exact ⟨h, p, hp, hk⟩
        · exact w u hu
      · cases e
    · cases e
/-- the relation behind the lambda's making -/
theorem made_rel {X : Cx} {pins : List (Addr × Obj)} {σ : L2.St} {G F H : Hp} {α : List Addr} {st : S} {P : Addr} {ps : Array Value} {q : Str} {c' : Addr} {s' : Shared} {ti : Nat} (R : RelS X.K G F H α σ st) (ht : st.s[ti]? = some (some (.tab q P))) (hP : H P = some (.tbl ps))
    (M : Made X pins σ H P ps q c' s') : ∃ F2 H2, Inv X pins σ H2 s' ∧ RelS X.K G F2 H2 α σ st ∧ Ext F α F2 α ∧ H2 c' = some (LamX.CodeO c' q) := by
  cases M with
  | old hc I => exact ⟨F, H, I, R, Ext.refl _ _, hc⟩
  | new more hc htr hcodes I =>
    have aP := R.st.tb ti q P ht
    obtain ⟨a, ho, h1, h2, h3, h4⟩ := R.st.obj ti _ ht
    rw [aP] at h1
    cases h1
    rw [hP] at h2
    cases h2
    obtain ⟨t1, t2⟩ := h4
    have ne : c' ≠ P := fun z => by rw [z, hP] at hc; cases hc
    have fc := R.st.fnone hc
    have R1 := R.st.imm hc (LamX.CodeO c' q)
    have R2 := R1.put (i := ti) (o := .tab q P) (o' := .tab q P) (a := P) (h' := .tbl (ps ++ more)) ht aP ⟨htr, fun pos cv hcv => by
      rcases hcodes pos cv hcv with z | z
      · obtain ⟨c, e1, e2⟩ := t2 pos cv z
        refine ⟨c, e1, ?_⟩
        rw [upd_ne (fun w => by rw [w, fc] at e2; cases e2)]
        exact e2
      · exact ⟨c', z, upd_same⟩⟩ (fun q' P' z => by cases z; rfl)
    have es : st.s.set ti (some (.tab q P)) = st.s := by
      refine List.ext_getElem? fun j => ?_
      by_cases z : ti = j
      · subst z
        rw [List.getElem?_set_self (List.getElem?_eq_some_iff.mp ht).1, ht]
      · rw [List.getElem?_set_ne z]
    rw [es] at R2
    have eu : upd (upd H c' (LamX.CodeO c' q)) P (.tbl (ps ++ more)) = upd (upd H P (.tbl (ps ++ more))) c' (LamX.CodeO c' q) := by
      funext b
      unfold upd
      by_cases z1 : b = P
      · have : b ≠ c' := fun w => ne (w ▸ z1)
        rw [if_pos z1, if_neg this, if_pos z1]
      · by_cases z2 : b = c'
        · rw [if_neg z1, if_pos z2, if_pos z2]
        · rw [if_neg z1, if_neg z2, if_neg z2, if_neg z1]
    rw [eu] at R2
    have x : Ext F α (upd F c' (LamX.CodeO c' q)) α := R.st.immX hc _
    exact ⟨_, _, I, ⟨R2, R.len, fun i d e => let ⟨v, w1, w2⟩ := R.sl i d e; ⟨v, w1, w2.ext x⟩⟩, x, upd_same⟩
theorem clo_lookup {cells : List (Str × Addr)} {names : List (Str × NameKind)} {y : Str} {c : Addr} (hy : names.lookup y = some .free) (hc : cells.lookup y = some c) : (cloFrom cells names []).lookup y = some c := by
  have hm : (y, NameKind.free) ∈ names := PySem.mem_of_lookup hy
  obtain ⟨c1, h1⟩ := mem_lookup (cloFrom_has (cells := cells) (acc := []) hm)
  rw [h1]
  rcases cloFrom_mem (PySem.mem_of_lookup h1) with z | ⟨_, z⟩
  · cases z
  · rw [z, hc]
    rfl
theorem vals_eachK : ∀ {T : List (V × D × PyData)} {its : List Value}, L2.Vals (T.map (·.1)) its → PySem.W.EachIs (fun v (x : V × D × PyData) => RelV x.1 v) its T
  | [], _, .nil => .nil
  | _ :: _, _, .cons r t => .cons r (vals_eachK t)
theorem each_valsK : ∀ {T : List (V × D × PyData)} {its : List Value}, PySem.W.EachIs (fun v (x : V × D × PyData) => RelV x.1 v) its T → L2.Vals (T.map (·.1)) its
  | [], _, .nil => .nil
  | _ :: _, _, .cons r t => .cons r (each_valsK t)
section
variable {X : Cx} {E : WX} {e : Expr} {p pos lpos kpos : Pos}
theorem d_sortK (own : Bool) (ti : Nat) {n : Nat} {q px : Str} {c P : Addr} {k : KX} {params : Arguments} {body : Expr} {scope : Scope} {m : M (List D)} (hr : Room n X.A) (hm : X.mg "sorted" = none) (ha : DA X E [e] m) (TB : LamX.TabB X.base X.mg c P) (hcode : X.env.code = .ref c) (hk : KEv X.N scope px k body)
    (hq : X.env.qual ++ "<lambda>" = q) (hdef : defaultsOf params X.env = ([], [])) (sk : scope.kind = .function) (co : scope.isCoroutine = false) (gen : scope.isGenerator = false) (hx : scope.names.lookup px = some .local) (hcell : ∀ y ∈ scope.names, y.2 ≠ .cell)
    (hfree : ∀ y ∈ scope.names, y.2 = .free → X.env.scope.names.lookup y.1 = some .cell ∨ X.env.scope.names.lookup y.1 = some .free)
    (hbind : ∀ (q : Str) (cl : List (Str × Addr)) (pm cv ctv v : Value), bindArgs (PySem.W.kla_fn "<lambda>" q params body scope cl pm cv ctv) ⟨[v], []⟩ = pure [(px, v)]) (hg : Gl X "sorted" := by rfl)
    (he : backTo pos (starEach [e] X.env) = (false, eval e X.env) :: backTo pos (starEach [] X.env) := by rfl) (hpl : (backTo pos (starEach [e] X.env)).any (·.1) = false := by rfl) :
    DE X E (.Call (.Name "sorted" p) [e] [⟨some "key", .Lambda params body scope lpos, kpos⟩] pos) (bnd m (fSortK own ti q P k)) := by
  refine ⟨fun pins s σ H Q I h => ?_⟩
  obtain ⟨G0, F0, α0, st0, R0, h0⟩ := h
  have hfr : ∀ y ∈ scope.names, y.2 = .free → ∃ c, X.env.cells.lookup y.1 = some c := fun y hy z => by
    rcases hfree y hy z with w | w
    · exact I.ok.has _ (.inl w)
    · exact I.ok.has _ (.inr w)
  refine wpAny_Call_Name_kw (ld_blt I hg hm (u := .builtin "sorted") (by decide +kernel) ?_)
  refine PyProof.Rows.callWith_kw (thn (ha.run pos pins s σ H (fun vs H1 => ∃ G F α st ds, RelS X.K G F H1 α σ st ∧ HasL X.K F α vs ds ∧ Wp X.K G E F α (fSortK own ti q P k ds st) (pV X.K G σ Q)) I
    ⟨G0, F0, α0, st0, R0, h0.bind.mono fun F1 α1 H1 ds s1 x1 h1 vs R1 k1 => ⟨G0, F1, α1, s1, ds, R1, k1, h1⟩⟩) fun us s1 q1 => ?_) he hpl rfl rfl
  clear h0 R0
  obtain ⟨vs, H1, I1, r1, G, F, α, st, ds, R, kv, h⟩ := q1
  unfold fSortK at h
  split at h
  rotate_left
  · exact h.elim
  rename_i d
  obtain ⟨v, rfl, k1⟩ := kv.one
  split at h
  rotate_left
  · exact h.elim
  rename_i xs hxs
  split at h
  rotate_left
  · exact h.elim
  rename_i q' P' hti
  split at h
  rotate_left
  · exact h.elim
  rename_i hqP
  obtain ⟨rfl, rfl⟩ := hqP
  split at h
  rotate_left
  · exact h.elim
  rename_i ks hks
  obtain ⟨g, h⟩ := wp_guard h
  simp only [Bool.and_eq_true] at g
  obtain ⟨⟨g1, g2⟩, g3, g4, g5⟩ := g
  have aP := R.st.tb ti _ _ hti
  obtain ⟨a0, ho, b1, b2, b3, b4⟩ := R.st.obj ti _ hti
  rw [aP] at b1
  cases b1
  cases ho <;> simp only [HObj] at b4
  rename_i ps
  obtain ⟨t1, t2⟩ := b4
  show wpAny _ _ (evalAll ((do let v ← eval (.Lambda params body scope lpos) X.env; standAt pos; pure v) :: [])) _ _ s1
  refine wpAny_evalAll_cons (wpAny_bind ?_)
  refine lam_mk I1 TB hcode b2 t1 (fun p' cv hcv => ?_) hdef hfr fun f c' pm ctv s2 M hf => ?_
  · obtain ⟨c, e1, e2⟩ := t2 p' cv hcv
    exact ⟨c, e1, by rw [hq]; exact R.st.ex _ _ e2⟩
  rw [hq] at M hf
  refine wpAny_bind (wpAny_standAt (wpAny_pure (wpAny_evalAll_nil ?_)))
  obtain ⟨F2, H2, I2, R2, x2, hc2⟩ := made_rel R hti b2 M
  have k2 := k1.ext x2
  have h2 := h.ext x2
  obtain ⟨a, us, rfl, hl, w1, _⟩ := seq_at R2.st k2 hxs
  obtain ⟨T, e1, e2, e3, tw⟩ := tripK hl hks
  obtain ⟨its, rv, pl, hz⟩ := I2.list (w1 rfl)
  rename_i u1
  obtain ⟨u, rfl, ru⟩ := r1.one
  cases ru
  have hlen : T.length = us.length := by rw [← e1, List.length_map]
  have kin := R2.st.ex
  have each : PySem.W.EachIs (fun v (x : V × D × PyData) => RelV x.1 v) its T := vals_eachK (by rw [e1]; exact rv)
  have nl : T.length ≤ sizeLine := by rw [hlen]; exact hz
  have lam : ∀ (v : Value) (x : V × D × PyData), RelV x.1 v → x ∈ T → ∀ (h : Heap) (tk : Nat), (∀ b o, s2.heap.get? b = some o → h.get? b = some o) →
      wpAny (model X.prog X.w) X.A.in1.in1 (call (.ref f) [v]) (PySem.W.KeyPure x.2.2 { s2 with heap := h, toks := tk }) (fun _ _ => False) { s2 with heap := h, toks := tk } := by
    intro v x hR hx' h tk le
    obtain ⟨hh, pd, hp, hd⟩ := tw x hx'
    have hpl : plainP x.2.2 = true := List.all_eq_true.mp g4 _ (by rw [← e3]; exact List.mem_map_of_mem hx')
    obtain ⟨⟨oc, vs', t, hoc, hdc, hvc⟩, _, _⟩ := I2.hok c' _ hc2
    refine lam_call (h₁ := s2.heap) (x := px) hf ⟨c', oc, vs', t, rfl, hoc, hdc, hvc⟩ I2.nolimit (by have := hr.dp; show X.A.depth < recursionLimit; omega) sk co gen (hbind _ _ _ _ _ _) hx hcell le hpl fun L g lg hns => ?_
    have item : RD g v pd := by
      obtain ⟨as, r⟩ := Dp.reads I2 pd x.1 v (py0_at R2.st.ex hh hp) hR
      exact RD.le ⟨as, r⟩ (Le.trans le lg)
    refine hk X.prog X.w _ _ g s2 (slotP st) pd rfl sk ⟨_, v, hns, by simp, item⟩ (fun i y pd' hN hl' hsl => ?_) _ hd
    unfold slotP at hsl
    split at hsl
    · rename_i dd hdd
      obtain ⟨vv, s1', s2'⟩ := R2.sl i dd hdd
      obtain ⟨mm, hn, hloc⟩ := I2.loc
      have hm2 : (y, NameKind.free) ∈ scope.names := PySem.mem_of_lookup hl'
      have vis : Vis X.env.scope y := by
        rcases hfree _ hm2 rfl with w | w
        · exact .inr (.inl w)
        · exact .inr (.inr w)
      obtain ⟨u, ru, lk⟩ := hloc i y vv hN s1' vis
      rcases lk with ⟨z, _⟩ | ⟨_, cc, hcc, hcell'⟩
      · have z : X.env.scope.names.lookup y = some .local := z
        rcases hfree _ hm2 rfl with w | w <;> (have w : X.env.scope.names.lookup y = _ := w; rw [z] at w; cases w)
      · obtain ⟨as, r⟩ := Dp.reads I2 pd' vv u (pyS_at R2.st s2' hsl) ru
        obtain ⟨o, ho1, ho2⟩ := hcell'
        exact ⟨cc, u, clo_lookup hl' hcc, ⟨o, lg _ _ (le _ _ ho1), ho2⟩, RD.le ⟨as, r⟩ (Le.trans le lg)⟩
    · cases hsl
  have m1 : (T.map fun t => (t.1, t.2.2)).map (·.2) = ks := by rw [List.map_map]; exact e3
  show wpAny _ _ (call (.builtin "sorted") [.ref a] [(Str.ofString "key", .ref f)]) _ _ s2
  refine PySem.W.sorted_key_data (k := fun x : V × D × PyData => x.2.2) pl.isList each (by rw [e3]; exact alikeB_ok g1) (by rw [e3]; exact sortB_ok g2) nl (fun x hx' => ?_) (PyProof.Rows.ksk_s1 _ _) (fun x => PyProof.Rows.ksk_l1 _ _) (fun x => PyProof.Rows.ksk_t1 _ _) lam fun out c h' tk le fresh hget hlen' each' => ?_
  · have hd : decide (x.2.2.depth ≤ 60) = true := List.all_eq_true.mp g3 _ (by rw [← e3]; exact List.mem_map_of_mem hx')
    have hd := of_decide_eq_true hd
    have := hr.un
    omega
  have so : (T.mergeSort (PySem.W.dataLe false fun x : V × D × PyData => x.2.2)).map (fun t => (t.2.1, t.2.2)) = ((T.map fun t => (t.2.1, t.2.2)).mergeSort leD) := List.map_mergeSort fun _ _ _ _ => rfl
  have m3 : (T.map fun t => (t.2.1, t.2.2)) = xs.zip ks := by rw [← e2, ← e3, List.zip_map']
  have f2 : sortD xs ks = (T.mergeSort (PySem.W.dataLe false fun x : V × D × PyData => x.2.2)).map (·.2.1) := by
    unfold sortD
    rw [← m3, ← so, List.map_map]
    rfl
  have hh : HasL X.K F2 α ((T.mergeSort (PySem.W.dataLe false fun x : V × D × PyData => x.2.2)).map (·.1)) ((T.mergeSort (PySem.W.dataLe false fun x : V × D × PyData => x.2.2)).map (·.2.1)) := hasL_of fun t ht => (tw t ((List.mergeSort_perm _ _).mem_iff.mp ht)).1
  rw [f2] at h2
  have fin := fin_lst h2 R2 hh (s2.heap.objs.size + 1) (I2.hok.fresh (Nat.le_succ _))
  have ml : (T.mergeSort (PySem.W.dataLe false fun x : V × D × PyData => x.2.2)).length = T.length := List.length_mergeSort _
  exact ⟨.ref _, upd H2 (s2.heap.objs.size + 1) (.lst ((T.mergeSort (PySem.W.dataLe false fun x : V × D × PyData => x.2.2)).map (·.1))), I2.laid (t' := tk) le (Nat.le_succ _) ⟨by rw [List.length_map, ml]; exact nl, out, c, each_valsK each', hget⟩, rfl, fin⟩
end
end DL

/-! from DL34.lean -/
set_option Elab.async false
set_option linter.all false
set_option maxRecDepth 100000
set_option maxHeartbeats 4000000
/-! DL34: a def with a lambda; the end of a law with one table of code objects. -/
namespace DL
open PySem PySem.Spec L2 PyProof.Rows
/-- a def whose code object is known -/
theorem fn_defT {P : Program} {w : World} {K : Frg} {mg : Str → Option Value} {base : Heap} {x qual : Str} {st : Stmt} {f c : Addr} {fd : FuncData} {N ps : List Str} {k : Nat} {body : M Fl} (F : Fun K x qual st f fd) (S : FnScope N ps (defScope st)) (hc : fd.code = .ref c)
    (hbody : ∀ (A : Around) (outer : List Env) (s : Shared) (H : Hp) (E : XK), Room k (A.deeper (envOfC qual (defScope st) s.heap.objs.size f (.ref c))) →
      DSs (cxOf (L2.CX P w) P w K mg base N qual (defScope st) f (.ref c) A outer s H E) (XW E) (defBody st) body) : FnOk P w K mg base (L2.CX P w) (k + 1) f fd ps (spF K ps.length (mdef N.length body)) := by
  obtain ⟨oc, od, kV, doc, pm, an, cdv, ct, osl, rfl, lk, hcd⟩ := F.ex
  have hc : cdv = .ref c := hc
  subst hc
  refine fn_of lk hcd S (fun vs H Q E h => h.1) fun A outer s H vs Q E hr h => ⟨_, hbody A outer s H E hr, ?_⟩
  refine mdef_run ?_ h
  have := congrArg List.length S.pre
  rw [List.length_take] at this
  omega
/-- the code object of the def x and its table -/
structure TabK (K : Frg) (mg : Str → Option Value) (x : Str) (c P : Addr) : Prop where
  ex : ∃ (f : Addr) (oc : Value) (od : Option Addr) (fd : FuncData) (sl : Array (Option Value)) (e : Value) (dd : Option Addr) (vs : Array Value) (sl2 : Array (Option Value)), mg x = some (.ref f) ∧ K.lookup f = some ⟨oc, od, .func fd, sl⟩ ∧ fd.code = .ref c ∧ K.lookup c = some ⟨e, dd, .fields vs, sl2⟩ ∧ vs[11]? = some (.ref P)
  no : K.lookup P = none
theorem tab_at {K : Frg} {mg mb : Str → Option Value} {q : Program} {loose : List Str} {mean : ExcName → Option Value} {h : Heap} {x : Str} {c P : Addr} (T : Top q loose mean mg mb h) (KX : K.In h) (hrec : ((recsOf q).any fun e => e.name == x) = true) (t : TabK K mg x c P) :
    h.get? P = some { cls := .none, data := .fields #[] } ∧ PySem.W.CodeHd h c P := by
  obtain ⟨f, oc, od, fd, sl, e, dd, vs, sl2, k1, k2, k3, k4, k5⟩ := t.ex
  obtain ⟨dL, hm, hn1⟩ := List.any_eq_true.mp hrec
  have hn2 : dL.name = x := beq_iff_eq.mp hn1
  obtain ⟨a', o', fd', c', P', h1, h2, h3, h4, h5, h6⟩ := T.tab dL hm
  rw [hn2, k1] at h1
  cases h1
  have g1 := KX _ _ k2
  rw [g1] at h2
  cases h2
  cases h3
  rw [k3] at h4
  cases h4
  have hd := PySem.W.CodeHd.of h5 h6
  obtain ⟨⟨oc2, vc, e1, _, e3, e4⟩, hP⟩ := h6
  have g2 := KX _ _ k4
  rw [g2] at e1
  cases e1
  cases e3
  rw [k5] at e4
  cases e4
  exact ⟨hP, hd⟩
/-- the end: one table -/
theorem walk_DLT {l : PySem.W.OpenLaw} {n k : Nat} {q : Program} {loose : List Str} {XP : (Str → Option Value) → Heap → Prop} {YP : World → Heap → Prop} {d : DefRec} {K : Params → Frg} {x : Str} (tn tq : Str) (f : Addr → DF)
    (hn : l.most = some n) (hn2 : n ≤ sizeLine) (hdf : d.params.defaults = []) (hr : Room k callerA) (hrec : ((recsOf q).any fun e => e.name == tn) = true)
    (hY : ∀ (w : World) (h : Heap), YP w h → (K w.params).In h)
    (F : ∀ (w : World) (mg : Str → Option Value) (fa : Addr) (h : Heap), (K w.params).In h → h.Ns mainGlobals mg → mg d.name = some (.ref fa) →
      ∃ (fd : FuncData) (c P : Addr), (∀ (s : Shared) (u : Value), BindsTo s fd ⟨[u], []⟩ [(x, u)]) ∧ TabK (K w.params) mg tn c P ∧
        ∀ base : Heap, (K w.params).In base → base.Ns mainGlobals mg → LamX.TabB base mg c P → FnOk l.prog w (K w.params) mg base (L2.CX l.prog w) k fa fd [x] (spF (K w.params) 1 (f P)))
    (hf : ∀ (P : Addr) (ns : List Int), ns.length ≤ n → ∃ ς, f P [.rdl (ns.map .int)] [some (.tab tq P)] = some (.ok (.bl true) ς)) :
    PySem.W.WalkO q loose XP YP l.row.toRowW d [] (fun f vs => PySem.call f vs) := by
  refine Att.attach_callB hn hdf fun w s₀ s₁ mg mb fa o pm cd doc a vs ns G Y ho hd hcd hmg hobj hints hlen hbits hg => ?_
  have KX := hY w _ Y
  obtain ⟨fd, c, P, hb, tk, hF⟩ := F w mg fa _ KX G.T.g hmg
  obtain ⟨hT, C⟩ := tab_at G.T KX hrec tk
  refine LamX.law_callTs (cs := [(c, P)]) (CX := L2.CX l.prog w) (sp := spF (K w.params) 1 (f P)) KX G.T.g G.T.b G.T.builtins G.T.nolimit hg (fun p hp => ?_) (fun p hp => ?_) (fun p hp => ?_) G.T.bmain hobj hints (Nat.le_trans hlen hn2) hr (fun base h1 h2 h3 => hF base h1 h2 (h3 (c, P) (List.mem_cons_self ..))) hb (fun H hH hS => ?_) fun H e s' z => ?_
  · rw [List.mem_singleton.mp hp]; exact hT
  · rw [List.mem_singleton.mp hp]; exact tk.no
  · rw [List.mem_singleton.mp hp]; exact C
  · have hP : H P = some (.tbl #[]) := hH (c, P) (List.mem_cons_self ..)
    obtain ⟨ς, e⟩ := hf P ns hlen
    have hF0 : (fun b => if b = P then none else H b : Hp) P = none := if_pos rfl
    have keep : ∀ (b : Addr) (u : HO), H b = some u → (∀ ps, u ≠ .tbl ps) → (fun b => if b = P then none else H b : Hp) b = some u := fun b u h1 h2 => by
      have : b ≠ P := fun z => by rw [z, hP] at h1; exact h2 _ (Option.some.inj h1).symm
      simp only [this, if_false]
      exact h1
    refine ⟨rfl, fun _ => none, (fun b => if b = P then none else H b), [P], [some (.tab tq P)], [.rdl (ns.map .int)], ⟨fun b u h1 => ?_, fun a o e => (nomatch e), rfl, fun i o e => ?_, fun a o e => (nomatch e), fun i o a e _ => rfl, fun i j oi oj a e1 e2 _ _ => ?_, fun i q' P' e => ?_⟩, .cons (.rdl ?_ (hasL_ints ns)) .nil, ?_⟩
    · by_cases z : b = P
      · simp [z] at h1
      · simpa [z] using h1
    · cases i with
      | zero =>
        simp at e
        subst e
        exact ⟨P, .tbl #[], rfl, hP, if_pos rfl, True.intro, fun pos cv hc => by
          have z : codeAmong pos [] = some cv := hc
          simp [codeAmong] at z⟩
      | succ i => simp at e
    · cases i with
      | zero => cases j with
        | zero => rfl
        | succ j => simp at e2
      | succ i => simp at e1
    · cases i with
      | zero =>
        simp at e
        obtain ⟨_, rfl⟩ := e
        rfl
      | succ i => simp at e
    · rcases hS with (h1 | ⟨o, h1⟩) | h1
      · exact .inl (.inl (keep _ _ h1 (fun ps z => by cases z)))
      · exact .inl (.inr ⟨o, keep _ _ h1 (fun ps z => by cases z)⟩)
      · exact .inr h1
    · rw [e]
      intro F' α' H' v _ _ kv
      cases kv
      rfl
  · obtain ⟨_, _, _, _, _, _, _, _, _, _, _, _, z⟩ := z
    exact z.elim
/-- the place of the law's one table of code objects -/
class TabA where
  P : Addr
section
variable {X : Cx} {E : WX} {e : Expr} {p pos lpos kpos : Pos}
theorem d_sortL (own : Bool) (ti : Nat) {n : Nat} {q px : Str} {c P : Addr} {k : KX} {params : Arguments} {body : Expr} {scope : Scope} {m : M (List D)} (hr : Room n X.A) (hm : X.mg "sorted" = none) (ha : DA X E [e] m) (TB : LamX.TabB X.base X.mg c P) (hcode : X.env.code = .ref c) (hk : KEv X.N scope px k body)
    (hq : X.env.qual ++ "<lambda>" = q) (hdef : defaultsOf params X.env = ([], [])) (sk : scope.kind = .function) (co : scope.isCoroutine = false) (gen : scope.isGenerator = false) (hx : scope.names.lookup px = some .local) (hcell : (scope.names.all fun y => !decide (y.2 = .cell)) = true)
    (hfree : (scope.names.all fun y => !decide (y.2 = .free) || (decide (X.env.scope.names.lookup y.1 = some .cell) || decide (X.env.scope.names.lookup y.1 = some .free))) = true)
    (hbind : ∀ (q : Str) (cl : List (Str × Addr)) (pm cv ctv v : Value), bindArgs (PySem.W.kla_fn "<lambda>" q params body scope cl pm cv ctv) ⟨[v], []⟩ = pure [(px, v)]) (hg : Gl X "sorted" := by rfl)
    (he : backTo pos (starEach [e] X.env) = (false, eval e X.env) :: backTo pos (starEach [] X.env) := by rfl) (hpl : (backTo pos (starEach [e] X.env)).any (·.1) = false := by rfl) :
    DE X E (.Call (.Name "sorted" p) [e] [⟨some "key", .Lambda params body scope lpos, kpos⟩] pos) (bnd m (fSortK own ti q P k)) :=
  d_sortK own ti hr hm ha TB hcode hk hq hdef sk co gen hx (fun y hy z => by
    have := List.all_eq_true.mp hcell y hy
    simp [z] at this) (fun y hy z => by
    have := List.all_eq_true.mp hfree y hy
    simpa [z] using this) hbind hg he hpl
end
end DL

/-! from DL35.lean -/
set_option Elab.async false
set_option linter.all false
set_option maxRecDepth 100000
set_option maxHeartbeats 4000000
/-! DL35: defs of the module called with fewer arguments than parameters. -/
namespace DL
open PySem PySem.Spec L2 PyProof.Rows
structure CalD (P : Program) (w : World) (K : Frg) (mg : Str → Option Value) (base : Heap) (k : Nat) (x : Str) (n : Nat) (dv : List D) (f : DF) : Prop where
  ex : ∃ (fa : Addr) (fd : FuncData) (ps : List Str), mg x = some (.ref fa) ∧ PySem.W.keepIn K (.ref fa) = true ∧ Dfl K fd ps dv ∧ ps.length = n ∧ FnOk P w K mg base (L2.CX P w) k fa fd ps (spF K n f)
section
variable {X : Cx} {E : WX} {e : Expr} {es : List Expr} {pos : Pos}
theorem d_callD {x : Str} {p : Pos} {k n : Nat} {dv : List D} {f : DF} {m : M (List D)} (C : CalD X.prog X.w X.K X.mg X.base k x n dv f) (hr : Room k X.A) (hx : Takes X E) (hn : es.length + 1 + dv.length = n) (ha : DA X E (e :: es) m) (hg : Gl X x := by rfl)
    (hl : ∀ s ds s', m s = some (.ok ds s') → ds.length = es.length + 1) (hdb : (x == ("__debug__" : Str)) = false := by decide)
    (he : starEach (e :: es) X.env = (false, eval e X.env) :: starEach es X.env := by rfl) (hpl : (backTo pos (starEach es X.env)).any (·.1) = false := by rfl) : DE X E (.Call (.Name x p) (e :: es) [] pos) (bnd m fun ds => callF f (ds ++ dv)) := by
  obtain ⟨fa, fd, ps, h1, h2, ⟨dvs, dvu, t4, t5, t6⟩, h4, h5⟩ := C.ex
  have hdl : dvs.length = dv.length := (t5 (fun _ => none) []).len
  refine PE.weak (pe_callSD (E := WE E) h5 hr hg h1 h2 t6 t4 (passAt hx) ha hdb he hpl) fun σ H Q ⟨G, F, α, s, R, h⟩ => ?_
  refine ⟨G, F, α, s, R, ?_⟩
  have hb := h.bind
  cases q : m s with
  | none => rw [q] at hb; exact hb.elim
  | some o =>
    rw [q] at hb
    cases o with
    | exc C fs ς => exact hb
    | ok ds s1 =>
      intro F1 α1 H1 x1 vs R1 k1
      have hll := hl _ _ _ q
      exact spF_dv (vs := vs) (ds := ds) (by simp only [List.length_append, k1.len, hll, hdl]; omega) R1 k1 t5 (hb F1 α1 H1 x1)
end
end DL

/-! from DL36.lean -/
set_option Elab.async false
set_option linter.all false
set_option maxRecDepth 100000
set_option maxHeartbeats 4000000
/-! DL36: comprehensions over a list that may change later (it stays while they run). -/
namespace DL
open PySem PySem.Spec L2 PyProof.Rows
theorem upd_swap {H : Hp} {a b : Addr} {x y : HO} (h : a ≠ b) : upd (upd H a x) b y = upd (upd H b y) a x := by
  funext c
  unfold upd
  by_cases z1 : c = b
  · have : c ≠ a := fun w => h (w ▸ z1)
    rw [if_pos z1, if_neg this, if_pos z1]
  · by_cases z2 : c = a
    · rw [if_neg z1, if_pos z2, if_pos z2]
    · rw [if_neg z1, if_neg z2, if_neg z2, if_neg z1]
section
variable {K : Frg} {G F H : Hp} {α : List Addr} {ς : Store}
theorem Rel0.lock (R : Rel0 K G F H α ς) {i : Nat} {o : O} {a : Addr} {h : HO} (e : ς[i]? = some (some o)) (ea : α[i]? = some a) (eh : H a = some h) : Rel0 K (upd G a h) F H α (ς.set i none) := by
  have fa : F a = none := by
    obtain ⟨b, g, h1, h2, h3, h4⟩ := R.obj i o e
    rw [ea] at h1
    cases h1
    exact h3
  have old : ∀ {j : Nat} {u : O}, (ς.set i none)[j]? = some (some u) → i ≠ j ∧ ς[j]? = some (some u) := fun {j u} q => by
    rcases set_some q with ⟨_, z⟩ | w
    · cases z
    · exact w
  refine ⟨R.ex, fun c u q => ?_, by rw [List.length_set]; exact R.len, fun j ob q => R.obj j ob (old q).2, fun c u q => ?_, fun j oi c e1 e2 => ?_, fun j l oi oj c e1 e2 => R.inj j l oi oj c (old e1).2 (old e2).2, fun j q P e1 => R.tb j q P (old e1).2⟩
  · by_cases z : c = a
    · subst z
      rw [upd_same] at q
      rw [eh]
      exact q
    · rw [upd_ne z] at q
      exact R.gx c u q
  · by_cases z : c = a
    · subst z
      exact fa
    · rw [upd_ne z] at q
      exact R.fg c u q
  · have ne : c ≠ a := fun z => by
      subst z
      exact (old e1).1 (R.inj i j o oi c e (old e1).2 ea e2)
    rw [upd_ne ne]
    exact R.gn j oi c (old e1).2 e2
theorem Rel0.unlock {i : Nat} {a : Addr} {xs : List V} {ds : List D} (R : Rel0 K (upd G a (.lst xs)) F H α ς) (ga : G a = none) (e : ς[i]? = some none) (ea : α[i]? = some a) (k : HasL K F α xs ds) : Rel0 K G F H α (ς.set i (some (.lst ds))) := by
  have fa : F a = none := R.fg a _ upd_same
  have ha : H a = some (.lst xs) := R.gx a _ upd_same
  have U := R.untrack ga
  have ne : ∀ {j : Nat} {u : O} {c : Addr}, ς[j]? = some (some u) → α[j]? = some c → c ≠ a := fun {j u c} e1 e2 z => by
    subst z
    have := R.gn j u c e1 e2
    rw [upd_same] at this
    cases this
  refine ⟨U.ex, U.gx, by rw [List.length_set]; exact U.len, fun j ob q => ?_, U.fg, fun j oi c e1 e2 => ?_, fun j l oi oj c e1 e2 e3 e4 => ?_, fun j q P e1 => ?_⟩
  · rcases set_some q with ⟨rfl, z⟩ | ⟨_, w⟩
    · cases z
      exact ⟨a, .lst xs, ea, ha, fa, k⟩
    · exact U.obj j ob w
  · rcases set_some e1 with ⟨rfl, _⟩ | ⟨_, w⟩
    · rw [ea] at e2
      cases e2
      exact ga
    · exact U.gn j oi c w e2
  · rcases set_some e1 with ⟨rfl, _⟩ | ⟨_, w1⟩ <;> rcases set_some e2 with ⟨rfl, _⟩ | ⟨_, w2⟩
    · rfl
    · rw [ea] at e3
      cases e3
      exact absurd rfl (ne w2 e4)
    · rw [ea] at e4
      cases e4
      exact absurd rfl (ne w1 e3)
    · exact U.inj j l oi oj c w1 w2 e3 e4
  · rcases set_some e1 with ⟨_, z⟩ | ⟨_, w⟩
    · cases z
    · exact U.tb j q P w
end
def lcLK (own : Bool) (vs : List Nat) (g : Tg) (tt : M Bool) (te : M D) (d : D) : M D := fun s => match ownL s.s d with
  | some (i, ds) => (match lcR (wipeD s.e vs) g tt te ds (s.s.set i none) with
    | some (ys, ς) => (match ς[i]? with
      | some none => guard' (small ys.length) (mk own ys) ⟨s.e, ς.set i (some (.lst ds))⟩
      | _ => none)
    | none => none)
  | none => none
def lcL (own : Bool) (vs : List Nat) (md : M D) (g : Tg) (tt : M Bool) (te : M D) : M D := bnd md (lcLK own vs g tt te)
section
variable {K : Frg} {E : WX}
/-- what stands while the loop runs -/
structure Lck (K : Frg) (G : Hp) (a p : Addr) (xs : List V) (acc : HO) (F : Hp) (H : Hp) (α : List Addr) (ς : Store) : Prop where
  r : Rel0 K (upd (upd G a (.lst xs)) p acc) F H α ς
theorem r_lcL {own : Bool} {vs js : List Nat} {md : M D} {g : Tg} {t : TG} {tt : M Bool} {te : M D} (hg : SpG K t g js) (hj : ∀ j ∈ js, j ∈ vs) {σ : L2.St} {H : Hp} {Q : VK} (h : rE K E (lcL own vs md g tt te) σ H Q) :
    tLc (L2.iList K (rE K E md)) t (rT K W0 tt) (rE K W0 te) vs σ H Q := by
  obtain ⟨G, F, α, s, R, h⟩ := h
  refine ⟨G, F, α, s, R, h.bind.mono fun F1 α1 H1 d s1 x1 h1 v R1 k1 => ?_⟩
  unfold lcLK at h1
  cases eo : ownL s1.s d with
  | none => simp only [eo] at h1; exact h1.elim
  | some q1 =>
  obtain ⟨ci, ds⟩ := q1
  simp only [eo] at h1
  obtain ⟨a, xs, rfl, rfl, ea, ec, hl, ha⟩ := own_at R1.st k1 eo
  cases e0 : lcR (wipeD s1.e vs) g tt te ds (s1.s.set ci none) with
  | none => simp only [e0] at h1; exact h1.elim
  | some q0 =>
  obtain ⟨yys, ςe⟩ := q0
  simp only [e0] at h1
  split at h1
  rotate_left
  · exact h1.elim
  rename_i ece
  obtain ⟨gs, h2⟩ := wp_guard h1
  refine ⟨a, rfl, ⟨xs, SqL.of ha⟩, fun p hp => ?_⟩
  have ga : G a = none := R1.st.gn ci _ a ec ea
  have gp : G p = none := R1.st.gx.free hp
  have np : a ≠ p := ne_of_none ha hp
  have RL := R1.st.lock ec ea ha
  have track0 := RL.track hp (.lst [])
  refine ⟨fun i m H' => m = ds.length - i ∧ i ≤ ds.length ∧ ∃ F2 α2 ς2 acc ys zs, Ext F1 α1 F2 α2 ∧ Rel0 K (upd (upd G a (.lst xs)) p (.lst acc)) F2 H' α2 ς2 ∧ HasL K F2 α2 acc ys ∧ lcR (wipeD s1.e vs) g tt te (ds.drop i) ς2 = some (zs, ςe) ∧ yys = ys ++ zs,
    ⟨ds.length, by simp, Nat.zero_le _, F1, α1, _, [], [], yys, Ext.refl _ _, track0, .nil, e0, rfl⟩, ?_⟩
  rintro i m H2 ⟨rfl, hi, F2, α2, ς2, acc, ys, zs, x2, R2, k2, e2, ey⟩
  have h2a : H2 a = some (.lst xs) := R2.gx a _ (by rw [upd_ne np, upd_same])
  by_cases hlt : i < ds.length
  · have hd : ds.drop i = ds[i] :: ds.drop (i + 1) := List.drop_eq_getElem_cons hlt
    obtain ⟨x0, q1, q2⟩ := hl.get (show ds[i]? = some ds[i] by simp [hlt])
    refine .inr ⟨⟨xs, x0, SqL.of h2a, q1⟩, fun H' => ds.length - (i + 1) = ds.length - (i + 1) ∧ i + 1 ≤ ds.length ∧ ∃ F2 α2 ς2 acc ys zs, Ext F1 α1 F2 α2 ∧ Rel0 K (upd (upd G a (.lst xs)) p (.lst acc)) F2 H' α2 ς2 ∧ HasL K F2 α2 acc ys ∧ lcR (wipeD s1.e vs) g tt te (ds.drop (i + 1)) ς2 = some (zs, ςe) ∧ yys = ys ++ zs,
      fun H' q => ⟨ds.length - (i + 1), by omega, q⟩, fun x H' y => ?_⟩
    obtain ⟨rfl, y⟩ := y
    have y := y xs (SqL.of h2a)
    rw [q1] at y
    cases y
    rw [hd] at e2
    have base : RelS K (upd (upd G a (.lst xs)) p (.lst acc)) F2 H' α2 (L2.wipe σ vs) ⟨wipeD s1.e vs, ς2⟩ := (RelS.wipe (R := ⟨R2, R1.len, fun i d e => let ⟨v, h1, h2⟩ := R1.sl i d e; ⟨v, h1, h2.ext x2⟩⟩) (s := ⟨s1.e, ς2⟩) (σ := σ) vs)
    unfold lcR at e2
    obtain ⟨s3, e4, e5⟩ := Option.bind_eq_some_iff.mp e2
    refine hg (upd (upd G a (.lst xs)) p (.lst acc)) F2 H' α2 (L2.wipe σ vs) _ x0 ds[i] s3 _ base (q2.ext x2) e4 fun σ3 R3 b3 => ?_
    refine ⟨wipe_but b3 hj, upd (upd G a (.lst xs)) p (.lst acc), F2, α2, s3, R3, ?_⟩
    cases et : tt s3 with
    | none => simp only [et] at e5; cases e5
    | some ot =>
      cases ot with
      | exc C fs ς => simp only [et] at e5; cases e5
      | ok b s4 =>
        refine wp_post fun F4 α4 H4 x4 R4 => ?_
        cases b with
        | false =>
          simp only [et] at e5
          exact iteF ⟨rfl, hlt, F4, α4, s4.s, acc, ys, zs, x2.trans x4, R4.st, k2.ext x4, e5, ey⟩
        | true =>
          simp only [et] at e5
          refine iteT ⟨upd (upd G a (.lst xs)) p (.lst acc), F4, α4, s4, R4, ?_⟩
          cases ee : te s4 with
          | none => simp only [ee] at e5; cases e5
          | some oe =>
            cases oe with
            | exc C fs ς => simp only [ee] at e5; cases e5
            | ok yd s5 =>
              simp only [ee] at e5
              obtain ⟨pr, e6, e7⟩ := Option.map_eq_some_iff.mp e5
              obtain ⟨zs', ςe'⟩ := pr
              cases e7
              refine wp_post fun F5 α5 H5 x5 yv R5 ky => ?_
              have lt : acc.length < sizeLine := by
                have q := k2.len
                have q2 := congrArg List.length ey
                rw [List.length_append, List.length_cons] at q2
                have q3 := of_decide_eq_true gs
                have q4 : sizeLine = 16777216 := sizeLine_eq
                omega
              exact ⟨acc, R5.st.gx p _ upd_same, lt, rfl, hlt, F5, α5, s5.s, acc ++ [yv], ys ++ [yd], zs', x2.trans (x4.trans x5), R5.st.retrack, (k2.ext (x4.trans x5)).app (.cons ky .nil), e6, by rw [ey, List.append_assoc]; rfl⟩
  · have e : i = ds.length := by omega
    subst e
    refine .inl ⟨⟨xs, SqL.of h2a, by rw [hl.len]; exact Nat.le_refl _⟩, ?_⟩
    rw [List.drop_length] at e2
    cases e2
    rw [List.append_nil] at ey
    subst ey
    rw [upd_swap np] at R2
    have R3 := R2.unlock (i := ci) (ds := ds) (by rw [upd_ne np]; exact ga) ece (pre_get x2.a ea) (hl.ext x2)
    exact fin_track (h2.ext x2) gp (s := ⟨s1.e, ςe.set ci (some (.lst ds))⟩) ⟨R3, R1.len, fun i d e => let ⟨v, h1, h2⟩ := R1.sl i d e; ⟨v, h1, h2.ext x2⟩⟩ k2
end
section
variable {K : Frg} {E : WX}
def dcLK (own : Bool) (vs : List Nat) (g : Tg) (tt : M Bool) (tk tv : M D) (d : D) : M D := fun s => match ownL s.s d with
  | some (i, ds) => (match dcR (wipeD s.e vs) g tt tk tv ds (s.s.set i none) [] with
    | some (ms, ς) => (match ς[i]? with
      | some none => mkd own ms ⟨s.e, ς.set i (some (.lst ds))⟩
      | _ => none)
    | none => none)
  | none => none
def dcL (own : Bool) (vs : List Nat) (md : M D) (g : Tg) (tt : M Bool) (tk tv : M D) : M D := bnd md (dcLK own vs g tt tk tv)
theorem r_dcL {own : Bool} {vs js : List Nat} {md : M D} {g : Tg} {t : TG} {tt : M Bool} {tk tv : M D} (hg : SpG K t g js) (hj : ∀ j ∈ js, j ∈ vs) {σ : L2.St} {H : Hp} {Q : VK} (h : rE K E (dcL own vs md g tt tk tv) σ H Q) :
    tDc (L2.iList K (rE K E md)) t (rT K W0 tt) (rE K W0 tk) (rE K W0 tv) vs σ H Q := by
  obtain ⟨G, F, α, s, R, h⟩ := h
  refine ⟨G, F, α, s, R, h.bind.mono fun F1 α1 H1 d s1 x1 h1 v R1 k1 => ?_⟩
  unfold dcLK at h1
  cases eo : ownL s1.s d with
  | none => simp only [eo] at h1; exact h1.elim
  | some q1 =>
  obtain ⟨ci, ds⟩ := q1
  simp only [eo] at h1
  obtain ⟨a, xs, rfl, rfl, ea, ec, hl, ha⟩ := own_at R1.st k1 eo
  cases e0 : dcR (wipeD s1.e vs) g tt tk tv ds (s1.s.set ci none) [] with
  | none => simp only [e0] at h1; exact h1.elim
  | some q0 =>
  obtain ⟨mms, ςe⟩ := q0
  simp only [e0] at h1
  split at h1
  rotate_left
  · exact h1.elim
  rename_i ece
  have h2 := h1
  refine ⟨a, rfl, ⟨xs, SqL.of ha⟩, fun p hp => ?_⟩
  have ga : G a = none := R1.st.gn ci _ a ec ea
  have gp : G p = none := R1.st.gx.free hp
  have np : a ≠ p := ne_of_none ha hp
  have RL := R1.st.lock ec ea ha
  have track0 := RL.track hp (.dK [])
  refine ⟨fun i m H' => m = ds.length - i ∧ i ≤ ds.length ∧ ∃ F2 α2 ς2 acc ms, Ext F1 α1 F2 α2 ∧ Rel0 K (upd (upd G a (.lst xs)) p (.dK acc)) F2 H' α2 ς2 ∧ HasM K F2 α2 acc ms ∧ dcR (wipeD s1.e vs) g tt tk tv (ds.drop i) ς2 ms = some (mms, ςe),
    ⟨ds.length, by simp, Nat.zero_le _, F1, α1, _, [], [], Ext.refl _ _, track0, ⟨rfl, .nil⟩, e0⟩, ?_⟩
  rintro i m H2 ⟨rfl, hi, F2, α2, ς2, acc, ms, x2, R2, k2, e2⟩
  have h2a : H2 a = some (.lst xs) := R2.gx a _ (by rw [upd_ne np, upd_same])
  by_cases hlt : i < ds.length
  · have hd : ds.drop i = ds[i] :: ds.drop (i + 1) := List.drop_eq_getElem_cons hlt
    obtain ⟨x0, q1, q2⟩ := hl.get (show ds[i]? = some ds[i] by simp [hlt])
    refine .inr ⟨⟨xs, x0, SqL.of h2a, q1⟩, fun H' => ds.length - (i + 1) = ds.length - (i + 1) ∧ i + 1 ≤ ds.length ∧ ∃ F2 α2 ς2 acc ms, Ext F1 α1 F2 α2 ∧ Rel0 K (upd (upd G a (.lst xs)) p (.dK acc)) F2 H' α2 ς2 ∧ HasM K F2 α2 acc ms ∧ dcR (wipeD s1.e vs) g tt tk tv (ds.drop (i + 1)) ς2 ms = some (mms, ςe),
      fun H' q => ⟨ds.length - (i + 1), by omega, q⟩, fun x H' y => ?_⟩
    obtain ⟨rfl, y⟩ := y
    have y := y xs (SqL.of h2a)
    rw [q1] at y
    cases y
    rw [hd] at e2
    have base : RelS K (upd (upd G a (.lst xs)) p (.dK acc)) F2 H' α2 (L2.wipe σ vs) ⟨wipeD s1.e vs, ς2⟩ := (RelS.wipe (R := ⟨R2, R1.len, fun i d e => let ⟨v, h1, h2⟩ := R1.sl i d e; ⟨v, h1, h2.ext x2⟩⟩) (s := ⟨s1.e, ς2⟩) (σ := σ) vs)
    unfold dcR at e2
    obtain ⟨s3, e4, e5⟩ := Option.bind_eq_some_iff.mp e2
    refine hg (upd (upd G a (.lst xs)) p (.dK acc)) F2 H' α2 (L2.wipe σ vs) _ x0 ds[i] s3 _ base (q2.ext x2) e4 fun σ3 R3 b3 => ?_
    refine ⟨wipe_but b3 hj, upd (upd G a (.lst xs)) p (.dK acc), F2, α2, s3, R3, ?_⟩
    cases et : tt s3 with
    | none => simp only [et] at e5; cases e5
    | some ot =>
      cases ot with
      | exc C fs ς => simp only [et] at e5; cases e5
      | ok b s4 =>
        refine wp_post fun F4 α4 H4 x4 R4 => ?_
        cases b with
        | false =>
          simp only [et] at e5
          exact iteF ⟨rfl, hlt, F4, α4, s4.s, acc, ms, x2.trans x4, R4.st, k2.ext x4, e5⟩
        | true =>
          simp only [et] at e5
          refine iteT ⟨upd (upd G a (.lst xs)) p (.dK acc), F4, α4, s4, R4, ?_⟩
          cases ek : tk s4 with
          | none => simp only [ek] at e5; cases e5
          | some ok =>
            cases ok with
            | exc C fs ς => simp only [ek] at e5; cases e5
            | ok yd s5 =>
              simp only [ek] at e5
              refine wp_post fun F5 α5 H5 x5 yv R5 ky => ?_
              refine ⟨upd (upd G a (.lst xs)) p (.dK acc), F5, α5, s5, R5, ?_⟩
              cases ev : tv s5 with
              | none => simp only [ev] at e5; cases e5
              | some ov =>
                cases ov with
                | exc C fs ς => simp only [ev] at e5; cases e5
                | ok zd s6 =>
                  simp only [ev] at e5
                  refine wp_post fun F6 α6 H6 x6 zv R6 kz => ?_
                  cases eq : keyD yd with
                  | none => simp only [eq] at e5; cases e5
                  | some kk =>
                    simp only [eq] at e5
                    split at e5
                    · rename_i hs
                      have kk' := k2.ext (x4.trans (x5.trans x6))
                      exact ⟨acc, kk, key_at ky eq, R6.st.gx p _ upd_same, by rw [k2.len]; exact small_lt hs, rfl, hlt, F6, α6, s6.s, putK acc kk zv, putD ms kk zd, x2.trans (x4.trans (x5.trans x6)), R6.st.retrack, kk'.put kk kz, e5⟩
                    · cases e5
  · have e : i = ds.length := by omega
    subst e
    refine .inl ⟨⟨xs, SqL.of h2a, by rw [hl.len]; exact Nat.le_refl _⟩, ?_⟩
    rw [List.drop_length] at e2
    cases e2
    rw [upd_swap np] at R2
    have R3 := R2.unlock (i := ci) (ds := ds) (by rw [upd_ne np]; exact ga) ece (pre_get x2.a ea) (hl.ext x2)
    exact fin_trackD (h2.ext x2) gp (s := ⟨s1.e, ςe.set ci (some (.lst ds))⟩) ⟨R3, R1.len, fun i d e => let ⟨v, h1, h2⟩ := R1.sl i d e; ⟨v, h1, h2.ext x2⟩⟩ k2
end
section
variable {X : Cx} {E : WX} {pos : Pos}
theorem d_lcL (own : Bool) {elt tg iter : Expr} {ifs : List Expr} {scope : Scope} {ow : List (Str × Nat)} {md : M D} {g : Tg} {js : List Nat} {t : TG} {tt : M Bool} {te : M D} (hc : X.calm = true) (hN : X.N.Nodup) (hi : DE X E iter md) (ok : BlkOk X.N X.env.scope scope ow)
    (hg : ∀ (s : Shared) (H : Hp) (C : Addr) (cl : List (Str × Addr)) (fp : List Addr), DG (X.blk s H scope (compEnvC scope cl C X.env) fp) tg g js t) (ht : ∀ (s : Shared) (H : Hp) (C : Addr) (cl : List (Str × Addr)) (fp : List Addr), DTs (X.blk s H scope (compEnvC scope cl C X.env) fp) W0 ifs tt)
    (he : ∀ (s : Shared) (H : Hp) (C : Addr) (cl : List (Str × Addr)) (fp : List Addr), DE (X.blk s H scope (compEnvC scope cl C X.env) fp) W0 elt te) (hj : ∀ j ∈ js, j ∈ ow.map (·.2) := by decide) (hs : ∀ x, foldedSetIterable iter X.env x = pure x := by intro _; rfl) :
    DE X E (.ListComp elt [⟨tg, iter, ifs, 0⟩] scope pos) (lcL own (ow.map (·.2)) md g tt te) := by
  refine ⟨fun pins s σ H Q I h => ?_⟩
  have hsp : SpG X.K t g js := (hg s H 0 [] []).sp
  exact (pe_lc hc hN (pi_list hi) ok (fun s H C cl fp => (hg s H C cl fp).pg) ht he hs).run pins s σ H Q I (r_lcL hsp hj h)
theorem d_dcL (own : Bool) {kx vx tg iter : Expr} {ifs : List Expr} {scope : Scope} {ow : List (Str × Nat)} {md : M D} {g : Tg} {js : List Nat} {t : TG} {tt : M Bool} {tk tv : M D} (hc : X.calm = true) (hN : X.N.Nodup) (hi : DE X E iter md) (ok : BlkOk X.N X.env.scope scope ow)
    (hg : ∀ (s : Shared) (H : Hp) (C : Addr) (cl : List (Str × Addr)) (fp : List Addr), DG (X.blk s H scope (compEnvC scope cl C X.env) fp) tg g js t) (ht : ∀ (s : Shared) (H : Hp) (C : Addr) (cl : List (Str × Addr)) (fp : List Addr), DTs (X.blk s H scope (compEnvC scope cl C X.env) fp) W0 ifs tt)
    (hk : ∀ (s : Shared) (H : Hp) (C : Addr) (cl : List (Str × Addr)) (fp : List Addr), DE (X.blk s H scope (compEnvC scope cl C X.env) fp) W0 kx tk)
    (he : ∀ (s : Shared) (H : Hp) (C : Addr) (cl : List (Str × Addr)) (fp : List Addr), DE (X.blk s H scope (compEnvC scope cl C X.env) fp) W0 vx tv) (hj : ∀ j ∈ js, j ∈ ow.map (·.2) := by decide) (hs : ∀ x, foldedSetIterable iter X.env x = pure x := by intro _; rfl) :
    DE X E (.DictComp kx vx [⟨tg, iter, ifs, 0⟩] scope pos) (dcL own (ow.map (·.2)) md g tt tk tv) := by
  refine ⟨fun pins s σ H Q I h => ?_⟩
  have hsp : SpG X.K t g js := (hg s H 0 [] []).sp
  exact (pe_dc hc hN (pi_list hi) ok (fun s H C cl fp => (hg s H C cl fp).pg) ht hk he hs).run pins s σ H Q I (r_dcL hsp hj h)
theorem d_setLcL (i : Nat) (own : Bool) {y : Str} {py spos : Pos} {elt tg iter : Expr} {ifs : List Expr} {scope : Scope} {ow : List (Str × Nat)} {md : M D} {g : Tg} {js : List Nat} {t : TG} {tt : M Bool} {te : M D} (hc : X.calm = true) (hN : X.N.Nodup) (hi : DE X E iter md) (ok : BlkOk X.N X.env.scope scope ow)
    (hg : ∀ (s : Shared) (H : Hp) (C : Addr) (cl : List (Str × Addr)) (fp : List Addr), DG (X.blk s H scope (compEnvC scope cl C X.env) fp) tg g js t) (ht : ∀ (s : Shared) (H : Hp) (C : Addr) (cl : List (Str × Addr)) (fp : List Addr), DTs (X.blk s H scope (compEnvC scope cl C X.env) fp) W0 ifs tt)
    (he : ∀ (s : Shared) (H : Hp) (C : Addr) (cl : List (Str × Addr)) (fp : List Addr), DE (X.blk s H scope (compEnvC scope cl C X.env) fp) W0 elt te) (hj : ∀ j ∈ js, j ∈ ow.map (·.2) := by decide)
    (hsw : swapsWith (.ListComp elt [⟨tg, iter, ifs, 0⟩] scope pos) (some (.Name y py)) spos.line X.env = pure true := by exact sw_true rfl rfl rfl (by decide +kernel)) (hy : X.N[i]? = some y := by rfl) (hyl : X.env.scope.names.lookup y = some .local := by rfl) (hs : ∀ x, foldedSetIterable iter X.env x = pure x := by intro _; rfl) :
    DS X E (.Assign [.Name y py] (.ListComp elt [⟨tg, iter, ifs, 0⟩] scope pos) spos) (asg (lcL own (ow.map (·.2)) md g tt te) (gset i)) := by
  refine ⟨fun pins s σ H D I h => ?_⟩
  have hsp : SpG X.K t g js := (hg s H 0 [] []).sp
  refine (ps_setLc (tt := rT X.K W0 tt) (te := rE X.K W0 te) hc hN hy hyl hsw (pi_list hi) ok (fun s H C cl fp => (hg s H C cl fp).pg) ht he hs).run pins s σ H D I ?_
  obtain ⟨G, F, α, s0, R, h⟩ := h
  exact r_lcL hsp hj ⟨G, F, α, s0, R, h.bind.mono fun F1 α1 H1 d s1 x1 h1 v R1 k1 => h1 F1 α1 H1 (Ext.refl _ _) _ (R1.set k1 i)⟩
end
section
variable {X : Cx} {E : WX} {st : Stmt}
theorem d_asgAlt {m1 m2 : M D} {g : Tg} (h1 : DS X E st (asg m1 g)) (h2 : DS X E st (asg m2 g)) : DS X E st (asg (alt m1 m2) g) := by
  refine ⟨fun pins s σ H D I h => ?_⟩
  obtain ⟨G, F, α, s0, R, h⟩ := h
  cases q : m1 s0 with
  | none =>
    refine h2.run pins s σ H D I ⟨G, F, α, s0, R, ?_⟩
    have e : asg (alt m1 m2) g s0 = asg m2 g s0 := by
      unfold asg bnd alt
      rw [q]
    rw [← e]
    exact h
  | some o =>
    refine h1.run pins s σ H D I ⟨G, F, α, s0, R, ?_⟩
    have e : asg (alt m1 m2) g s0 = asg m1 g s0 := by
      unfold asg bnd alt
      rw [q]
    rw [← e]
    exact h
end
/-! len of a dict -/
def fLenD : List D → M D := fun ds s => match ds with
  | [d] => match dctD s.s d with
    | some ms => ret (.int ms.length) s
    | none => none
  | _ => none
theorem s_lenD {K : Frg} {E : WX} : SpA K E (fun xs H Q => ∃ a kvs, xs = [V.ref a] ∧ H a = some (.dK kvs) ∧ Q (.int kvs.length) H) fLenD := by
  intro G F H α σ s xs ds Q R k h
  unfold fLenD at h
  split at h
  · rename_i d
    obtain ⟨v, rfl, k1⟩ := k.one
    split at h
    · rename_i ms q
      obtain ⟨a, kvs, rfl, hm, ha⟩ := dct_at R.st k1 q
      refine ⟨a, kvs, rfl, ha, ?_⟩
      rw [hm.len]
      exact fin h R (.int _)
    · exact h.elim
  · exact h.elim
end DL

/-! from DL37.lean -/
set_option Elab.async false
set_option linter.all false
set_option maxRecDepth 100000
set_option maxHeartbeats 4000000
/-! DL37: for over enumerate of a list that may change later (it stays while the loop runs). -/
namespace DL
open PySem PySem.Spec L2 PyProof.Rows
def forELK (g : Tg) (m : M Fl) (dv : List D) : M Fl := fun s => match dv with
  | [d] => match ownL s.s d with
    | some (i, ds) => (match forD g m (enumL ds) ⟨s.e, s.s.set i none⟩ with
      | some (.ok fl s') => (match s'.s[i]? with
        | some none => some (.ok fl ⟨s'.e, s'.s.set i (some (.lst ds))⟩)
        | _ => none)
      | _ => none)
    | none => none
  | _ => none
def forEL (n : M (List D)) (g : Tg) (m : M Fl) : M Fl := bnd n (forELK g m)
section
variable {K : Frg} {E : WX}
theorem RelS.unlock {G F H : Hp} {α : List Addr} {σ : L2.St} {s : S} {i : Nat} {a : Addr} {xs : List V} {ds : List D} (R : RelS K (upd G a (.lst xs)) F H α σ s) (ga : G a = none) (e : s.s[i]? = some none) (ea : α[i]? = some a) (k : HasL K F α xs ds) : RelS K G F H α σ ⟨s.e, s.s.set i (some (.lst ds))⟩ :=
  ⟨R.st.unlock ga e ea k, R.len, R.sl⟩
theorem r_forEL {n : M (List D)} {t : TG} {g : Tg} {js : List Nat} {m : M Fl} (hg : SpG K t g js) {D : Ends} {σ : L2.St} {H : Hp} (h : rS K E (forEL n g m) D σ H) : tFor (EnT.iEnumA K (rA K E n)) t (rS K E m) D σ H := by
  obtain ⟨G, F, α, s, R, h⟩ := h
  refine ⟨G, F, α, s, R, h.bind.mono fun F1 α1 H1 dv s1 x1 h1 vs R1 k1 => ?_⟩
  match dv, k1 with
  | [], _ => exact h1.elim
  | _ :: _ :: _, _ => exact h1.elim
  | [d], .cons k .nil =>
    have hh : Wp K G E F1 α1 (forELK g m [d] s1) (pS K G D) := h1
    clear h1
    dsimp only [forELK] at hh
    cases eo : ownL s1.s d with
    | none => rw [eo] at hh; exact hh.elim
    | some q1 =>
    obtain ⟨ci, ds⟩ := q1
    rw [eo] at hh
    dsimp only at hh
    obtain ⟨a, xs, rfl, rfl, ea, ec, hl, ha⟩ := own_at R1.st k eo
    cases ef : forD g m (enumL ds) ⟨s1.e, s1.s.set ci none⟩ with
    | none => rw [ef] at hh; exact hh.elim
    | some of =>
    cases of with
    | exc C fs s' => rw [ef] at hh; exact hh.elim
    | ok fl se =>
    rw [ef] at hh
    dsimp only at hh
    split at hh
    rotate_left
    · exact hh.elim
    rename_i ece
    have ga : G a = none := R1.st.gn ci _ a ec ea
    have RL : Rel0 K (upd G a (.lst xs)) F1 H1 α1 (s1.s.set ci none) := R1.st.lock ec ea ha
    refine ⟨a, xs, rfl, .inl ⟨SqL.of ha, ?_⟩⟩
    have le : (enumL ds).length = ds.length := by simp [enumL]
    refine ⟨fun i n σ' H' => n = ds.length - i ∧ i ≤ ds.length ∧ ∃ F2 α2 s2, Ext F1 α1 F2 α2 ∧ RelS K (upd G a (.lst xs)) F2 H' α2 σ' s2 ∧ forD g m ((enumL ds).drop i) s2 = some (.ok fl se), ⟨ds.length, by simp, Nat.zero_le _, F1, α1, ⟨s1.e, s1.s.set ci none⟩, Ext.refl _ _, ⟨RL, R1.len, R1.sl⟩, ef⟩, ?_⟩
    rintro i n σ2 H2 ⟨rfl, hi, F2, α2, s2, x2, R2, e2⟩
    have h2a : H2 a = some (.lst xs) := R2.st.gx a _ upd_same
    by_cases hlt : i < ds.length
    · have hd : (enumL ds).drop i = .tup [.int (i : Nat), ds[i]] :: (enumL ds).drop (i + 1) := by
        rw [List.drop_eq_getElem_cons (by omega)]
        simp [enumL]
      obtain ⟨x0, q1, q2⟩ := hl.get (show ds[i]? = some ds[i] by simp [hlt])
      refine .inr ⟨⟨xs, x0, SqL.of h2a, q1⟩, fun σ' H' => ds.length - (i + 1) = ds.length - (i + 1) ∧ i + 1 ≤ ds.length ∧ ∃ F2 α2 s2, Ext F1 α1 F2 α2 ∧ RelS K (upd G a (.lst xs)) F2 H' α2 σ' s2 ∧ forD g m ((enumL ds).drop (i + 1)) s2 = some (.ok fl se), fun σ' H' q => ⟨ds.length - (i + 1), by omega, q⟩, fun y H' z => ?_⟩
      obtain ⟨T, x0', rfl, hT, rfl, z⟩ := z
      have z := z xs (SqL.of h2a)
      rw [q1] at z
      cases z
      obtain ⟨F3, x3, keep, hx⟩ := pair_fact (K := K) (ds := [.int (i : Nat), ds[i]]) R2.st.ex hT (.cons (.int _) (.cons (q2.ext x2) .nil))
      rw [hd] at e2
      have e3 : (match g (.tup [.int (i : Nat), ds[i]]) s2 with | some s' => bnd m (turnF (forD g m ((enumL ds).drop (i + 1)))) s' | none => none) = some (.ok fl se) := e2
      cases eg : g (.tup [.int (i : Nat), ds[i]]) s2 with
      | none => simp only [eg] at e3; cases e3
      | some s3 =>
        simp only [eg] at e3
        refine hg _ F3 _ α2 σ2 s2 _ _ s3 _ (keep _ _ _ R2) hx eg fun σ3 R3 _ => ?_
        refine ⟨_, F3, α2, s3, R3, ?_⟩
        unfold bnd at e3
        cases em : m s3 with
        | none => simp only [em] at e3; cases e3
        | some om =>
          cases om with
          | exc C fs s4 => simp only [em] at e3; cases e3
          | ok fl1 s4 =>
            simp only [em] at e3
            refine wp_post fun F4 α4 H4 x4 => ?_
            have xx := x2.trans (x3.trans x4)
            cases fl1 with
            | nx => exact fun σ4 R4 => ⟨rfl, hlt, F4, α4, s4, xx, R4, e3⟩
            | ct => exact fun σ4 R4 => ⟨rfl, hlt, F4, α4, s4, xx, R4, e3⟩
            | bk =>
              cases e3
              exact fun σ4 R4 => hh F4 α4 H4 xx σ4 (R4.unlock ga ece (pre_get xx.a ea) (hl.ext xx))
            | rt d =>
              cases e3
              exact fun v R4 kv => hh F4 α4 H4 xx v (R4.unlock ga ece (pre_get xx.a ea) (hl.ext xx)) kv
    · have e : i = ds.length := by omega
      subst e
      rw [show (enumL ds).drop ds.length = [] from List.drop_eq_nil_of_le (by omega)] at e2
      cases e2
      exact .inl ⟨⟨xs, SqL.of h2a, by rw [hl.len]; exact Nat.le_refl _⟩, hh F2 α2 H2 x2 σ2 (R2.unlock ga ece (pre_get x2.a ea) (hl.ext x2))⟩
end
section
variable {X : Cx} {E : WX} {e : Expr} {pos tpos p : Pos}
theorem d_forEL {elts : List Expr} {kk : Nat} {body : List Stmt} {n : M (List D)} {g : Tg} {js : List Nat} {t : TG} {m : M Fl} (hp : PassesOwn (model X.prog X.w) X.A X.env X.xe) (hc : X.calm = true) (hm : X.mg "enumerate" = none) (ha : DA X E [e] n) (hg : DG X (.Tuple elts kk tpos) g js t) (hb : DSs X E body m)
    (gl : Gl X "enumerate" := by rfl) (hst : starEach [e] X.env = [(false, eval e X.env)] := by rfl) (hs : ∀ x, foldedSetIterable (.Call (.Name "enumerate" p) [e] [] pos) X.env x = pure x := by intro _; rfl) :
    DS X E (.For (.Tuple elts kk tpos) (.Call (.Name "enumerate" p) [e] [] pos) body [] pos') (forEL n g m) :=
  PS.weak (ps_for hp hc (EnT.pi_enumA gl hm ha hst) hg.pg hb hs) fun D σ H q => r_forEL hg.sp q
theorem d_stAlt {st : Stmt} {m1 m2 : M Fl} (h1 : DS X E st m1) (h2 : DS X E st m2) : DS X E st (alt m1 m2) := by
  refine ⟨fun pins s σ H D I h => ?_⟩
  obtain ⟨G, F, α, s0, R, h⟩ := h
  cases q : m1 s0 with
  | none =>
    refine h2.run pins s σ H D I ⟨G, F, α, s0, R, ?_⟩
    have e : alt m1 m2 s0 = m2 s0 := by
      unfold alt
      rw [q]
    rw [← e]
    exact h
  | some o =>
    refine h1.run pins s σ H D I ⟨G, F, α, s0, R, ?_⟩
    have e : alt m1 m2 s0 = m1 s0 := by
      unfold alt
      rw [q]
    rw [← e]
    exact h
end
end DL

/-! from DL38.lean -/
set_option Elab.async false
set_option linter.all false
set_option maxRecDepth 100000
set_option maxHeartbeats 4000000
/-! DL38: xs[i], ys[j] = v, w; xs[::-1]; // by greater divisors. -/
namespace DL
open PySem L2
section
variable {X : Cx} {E : WX} {pos : Pos}
def stF (d k v : D) (m : M Fl) : M Fl := fun s => match ownL s.s d, k with
  | some (i, xs), .int j => match ixN xs.length j with
    | some n => m (putS s i (.lst (xs.set n v)))
    | none => none
  | _, _ => none
def parLK (mo1 mi1 mo2 mi2 : M D) (d : D) : M Fl := match d with
  | .tup [v, w] => bnd mo1 fun d1 => bnd mi1 fun k1 => stF d1 k1 v (bnd mo2 fun d2 => bnd mi2 fun k2 => stF d2 k2 w nxt)
  | _ => fail
def parL (mo1 mi1 mo2 mi2 me : M D) : M Fl := bnd me (parLK mo1 mi1 mo2 mi2)
theorem d_parL {e o1 i1 o2 i2 : Expr} {kt : Nat} {p1 p2 pt : Pos} {mo1 mi1 mo2 mi2 me : M D} (hc : X.calm = true) (he : DE X E e me) (ho1 : DE X E o1 mo1) (hi1 : DE X E i1 mi1) (ho2 : DE X E o2 mo2) (hi2 : DE X E i2 mi2)
    (ha1 : ∀ v, assign (.Subscript o1 i1 p1) X.env v = (do
      let ov ← holding [v] (eval o1 X.env)
      let iv ← holding [v, ov] (eval i1 X.env)
      standAt p1
      holding [v, ov, iv] (setItem ov iv v)
      release [v, ov, iv] []) := by intro _; rfl)
    (ha2 : ∀ v, assign (.Subscript o2 i2 p2) X.env v = (do
      let ov ← holding [v] (eval o2 X.env)
      let iv ← holding [v, ov] (eval i2 X.env)
      standAt p2
      holding [v, ov, iv] (setItem ov iv v)
      release [v, ov, iv] []) := by intro _; rfl)
    (hn : (assignEach [.Subscript o1 i1 p1, .Subscript o2 i2 p2] X.env).length = 2 := by rfl) (hst : (assignEach [.Subscript o1 i1 p1, .Subscript o2 i2 p2] X.env).findIdx? (·.1) = none := by rfl)
    (hs1 : (assignEach [.Subscript o1 i1 p1, .Subscript o2 i2 p2] X.env).map (·.2) = assign (.Subscript o1 i1 p1) X.env :: (assignEach [.Subscript o2 i2 p2] X.env).map (·.2) := by rfl)
    (hs2 : (assignEach [.Subscript o2 i2 p2] X.env).map (·.2) = assign (.Subscript o2 i2 p2) X.env :: (assignEach [] X.env).map (·.2) := by rfl)
    (hs : swapsWithSole [.Tuple [.Subscript o1 i1 p1, .Subscript o2 i2 p2] kt pt] e pos.line X.env = pure false := by rfl) (hw : swappedStores [.Tuple [.Subscript o1 i1 p1, .Subscript o2 i2 p2] kt pt] e X.env = pure none := by rfl)
    (h1 : (assignEach [.Tuple [.Subscript o1 i1 p1, .Subscript o2 i2 p2] kt pt] X.env).map (·.2) = [assign (.Tuple [.Subscript o1 i1 p1, .Subscript o2 i2 p2] kt pt) X.env] := by rfl) :
    DS X E (.Assign [.Tuple [.Subscript o1 i1 p1, .Subscript o2 i2 p2] kt pt] e pos) (parL mo1 mi1 mo2 mi2 me) := by
  refine PS.weak (ps_asg he (pg_tup hc (pgs_cons (pg_sub ho1 hi1 set_list ha1) (pgs_cons (pg_sub ho2 hi2 set_list ha2) pgs_nil hs2) hs1) hn hst) hs hw h1) fun D σ H ⟨G, F, α, s, R, h⟩ => ?_
  refine ⟨G, F, α, s, R, h.bind.mono fun F1 α1 H1 d s1 x1 h1 v R1 k1 => ?_⟩
  unfold parLK at h1
  split at h1
  · rename_i dv dw
    obtain ⟨a, xs, rfl, hl, w1, w2⟩ := seq_at R1.st k1 (show seqD s1.s (.tup [dv, dw]) = some (false, [dv, dw]) from rfl)
    have lx : xs.length = 2 := by rw [hl.len]; rfl
    refine ⟨a, xs, rfl, w2 rfl, lx, ?_⟩
    cases hl with
    | cons ka hl =>
    cases hl with
    | cons kb hl =>
    cases hl
    refine ⟨_, _, rfl, ?_⟩
    refine ⟨G, F1, α1, s1, R1, h1.bind.mono fun F2 α2 H2 od s2 x2 h2 ov R2 k2 => ?_⟩
    refine ⟨G, F2, α2, s2, R2, h2.bind.mono fun F3 α3 H3 kd s3 x3 h3 kv R3 k3 => ?_⟩
    unfold stF at h3
    split at h3
    · rename_i i' xs j q
      split at h3
      · rename_i n q2
        obtain ⟨a, zs, rfl, rfl, ea, es, hl, hh⟩ := own_at R3.st (k2.ext x3) q
        cases k3
        refine ⟨a, zs, j, n, rfl, rfl, hh, by rw [hl.len]; exact q2, ?_⟩
        refine ⟨_, _, rfl, ?_⟩
        have R4 : RelS X.K G F3 (upd H3 a (.lst (zs.set n _))) α3 σ (putS s3 i' (.lst (xs.set n dv))) := R3.put es ea (o' := .lst (xs.set n dv)) (HasL.set (ka.ext (x2.trans x3)) n hl)
        refine ⟨G, F3, α3, _, R4, h3.bind.mono fun F5 α5 H5 od s5 x5 h5 ov R5 k5 => ?_⟩
        refine ⟨G, F5, α5, s5, R5, h5.bind.mono fun F6 α6 H6 kd s6 x6 h6 kv R6 k6 => ?_⟩
        split at h6
        · rename_i i2 ys j2 r
          split at h6
          · rename_i n2 r2
            obtain ⟨b, us, rfl, rfl, eb, es2, hl2, hh2⟩ := own_at R6.st (k5.ext x6) r
            cases k6
            refine ⟨b, us, j2, n2, rfl, rfl, hh2, by rw [hl2.len]; exact r2, ?_⟩
            refine ⟨rfl, ?_⟩
            exact h6 F6 α6 _ (Ext.refl _ _) σ (R6.put es2 eb (o' := .lst (ys.set n2 dw)) (HasL.set (kb.ext (x2.trans (x3.trans (x5.trans x6)))) n2 hl2))
          · exact h6.elim
        · exact h6.elim
      · exact h3.elim
    · exact h3.elim
  · exact h1.elim
/-! xs[::-1] -/
def revF (own : Bool) (d : D) : M D := fun s => match seqD s.s d with
  | some (true, ds) => mk own ds.reverse s
  | _ => none
def revL (own : Bool) (m : M D) : M D := bnd m (revF own)
theorem has_rev {K : Frg} {F : Hp} {α : List Addr} : ∀ {xs : List V} {ds : List D}, HasL K F α xs ds → HasL K F α xs.reverse ds.reverse
  | _, _, .nil => .nil
  | _, _, .cons h t => by
    rw [List.reverse_cons, List.reverse_cons]
    exact (has_rev t).app (.cons h .nil)
theorem d_revL (own : Bool) {e : Expr} {k : Nat} {p1 p2 p3 : Pos} {m : M D} (he : DE X E e m) : DE X E (.Subscript e (.Slice none none (some (.UnaryOp .USub (.Constant (.int 1) k p1) p2)) p3) pos) (revL own m) := by
  refine PE.weak (pe_revL he) fun σ H Q ⟨G, F, α, s, R, h⟩ => ?_
  refine ⟨G, F, α, s, R, h.bind.mono fun F1 α1 H1 d s1 x1 h1 v R1 k1 => ?_⟩
  unfold revF at h1
  split at h1
  · rename_i ds q
    obtain ⟨a, xs, rfl, hl, w1, w2⟩ := seq_at R1.st k1 q
    exact ⟨a, xs, rfl, w1 rfl, fin_lst h1 R1 (has_rev hl)⟩
  · exact h1.elim
/-! i // j, j up to 2 ^ 64 -/
abbrev fDivW := iop (fun _ j => decide (0 < j) && i64 j) fun i j => .int (i / j)
theorem s_divW {K : Frg} {E : WX} : Sp2 K E (rI CDivW fun i j => .int (i / j)) fDivW := s_I (fun _ j h => by
  obtain ⟨h1, h2⟩ := Bool.and_eq_true_iff.mp h
  have h1 := of_decide_eq_true h1
  have h3 := i64_ok h2
  rw [two64] at h3
  exact wide_div (b := 64) h1 (by rw [show (2 : Nat) ^ 64 = 18446744073709551616 from by decide]; omega) (by decide) (by decide)) fun _ _ _ _ => .int _
end
end DL

/-! from DL39.lean -/
set_option Elab.async false
set_option linter.all false
set_option maxRecDepth 100000
set_option maxHeartbeats 4000000
/-! DL39: texts: sign by sign, one in another, str(n). -/
namespace DL
open PySem L2
section
variable {X : Cx} {E : WX} {pos : Pos}
def sgn (c : Nat) : D := .str ⟨#[c]⟩
/-- the signs of a text -/
def strI (m : M D) : M (List D) := bnd m fun d => match d with
  | .str z => ret (z.cps.toList.map sgn)
  | _ => fail
theorem walks_str {K : Frg} {F : Hp} {α : List Addr} (z : Str) : Walks K F α (Its z) (z.cps.toList.map sgn) := by
  intro i F1 H α1 x e
  have hl : (z.cps.toList.map sgn).length = z.cps.size := by simp
  refine ⟨fun d q => ?_, fun q => by rw [hl] at q; exact q⟩
  have hi : i < z.cps.size := by rw [← hl]; exact (List.getElem?_eq_some_iff.mp q).1
  refine ⟨hi, fun y H' w => ?_⟩
  obtain ⟨rfl, c, hc, rfl⟩ := w
  have hd : d = sgn c := by
    rw [List.getElem?_map, Array.getElem?_toList, hc] at q
    exact (Option.some.inj q).symm
  subst hd
  exact ⟨F1, Ext.refl _ _, fun _ _ _ R => R, .str _⟩
theorem i_str {tg e : Expr} {m : M D} (h : DE X E e m) : DI X E tg e (strI m) := by
  refine PI.weak (pi_str h) fun σ H Q ⟨G, F, α, s, R, h⟩ => ?_
  refine ⟨G, F, α, s, R, h.bind.mono fun F1 α1 H1 d s1 x1 h1 v R1 k1 => ?_⟩
  split at h1
  · rename_i z
    cases k1
    exact ⟨z, rfl, h1 F1 α1 H1 (Ext.refl _ _) R1 _ (walks_str z)⟩
  · exact h1.elim
/-! one text in another -/
def fInS (neg : Bool) : D → D → M D := fun d e s => match d, e with
  | .str a, .str b => ret (.bl (if neg then !(!(Builtin.Str.occurrences b a 0 b.length 1).isEmpty) else !(Builtin.Str.occurrences b a 0 b.length 1).isEmpty)) s
  | _, _ => none
theorem s_inS {K : Frg} {E : WX} : Sp2 K E (fun x y H Q => ∃ i j, x = .str i ∧ y = .str j ∧ Q (.bl (!(Builtin.Str.occurrences j i 0 j.length 1).isEmpty)) H) (fInS false) := by
  intro G F H α σ s x y d e Q R kx ky h
  unfold fInS at h
  split at h
  · cases kx
    cases ky
    exact ⟨_, _, rfl, rfl, fin h R (.bl _)⟩
  · exact h.elim
theorem s_notInS {K : Frg} {E : WX} : Sp2 K E (fun x y H Q => ∃ i j, x = .str i ∧ y = .str j ∧ Q (.bl (!(!(Builtin.Str.occurrences j i 0 j.length 1).isEmpty))) H) (fInS true) := by
  intro G F H α σ s x y d e Q R kx ky h
  unfold fInS at h
  split at h
  · cases kx
    cases ky
    exact ⟨_, _, rfl, rfl, fin h R (.bl _)⟩
  · exact h.elim
theorem inS_sgn (neg : Bool) (c : Nat) (z : Str) (s : S) : fInS neg (sgn c) (.str z) s = some (.ok (.bl (if neg then !decide (c ∈ z.cps.toList) else decide (c ∈ z.cps.toList))) s) := by
  have e := PySem.StrLaws.found_one z c
  unfold fInS sgn
  simp only
  rw [e]
  rfl
/-! str(n) -/
def fStrI : List D → M D := fun ds => match ds with
  | [.int i] => guard' (decide (i.natAbs.log2 < 1920)) (ret (.str (toString i : String)))
  | _ => fail
theorem s_strI {K : Frg} {E : WX} : SpA K E (fun xs H Q => ∃ i : Int, xs = [.int i] ∧ i.natAbs.log2 < 1920 ∧ Q (.str (toString i : String)) H) fStrI := by
  intro G F H α σ s xs ds Q R k h
  unfold fStrI at h
  split at h
  · obtain ⟨v, rfl, k1⟩ := k.one
    cases k1
    obtain ⟨g, h1⟩ := wp_guard h
    exact ⟨_, rfl, of_decide_eq_true g, fin h1 R (.str _)⟩
  · exact h.elim
end
end DL

/-! from DMw.lean -/
set_option Elab.async false
set_option linter.all false
set_option maxRecDepth 100000
set_option maxHeartbeats 4000000
/-! What mirrors evaluate to: rows for simp. -/
namespace DL
open PySem L2
section
variable {β γ : Type} {s s' : S} {ς : Store}
@[simp] theorem ret_s (b : β) : ret b s = some (.ok b s) := (rfl)
@[simp] theorem fail_s : (fail : M β) s = none := (rfl)
theorem bnd_s (m : M β) (f : β → M γ) : bnd m f s = (match m s with
  | none => none
  | some (.exc C fs ς) => some (.exc C fs ς)
  | some (.ok b s') => f b s') := (rfl)
@[simp] theorem ite_t (m n : M β) : ite' true m n s = m s := (rfl)
@[simp] theorem ite_f (m n : M β) : ite' false m n s = n s := (rfl)
@[simp] theorem guard_t (m : M β) : guard' true m s = m s := (rfl)
@[simp] theorem guard_f (m : M β) : guard' false m s = none := (rfl)
theorem guard_of {b : Bool} (h : b = true) (m : M β) : guard' b m s = m s := by subst h; rfl
@[simp] theorem name_s (i : Nat) : name i s = (match s.e[i]? with
  | some (some d) => some (.ok d s)
  | _ => none) := (rfl)
@[simp] theorem gset_s (i : Nat) (d : D) : gset i d s = some ⟨s.e.set i (some d), s.s⟩ := (rfl)
theorem sq_s (m n : M Fl) : sq m n s = bnd m (thenF n) s := (rfl)
theorem thenF_nx (n : M Fl) : thenF n .nx s = n s := (rfl)
theorem thenF_rt (n : M Fl) (d : D) : thenF n (.rt d) s = some (.ok (.rt d) s) := (rfl)
theorem thenF_bk (n : M Fl) : thenF n .bk s = some (.ok .bk s) := (rfl)
theorem thenF_ct (n : M Fl) : thenF n .ct s = some (.ok .ct s) := (rfl)
theorem nxt_s : nxt s = some (.ok .nx s) := (rfl)
theorem retS_s (m : M D) : retS m s = bnd m (fun d => ret (.rt d)) s := (rfl)
theorem exprS_s (m : M D) : exprS m s = bnd m (fun _ => nxt) s := (rfl)
theorem ifS_s (c : M Bool) (m n : M Fl) : ifS c m n s = bnd c (fun b => ite' b m n) s := (rfl)
theorem ifE_s (c : M Bool) (m n : M D) : ifE c m n s = bnd c (fun b => ite' b m n) s := (rfl)
theorem asg_s (m : M D) (g : Tg) : asg m g s = bnd m (fun d s => match g d s with
  | some s' => some (.ok .nx s')
  | none => none) s := (rfl)
theorem tst_s (m : M D) : tst m s = bnd m (fun d => match d with
  | .bl b => ret b
  | _ => fail) s := (rfl)
theorem op2_s (f : D → D → M D) (a b : M D) : op2 f a b s = bnd a (fun x => bnd b fun y => f x y) s := (rfl)
theorem un1_s (f : D → M D) (a : M D) : un1 f a s = bnd a f s := (rfl)
theorem andT_s (m n : M Bool) : andT m n s = bnd m (fun b => ite' b n (ret false)) s := (rfl)
theorem orT_s (m n : M Bool) : orT m n s = bnd m (fun b => ite' b (ret true) n) s := (rfl)
theorem notT_s (m : M Bool) : notT m s = bnd m (fun b => ret (!b)) s := (rfl)
@[simp] theorem blOf_bl (b : Bool) (k : Bool → M β) : blOf (.bl b) k = k b := (rfl)
theorem andV_s (m n : M D) : andV m n s = bnd m (fun d => blOf d fun b => ite' b n (ret (.bl false))) s := (rfl)
theorem orV_s (m n : M D) : orV m n s = bnd m (fun d => blOf d fun b => ite' b (ret (.bl true)) n) s := (rfl)
theorem notV_s (m : M D) : notV m s = bnd m (fun d => blOf d fun b => ret (.bl (!b))) s := (rfl)
theorem anil_s : anil s = some (.ok [] s) := (rfl)
theorem acons_s (m : M D) (n : M (List D)) : acons m n s = bnd m (fun d => bnd n fun ds => ret (d :: ds)) s := (rfl)
theorem chn_s (f g : D → D → M D) (a b c : M D) : chn f g a b c s = bnd a (fun x => bnd b fun y => bnd (f x y) fun k => blOf k fun q => ite' q (bnd c fun z => g y z) (ret (.bl false))) s := (rfl)
theorem tupD_s (ds : List D) : tupD ds s = guard' (small ds.length) (ret (.tup ds)) s := (rfl)
theorem lstE_s (o : Bool) (ds : List D) : lstE o ds s = guard' (small ds.length) (mk o ds) s := (rfl)
@[simp] theorem mk_f (ds : List D) : mk false ds s = some (.ok (.lst ds) s) := (rfl)
@[simp] theorem mk_t (ds : List D) : mk true ds s = some (.ok (.loc s.s.length) ⟨s.e, s.s ++ [some (.lst ds)]⟩) := (rfl)
theorem iop_s (C : Int → Int → Bool) (g : Int → Int → D) (i j : Int) : iop C g (.int i) (.int j) s = guard' (C i j) (ret (g i j)) s := (rfl)
@[simp] theorem iop_t (g : Int → Int → D) (i j : Int) : iop (fun _ _ => true) g (.int i) (.int j) s = some (.ok (g i j) s) := (rfl)
@[simp] theorem iop_div (i j : Int) : iop (fun _ j => decide (j ≠ 0 ∧ j.natAbs < 1073741824)) (fun i j => .int (i.fdiv j)) (.int i) (.int j) s = guard' (decide (j ≠ 0 ∧ j.natAbs < 1073741824)) (ret (.int (i.fdiv j))) s := (rfl)
@[simp] theorem iop_mod (i j : Int) : iop (fun _ j => decide (j ≠ 0)) (fun i j => .int (i.fmod j)) (.int i) (.int j) s = guard' (decide (j ≠ 0)) (ret (.int (i.fmod j))) s := (rfl)
@[simp] theorem iop_pow (i j : Int) : iop (fun i j => decide (0 ≤ j ∧ j ≤ 1000000 ∧ i.natAbs < 2 ^ 64)) (fun i j => .int (i ^ j.toNat)) (.int i) (.int j) s = guard' (decide (0 ≤ j ∧ j ≤ 1000000 ∧ i.natAbs < 2 ^ 64)) (ret (.int (i ^ j.toNat))) s := (rfl)
@[simp] theorem fAdd_i (o : Bool) (i j : Int) : fAdd o (.int i) (.int j) s = some (.ok (.int (i + j)) s) := (rfl)
@[simp] theorem fMul_i (o : Bool) (i j : Int) : fMul o (.int i) (.int j) s = fMulI (.int i) (.int j) s := (rfl)
@[simp] theorem i64_iff (i : Int) : (i64 i = true) = (-18446744073709551615 ≤ i ∧ i ≤ 18446744073709551615) := by
  apply propext
  constructor
  · intro h
    have q := intIn_of h
    exact ⟨by omega, by omega⟩
  · intro h
    exact i64_of h.1 h.2
@[simp] theorem mulI_r (i j : Int) (h : i64 j = true) : fMulI (.int i) (.int j) s = some (.ok (.int (i * j)) s) := by
  show guard' (mulB i j) _ s = _
  unfold mulB
  rw [h, Bool.or_true]
  rfl
@[simp] theorem mulI_l (i j : Int) (h : i64 i = true) : fMulI (.int i) (.int j) s = some (.ok (.int (i * j)) s) := by
  show guard' (mulB i j) _ s = _
  unfold mulB
  rw [h, Bool.true_or]
  rfl
@[simp] theorem seqD_lst (ds : List D) : seqD ς (.lst ds) = some (true, ds) := (rfl)
@[simp] theorem seqD_rdl (ds : List D) : seqD ς (.rdl ds) = some (true, ds) := (rfl)
@[simp] theorem seqD_tup (ds : List D) : seqD ς (.tup ds) = some (false, ds) := (rfl)
@[simp] theorem seqD_loc (i : Nat) : seqD ς (.loc i) = (match ς[i]? with
    | some (some (.lst ds)) => some (true, ds)
    | _ => none) := (rfl)
@[simp] theorem seqF_lst (ds : List D) : seqF (.lst ds) = some (true, ds) := (rfl)
@[simp] theorem seqF_rdl (ds : List D) : seqF (.rdl ds) = some (true, ds) := (rfl)
@[simp] theorem seqF_tup (ds : List D) : seqF (.tup ds) = some (false, ds) := (rfl)
@[simp] theorem lstD_lst (ds : List D) : lstD ς (.lst ds) = some ds := (rfl)
@[simp] theorem lstD_loc (i : Nat) : lstD ς (.loc i) = (match ς[i]? with
    | some (some (.lst ds)) => some ds
    | _ => none) := (rfl)
@[simp] theorem ownL_loc (i : Nat) : ownL ς (.loc i) = (match ς[i]? with
    | some (some (.lst ds)) => some (i, ds)
    | _ => none) := (rfl)
theorem seqI_s (m : M D) : seqI m s = bnd m (fun d => match seqF d with
  | some (_, ds) => ret ds
  | none => fail) s := (rfl)
def rng1F : List D → M (List D) := fun ds => match ds with
  | [.int j] => guard' (rngB j) (ret (rngL 0 j.toNat))
  | _ => fail
def rng2F : List D → M (List D) := fun ds => match ds with
  | [.int i, .int j] => guard' (rngB i && rngB j) (ret (rngL i (j - i).toNat))
  | _ => fail
theorem rng1_s (n : M (List D)) : rng1 n s = bnd n rng1F s := (rfl)
theorem rng2_s (n : M (List D)) : rng2 n s = bnd n rng2F s := (rfl)
theorem rngB_of {i : Int} (h : -1000000000 ≤ i) (h' : i ≤ 1000000000) : rngB i = true := intIn_to (by omega) (by omega)
theorem rng1F_i {j : Int} (h : -1000000000 ≤ j) (h' : j ≤ 1000000000) : rng1F [.int j] s = some (.ok (rngL 0 j.toNat) s) := by
  show guard' (rngB j) (ret (rngL 0 j.toNat)) s = _
  rw [rngB_of h h']
  rfl
theorem rng1F_n {j : Nat} (h' : j ≤ 1000000000) : rng1F [.int j] s = some (.ok (rngL 0 j) s) := rng1F_i (by omega) (by omega)
theorem rng2F_i {i j : Int} (h : -1000000000 ≤ i) (h' : i ≤ 1000000000) (k : -1000000000 ≤ j) (k' : j ≤ 1000000000) : rng2F [.int i, .int j] s = some (.ok (rngL i (j - i).toNat) s) := by
  show guard' (rngB i && rngB j) (ret (rngL i (j - i).toNat)) s = _
  rw [rngB_of h h', rngB_of k k']
  rfl
theorem forS_s (src : M (List D)) (g : Tg) (m : M Fl) : forS src g m s = bnd src (fun ds => forD g m ds) s := (rfl)
@[simp] theorem forD_nil (g : Tg) (m : M Fl) : forD g m [] s = some (.ok .nx s) := (rfl)
theorem forD_cons (g : Tg) (m : M Fl) (d : D) (ds : List D) : forD g m (d :: ds) s = (match g d s with
    | some s' => bnd m (turnF (forD g m ds)) s'
    | none => none) := (rfl)
theorem turnF_nx (k : M Fl) : turnF k .nx s = k s := (rfl)
theorem turnF_ct (k : M Fl) : turnF k .ct s = k s := (rfl)
theorem turnF_bk (k : M Fl) : turnF k .bk s = some (.ok .nx s) := (rfl)
theorem turnF_rt (k : M Fl) (d : D) : turnF k (.rt d) s = some (.ok (.rt d) s) := (rfl)
@[simp] theorem gnil_s : gnil [] s = some s := (rfl)
@[simp] theorem gcons_s (g : Tg) (r : List D → S → Option S) (d : D) (ds : List D) : gcons g r (d :: ds) s = (g d s).bind (r ds) := (rfl)
@[simp] theorem gtup_s (n : Nat) (r : List D → S → Option S) (d : D) : gtup n r d s = (match seqD s.s d with
  | some (_, ds) => if ds.length = n then r ds s else none
  | none => none) := (rfl)
theorem parS_s (i j : Nat) (n : M (List D)) : parS i j n s = bnd n (fun ds s => match ds with
  | [v, w] => some (.ok .nx { s with e := (s.e.set i (some v)).set j (some w) })
  | _ => none) s := (rfl)
def optD (o : Option D) : M D := fun s => match o with
  | some x => some (.ok x s)
  | none => none
@[simp] theorem optD_some (x : D) : optD (some x) s = some (.ok x s) := (rfl)
theorem fIx_of (d : D) (i : Int) {k : Bool} {ds : List D} (h : seqD s.s d = some (k, ds)) : fIx d (.int i) s = optD (atI ds i) s := by
  unfold fIx
  rw [h]
  dsimp only
  cases atI ds i <;> rfl
@[simp] theorem fIx_lst (ds : List D) (i : Int) : fIx (.lst ds) (.int i) s = optD (atI ds i) s := fIx_of _ i (k := true) rfl
@[simp] theorem fIx_rdl (ds : List D) (i : Int) : fIx (.rdl ds) (.int i) s = optD (atI ds i) s := fIx_of _ i (k := true) rfl
@[simp] theorem fIx_tup (ds : List D) (i : Int) : fIx (.tup ds) (.int i) s = optD (atI ds i) s := fIx_of _ i (k := false) rfl
theorem fIx_loc {l : Nat} {ds : List D} (h : s.s[l]? = some (some (.lst ds))) (i : Int) : fIx (.loc l) (.int i) s = optD (atI ds i) s := fIx_of (.loc l) i (k := true) (by simp [h])
@[simp] theorem fIx_loc0 {ds : List D} {e : List (Option D)} {r : Store} (i : Int) : fIx (.loc 0) (.int i) ⟨e, some (.lst ds) :: r⟩ = optD (atI ds i) ⟨e, some (.lst ds) :: r⟩ := fIx_loc rfl i
/-! an item by a literal index -/
theorem atI_n {α : Type} (xs : List α) (n : Nat) : atI xs (n : Int) = xs[n]? := by
  unfold atI ixN
  by_cases h : n < xs.length
  · rw [if_pos (by omega), if_pos (by omega)]
    rfl
  · rw [if_pos (by omega), if_neg (by omega), List.getElem?_eq_none (by omega)]
    rfl
@[simp] theorem atI_0 {α : Type} (xs : List α) : atI xs 0 = xs[0]? := atI_n xs 0
@[simp] theorem atI_2 {α : Type} (xs : List α) : atI xs 2 = xs[2]? := atI_n xs 2
@[simp] theorem atI_3 {α : Type} (xs : List α) : atI xs 3 = xs[3]? := atI_n xs 3
@[simp] theorem atI_4 {α : Type} (xs : List α) : atI xs 4 = xs[4]? := atI_n xs 4
@[simp] theorem atI_5 {α : Type} (xs : List α) : atI xs 5 = xs[5]? := atI_n xs 5
@[simp] theorem atI_6 {α : Type} (xs : List α) : atI xs 6 = xs[6]? := atI_n xs 6
@[simp] theorem atI_7 {α : Type} (xs : List α) : atI xs 7 = xs[7]? := atI_n xs 7
@[simp] theorem atI_8 {α : Type} (xs : List α) : atI xs 8 = xs[8]? := atI_n xs 8
@[simp] theorem atI_9 {α : Type} (xs : List α) : atI xs 9 = xs[9]? := atI_n xs 9
@[simp] theorem atI_10 {α : Type} (xs : List α) : atI xs 10 = xs[10]? := atI_n xs 10
@[simp] theorem atI_11 {α : Type} (xs : List α) : atI xs 11 = xs[11]? := atI_n xs 11
@[simp] theorem atI_12 {α : Type} (xs : List α) : atI xs 12 = xs[12]? := atI_n xs 12
@[simp] theorem atI_13 {α : Type} (xs : List α) : atI xs 13 = xs[13]? := atI_n xs 13
@[simp] theorem atI_14 {α : Type} (xs : List α) : atI xs 14 = xs[14]? := atI_n xs 14
@[simp] theorem atI_15 {α : Type} (xs : List α) : atI xs 15 = xs[15]? := atI_n xs 15
@[simp] theorem atI_16 {α : Type} (xs : List α) : atI xs 16 = xs[16]? := atI_n xs 16
@[simp] theorem atI_17 {α : Type} (xs : List α) : atI xs 17 = xs[17]? := atI_n xs 17
@[simp] theorem atI_18 {α : Type} (xs : List α) : atI xs 18 = xs[18]? := atI_n xs 18
@[simp] theorem atI_19 {α : Type} (xs : List α) : atI xs 19 = xs[19]? := atI_n xs 19
@[simp] theorem atI_20 {α : Type} (xs : List α) : atI xs 20 = xs[20]? := atI_n xs 20
theorem ixN_nat {n j : Nat} (h : j < n) : ixN n (j : Int) = some j := by
  unfold ixN
  rw [if_pos (by omega), if_pos (by omega)]
  rfl
@[simp] theorem ixN_0 {n : Nat} : ixN (n + 1) 0 = some 0 := ixN_nat (j := 0) (by omega)
@[simp] theorem ixN_1 {n : Nat} : ixN (n + 2) 1 = some 1 := ixN_nat (j := 1) (by omega)
@[simp] theorem ixN_2 {n : Nat} : ixN (n + 3) 2 = some 2 := ixN_nat (j := 2) (by omega)
@[simp] theorem ixN_3 {n : Nat} : ixN (n + 4) 3 = some 3 := ixN_nat (j := 3) (by omega)
@[simp] theorem ixN_4 {n : Nat} : ixN (n + 5) 4 = some 4 := ixN_nat (j := 4) (by omega)
@[simp] theorem ixN_5 {n : Nat} : ixN (n + 6) 5 = some 5 := ixN_nat (j := 5) (by omega)
@[simp] theorem ixN_6 {n : Nat} : ixN (n + 7) 6 = some 6 := ixN_nat (j := 6) (by omega)
@[simp] theorem ixN_7 {n : Nat} : ixN (n + 8) 7 = some 7 := ixN_nat (j := 7) (by omega)
@[simp] theorem atI_1 {α : Type} (xs : List α) : atI xs 1 = xs[1]? := atI_n xs 1
@[simp] theorem fInt_i (i : Int) : fInt [.int i] s = some (.ok (.int i) s) := (rfl)
@[simp] theorem fMax2_i (i j : Int) : fMax2 [.int i, .int j] s = some (.ok (.int (max i j)) s) := (rfl)
@[simp] theorem fMin2_i (i j : Int) : fMin2 [.int i, .int j] s = some (.ok (.int (min i j)) s) := (rfl)
theorem fTuple_of (d : D) {k : Bool} {ds : List D} (h : seqD s.s d = some (k, ds)) : fTuple [d] s = some (.ok (.tup ds) s) := by
  unfold fTuple
  cases k <;> simp [h]
@[simp] theorem fTuple_lst (ds : List D) : fTuple [.lst ds] s = some (.ok (.tup ds) s) := fTuple_of _ (k := true) rfl
@[simp] theorem fTuple_rdl (ds : List D) : fTuple [.rdl ds] s = some (.ok (.tup ds) s) := fTuple_of _ (k := true) rfl
@[simp] theorem fTuple_tup (ds : List D) : fTuple [.tup ds] s = some (.ok (.tup ds) s) := fTuple_of _ (k := false) rfl
theorem fList_of (o : Bool) (d : D) {k : Bool} {ds : List D} (h : seqD s.s d = some (k, ds)) : fList o [d] s = mk o ds s := by
  unfold fList
  simp [h]
@[simp] theorem fList_lst (o : Bool) (ds : List D) : fList o [.lst ds] s = mk o ds s := fList_of o _ (k := true) rfl
@[simp] theorem fList_rdl (o : Bool) (ds : List D) : fList o [.rdl ds] s = mk o ds s := fList_of o _ (k := true) rfl
@[simp] theorem fList_tup (o : Bool) (ds : List D) : fList o [.tup ds] s = mk o ds s := fList_of o _ (k := false) rfl
theorem fLen_s (d : D) {k : Bool} {ds : List D} (h : seqD s.s d = some (k, ds)) : fLen [d] s = some (.ok (.int ds.length) s) := by
  cases d <;> simp only [seqD] at h <;> first | cases h | skip
  all_goals first | rfl | (unfold fLen; simp only [seqD]; split at h <;> first | (cases h; rfl) | cases h) 
@[simp] theorem fLen_lst (ds : List D) : fLen [.lst ds] s = some (.ok (.int ds.length) s) := (rfl)
@[simp] theorem fLen_rdl (ds : List D) : fLen [.rdl ds] s = some (.ok (.int ds.length) s) := (rfl)
@[simp] theorem fLen_tup (ds : List D) : fLen [.tup ds] s = some (.ok (.int ds.length) s) := (rfl)
@[simp] theorem intsOf_map (ns : List Int) : intsOf ς (.lst (ns.map .int)) = some ns := by unfold intsOf; simp [intsD_map]
@[simp] theorem fSum_map (ns : List Int) : fSum [.lst (ns.map .int)] s = some (.ok (.int ns.sum) s) := by unfold fSum; simp
@[simp] theorem fIsN_non (neg : Bool) (d : D) : fIsN neg d .non s = some (.ok (.bl (if neg then !d.isN else d.isN)) s) := (rfl)
@[simp] theorem isN_non : D.isN .non = true := (rfl)
@[simp] theorem isN_int (i : Int) : D.isN (.int i) = false := (rfl)
@[simp] theorem isN_bl (i : Bool) : D.isN (.bl i) = false := (rfl)
@[simp] theorem isN_str (i : Str) : D.isN (.str i) = false := (rfl)
@[simp] theorem isN_lst (i : List D) : D.isN (.lst i) = false := (rfl)
@[simp] theorem isN_tup (i : List D) : D.isN (.tup i) = false := (rfl)
@[simp] theorem isN_loc (i : Nat) : D.isN (.loc i) = false := (rfl)
theorem callF_s (f : DF) (ds : List D) : callF f ds s = (match f ds s.s with
  | none => none
  | some (.ok d ς) => some (.ok d { s with s := ς })
  | some (.exc C fs ς) => some (.exc C fs { s with s := ς })) := (rfl)
def setF (d k v : D) : M Fl := fun s => match ownL s.s d, k with
  | some (i, xs), .int j => match ixN xs.length j with
    | some n => some (.ok .nx (putS s i (.lst (xs.set n v))))
    | none => none
  | _, _ => none
theorem setL_s (mo mi me : M D) : setL mo mi me s = bnd me (fun v => bnd mo fun d => bnd mi fun k => setF d k v) s := (rfl)
theorem setF_loc {l : Nat} {xs : List D} (h : s.s[l]? = some (some (.lst xs))) {j : Int} {n : Nat} (hn : ixN xs.length j = some n) (v : D) : setF (.loc l) (.int j) v s = some (.ok .nx ⟨s.e, s.s.set l (some (.lst (xs.set n v)))⟩) := by
  unfold setF
  simp [h, hn, putS]
@[simp] theorem setF_loc0 {xs : List D} {e : List (Option D)} {r : Store} {j : Int} (v : D) : setF (.loc 0) (.int j) v ⟨e, some (.lst xs) :: r⟩ = (match ixN xs.length j with
    | some n => some (.ok .nx ⟨e, some (.lst (xs.set n v)) :: r⟩)
    | none => none) := (rfl)
/-! a list of one's own, the last in the store -/
@[simp] theorem append_last {ς : Store} {e : List (Option D)} {acc : List D} {y : D} (h : small acc.length = true) : fAppend (.loc ς.length) [y] ⟨e, ς ++ [some (.lst acc)]⟩ = some (.ok .non ⟨e, ς ++ [some (.lst (acc ++ [y]))]⟩) := by
  unfold fAppend
  simp [h, putS]
theorem mthL_s (f : D → List D → M D) (m : M D) (n : M (List D)) : mthL f m n s = bnd m (fun d => chk (fun ς => isL ς d) (bnd n (f d))) s := (rfl)
theorem chk_s {β : Type} (p : Store → Bool) (m : M β) : chk p m s = guard' (p s.s) m s := (rfl)
@[simp] theorem isL_lst (ds : List D) : isL ς (.lst ds) = true := (rfl)
theorem isL_loc {i : Nat} {ds : List D} (h : ς[i]? = some (some (.lst ds))) : isL ς (.loc i) = true := by
  unfold isL
  simp [h]
@[simp] theorem isL_last {acc : List D} : isL (ς ++ [some (.lst acc)]) (.loc ς.length) = true := isL_loc (ds := acc) (by simp)
theorem nameF_last {e : List (Option D)} {acc : List D} {i : Nat} (h : e[i]? = some (some (.loc ς.length))) : nameF i ⟨e, ς ++ [some (.lst acc)]⟩ = some (.ok (.lst acc) ⟨e.set i (some (.lst acc)), ς ++ [none]⟩) := by
  unfold nameF
  simp [h, frzO, O.isTab]
@[simp] theorem sflat_nil : sflat [] = true := (rfl)
@[simp] theorem sflat_none (r : Store) : sflat (none :: r) = sflat r := (rfl)
@[simp] theorem sflat_lst (ds : List D) (r : Store) : sflat (some (.lst ds) :: r) = (ds.all D.flat && sflat r) := by
  show (O.flat (.lst ds) && sflat r) = _
  simp [O.flat, flatL_all]
/-! isinstance -/
@[simp] theorem kit_NoneType_bool : L2.kitB "NoneType" "bool" = some false := (rfl)
@[simp] theorem kit_NoneType_int : L2.kitB "NoneType" "int" = some false := (rfl)
@[simp] theorem kit_NoneType_str : L2.kitB "NoneType" "str" = some false := (rfl)
@[simp] theorem kit_NoneType_list : L2.kitB "NoneType" "list" = some false := (rfl)
@[simp] theorem kit_NoneType_tuple : L2.kitB "NoneType" "tuple" = some false := (rfl)
@[simp] theorem kit_NoneType_dict : L2.kitB "NoneType" "dict" = some false := (rfl)
@[simp] theorem kit_bool_bool : L2.kitB "bool" "bool" = some true := (rfl)
@[simp] theorem kit_bool_int : L2.kitB "bool" "int" = some true := (rfl)
@[simp] theorem kit_bool_str : L2.kitB "bool" "str" = some false := (rfl)
@[simp] theorem kit_bool_list : L2.kitB "bool" "list" = some false := (rfl)
@[simp] theorem kit_bool_tuple : L2.kitB "bool" "tuple" = some false := (rfl)
@[simp] theorem kit_bool_dict : L2.kitB "bool" "dict" = some false := (rfl)
@[simp] theorem kit_int_bool : L2.kitB "int" "bool" = some false := (rfl)
@[simp] theorem kit_int_int : L2.kitB "int" "int" = some true := (rfl)
@[simp] theorem kit_int_str : L2.kitB "int" "str" = some false := (rfl)
@[simp] theorem kit_int_list : L2.kitB "int" "list" = some false := (rfl)
@[simp] theorem kit_int_tuple : L2.kitB "int" "tuple" = some false := (rfl)
@[simp] theorem kit_int_dict : L2.kitB "int" "dict" = some false := (rfl)
@[simp] theorem kit_str_bool : L2.kitB "str" "bool" = some false := (rfl)
@[simp] theorem kit_str_int : L2.kitB "str" "int" = some false := (rfl)
@[simp] theorem kit_str_str : L2.kitB "str" "str" = some true := (rfl)
@[simp] theorem kit_str_list : L2.kitB "str" "list" = some false := (rfl)
@[simp] theorem kit_str_tuple : L2.kitB "str" "tuple" = some false := (rfl)
@[simp] theorem kit_str_dict : L2.kitB "str" "dict" = some false := (rfl)
@[simp] theorem kit_list_bool : L2.kitB "list" "bool" = some false := (rfl)
@[simp] theorem kit_list_int : L2.kitB "list" "int" = some false := (rfl)
@[simp] theorem kit_list_str : L2.kitB "list" "str" = some false := (rfl)
@[simp] theorem kit_list_list : L2.kitB "list" "list" = some true := (rfl)
@[simp] theorem kit_list_tuple : L2.kitB "list" "tuple" = some false := (rfl)
@[simp] theorem kit_list_dict : L2.kitB "list" "dict" = some false := (rfl)
@[simp] theorem kit_tuple_bool : L2.kitB "tuple" "bool" = some false := (rfl)
@[simp] theorem kit_tuple_int : L2.kitB "tuple" "int" = some false := (rfl)
@[simp] theorem kit_tuple_str : L2.kitB "tuple" "str" = some false := (rfl)
@[simp] theorem kit_tuple_list : L2.kitB "tuple" "list" = some false := (rfl)
@[simp] theorem kit_tuple_tuple : L2.kitB "tuple" "tuple" = some true := (rfl)
@[simp] theorem kit_tuple_dict : L2.kitB "tuple" "dict" = some false := (rfl)
@[simp] theorem kit_dict_bool : L2.kitB "dict" "bool" = some false := (rfl)
@[simp] theorem kit_dict_int : L2.kitB "dict" "int" = some false := (rfl)
@[simp] theorem kit_dict_str : L2.kitB "dict" "str" = some false := (rfl)
@[simp] theorem kit_dict_list : L2.kitB "dict" "list" = some false := (rfl)
@[simp] theorem kit_dict_tuple : L2.kitB "dict" "tuple" = some false := (rfl)
@[simp] theorem kit_dict_dict : L2.kitB "dict" "dict" = some true := (rfl)
def isiF (d : D) (ts : List String) : M D := fun s => match tyN s.s d with
  | some t => match anyTy t ts with
    | some b => some (.ok (.bl b) s)
    | none => none
  | none => none
theorem isiT_s (m : M D) (ts : List String) : isiT m ts s = bnd m (fun d => isiF d ts) s := (rfl)
@[simp] theorem isiF_non  (ts : List String) : isiF .non ts s = (match anyTy "NoneType" ts with
    | some b => some (.ok (.bl b) s)
    | none => none) := (rfl)
@[simp] theorem fIsi_non  (T : String) : fIsi [.non, .ty T] s = (match L2.kitB "NoneType" T with
    | some b => some (.ok (.bl b) s)
    | none => none) := (rfl)
@[simp] theorem isiF_bl (b : Bool) (ts : List String) : isiF (.bl b) ts s = (match anyTy "bool" ts with
    | some b => some (.ok (.bl b) s)
    | none => none) := (rfl)
@[simp] theorem fIsi_bl (b : Bool) (T : String) : fIsi [(.bl b), .ty T] s = (match L2.kitB "bool" T with
    | some b => some (.ok (.bl b) s)
    | none => none) := (rfl)
@[simp] theorem isiF_int (i : Int) (ts : List String) : isiF (.int i) ts s = (match anyTy "int" ts with
    | some b => some (.ok (.bl b) s)
    | none => none) := (rfl)
@[simp] theorem fIsi_int (i : Int) (T : String) : fIsi [(.int i), .ty T] s = (match L2.kitB "int" T with
    | some b => some (.ok (.bl b) s)
    | none => none) := (rfl)
@[simp] theorem isiF_str (x : Str) (ts : List String) : isiF (.str x) ts s = (match anyTy "str" ts with
    | some b => some (.ok (.bl b) s)
    | none => none) := (rfl)
@[simp] theorem fIsi_str (x : Str) (T : String) : fIsi [(.str x), .ty T] s = (match L2.kitB "str" T with
    | some b => some (.ok (.bl b) s)
    | none => none) := (rfl)
@[simp] theorem isiF_lst (ds : List D) (ts : List String) : isiF (.lst ds) ts s = (match anyTy "list" ts with
    | some b => some (.ok (.bl b) s)
    | none => none) := (rfl)
@[simp] theorem fIsi_lst (ds : List D) (T : String) : fIsi [(.lst ds), .ty T] s = (match L2.kitB "list" T with
    | some b => some (.ok (.bl b) s)
    | none => none) := (rfl)
@[simp] theorem isiF_rdl (ds : List D) (ts : List String) : isiF (.rdl ds) ts s = (match anyTy "list" ts with
    | some b => some (.ok (.bl b) s)
    | none => none) := (rfl)
@[simp] theorem fIsi_rdl (ds : List D) (T : String) : fIsi [(.rdl ds), .ty T] s = (match L2.kitB "list" T with
    | some b => some (.ok (.bl b) s)
    | none => none) := (rfl)
@[simp] theorem isiF_tup (ds : List D) (ts : List String) : isiF (.tup ds) ts s = (match anyTy "tuple" ts with
    | some b => some (.ok (.bl b) s)
    | none => none) := (rfl)
@[simp] theorem fIsi_tup (ds : List D) (T : String) : fIsi [(.tup ds), .ty T] s = (match L2.kitB "tuple" T with
    | some b => some (.ok (.bl b) s)
    | none => none) := (rfl)
@[simp] theorem isiF_dct (kv : List (Key × D)) (ts : List String) : isiF (.dct kv) ts s = (match anyTy "dict" ts with
    | some b => some (.ok (.bl b) s)
    | none => none) := (rfl)
@[simp] theorem fIsi_dct (kv : List (Key × D)) (T : String) : fIsi [(.dct kv), .ty T] s = (match L2.kitB "dict" T with
    | some b => some (.ok (.bl b) s)
    | none => none) := (rfl)
@[simp] theorem anyTy_nil (t : String) : anyTy t [] = some false := (rfl)
@[simp] theorem anyTy_cons (t T : String) (r : List String) : anyTy t (T :: r) = (match L2.kitB t T with
  | some true => some true
  | some false => anyTy t r
  | none => none) := (rfl)
/-! == -/
theorem shaped_i (i : Int) : SeqAt.shaped (.int i) = true := by simp [SeqAt.shaped, PyData.canLay0, PyData.depth]
theorem shaped_b (i : Bool) : SeqAt.shaped (.bool i) = true := by simp [SeqAt.shaped, PyData.canLay0, PyData.depth]
theorem shaped_n : SeqAt.shaped .none = true := by simp [SeqAt.shaped, PyData.canLay0, PyData.depth]
theorem shaped_s {x : Str} (h : PyData.strOk x = true) : SeqAt.shaped (.str x) = true := by simp [SeqAt.shaped, PyData.canLay0, PyData.depth, h]
theorem shaped_l0 : SeqAt.shaped (.list []) = true := by simp [SeqAt.shaped, PyData.canLay0, PyData.canLayAll0, PyData.depth, PyData.depthAll]
theorem pyL_ints (ns : List Int) : pyL (ns.map .int) = some (ns.map .int) := by
  induction ns with
  | nil => rfl
  | cons n r ih => simp [pyL, py0, ih]
@[simp] theorem fEq_i (neg : Bool) (i j : Int) : fEq neg (.int i) (.int j) s = some (.ok (.bl (if neg then !(i == j) else i == j)) s) := by
  simp [fEq, pyS, py0, shaped_i, PyData.eqv]
@[simp] theorem fEq_b (neg : Bool) (i j : Bool) : fEq neg (.bl i) (.bl j) s = some (.ok (.bl (if neg then !(i == j) else i == j)) s) := by
  simp [fEq, pyS, py0, shaped_b, PyData.eqv]
@[simp] theorem fEq_n (neg : Bool) : fEq neg .non .non s = some (.ok (.bl (!neg)) s) := by
  cases neg <;> simp [fEq, pyS, py0, shaped_n, PyData.eqv]
theorem fEq_s (neg : Bool) {x y : Str} (hx : PyData.strOk x = true) (hy : PyData.strOk y = true) : fEq neg (.str x) (.str y) s = some (.ok (.bl (if neg then !(x == y) else x == y)) s) := by
  simp [fEq, pyS, py0, shaped_s hx, shaped_s hy, PyData.eqv]
@[simp] theorem fEq_l0 (neg : Bool) : fEq neg (.lst []) (.lst []) s = some (.ok (.bl (!neg)) s) := by
  cases neg <;> simp [fEq, pyS, py0, pyL, shaped_l0, PyData.eqv, PyData.eqvAll]
/-! a def -/
theorem mdef_s (n : Nat) (m : M Fl) (ds : List D) : mdef n m ds ς = (match m ⟨startD n ds, ς⟩ with
  | some (.ok .nx s) => some (.ok .non (cutS ς s.s true))
  | some (.ok (.rt d) s) => some (.ok d (cutS ς s.s d.flat))
  | some (.exc C fs s) => some (.exc C fs (cutS ς s.s (flatN fs)))
  | _ => none) := (rfl)
@[simp] theorem cut_self (b : Bool) : cutS ς ς b = ς := by
  unfold cutS
  split
  · exact List.take_length
  · rfl
theorem cut_same {ς' : Store} (b : Bool) (h : ς'.length = ς.length) : cutS ς ς' b = ς' := by
  unfold cutS
  split
  · rw [← h]; exact List.take_length
  · rfl
theorem cut_app {ς' r : Store} (h : ς'.length = ς.length) (f : sflat ς' = true) : cutS ς (ς' ++ r) true = ς' := by
  unfold cutS
  rw [← h, List.take_left' rfl, f]
  rfl
theorem cut_back {ς' : Store} {x : Option O} (h : ς'.length = ς.length) (f : sflat ς' = true) : cutS ς (ς' ++ [x]) true = ς' := cut_app h f
/-! flat -/
@[simp] theorem flat_int (i : Int) : (D.int i).flat = true := by simp [D.flat]
@[simp] theorem flat_bl (i : Bool) : (D.bl i).flat = true := by simp [D.flat]
@[simp] theorem flat_non : D.non.flat = true := by simp [D.flat]
@[simp] theorem flat_str (x : Str) : (D.str x).flat = true := by simp [D.flat]
@[simp] theorem flat_lst (ds : List D) : (D.lst ds).flat = ds.all D.flat := by simp [D.flat, flatL_all]
@[simp] theorem flat_rdl (ds : List D) : (D.rdl ds).flat = ds.all D.flat := by simp [D.flat, flatL_all]
@[simp] theorem flat_tup (ds : List D) : (D.tup ds).flat = ds.all D.flat := by simp [D.flat, flatL_all]
@[simp] theorem small_of {n : Nat} (h : n ≤ 1000000) : small n = true := decide_eq_true h
/-! new lists -/
theorem lcM_s (own : Bool) (vs : List Nat) (src : M (List D)) (g : Tg) (tt : M Bool) (te : M D) : lcM own vs src g tt te s = bnd src (lcK own vs g tt te) s := (rfl)
theorem rngL_0 (n : Nat) : rngL 0 n = (List.range n).map fun (k : Nat) => D.int (k : Int) := by
  unfold rngL
  congr 1
  funext k
  rw [Int.zero_add]
theorem lcR_g {α : Type} {e0 : List (Option D)} {i : Nat} {tt : M Bool} {te : M D} {f out : α → D} {P : α → Bool} : ∀ {xs : List α},
    (∀ x ∈ xs, tt ⟨e0.set i (some (f x)), ς⟩ = some (.ok (P x) ⟨e0.set i (some (f x)), ς⟩)) →
    (∀ x ∈ xs, P x = true → te ⟨e0.set i (some (f x)), ς⟩ = some (.ok (out x) ⟨e0.set i (some (f x)), ς⟩)) →
    lcR e0 (gset i) tt te (xs.map f) ς = some ((xs.filter P).map out, ς)
  | [], _, _ => rfl
  | x :: xs, h1, h2 => by
    have ih := lcR_g (xs := xs) (fun y hy => h1 y (List.mem_cons_of_mem _ hy)) (fun y hy => h2 y (List.mem_cons_of_mem _ hy))
    have q := h1 x (List.mem_cons_self ..)
    have q2 := h2 x (List.mem_cons_self ..)
    rw [List.map_cons]
    unfold lcR
    rw [gset_s]
    show (match tt ⟨e0.set i (some (f x)), ς⟩ with | some (.ok true s2) => _ | some (.ok false s2) => _ | _ => _) = _
    rw [q]
    cases hp : P x with
    | false =>
      rw [List.filter_cons, hp]
      exact ih
    | true =>
      rw [List.filter_cons, hp]
      show (match te ⟨e0.set i (some (f x)), ς⟩ with | some (.ok y s3) => _ | _ => _) = _
      rw [q2 hp]
      show Option.map _ (lcR e0 (gset i) tt te (xs.map f) ς) = _
      rw [ih]
      rfl
theorem lcK_g {α : Type} {e : List (Option D)} {i : Nat} {tt : M Bool} {te : M D} {f out : α → D} {P : α → Bool} {xs : List α} (hs : small xs.length = true)
    (h1 : ∀ x ∈ xs, tt ⟨e.set i (some (f x)), ς⟩ = some (.ok (P x) ⟨e.set i (some (f x)), ς⟩))
    (h2 : ∀ x ∈ xs, P x = true → te ⟨e.set i (some (f x)), ς⟩ = some (.ok (out x) ⟨e.set i (some (f x)), ς⟩)) :
    lcK false [i] (gset i) tt te (xs.map f) ⟨e, ς⟩ = some (.ok (.lst ((xs.filter P).map out)) ⟨e, ς⟩) := by
  have z : wipeD e [i] = e.set i none := (rfl)
  have q := lcR_g (e0 := wipeD e [i]) (i := i) (tt := tt) (te := te) (f := f) (out := out) (P := P) (xs := xs) (ς := ς) (by
    intro x hx
    rw [z, List.set_set]
    exact h1 x hx) (by
    intro x hx
    rw [z, List.set_set]
    exact h2 x hx)
  unfold lcK
  rw [q]
  have hl : small ((xs.filter P).map out).length = true := by
    have := of_decide_eq_true hs
    have := List.length_filter_le P xs
    exact small_of (by rw [List.length_map]; omega)
  show guard' (small ((xs.filter P).map out).length) _ _ = _
  rw [hl]
  rfl
/-- all of them -/
theorem lcK_m {α : Type} {e : List (Option D)} {i : Nat} {te : M D} {f out : α → D} {xs : List α} (hs : small xs.length = true)
    (h2 : ∀ x ∈ xs, te ⟨e.set i (some (f x)), ς⟩ = some (.ok (out x) ⟨e.set i (some (f x)), ς⟩)) :
    lcK false [i] (gset i) (ret true) te (xs.map f) ⟨e, ς⟩ = some (.ok (.lst (xs.map out)) ⟨e, ς⟩) := by
  have q := lcK_g (tt := ret true) (te := te) (P := fun _ => true) (f := f) (out := out) (ς := ς) (e := e) hs (fun x _ => rfl) (fun x hx _ => h2 x hx)
  rw [q, List.filter_eq_self.mpr (by simp)]
/-! dicts -/
@[simp] theorem newD_s : newD s = some (.ok (.loc s.s.length) ⟨s.e, s.s ++ [some (.dct [])]⟩) := (rfl)
@[simp] theorem keyD_i (i : Int) : keyD (.int i) = some (.inl i) := (rfl)
@[simp] theorem keyD_s (x : Str) : keyD (.str x) = some (.inr x) := (rfl)
def getF (d k : D) : M D := fun s => match dctD s.s d, keyD k with
  | some ms, some k => optD (valD ms k) s
  | _, _ => none
theorem getD_s (md mk : M D) : getD' md mk s = bnd md (fun d => bnd mk fun k => getF d k) s := by
  have e : (fun (d k : D) (s : S) => (match dctD s.s d, keyD k with
    | some ms, some k => (match valD ms k with
      | some v => some (.ok v s)
      | none => none)
    | _, _ => none : Option (Out D))) = getF := by
    funext d k s
    unfold getF
    cases dctD s.s d with
    | none => rfl
    | some ms =>
      cases keyD k with
      | none => rfl
      | some k =>
        dsimp only
        cases valD ms k <;> rfl
  rw [← e]
  rfl
def get2F (d k x : D) : M D := fun s => match dctD s.s d, keyD k with
  | some ms, some k => some (.ok ((valD ms k).getD x) s)
  | _, _ => none
theorem get2D_s (md mk mx : M D) : get2D md mk mx s = bnd md (fun d => chk (fun ς => (dctD ς d).isSome) (bnd mk fun k => bnd mx fun x => get2F d k x)) s := (rfl)
def putF (d k v : D) : M Fl := fun s => match ownD s.s d, keyD k with
  | some (i, ms), some k => guard' (small ms.length) (ret .nx) (putS s i (.dct (putD ms k v)))
  | _, _ => none
theorem putDS_s (md mk mv : M D) : putDS md mk mv s = bnd mv (fun v => bnd md fun d => bnd mk fun k => putF d k v) s := (rfl)
theorem dctD_loc {i : Nat} {ms : List (Key × D)} (h : ς[i]? = some (some (.dct ms))) : dctD ς (.loc i) = some ms := by
  unfold dctD
  simp [h]
theorem get2F_loc {i : Nat} {e : List (Option D)} {ms : List (Key × D)} (h : ς[i]? = some (some (.dct ms))) {k : D} {q : Key} (hk : keyD k = some q) (x : D) : get2F (.loc i) k x ⟨e, ς⟩ = some (.ok ((valD ms q).getD x) ⟨e, ς⟩) := by
  unfold get2F
  rw [dctD_loc h, hk]
theorem getF_loc {i : Nat} {e : List (Option D)} {ms : List (Key × D)} (h : ς[i]? = some (some (.dct ms))) {k : D} {q : Key} (hk : keyD k = some q) : getF (.loc i) k ⟨e, ς⟩ = optD (valD ms q) ⟨e, ς⟩ := by
  unfold getF
  rw [dctD_loc h, hk]
theorem putF_loc {i : Nat} {e : List (Option D)} {ms : List (Key × D)} (h : ς[i]? = some (some (.dct ms))) {k : D} {q : Key} (hk : keyD k = some q) (hs : small ms.length = true) (v : D) : putF (.loc i) k v ⟨e, ς⟩ = some (.ok .nx ⟨e, ς.set i (some (.dct (putD ms q v)))⟩) := by
  unfold putF ownD
  simp [h, hk, hs, putS]
theorem fListDD_loc {i : Nat} {e : List (Option D)} {ms : List (Key × D)} (o : Bool) (h : ς[i]? = some (some (.dct ms))) : fListDD o [.loc i] ⟨e, ς⟩ = mk o (ms.map fun (kv : Key × D) => kD kv.1) ⟨e, ς⟩ := by
  show (match dctD ς (.loc i) with
    | some ms => mk o (ms.map fun (kv : Key × D) => kD kv.1) ⟨e, ς⟩
    | none => none) = _
  rw [dctD_loc h]
theorem append_of {i : Nat} {e : List (Option D)} {acc : List D} (h : ς[i]? = some (some (.lst acc))) (hs : small acc.length = true) (y : D) : fAppend (.loc i) [y] ⟨e, ς⟩ = some (.ok .non ⟨e, ς.set i (some (.lst (acc ++ [y])))⟩) := by
  unfold fAppend
  simp [h, hs, putS]
/-! dicts of numbers by numbers -/
abbrev DI' := List (Int × Int)
def dI (Δ : DI') : List (Key × D) := Δ.map fun p => ((.inl p.1 : Key), D.int p.2)
def lk (Δ : DI') (i : Int) : Option Int := (Δ.find? fun p => decide (p.1 = i)).map (·.2)
def gt0 (Δ : DI') (i : Int) : Int := (lk Δ i).getD 0
def putI (Δ : DI') (k v : Int) : DI' := if (Δ.any fun p => decide (p.1 = k)) = true then Δ.map (fun p => if p.1 = k then (p.1, v) else p) else Δ ++ [(k, v)]
@[simp] theorem dI_len (Δ : DI') : (dI Δ).length = Δ.length := List.length_map ..
theorem valD_dI (Δ : DI') (i : Int) : valD (dI Δ) (.inl i) = (lk Δ i).map .int := by
  unfold valD lk dI
  induction Δ with
  | nil => rfl
  | cons p r ih =>
    rw [List.map_cons, List.find?_cons, List.find?_cons]
    by_cases h : p.1 = i
    · simp [h]
    · have h2 : ¬ ((.inl p.1 : Key) = .inl i) := fun e => h (Sum.inl.inj e)
      simp only [decide_eq_false h, decide_eq_false h2]
      exact ih
theorem getD_dI (Δ : DI') (i : Int) : (valD (dI Δ) (.inl i)).getD (.int 0) = .int (gt0 Δ i) := by
  rw [valD_dI]
  unfold gt0
  cases lk Δ i <;> rfl
theorem putD_dI (Δ : DI') (k v : Int) : putD (dI Δ) (.inl k) (.int v) = dI (putI Δ k v) := by
  have e : ((dI Δ).any fun kv => decide (kv.1 = (.inl k : Key))) = (Δ.any fun p => decide (p.1 = k)) := by
    unfold dI
    rw [List.any_map]
    congr 1
    funext p
    show decide ((.inl p.1 : Key) = .inl k) = decide (p.1 = k)
    by_cases h : p.1 = k
    · simp [h]
    · have h2 : ¬ ((.inl p.1 : Key) = .inl k) := fun e => h (Sum.inl.inj e)
      rw [decide_eq_false h, decide_eq_false h2]
  unfold putD putI
  rw [e]
  by_cases h : (Δ.any fun p => decide (p.1 = k)) = true
  · rw [if_pos h, if_pos h]
    unfold dI
    rw [List.map_map, List.map_map]
    congr 1
    funext p
    show (if (.inl p.1 : Key) = .inl k then ((.inl p.1 : Key), D.int v) else ((.inl p.1 : Key), D.int p.2)) = _
    by_cases h : p.1 = k
    · simp [h]
    · have h2 : ¬ ((.inl p.1 : Key) = .inl k) := fun e => h (Sum.inl.inj e)
      rw [if_neg h2]
      simp [h]
  · rw [if_neg h, if_neg h]
    unfold dI
    rw [List.map_append]
    rfl
theorem lk_some_iff {Δ : DI'} {i : Int} : (lk Δ i).isSome = true ↔ i ∈ Δ.map (·.1) := by
  unfold lk
  simp [List.find?_isSome]
theorem lk_map (k v i : Int) : ∀ Δ : DI', lk (Δ.map fun p => if p.1 = k then (p.1, v) else p) i = if i = k then (lk Δ i).map (fun _ => v) else lk Δ i
  | [] => by unfold lk; simp
  | p :: r => by
    have ih := lk_map k v i r
    unfold lk at ih ⊢
    rw [List.map_cons, List.find?_cons, List.find?_cons]
    by_cases h : p.1 = k
    · rw [if_pos h]
      by_cases h2 : i = k
      · rw [if_pos h2]
        have h3 : p.1 = i := by omega
        simp [h3]
      · rw [if_neg h2] at ih ⊢
        have h3 : ¬ p.1 = i := by omega
        simp only [decide_eq_false h3]
        exact ih
    · rw [if_neg h]
      by_cases h3 : p.1 = i
      · have h2 : ¬ i = k := by omega
        simp [h3, h2]
      · simp only [decide_eq_false h3]
        exact ih
theorem lk_app (Δ : DI') (k v i : Int) (h : ¬ k ∈ Δ.map (·.1)) : lk (Δ ++ [(k, v)]) i = if i = k then some v else lk Δ i := by
  unfold lk
  rw [List.find?_append]
  by_cases h2 : i = k
  · subst h2
    have e : Δ.find? (fun p => decide (p.1 = i)) = none := by
      rw [List.find?_eq_none]
      intro p hp q
      exact h (List.mem_map.mpr ⟨p, hp, of_decide_eq_true q⟩)
    simp [e]
  · rw [if_neg h2]
    have h3 : ¬ k = i := fun e => h2 e.symm
    cases Δ.find? (fun p => decide (p.1 = i)) <;> simp [h3]
theorem any_key (Δ : DI') (k : Int) : (Δ.any fun p => decide (p.1 = k)) = true ↔ k ∈ Δ.map (·.1) := by
  simp
theorem lk_put (Δ : DI') (k v i : Int) : lk (putI Δ k v) i = if i = k then some v else lk Δ i := by
  unfold putI
  by_cases h : (Δ.any fun p => decide (p.1 = k)) = true
  · rw [if_pos h, lk_map]
    by_cases h2 : i = k
    · subst h2
      rw [if_pos rfl, if_pos rfl]
      have := lk_some_iff.mpr ((any_key Δ i).mp h)
      cases e : lk Δ i with
      | none => rw [e] at this; cases this
      | some w => rfl
    · rw [if_neg h2, if_neg h2]
  · rw [if_neg h]
    exact lk_app Δ k v i fun q => h ((any_key Δ k).mpr q)
theorem gt0_put (Δ : DI') (k v i : Int) : gt0 (putI Δ k v) i = if i = k then v else gt0 Δ i := by
  unfold gt0
  rw [lk_put]
  by_cases h : i = k
  · rw [if_pos h, if_pos h]; rfl
  · rw [if_neg h, if_neg h]
theorem keys_put (Δ : DI') (k v : Int) : (putI Δ k v).map (·.1) = if k ∈ Δ.map (·.1) then Δ.map (·.1) else Δ.map (·.1) ++ [k] := by
  unfold putI
  by_cases h : (Δ.any fun p => decide (p.1 = k)) = true
  · rw [if_pos h, if_pos ((any_key Δ k).mp h), List.map_map]
    congr 1
    funext p
    show (if p.1 = k then (p.1, v) else p).1 = p.1
    by_cases h : p.1 = k <;> simp [h]
  · rw [if_neg h, if_neg fun q => h ((any_key Δ k).mpr q), List.map_append]
    rfl
theorem keys_put_mem (Δ : DI') (k v i : Int) : i ∈ (putI Δ k v).map (·.1) ↔ i ∈ Δ.map (·.1) ∨ i = k := by
  rw [keys_put]
  by_cases h : k ∈ Δ.map (·.1)
  · rw [if_pos h]
    exact ⟨.inl, fun q => q.elim id fun e => by rw [e]; exact h⟩
  · rw [if_neg h, List.mem_append, List.mem_singleton]
theorem keys_put_nodup {Δ : DI'} {k v : Int} (h : (Δ.map (·.1)).Nodup) : ((putI Δ k v).map (·.1)).Nodup := by
  rw [keys_put]
  by_cases q : k ∈ Δ.map (·.1)
  · rw [if_pos q]; exact h
  · rw [if_neg q, List.nodup_append]
    refine ⟨h, by simp, ?_⟩
    intro a ha b hb e
    rw [List.mem_singleton.mp hb] at e
    exact q (e ▸ ha)
theorem put_len (Δ : DI') (k v : Int) : (putI Δ k v).length ≤ Δ.length + 1 := by
  have e := congrArg List.length (keys_put Δ k v)
  rw [List.length_map] at e
  rw [e]
  split <;> simp
end
end DL

/-! from DW.lean -/
set_option Elab.async false
set_option linter.all false
set_option maxRecDepth 100000
set_option maxHeartbeats 4000000
/-! DW: what the end of a mirror's run is held to (W, WF), and the rows by which simp walks through a mirror. -/
namespace DL
open PySem L2
abbrev EX := Str → List (Str × D) → S → Prop
abbrev EX0 : EX := fun _ _ _ => False
abbrev EF := Str → List (Str × D) → Store → Prop
abbrev EF0 : EF := fun _ _ _ => False
/-- keeps simp out of what comes after -/
inductive Tag {β : Type} (Q : β → S → Prop) (E : EX) : Type where
  | mk
inductive TagF (Q : D → Store → Prop) (E : EF) : Type where
  | mk
def W {β : Type} (o : Option (Out β)) (Q : β → S → Prop) (E : EX) (_k : Tag Q E := .mk) : Prop := match o with
  | none => False
  | some (.ok b s') => Q b s'
  | some (.exc C fs s') => E C fs s'
def WF (o : Option OutF) (Q : D → Store → Prop) (E : EF) (_k : TagF Q E := .mk) : Prop := match o with
  | none => False
  | some (.ok d ς') => Q d ς'
  | some (.exc C fs ς') => E C fs ς'
@[simp] theorem W_ok {β : Type} (b : β) (s : S) (Q : β → S → Prop) (E : EX) : W (some (.ok b s)) Q E = Q b s := (rfl)
@[simp] theorem W_exc {β : Type} (C : Str) (fs : List (Str × D)) (s : S) (Q : β → S → Prop) (E : EX) : W (some (.exc C fs s)) Q E = E C fs s := (rfl)
@[simp] theorem WF_okF (d : D) (ς : Store) (Q : D → Store → Prop) (E : EF) : WF (some (.ok d ς)) Q E = Q d ς := (rfl)
@[simp] theorem WF_excF (C : Str) (fs : List (Str × D)) (ς : Store) (Q : D → Store → Prop) (E : EF) : WF (some (.exc C fs ς)) Q E = E C fs ς := (rfl)
def tstD : D → M Bool := fun d => match d with
  | .bl b => ret b
  | _ => fail
@[simp] theorem tstD_b (b : Bool) : tstD (.bl b) = ret b := (rfl)
def tgM (g : Tg) (d : D) : M Fl := fun s => match g d s with
  | some s' => some (.ok .nx s')
  | none => none
theorem tgM_s (g : Tg) (d : D) (s : S) : tgM g d s = (match g d s with
  | some s' => some (.ok .nx s')
  | none => none) := (rfl)
def seqM (d : D) : M (List D) := fun s => match seqF d with
  | some (_, ds) => some (.ok ds s)
  | none => none
@[simp] theorem seqM_lst (ds : List D) (s : S) : seqM (.lst ds) s = some (.ok ds s) := (rfl)
@[simp] theorem seqM_rdl (ds : List D) (s : S) : seqM (.rdl ds) s = some (.ok ds s) := (rfl)
@[simp] theorem seqM_tup (ds : List D) (s : S) : seqM (.tup ds) s = some (.ok ds s) := (rfl)
def parF (i j : Nat) (ds : List D) : M Fl := fun s => match ds with
  | [v, w] => some (.ok .nx { s with e := (s.e.set i (some v)).set j (some w) })
  | _ => none
@[simp] theorem parF_s (i j : Nat) (v w : D) (s : S) : parF i j [v, w] s = some (.ok .nx ⟨(s.e.set i (some v)).set j (some w), s.s⟩) := (rfl)
def isiTF (ts : List String) (d : D) : M D := fun s => match tyN s.s d with
  | some t => (match anyTy t ts with
    | some b => some (.ok (.bl b) s)
    | none => none)
  | none => none
section
variable {β γ : Type} {s s' : S} {Q Q' : β → S → Prop} {E E' : EX}
theorem W_mono {o : Option (Out β)} (h : W o Q E) (k : ∀ b s', Q b s' → Q' b s') (k' : ∀ C fs s', E C fs s' → E' C fs s') : W o Q' E' := by
  cases o with
  | none => exact h
  | some o =>
    cases o with
    | ok b s' => exact k b s' h
    | exc C fs s' => exact k' C fs s' h
theorem W_cong {o : Option (Out β)} (h : ∀ b s', Q b s' = Q' b s') : W o Q E = W o Q' E := by
  have e : Q = Q' := funext fun b => funext fun s' => h b s'
  subst e
  rfl
theorem W_post {o : Option (Out β)} (h : W o Q E) (k : ∀ b s', Q b s' → Q' b s') : W o Q' E := W_mono h k fun _ _ _ q => q
theorem W_get {o : Option (Out β)} (h : W o Q EX0) : ∃ b s', o = some (.ok b s') ∧ Q b s' := by
  cases o with
  | none => exact h.elim
  | some o =>
    cases o with
    | ok b s' => exact ⟨b, s', rfl, h⟩
    | exc C fs s' => exact h.elim
theorem W_of {o : Option (Out β)} {b : β} (h : o = some (.ok b s')) (q : Q b s') : W o Q E := by rw [h]; exact q
theorem WF_mono {o : Option OutF} {Q Q' : D → Store → Prop} {E E' : EF} (h : WF o Q E) (k : ∀ b s', Q b s' → Q' b s') (k' : ∀ C fs s', E C fs s' → E' C fs s') : WF o Q' E' := by
  cases o with
  | none => exact h
  | some o =>
    cases o with
    | ok b s' => exact k b s' h
    | exc C fs s' => exact k' C fs s' h
theorem WF_post {o : Option OutF} {Q Q' : D → Store → Prop} {E : EF} (h : WF o Q E) (k : ∀ b s', Q b s' → Q' b s') : WF o Q' E := WF_mono h k fun _ _ _ q => q
theorem WF_get {o : Option OutF} {Q : D → Store → Prop} (h : WF o Q EF0) : ∃ d ς', o = some (.ok d ς') ∧ Q d ς' := by
  cases o with
  | none => exact h.elim
  | some o =>
    cases o with
    | ok b s' => exact ⟨b, s', rfl, h⟩
    | exc C fs s' => exact h.elim
theorem WF_eqn {o : Option OutF} {ς' : Store} {d : D} (h : WF o (fun d1 ς1 => d1 = d ∧ ς1 = ς') EF0) : o = some (.ok d ς') := by
  obtain ⟨d1, ς1, h1, rfl, rfl⟩ := WF_get h
  exact h1
@[simp ↓] theorem W_bnd (m : M γ) (f : γ → M β) : W (bnd m f s) Q E = W (m s) (fun b s' => W (f b s') Q E) E := by
  unfold bnd
  cases m s with
  | none => rfl
  | some o =>
    cases o with
    | ok b s' => rfl
    | exc C fs s' => rfl
theorem W_bind (m : M γ) (f : γ → M β) (n : M β) (h : n s = bnd m f s) : W (n s) Q E = W (m s) (fun b s' => W (f b s') Q E) E := by rw [h, W_bnd]
@[simp ↓] theorem W_ret (b : β) : W (ret b s) Q E = Q b s := (rfl)
@[simp ↓] theorem W_iteT (m n : M β) : W (ite' true m n s) Q E = W (m s) Q E := (rfl)
@[simp ↓] theorem W_iteF (m n : M β) : W (ite' false m n s) Q E = W (n s) Q E := (rfl)
theorem W_ite {m n : M β} {b : Bool} (h1 : b = true → W (m s) Q E) (h2 : b = false → W (n s) Q E) : W (ite' b m n s) Q E := by
  cases b with
  | true => exact h1 rfl
  | false => exact h2 rfl
theorem W_iteD {m n : M β} {p : Prop} [Decidable p] (h1 : p → W (m s) Q E) (h2 : ¬ p → W (n s) Q E) : W (ite' (decide p) m n s) Q E := W_ite (fun h => h1 (of_decide_eq_true h)) fun h => h2 (of_decide_eq_false h)
theorem W_guard {m : M β} {b : Bool} (hb : b = true) (h : W (m s) Q E) : W (guard' b m s) Q E := by
  subst hb
  exact h
@[simp ↓] theorem W_chk (p : Store → Bool) (m : M β) : W (chk p m s) Q E = W (guard' (p s.s) m s) Q E := (rfl)
theorem W_alt {m n : M β} (h : W (m s) Q E) : W (alt m n s) Q E := by
  unfold alt
  cases q : m s with
  | none => rw [q] at h; exact h.elim
  | some o => rw [q] at h; exact h
theorem W_alt2 {m n : M β} (h : W (n s) Q E) (k : m s = none) : W (alt m n s) Q E := by
  unfold alt
  rw [k]
  exact h
@[simp ↓] theorem W_noExc (m : M β) : W (noExc m s) Q E = W (m s) Q EX0 := by
  unfold noExc
  cases m s with
  | none => rfl
  | some o =>
    cases o with
    | ok b s' => rfl
    | exc C fs s' => rfl
end
section
variable {s s' : S} {E : EX} {Q : Fl → S → Prop} {QD : D → S → Prop} {QB : Bool → S → Prop} {QL : List D → S → Prop}
@[simp ↓] theorem W_sq (m n : M Fl) : W (sq m n s) Q E = W (m s) (fun fl s' => W (thenF n fl s') Q E) E := W_bind _ _ _ rfl
@[simp ↓] theorem W_then_nx (n : M Fl) : W (thenF n .nx s) Q E = W (n s) Q E := (rfl)
@[simp ↓] theorem W_then_rt (n : M Fl) (d : D) : W (thenF n (.rt d) s) Q E = Q (.rt d) s := (rfl)
@[simp ↓] theorem W_then_bk (n : M Fl) : W (thenF n .bk s) Q E = Q .bk s := (rfl)
@[simp ↓] theorem W_then_ct (n : M Fl) : W (thenF n .ct s) Q E = Q .ct s := (rfl)
@[simp ↓] theorem W_turn_nx (n : M Fl) : W (turnF n .nx s) Q E = W (n s) Q E := (rfl)
@[simp ↓] theorem W_turn_ct (n : M Fl) : W (turnF n .ct s) Q E = W (n s) Q E := (rfl)
@[simp ↓] theorem W_turn_bk (n : M Fl) : W (turnF n .bk s) Q E = Q .nx s := (rfl)
@[simp ↓] theorem W_turn_rt (n : M Fl) (d : D) : W (turnF n (.rt d) s) Q E = Q (.rt d) s := (rfl)
@[simp ↓] theorem W_nxt : W (nxt s) Q E = Q .nx s := (rfl)
@[simp ↓] theorem W_retS (m : M D) : W (retS m s) Q E = W (m s) (fun d s' => Q (.rt d) s') E := by refine (W_bind m (fun d => ret (Fl.rt d)) _ rfl).trans ?_; rfl
@[simp ↓] theorem W_exprS (m : M D) : W (exprS m s) Q E = W (m s) (fun _ s' => Q .nx s') E := by refine (W_bind m (fun _ => nxt) _ rfl).trans ?_; rfl
@[simp ↓] theorem W_ifS (c : M Bool) (m n : M Fl) : W (ifS c m n s) Q E = W (c s) (fun b s' => W (ite' b m n s') Q E) E := W_bind _ _ _ rfl
@[simp ↓] theorem W_ifE (c : M Bool) (m n : M D) : W (ifE c m n s) QD E = W (c s) (fun b s' => W (ite' b m n s') QD E) E := W_bind _ _ _ rfl
@[simp ↓] theorem W_asg (m : M D) (g : Tg) : W (asg m g s) Q E = W (m s) (fun d s1 => W (tgM g d s1) Q E) E := W_bind m (fun d => tgM g d) _ rfl
@[simp ↓] theorem W_tg_set (i : Nat) (d : D) : W (tgM (gset i) d s) Q E = Q .nx ⟨s.e.set i (some d), s.s⟩ := (rfl)
@[simp ↓] theorem W_tg2 (i j : Nat) (x y : D) : W (tgM (gtup 2 (gcons (gset i) (gcons (gset j) gnil))) (.tup [x, y]) s) Q E = Q .nx ⟨(s.e.set i (some x)).set j (some y), s.s⟩ := (rfl)
@[simp ↓] theorem W_tst (m : M D) : W (tst m s) QB E = W (m s) (fun d s1 => W (tstD d s1) QB E) E := W_bind m tstD _ rfl
@[simp ↓] theorem W_tstD (b : Bool) : W (tstD (.bl b) s) QB E = QB b s := (rfl)
@[simp ↓] theorem W_op2 (f : D → D → M D) (a b : M D) : W (op2 f a b s) QD E = W (a s) (fun x s1 => W (b s1) (fun y s2 => W (f x y s2) QD E) E) E := by
  refine (W_bind a (fun x => bnd b fun y => f x y) _ rfl).trans ?_
  refine W_cong fun x s1 => ?_
  rw [W_bnd]
@[simp ↓] theorem W_un1 (f : D → M D) (a : M D) : W (un1 f a s) QD E = W (a s) (fun x s1 => W (f x s1) QD E) E := W_bind _ _ _ rfl
@[simp ↓] theorem W_andT (m n : M Bool) : W (andT m n s) QB E = W (m s) (fun b s' => W (ite' b n (ret false) s') QB E) E := W_bind _ _ _ rfl
@[simp ↓] theorem W_orT (m n : M Bool) : W (orT m n s) QB E = W (m s) (fun b s' => W (ite' b (ret true) n s') QB E) E := W_bind _ _ _ rfl
@[simp ↓] theorem W_notT (m : M Bool) : W (notT m s) QB E = W (m s) (fun b s' => QB (!b) s') E := by refine (W_bind m (fun b => ret (!b)) _ rfl).trans ?_; rfl
@[simp ↓] theorem W_blOf {β : Type} {Qb : β → S → Prop} (b : Bool) (k : Bool → M β) : W (blOf (.bl b) k s) Qb E = W (k b s) Qb E := (rfl)
@[simp ↓] theorem W_andV (m n : M D) : W (andV m n s) QD E = W (m s) (fun d s' => W (blOf d (fun b => ite' b n (ret (.bl false))) s') QD E) E := W_bind _ _ _ rfl
@[simp ↓] theorem W_orV (m n : M D) : W (orV m n s) QD E = W (m s) (fun d s' => W (blOf d (fun b => ite' b (ret (.bl true)) n) s') QD E) E := W_bind _ _ _ rfl
@[simp ↓] theorem W_notV (m : M D) : W (notV m s) QD E = W (m s) (fun d s' => W (blOf d (fun b => ret (.bl (!b))) s') QD E) E := W_bind _ _ _ rfl
@[simp ↓] theorem W_anil : W (anil s) QL E = QL [] s := (rfl)
@[simp ↓] theorem W_acons (m : M D) (n : M (List D)) : W (acons m n s) QL E = W (m s) (fun d s1 => W (n s1) (fun ds s2 => QL (d :: ds) s2) E) E := by
  refine (W_bind m (fun d => bnd n fun ds => ret (d :: ds)) _ rfl).trans ?_
  refine W_cong fun x s1 => ?_
  rw [W_bnd]
  rfl
@[simp ↓] theorem W_chn (f g : D → D → M D) (a b c : M D) : W (chn f g a b c s) QD E = W (a s) (fun x s1 => W (b s1) (fun y s2 => W (f x y s2) (fun k s3 => W (blOf k (fun q => ite' q (bnd c fun z => g y z) (ret (.bl false))) s3) QD E) E) E) E := by
  refine (W_bind a (fun x => bnd b fun y => bnd (f x y) fun k => blOf k fun q => ite' q (bnd c fun z => g y z) (ret (.bl false))) _ rfl).trans ?_
  refine W_cong fun x s1 => ?_
  rw [W_bnd]
  refine W_cong fun y s2 => ?_
  rw [W_bnd]
@[simp ↓] theorem W_tupD (ds : List D) : W (tupD ds s) QD E = W (guard' (small ds.length) (ret (.tup ds)) s) QD E := (rfl)
@[simp ↓] theorem W_lstE (o : Bool) (ds : List D) : W (lstE o ds s) QD E = W (guard' (small ds.length) (mk o ds) s) QD E := (rfl)
@[simp ↓] theorem W_forS (src : M (List D)) (g : Tg) (m : M Fl) : W (forS src g m s) Q E = W (src s) (fun ds s' => W (forD g m ds s') Q E) E := W_bind _ _ _ rfl
@[simp ↓] theorem W_seqI (m : M D) : W (seqI m s) QL E = W (m s) (fun d s' => W (seqM d s') QL E) E := by
  refine (W_bind m (fun d => match seqF d with | some (_, ds) => ret ds | none => fail) _ rfl).trans ?_
  refine W_cong fun d s' => ?_
  unfold seqM
  cases seqF d with
  | none => rfl
  | some p => rfl
@[simp ↓] theorem W_rng1 (n : M (List D)) : W (rng1 n s) QL E = W (n s) (fun ds s' => W (rng1F ds s') QL E) E := W_bind _ _ _ rfl
@[simp ↓] theorem W_rng2 (n : M (List D)) : W (rng2 n s) QL E = W (n s) (fun ds s' => W (rng2F ds s') QL E) E := W_bind _ _ _ rfl
@[simp ↓] theorem W_enum (n : M (List D)) : W (enumerateI n s) QL E = W (n s) (fun ds s' => W (enumF ds s') QL E) E := W_bind _ _ _ rfl
@[simp ↓] theorem W_zip (n : M (List D)) : W (zipI n s) QL E = W (n s) (fun ds s' => W (zipF ds s') QL E) E := W_bind _ _ _ rfl
@[simp ↓] theorem W_rg1 (f : Int → Int → M D) (n : M (List D)) : W (rg1 f n s) QD E = W (n s) (fun ds s' => W (rg1f f ds s') QD E) E := W_bind _ _ _ rfl
def rg2f (f : Int → Int → M D) : List D → M D := fun ds => match ds with
  | [.int i, .int j] => f i j
  | _ => fail
@[simp] theorem rg2f_i (f : Int → Int → M D) (i j : Int) : rg2f f [.int i, .int j] = f i j := (rfl)
@[simp] theorem rg1f_i (f : Int → Int → M D) (i : Int) : rg1f f [.int i] = f 0 i := (rfl)
@[simp ↓] theorem W_rg2 (f : Int → Int → M D) (n : M (List D)) : W (rg2 f n s) QD E = W (n s) (fun ds s' => W (rg2f f ds s') QD E) E := W_bind _ _ _ rfl
theorem W_tupRg {i j : Int} (h : -1000000000 ≤ i) (h' : i ≤ 1000000000) (k : -1000000000 ≤ j) (k' : j ≤ 1000000000) (l : j - i ≤ 1000000) (q : QD (.tup (rngL i (j - i).toNat)) s) : W (tupRgF i j s) QD E := by
  refine W_guard ?_ q
  unfold rgN
  rw [rngB_of h h', rngB_of k k']
  simp only [Bool.true_and]
  exact small_of (by omega)
@[simp ↓] theorem W_lcM (own : Bool) (vs : List Nat) (src : M (List D)) (g : Tg) (tt : M Bool) (te : M D) : W (lcM own vs src g tt te s) QD E = W (src s) (fun ds s' => W (lcK own vs g tt te ds s') QD E) E := W_bind _ _ _ rfl
@[simp ↓] theorem W_parS (i j : Nat) (n : M (List D)) : W (parS i j n s) Q E = W (n s) (fun ds s' => W (parF i j ds s') Q E) E := W_bind n (parF i j) _ rfl
@[simp ↓] theorem W_mthL (f : D → List D → M D) (m : M D) (n : M (List D)) : W (mthL f m n s) QD E = W (m s) (fun d s1 => W (guard' (isL s1.s d) (bnd n (f d)) s1) QD E) E := W_bind m (fun d => chk (fun ς => isL ς d) (bnd n (f d))) _ rfl
@[simp ↓] theorem W_fldI (C f : Str) (m : M D) : W (fldI C f m s) QD E = W (m s) (fun d s1 => W (fldF C f d s1) QD E) E := W_bind _ _ _ rfl
@[simp ↓] theorem W_mthI (C x : Str) (f : DF) (dv : List D) (mo : M D) (n : M (List D)) : W (mthI C x f dv mo n s) QD E = W (mo s) (fun d s1 => W (guard' (chkI C x d s1.s) (bnd n fun ds => callF f (d :: (ds ++ dv))) s1) QD E) E := W_bind mo (fun d => chk (chkI C x d) (bnd n fun ds => callF f (d :: (ds ++ dv)))) _ rfl
def isC (C : Str) (d : D) (ς : Store) : Bool := match insD ς d with
  | some (C', _) => decide (C' = C)
  | none => false
@[simp] theorem isC_ins (C C' : Str) (fs : List (Str × D)) (ς : Store) : isC C (.ins C' fs) ς = decide (C' = C) := (rfl)
@[simp ↓] theorem W_prpI (C : Str) (f : DF) (mo : M D) : W (prpI C f mo s) QD E = W (mo s) (fun d s1 => W (guard' (isC C d s1.s) (noExc (callF f [d])) s1) QD E) E := W_bind mo (fun d => chk (isC C d) (noExc (callF f [d]))) _ rfl
@[simp] theorem chkI_ins (C C' x : Str) (fs : List (Str × D)) (ς : Store) : chkI C x (.ins C' fs) ς = (decide (C' = C) && (fs.lookup x).isNone) := (rfl)
@[simp ↓] theorem W_isiT (m : M D) (ts : List String) : W (isiT m ts s) QD E = W (m s) (fun d s' => W (isiF d ts s') QD E) E := W_bind _ _ _ rfl
@[simp ↓] theorem W_setL (mo mi me : M D) : W (setL mo mi me s) Q E = W (me s) (fun v s1 => W (mo s1) (fun d s2 => W (mi s2) (fun k s3 => W (setF d k v s3) Q E) E) E) E := by
  refine (W_bind me (fun v => bnd mo fun d => bnd mi fun k => setF d k v) _ rfl).trans ?_
  refine W_cong fun v s1 => ?_
  rw [W_bnd]
  refine W_cong fun d s2 => ?_
  rw [W_bnd]
@[simp ↓] theorem W_call (f : DF) (ds : List D) : W (callF f ds s) QD E = WF (f ds s.s) (fun d ς' => QD d ⟨s.e, ς'⟩) (fun C fs ς' => E C fs ⟨s.e, ς'⟩) := by
  unfold callF
  cases f ds s.s with
  | none => rfl
  | some o =>
    cases o with
    | ok b s' => rfl
    | exc C fs s' => rfl
/-! loops -/
def FlI (I : S → Prop) (Q : Fl → S → Prop) : Fl → S → Prop := fun fl s => match fl with
  | .nx => I s
  | .ct => I s
  | .bk => Q .nx s
  | .rt d => Q (.rt d) s
@[simp] theorem FlI_nx (I : S → Prop) : FlI I Q .nx s = I s := (rfl)
@[simp] theorem FlI_ct (I : S → Prop) : FlI I Q .ct s = I s := (rfl)
@[simp] theorem FlI_bk (I : S → Prop) : FlI I Q .bk s = Q .nx s := (rfl)
@[simp] theorem FlI_rt (I : S → Prop) (d : D) : FlI I Q (.rt d) s = Q (.rt d) s := (rfl)
theorem W_for {g : Tg} {m : M Fl} (I : List D → S → Prop) {ds : List D} (h0 : I ds s) (hs : ∀ d ds s, I (d :: ds) s → W (tgM g d s) (fun _ s1 => W (m s1) (FlI (I ds) Q) E) E) (he : ∀ s, I [] s → Q .nx s) : W (forD g m ds s) Q E := by
  induction ds generalizing s with
  | nil => exact he s h0
  | cons d ds ih =>
    have h2 := hs d ds s h0
    rw [forD_cons]
    unfold tgM at h2
    cases q : g d s with
    | none => rw [q] at h2; exact h2.elim
    | some s1 =>
      rw [q] at h2
      show W (bnd m (turnF (forD g m ds)) s1) Q E
      rw [W_bnd]
      refine W_post (Q := FlI (I ds) Q) h2 fun fl s2 q => ?_
      cases fl with
      | nx => exact ih q
      | ct => exact ih q
      | bk => exact q
      | rt d => exact q
theorem W_forM {α : Type} {g : Tg} {m : M Fl} (I : List α → S → Prop) {f : α → D} {xs : List α} (h0 : I xs s) (hs : ∀ x xs s, I (x :: xs) s → W (tgM g (f x) s) (fun _ s1 => W (m s1) (FlI (I xs) Q) E) E) (he : ∀ s, I [] s → Q .nx s) : W (forD g m (xs.map f) s) Q E := by
  refine W_for (fun ds s => ∃ ys, ds = ys.map f ∧ I ys s) ⟨xs, rfl, h0⟩ (fun d ds s h => ?_) fun s h => ?_
  · obtain ⟨ys, e, h⟩ := h
    cases ys with
    | nil => cases e
    | cons y ys =>
      rw [List.map_cons] at e
      cases e
      refine W_post (hs y ys s h) fun _ s1 q => W_post q fun fl s q => ?_
      cases fl with
      | nx => exact ⟨ys, rfl, q⟩
      | ct => exact ⟨ys, rfl, q⟩
      | bk => exact q
      | rt d => exact q
  · obtain ⟨ys, e, h⟩ := h
    cases ys with
    | nil => exact he s h
    | cons y ys => cases e
/-- by counting: lo, lo + 1, .. -/
theorem W_forR {g : Tg} {m : M Fl} (I : Nat → S → Prop) {lo : Int} {n : Nat} (h0 : I 0 s) (hs : ∀ i, i < n → ∀ s, I i s → W (tgM g (.int (lo + (i : Nat))) s) (fun _ s1 => W (m s1) (FlI (I (i + 1)) Q) E) E) (he : ∀ s, I n s → Q .nx s) : W (forD g m (rngL lo n) s) Q E := by
  unfold rngL
  refine W_forM (fun ks s => ∃ i, ks = List.range' i (n - i) ∧ i ≤ n ∧ I i s) ⟨0, by rw [List.range_eq_range']; rfl, Nat.zero_le n, h0⟩ (fun x xs s h => ?_) fun s h => ?_
  · obtain ⟨i, e, hi, h⟩ := h
    have hl : i < n := by
      refine Nat.lt_of_not_le fun z => ?_
      rw [show n - i = 0 by omega] at e
      cases e
    rw [show n - i = (n - (i + 1)) + 1 by omega, List.range'_succ] at e
    have e1 := (List.cons.inj e).1
    have e2 := (List.cons.inj e).2
    subst e1 e2
    refine W_post (hs x hl s h) fun _ s1 q => W_post q fun fl s q => ?_
    cases fl with
    | nx => exact ⟨x + 1, rfl, hl, q⟩
    | ct => exact ⟨x + 1, rfl, hl, q⟩
    | bk => exact q
    | rt d => exact q
  · obtain ⟨i, e, hi, h⟩ := h
    have : n - i = 0 := by
      have := congrArg List.length e
      simpa using this.symm
    have : i = n := by omega
    subst this
    exact he s h
/-- by counting: 0, 1, .. -/
theorem W_forN {g : Tg} {m : M Fl} (I : Nat → S → Prop) {n : Nat} (h0 : I 0 s) (hs : ∀ i, i < n → ∀ s, I i s → W (tgM g (.int (i : Nat)) s) (fun _ s1 => W (m s1) (FlI (I (i + 1)) Q) E) E) (he : ∀ s, I n s → Q .nx s) : W (forD g m (rngL 0 n) s) Q E :=
  W_forR I h0 (fun i hi s h => by rw [Int.zero_add]; exact hs i hi s h) he
/-! defs -/
def FlF (ς : Store) (Q : D → Store → Prop) : Fl → S → Prop := fun fl s => match fl with
  | .nx => Q .non (cutS ς s.s true)
  | .rt d => Q d (cutS ς s.s d.flat)
  | _ => False
@[simp] theorem FlF_nx (ς : Store) (Q : D → Store → Prop) : FlF ς Q .nx s = Q .non (cutS ς s.s true) := (rfl)
@[simp] theorem FlF_rt (ς : Store) (Q : D → Store → Prop) (d : D) : FlF ς Q (.rt d) s = Q d (cutS ς s.s d.flat) := (rfl)
theorem WF_def (n : Nat) (m : M Fl) (ds : List D) (ς : Store) (Q : D → Store → Prop) (E : EF) : WF (mdef n m ds ς) Q E = W (m ⟨startD n ds, ς⟩) (FlF ς Q) (fun C fs s => E C fs (cutS ς s.s (flatN fs))) := by
  unfold mdef
  cases m ⟨startD n ds, ς⟩ with
  | none => rfl
  | some o =>
    cases o with
    | ok b s' =>
      cases b with
      | nx => rfl
      | rt d => rfl
      | bk => rfl
      | ct => rfl
    | exc C fs s' => rfl
/-! a new list -/
theorem W_lc {own : Bool} {vs : List Nat} {g : Tg} {tt : M Bool} {te : M D} {ds : List D} (I : List D → List D → Store → Prop) (h0 : I ds [] s.s)
    (hs : ∀ d ds acc ς, I (d :: ds) acc ς → W (tgM g d ⟨wipeD s.e vs, ς⟩) (fun _ s1 => W (tt s1) (fun b s2 => (b = true → W (te s2) (fun y s3 => I ds (acc ++ [y]) s3.s) EX0) ∧ (b = false → I ds acc s2.s)) EX0) EX0)
    (he : ∀ acc ς, I [] acc ς → small acc.length = true ∧ W (mk own acc ⟨s.e, ς⟩) QD E) : W (lcK own vs g tt te ds s) QD E := by
  have go : ∀ (ds acc : List D) (ς : Store), I ds acc ς → ∃ ys ς', lcR (wipeD s.e vs) g tt te ds ς = some (ys, ς') ∧ I [] (acc ++ ys) ς' := by
    intro ds
    induction ds with
    | nil => exact fun acc ς h => ⟨[], ς, rfl, by rw [List.append_nil]; exact h⟩
    | cons d ds ih =>
      intro acc ς h
      have h0 := hs d ds acc ς h
      unfold tgM at h0
      cases h1 : g d ⟨wipeD s.e vs, ς⟩ with
      | none => rw [h1] at h0; exact h0.elim
      | some s1 =>
        rw [h1] at h0
        obtain ⟨b, s2, h3, h4, h4'⟩ := W_get (show W (tt s1) _ EX0 from h0)
        cases b with
        | true =>
          obtain ⟨y, s3, h5, h6⟩ := W_get (h4 rfl)
          obtain ⟨ys, ς', w1, w2⟩ := ih _ _ h6
          refine ⟨y :: ys, ς', ?_, by rw [← List.append_cons] at w2; exact w2⟩
          unfold lcR
          rw [h1]
          show (match tt s1 with | some (.ok true s2) => _ | some (.ok false s2) => _ | _ => _) = _
          rw [h3]
          show (match te s2 with | some (.ok y s3) => _ | _ => _) = _
          rw [h5]
          show Option.map _ (lcR _ g tt te ds s3.s) = _
          rw [w1]
          rfl
        | false =>
          obtain ⟨ys, ς', w1, w2⟩ := ih _ _ (h4' rfl)
          refine ⟨ys, ς', ?_, w2⟩
          unfold lcR
          rw [h1]
          show (match tt s1 with | some (.ok true s2) => _ | some (.ok false s2) => _ | _ => _) = _
          rw [h3]
          exact w1
  obtain ⟨ys, ς', h1, h2⟩ := go ds [] s.s h0
  obtain ⟨h3, h4⟩ := he _ _ h2
  rw [List.nil_append] at h3 h4
  have e : lcK own vs g tt te ds s = mk own ys ⟨s.e, ς'⟩ := by
    unfold lcK
    rw [h1]
    show guard' (small ys.length) _ _ = _
    rw [h3]
    rfl
  rw [e]
  exact h4
/-- all of them, the store as it was -/
theorem W_lcm {α : Type} {own : Bool} {i : Nat} {te : M D} {f : α → D} {xs : List α} (out : α → D) (hs : small xs.length = true) (h : ∀ x ∈ xs, W (te ⟨s.e.set i (some (f x)), s.s⟩) (fun d s' => d = out x ∧ s'.s = s.s) EX0)
    (he : W (mk own (xs.map out) s) QD E) : W (lcK own [i] (gset i) (ret true) te (xs.map f) s) QD E := by
  have z : wipeD s.e [i] = s.e.set i none := (rfl)
  refine W_lc (fun ds acc ς => ∃ ys zs, xs = ys ++ zs ∧ ds = zs.map f ∧ acc = ys.map out ∧ ς = s.s) ⟨[], xs, rfl, rfl, rfl, rfl⟩ (fun d ds acc ς h0 => ?_) fun acc ς h0 => ?_
  · obtain ⟨ys, zs, h1, h2, h3, h4⟩ := h0
    cases zs with
    | nil => cases h2
    | cons x zs =>
      rw [List.map_cons] at h2
      cases h2
      subst h4
      rw [W_tg_set, W_ret]
      refine ⟨fun _ => ?_, fun w => by cases w⟩
      rw [z, List.set_set]
      refine W_post (h x (by rw [h1]; simp)) (fun d s' q => ?_)
      exact ⟨ys ++ [x], zs, by rw [h1]; simp, rfl, by rw [h3, q.1]; simp, q.2⟩
  · obtain ⟨ys, zs, h1, h2, h3, h4⟩ := h0
    have : zs = [] := by cases zs with | nil => rfl | cons => cases h2
    subst this
    rw [List.append_nil] at h1
    subst h3 h4
    rw [← h1]
    exact ⟨by rw [List.length_map]; exact hs, he⟩
/-- some of them, the store as it was -/
theorem W_lcG {α : Type} {own : Bool} {vs : List Nat} {g : Tg} {tt : M Bool} {te : M D} {f : α → D} {xs : List α} (out : α → D) (P : α → Bool) (hs : small xs.length = true)
    (h : ∀ x ∈ xs, W (tgM g (f x) ⟨wipeD s.e vs, s.s⟩) (fun _ s1 => W (tt s1) (fun b s' => b = P x ∧ (P x = true → W (te s') (fun d s' => d = out x ∧ s'.s = s.s) EX0) ∧ (P x = false → s'.s = s.s)) EX0) EX0)
    (he : W (mk own ((xs.filter P).map out) s) QD E) : W (lcK own vs g tt te (xs.map f) s) QD E := by
  refine W_lc (fun ds acc ς => ∃ ys zs, xs = ys ++ zs ∧ ds = zs.map f ∧ acc = (ys.filter P).map out ∧ ς = s.s) ⟨[], xs, rfl, rfl, rfl, rfl⟩ (fun d ds acc ς h0 => ?_) fun acc ς h0 => ?_
  · obtain ⟨ys, zs, h1, h2, h3, h4⟩ := h0
    cases zs with
    | nil => cases h2
    | cons x zs =>
      rw [List.map_cons] at h2
      cases h2
      subst h4
      refine W_post (h x (by rw [h1]; simp)) fun _ s1 q => W_post q fun b s' q => ?_
      obtain ⟨rfl, q1, q2⟩ := q
      refine ⟨fun hp => ?_, fun hp => ?_⟩
      · exact W_post (q1 hp) (fun d s'' w => ⟨ys ++ [x], zs, by rw [h1]; simp, rfl, by rw [h3, w.1, List.filter_append, List.filter_cons, hp]; simp, w.2⟩)
      · exact ⟨ys ++ [x], zs, by rw [h1]; simp, rfl, by rw [h3, List.filter_append, List.filter_cons, hp]; simp, q2 hp⟩
  · obtain ⟨ys, zs, h1, h2, h3, h4⟩ := h0
    have : zs = [] := by cases zs with | nil => rfl | cons => cases h2
    subst this
    rw [List.append_nil] at h1
    subst h3 h4
    rw [← h1]
    have := List.length_filter_le P xs
    have := of_decide_eq_true hs
    exact ⟨small_of (by rw [List.length_map]; omega), he⟩
theorem W_lcf {α : Type} {own : Bool} {i : Nat} {tt : M Bool} {te : M D} {f : α → D} {xs : List α} (out : α → D) (P : α → Bool) (hs : small xs.length = true) (h : ∀ x ∈ xs, W (tt ⟨s.e.set i (some (f x)), s.s⟩) (fun b s' => b = P x ∧ (P x = true → W (te s') (fun d s' => d = out x ∧ s'.s = s.s) EX0) ∧ (P x = false → s'.s = s.s)) EX0)
    (he : W (mk own ((xs.filter P).map out) s) QD E) : W (lcK own [i] (gset i) tt te (xs.map f) s) QD E := by
  have z : wipeD s.e [i] = s.e.set i none := (rfl)
  refine W_lcG out P hs (fun x hx => ?_) he
  rw [W_tg_set, z, List.set_set]
  exact h x hx
/-- some of them, as they are -/
theorem W_lcD {own : Bool} {i : Nat} {tt : M Bool} {te : M D} {ds : List D} (P : D → Bool) (hs : small ds.length = true) (h : ∀ d ∈ ds, W (tt ⟨s.e.set i (some d), s.s⟩) (fun b s' => b = P d ∧ (P d = true → W (te s') (fun y s'' => y = d ∧ s''.s = s.s) EX0) ∧ (P d = false → s'.s = s.s)) EX0)
    (he : W (mk own (ds.filter P) s) QD E) : W (lcK own [i] (gset i) tt te ds s) QD E := by
  have q := W_lcf (own := own) (i := i) (tt := tt) (te := te) (f := fun d => d) (xs := ds) (s := s) (QD := QD) (E := E) (fun d => d) P hs h (by rw [List.map_id']; exact he)
  rwa [List.map_id'] at q
/-- a thing's own field is set -/
def setIF (C f : Str) (v d : D) : M Fl := fun s => match ownI s.s d with
  | some (i, C', fs) => if C' = C then guard' (decide (fs.length < 1000)) (fun s => some (.ok .nx (putS s i (.ins C (putFD f v fs))))) s else none
  | none => none
@[simp ↓] theorem W_setI (C f : Str) (mo me : M D) : W (setI C f mo me s) Q E = W (me s) (fun v s1 => W (mo s1) (fun d s2 => W (setIF C f v d s2) Q E) E) E := by
  refine (W_bind me (fun v => bnd mo fun d => setIF C f v d) _ rfl).trans ?_
  refine W_cong fun v s1 => ?_
  rw [W_bnd]
theorem W_setIF {C f : Str} {v : D} {l : Nat} {fs : List (Str × D)} (hl : s.s[l]? = some (some (.ins C fs))) (hn : fs.length < 1000) (q : Q .nx ⟨s.e, s.s.set l (some (.ins C (putFD f v fs)))⟩) : W (setIF C f v (.loc l) s) Q E := by
  refine W_of (b := .nx) (s' := ⟨s.e, s.s.set l (some (.ins C (putFD f v fs)))⟩) ?_ q
  unfold setIF ownI
  simp only [hl, if_true]
  rw [decide_eq_true hn]
  rfl
theorem W_append {l : Nat} {acc : List D} {y : D} (h : s.s[l]? = some (some (.lst acc))) (hs : small acc.length = true) (q : QD .non ⟨s.e, s.s.set l (some (.lst (acc ++ [y])))⟩) : W (fAppend (.loc l) [y] s) QD E := W_of (append_of h hs y) q
theorem W_setF {l n : Nat} {xs : List D} {j : Int} {v : D} (h : s.s[l]? = some (some (.lst xs))) (hn : ixN xs.length j = some n) (q : Q .nx ⟨s.e, s.s.set l (some (.lst (xs.set n v)))⟩) : W (setF (.loc l) (.int j) v s) Q E := W_of (setF_loc h hn v) q
theorem W_ix {d : D} {i : Int} {k : Bool} {ds : List D} {x : D} (h : seqD s.s d = some (k, ds)) (hx : atI ds i = some x) (q : QD x s) : W (fIx d (.int i) s) QD E := W_of (by rw [fIx_of d i h, hx]; rfl) q
theorem W_len {d : D} {k : Bool} {ds : List D} (h : seqD s.s d = some (k, ds)) (q : QD (.int ds.length) s) : W (fLen [d] s) QD E := W_of (fLen_s d h) q
theorem W_tuple {d : D} {k : Bool} {ds : List D} (h : seqD s.s d = some (k, ds)) (q : QD (.tup ds) s) : W (fTuple [d] s) QD E := W_of (fTuple_of d h) q
theorem W_list {o : Bool} {d : D} {k : Bool} {ds : List D} (h : seqD s.s d = some (k, ds)) (q : W (mk o ds s) QD E) : W (fList o [d] s) QD E := by rw [fList_of o d h]; exact q
theorem W_nameL {i l : Nat} {o : O} (e : s.e[i]? = some (some (.loc l))) (k : s.s[l]? = some (some o)) (h : QD (frzO o) ⟨s.e.set i (some (frzO o)), s.s.set l none⟩) (t : o.isTab = false := by rfl) : W (nameF i s) QD E := by
  refine W_of (b := frzO o) ?_ h
  unfold nameF
  rw [e]
  simp only [k, t]
  rfl
theorem W_make {C : Str} {f : DF} {ds : List D} {fs : List (Str × D)} {ς : Store} (h : f (.loc s.s.length :: ds) (s.s ++ [some (.ins C [])]) = some (.ok .non ς)) (k : ς[s.s.length]? = some (some (.ins C fs))) (q : QD (.ins C fs) ⟨s.e, cutS s.s (ς.set s.s.length none) (flatN fs)⟩) : W (makeF false C f ds s) QD E := by
  refine W_of (b := .ins C fs) ?_ q
  unfold makeF makeO
  rw [h]
  simp only [k]
  rfl
end
@[simp] theorem fmod_em (a b : Int) (h : 0 ≤ b) : Int.fmod a b = a % b := Int.fmod_eq_emod_of_nonneg a h
@[simp] theorem fdiv_ed (a b : Int) (h : 0 ≤ b) : Int.fdiv a b = a / b := Int.fdiv_eq_ediv_of_nonneg a h
@[simp] theorem fDivmod_i (i j : Int) (s : S) : fDivmod [.int i, .int j] s = guard' (decide (0 < j ∧ j < 1073741824)) (ret (.tup [.int (i / j), .int (i % j)])) s := (rfl)
@[simp] theorem fAbs_i (i : Int) (s : S) : fAbs [.int i] s = some (.ok (.int (if i < 0 then -i else i)) s) := (rfl)
@[simp] theorem wipe_nil (e : List (Option D)) : wipeD e [] = e := (rfl)
@[simp] theorem wipe_cons (e : List (Option D)) (v : Nat) (vs : List Nat) : wipeD e (v :: vs) = (wipeD e vs).set v none := (rfl)
@[simp] theorem atI_m1 {α : Type} (xs : List α) : atI xs (-1) = xs.getLast? := by
  unfold atI ixN
  rw [if_neg (by omega), List.getLast?_eq_getElem?]
  cases xs with
  | nil => rfl
  | cons x xs =>
    have h : -((x :: xs).length : Int) ≤ -1 := by
      rw [List.length_cons]
      omega
    rw [if_pos h]
    show (x :: xs)[((-1 : Int) + ((x :: xs).length : Int)).toNat]? = _
    congr 1
    omega
@[simp] theorem putFD_nil {β : Type} (f : Str) (v : β) : putFD f v [] = [(f, v)] := (rfl)
@[simp] theorem putFD_self {β : Type} (f : Str) (v w : β) (r : List (Str × β)) : putFD f v ((f, w) :: r) = (f, v) :: r := by simp [putFD]
@[simp] theorem putFD_ne {β : Type} (f g : Str) (v w : β) (r : List (Str × β)) (h : (f == g) = false) : putFD f v ((g, w) :: r) = (g, w) :: putFD f v r := by
  have : ¬ g = f := fun e => by simp [e] at h
  simp [putFD, this]
@[simp] theorem all_tt {α : Type} (xs : List α) : (xs.all fun _ => true) = true := by simp
@[simp] theorem flat_comp_int : D.flat ∘ D.int = fun _ => true := by funext i; simp
@[simp] theorem enumF_lst (ds : List D) (s : S) : enumF [.lst ds] s = some (.ok (enumL ds) s) := (rfl)
@[simp] theorem enumF_tup (ds : List D) (s : S) : enumF [.tup ds] s = some (.ok (enumL ds) s) := (rfl)
@[simp] theorem fAdd_ll (o : Bool) (xs ys : List D) (s : S) : fAdd o (.lst xs) (.lst ys) s = guard' (small (xs.length + ys.length)) (mk o (xs ++ ys)) s := (rfl)
@[simp] theorem fIx_loc1 {x : Option O} {ds : List D} {e : List (Option D)} {r : Store} (i : Int) : fIx (.loc 1) (.int i) ⟨e, x :: some (.lst ds) :: r⟩ = optD (atI ds i) ⟨e, x :: some (.lst ds) :: r⟩ := fIx_loc rfl i
theorem atI_map {α β : Type} {xs : List α} {f : α → β} {n : Nat} (h : n < xs.length) : atI (xs.map f) (n : Int) = some (f xs[n]) := by
  rw [atI_n]
  simp [h]
@[simp] theorem fMul_lk (o : Bool) (xs : List D) (k : Int) (s : S) : fMul o (.lst xs) (.int k) s = guard' (rngB k && small (xs.length * k.toNat)) (mk o (List.replicate k.toNat xs).flatten) s := (rfl)
@[simp] theorem fAdd_tt (o : Bool) (xs ys : List D) (s : S) : fAdd o (.tup xs) (.tup ys) s = guard' (small (xs.length + ys.length)) (ret (.tup (xs ++ ys))) s := (rfl)
theorem sflat_app : ∀ (r x : Store), sflat (r ++ x) = (sflat r && sflat x)
  | [], x => by simp
  | none :: r, x => by
    rw [List.cons_append]
    exact sflat_app r x
  | some o :: r, x => by
    rw [List.cons_append]
    show (o.flat && sflat (r ++ x)) = ((o.flat && sflat r) && sflat x)
    rw [sflat_app r x, Bool.and_assoc]
theorem two_get0 {r : Store} {x y : Option O} : (r ++ [x, y])[r.length]? = some x := by simp
theorem two_get1 {r : Store} {x y : Option O} : (r ++ [x, y])[r.length + 1]? = some y := by
  rw [List.getElem?_append_right (by omega)]
  simp
theorem two_set0 {r : Store} {x y z : Option O} : (r ++ [x, y]).set r.length z = r ++ [z, y] := by simp
theorem two_set1 {r : Store} {x y z : Option O} : (r ++ [x, y]).set (r.length + 1) z = r ++ [x, z] := by
  rw [List.set_append, if_neg (by omega)]
  simp
theorem last_get {ς : Store} {o : Option O} : (ς ++ [o])[ς.length]? = some o := by simp
theorem last_set {ς : Store} {o o' : Option O} : (ς ++ [o]).set ς.length o' = ς ++ [o'] := by simp
@[simp] theorem look_self {β : Type} (k : Str) (v : β) (r : List (Str × β)) : List.lookup k ((k, v) :: r) = some v := by
  rw [List.lookup_cons]
  simp
@[simp] theorem look_nil {β : Type} (k : Str) : List.lookup k ([] : List (Str × β)) = none := (rfl)
@[simp] theorem look_ne {β : Type} (k k' : Str) (v : β) (r : List (Str × β)) (h : (k == k') = false) : List.lookup k ((k', v) :: r) = List.lookup k r := by
  rw [List.lookup_cons, h]
@[simp] theorem frz_lst (ds : List D) : frzO (.lst ds) = .lst ds := (rfl)
@[simp] theorem frz_dct (ds : List (Key × D)) : frzO (.dct ds) = .dct ds := (rfl)
@[simp] theorem frz_ins (C : Str) (ds : List (Str × D)) : frzO (.ins C ds) = .ins C ds := (rfl)
@[simp] theorem fSumA_lst (ns : List Int) (s : S) : fSumA [.lst (ns.map .int)] s = some (.ok (.int ns.sum) s) := by unfold fSumA intsA; simp [intsD_map]
@[simp] theorem fSumA_tup (ns : List Int) (s : S) : fSumA [.tup (ns.map .int)] s = some (.ok (.int ns.sum) s) := by unfold fSumA intsA; simp [intsD_map]
@[simp] theorem fIsB_b (neg a b : Bool) (s : S) : fIsB neg (.bl a) (.bl b) s = some (.ok (.bl (if neg then !decide (a = b) else decide (a = b))) s) := (rfl)
@[simp] theorem fNeg_i (i : Int) (s : S) : fNeg (.int i) s = some (.ok (.int (-i)) s) := (rfl)
@[simp] theorem fldF_ins (C f : Str) (fs : List (Str × D)) (s : S) : fldF C f (.ins C fs) s = optD (fs.lookup f) s := by
  unfold fldF
  simp only [insD, if_true]
  cases fs.lookup f <;> rfl
/-- the list's greatest -/
theorem W_max1 {d : D} {n : Int} {ns : List Int} {s : S} {Q : D → S → Prop} {E : EX} (h : seqD s.s d = some (true, (n :: ns).map .int)) (q : Q (.int (maxL n ns)) s) : W (fMax1 [d] s) Q E := by
  have e : intsOf s.s d = some (n :: ns) := by
    unfold intsOf
    simp only [h, intsD_map]
  refine W_of (b := .int (maxL n ns)) (s' := s) ?_ q
  unfold fMax1
  simp only [e]
  rfl
theorem W_min1 {d : D} {n : Int} {ns : List Int} {s : S} {Q : D → S → Prop} {E : EX} (h : seqD s.s d = some (true, (n :: ns).map .int)) (q : Q (.int (minL n ns)) s) : W (fMin1 [d] s) Q E := by
  have e : intsOf s.s d = some (n :: ns) := by
    unfold intsOf
    simp only [h, intsD_map]
  refine W_of (b := .int (minL n ns)) (s' := s) ?_ q
  unfold fMin1
  simp only [e]
  rfl
theorem flatMap_congr {α β : Type} {f g : α → List β} : ∀ {xs : List α}, (∀ x ∈ xs, f x = g x) → xs.flatMap f = xs.flatMap g
  | [], _ => rfl
  | x :: xs, h => by
    rw [List.flatMap_cons, List.flatMap_cons, h x (List.mem_cons_self ..), flatMap_congr fun y hy => h y (List.mem_cons_of_mem _ hy)]
/-- two fors, the store as it was -/
theorem W_lc2m {α β : Type} {own : Bool} {i j : Nat} {src1 : M (List D)} {te : M D} {f : α → D} {f1 : β → D} {xs : List α} {s : S} {QD : D → S → Prop} {E : EX} (l1 : α → List β) (out : α → β → D) (hs : small ((xs.flatMap fun x => (l1 x).map (out x)).length) = true)
    (h1 : ∀ x ∈ xs, W (src1 ⟨(wipeD s.e [i, j]).set i (some (f x)), s.s⟩) (fun ds s' => ds = (l1 x).map f1 ∧ s' = ⟨(wipeD s.e [i, j]).set i (some (f x)), s.s⟩) EX0)
    (h2 : ∀ x ∈ xs, ∀ y ∈ l1 x, W (te ⟨(wipeD ((wipeD s.e [i, j]).set i (some (f x))) [j]).set j (some (f1 y)), s.s⟩) (fun d s' => d = out x y ∧ s'.s = s.s) EX0)
    (he : W (mk own (xs.flatMap fun x => (l1 x).map (out x)) s) QD E) : W (lcK2 own [i, j] (gset i) (ret true) src1 [j] (gset j) (ret true) te (xs.map f) s) QD E := by
  have inner : ∀ (e : List (Option D)) (x : α) (ys : List β), (∀ y ∈ ys, W (te ⟨e.set j (some (f1 y)), s.s⟩) (fun d s' => d = out x y ∧ s'.s = s.s) EX0) → lcR e (gset j) (ret true) te (ys.map f1) s.s = some (ys.map (out x), s.s) := by
    intro e x ys
    induction ys with
    | nil => intro _; rfl
    | cons y ys ih =>
      intro hy
      obtain ⟨d, s', e1, e2, e3⟩ := W_get (hy y (List.mem_cons_self ..))
      have e4 := ih fun z hz => hy z (List.mem_cons_of_mem _ hz)
      rw [List.map_cons]
      unfold lcR
      show (match te ⟨e.set j (some (f1 y)), s.s⟩ with | some (.ok y s3) => (lcR e (gset j) (ret true) te (ys.map f1) s3.s).map fun (p : List D × Store) => (y :: p.1, p.2) | _ => none) = _
      rw [e1]
      show Option.map _ (lcR e (gset j) (ret true) te (ys.map f1) s'.s) = _
      rw [e3, e4, e2]
      rfl
  have outer : ∀ zs : List α, (∀ x ∈ zs, x ∈ xs) → lcR2 (wipeD s.e [i, j]) (gset i) (ret true) src1 [j] (gset j) (ret true) te (zs.map f) s.s = some (zs.flatMap fun x => (l1 x).map (out x), s.s) := by
    intro zs
    induction zs with
    | nil => intro _; rfl
    | cons x zs ih =>
      intro hz
      have hx := hz x (List.mem_cons_self ..)
      obtain ⟨ds, s', e1, e2, e3⟩ := W_get (h1 x hx)
      have e4 := ih fun z hz' => hz z (List.mem_cons_of_mem _ hz')
      rw [List.map_cons]
      unfold lcR2
      show (match src1 ⟨(wipeD s.e [i, j]).set i (some (f x)), s.s⟩ with | some (.ok ds1 s3) => (lcR (wipeD s3.e [j]) (gset j) (ret true) te ds1 s3.s).bind fun (p : List D × Store) => (lcR2 (wipeD s.e [i, j]) (gset i) (ret true) src1 [j] (gset j) (ret true) te (zs.map f) p.2).map fun (q : List D × Store) => (p.1 ++ q.1, q.2) | _ => none) = _
      rw [e1]
      show Option.bind (lcR (wipeD s'.e [j]) (gset j) (ret true) te ds s'.s) _ = _
      rw [e3, e2, inner _ x (l1 x) (h2 x hx)]
      show Option.map _ (lcR2 _ _ _ _ _ _ _ _ (zs.map f) s.s) = _
      rw [e4]
      rfl
  unfold lcK2
  rw [outer xs fun x h => h]
  show W (guard' (small _) _ _) QD E
  rw [hs]
  exact he
@[simp ↓] theorem W_lcM2 (own : Bool) (vs : List Nat) (src : M (List D)) (g : Tg) (tt : M Bool) (src1 : M (List D)) (vs1 : List Nat) (g1 : Tg) (tt1 : M Bool) (te : M D) {s : S} {QD : D → S → Prop} {E : EX} : W (lcM2 own vs src g tt src1 vs1 g1 tt1 te s) QD E = W (src s) (fun ds s' => W (lcK2 own vs g tt src1 vs1 g1 tt1 te ds s') QD E) E := W_bind src (lcK2 own vs g tt src1 vs1 g1 tt1 te) _ rfl
end DL

/-! from DE.lean -/
set_option Elab.async false
set_option linter.all false
set_option maxRecDepth 100000
set_option maxHeartbeats 4000000
/-! DE: == of data without truths. -/
namespace DL
open PySem L2
mutual
/-- no truth in it, no deeper than n -/
def nbD : Nat → D → Bool
  | _, .non => true
  | _, .int _ => true
  | _, .str x => PyData.strOk x
  | n + 1, .lst ds => nbL n ds
  | n + 1, .tup ds => nbL n ds
  | _, _ => false
def nbL : Nat → List D → Bool
  | _, [] => true
  | n, d :: ds => nbD n d && nbL n ds
end
theorem nbL_of {n : Nat} {ds : List D} (h : ∀ d ∈ ds, nbD n d = true) : nbL n ds = true := by
  induction ds with
  | nil => rfl
  | cons d ds ih =>
    simp only [nbL, Bool.and_eq_true]
    exact ⟨h d (List.mem_cons_self ..), ih fun e he => h e (List.mem_cons_of_mem _ he)⟩
mutual
theorem nb_py : ∀ (n : Nat) (d : D), nbD n d = true → ∃ p, py0 d = some p ∧ p.canLay0 = true ∧ p.depth ≤ n
  | n, .non, _ => ⟨.none, by simp [py0], by simp [PyData.canLay0], by simp [PyData.depth]⟩
  | n, .int i, _ => ⟨.int i, by simp [py0], by simp [PyData.canLay0], by simp [PyData.depth]⟩
  | n, .str x, h => ⟨.str x, by simp [py0], by simpa [PyData.canLay0, nbD] using h, by simp [PyData.depth]⟩
  | n + 1, .lst ds, h => by
    obtain ⟨ps, h1, h2, h3⟩ := nbL_py n ds (by simpa [nbD] using h)
    exact ⟨.list ps, by simp [py0, h1], by simpa [PyData.canLay0] using h2, by simp [PyData.depth]; omega⟩
  | n + 1, .tup ds, h => by
    obtain ⟨ps, h1, h2, h3⟩ := nbL_py n ds (by simpa [nbD] using h)
    exact ⟨.tuple ps, by simp [py0, h1], by simpa [PyData.canLay0] using h2, by simp [PyData.depth]; omega⟩
  | 0, .lst ds, h => by simp [nbD] at h
  | 0, .tup ds, h => by simp [nbD] at h
  | _, .bl _, h => by simp [nbD] at h
  | _, .rdl _, h => by simp [nbD] at h
  | _, .dct _, h => by simp [nbD] at h
  | _, .ins _ _, h => by simp [nbD] at h
  | _, .loc _, h => by simp [nbD] at h
  | _, .ty _, h => by simp [nbD] at h
  | _, .adr _, h => by simp [nbD] at h
  | _, .exn _ _ _, h => by simp [nbD] at h
theorem nbL_py : ∀ (n : Nat) (ds : List D), nbL n ds = true → ∃ ps, pyL ds = some ps ∧ PyData.canLayAll0 ps = true ∧ PyData.depthAll ps ≤ n
  | n, [], _ => ⟨[], by simp [pyL], by simp [PyData.canLayAll0], by simp [PyData.depthAll]⟩
  | n, d :: ds, h => by
    simp only [nbL, Bool.and_eq_true] at h
    obtain ⟨p, h1, h2, h3⟩ := nb_py n d h.1
    obtain ⟨ps, h4, h5, h6⟩ := nbL_py n ds h.2
    exact ⟨p :: ps, by simp [pyL, h1, h4], by simp [PyData.canLayAll0, h2, h5], by simp [PyData.depthAll]; omega⟩
end
mutual
theorem eqv_nb : ∀ (n m : Nat) (d e : D) (p q : PyData), nbD n d = true → nbD m e = true → py0 d = some p → py0 e = some q → (PyData.eqv p q = true ↔ d = e)
  | n, m, .non, e, p, q, h1, h2, h3, h4 => by
    simp only [py0] at h3; cases h3
    cases e <;> simp only [py0] at h4 <;> first | (cases h4; done) | skip
    all_goals first | (cases h4; simp [PyData.eqv]; done) | (simp [nbD] at h2; done) | (obtain ⟨_, _, rfl⟩ := Option.map_eq_some_iff.mp h4; simp [PyData.eqv])
  | n, m, .int i, e, p, q, h1, h2, h3, h4 => by
    simp only [py0] at h3; cases h3
    cases e <;> simp only [py0] at h4 <;> first | (cases h4; done) | skip
    all_goals first | (simp [nbD] at h2; done) | (cases h4; simp [PyData.eqv]; done) | (obtain ⟨_, _, rfl⟩ := Option.map_eq_some_iff.mp h4; simp [PyData.eqv])
  | n, m, .str i, e, p, q, h1, h2, h3, h4 => by
    simp only [py0] at h3; cases h3
    cases e <;> simp only [py0] at h4 <;> first | (cases h4; done) | skip
    all_goals first | (simp [nbD] at h2; done) | (cases h4; simp [PyData.eqv]; done) | (obtain ⟨_, _, rfl⟩ := Option.map_eq_some_iff.mp h4; simp [PyData.eqv])
  | n + 1, m, .lst ds, e, p, q, h1, h2, h3, h4 => by
    simp only [py0] at h3
    obtain ⟨ps, w1, rfl⟩ := Option.map_eq_some_iff.mp h3
    have hn : nbL n ds = true := by simpa [nbD] using h1
    cases e <;> simp only [py0] at h4 <;> first | (cases h4; done) | skip
    case lst es =>
      obtain ⟨qs, w2, rfl⟩ := Option.map_eq_some_iff.mp h4
      cases m with
      | zero => simp [nbD] at h2
      | succ m =>
        have := eqvL_nb n m ds es ps qs hn (by simpa [nbD] using h2) w1 w2
        simp [PyData.eqv, this]
    all_goals first | (simp [nbD] at h2; done) | (cases h4; simp [PyData.eqv]; done) | (obtain ⟨_, _, rfl⟩ := Option.map_eq_some_iff.mp h4; simp [PyData.eqv])
  | n + 1, m, .tup ds, e, p, q, h1, h2, h3, h4 => by
    simp only [py0] at h3
    obtain ⟨ps, w1, rfl⟩ := Option.map_eq_some_iff.mp h3
    have hn : nbL n ds = true := by simpa [nbD] using h1
    cases e <;> simp only [py0] at h4 <;> first | (cases h4; done) | skip
    case tup es =>
      obtain ⟨qs, w2, rfl⟩ := Option.map_eq_some_iff.mp h4
      cases m with
      | zero => simp [nbD] at h2
      | succ m =>
        have := eqvL_nb n m ds es ps qs hn (by simpa [nbD] using h2) w1 w2
        simp [PyData.eqv, this]
    all_goals first | (simp [nbD] at h2; done) | (cases h4; simp [PyData.eqv]; done) | (obtain ⟨_, _, rfl⟩ := Option.map_eq_some_iff.mp h4; simp [PyData.eqv])
  | 0, _, .lst ds, _, _, _, h, _, _, _ => by simp [nbD] at h
  | 0, _, .tup ds, _, _, _, h, _, _, _ => by simp [nbD] at h
  | _, _, .bl _, _, _, _, h, _, _, _ => by simp [nbD] at h
  | _, _, .rdl _, _, _, _, h, _, _, _ => by simp [nbD] at h
  | _, _, .dct _, _, _, _, h, _, _, _ => by simp [nbD] at h
  | _, _, .ins _ _, _, _, _, h, _, _, _ => by simp [nbD] at h
  | _, _, .loc _, _, _, _, h, _, _, _ => by simp [nbD] at h
  | _, _, .ty _, _, _, _, h, _, _, _ => by simp [nbD] at h
  | _, _, .adr _, _, _, _, h, _, _, _ => by simp [nbD] at h
  | _, _, .exn _ _ _, _, _, _, h, _, _, _ => by simp [nbD] at h
theorem eqvL_nb : ∀ (n m : Nat) (ds es : List D) (ps qs : List PyData), nbL n ds = true → nbL m es = true → pyL ds = some ps → pyL es = some qs → (PyData.eqvAll ps qs = true ↔ ds = es)
  | n, m, [], es, ps, qs, h1, h2, h3, h4 => by
    simp only [pyL] at h3; cases h3
    cases es with
    | nil => simp only [pyL] at h4; cases h4; simp [PyData.eqvAll]
    | cons e es =>
      simp only [pyL] at h4
      split at h4
      · cases h4; simp [PyData.eqvAll]
      · cases h4
  | n, m, d :: ds, es, ps, qs, h1, h2, h3, h4 => by
    simp only [pyL] at h3
    split at h3
    · rename_i p ps' a1 a2
      cases h3
      simp only [nbL, Bool.and_eq_true] at h1
      cases es with
      | nil => simp only [pyL] at h4; cases h4; simp [PyData.eqvAll]
      | cons e es =>
        simp only [pyL] at h4
        split at h4
        · rename_i q qs' b1 b2
          cases h4
          simp only [nbL, Bool.and_eq_true] at h2
          have k1 := eqv_nb n m d e p q h1.1 h2.1 a1 b1
          have k2 := eqvL_nb n m ds es ps' qs' h1.2 h2.2 a2 b2
          simp [PyData.eqvAll, k1, k2]
        · cases h4
    · cases h3
end
theorem py0_S {ς : Store} {d : D} {p : PyData} (h : py0 d = some p) : pyS ς d = some p := by
  cases d <;> first | exact h | (simp only [py0] at h; cases h)
open Classical in
/-- == of data without truths -/
theorem fEq_nb (neg : Bool) {d e : D} (hd : nbD 64 d = true) (he : nbD 64 e = true) (s : S) : fEq neg d e s = some (.ok (.bl (if neg then !decide (d = e) else decide (d = e))) s) := by
  obtain ⟨p, h1, h2, h3⟩ := nb_py 64 d hd
  obtain ⟨q, h4, h5, h6⟩ := nb_py 64 e he
  have k := eqv_nb 64 64 d e p q hd he h1 h4
  have e1 : PyData.eqv p q = decide (d = e) := by
    by_cases c : d = e
    · rw [decide_eq_true c]; exact k.mpr c
    · rw [decide_eq_false c]
      cases z : PyData.eqv p q with
      | true => exact absurd (k.mp z) c
      | false => rfl
  unfold fEq
  rw [py0_S h1, py0_S h4]
  simp [SeqAt.shaped, h2, h3, h5, h6, e1]
open Classical in
theorem fEq_nbL (neg : Bool) {l : Nat} {ds : List D} {e : D} {s : S} (hl : s.s[l]? = some (some (.lst ds))) (hd : nbD 64 (.lst ds) = true) (he : nbD 64 e = true) : fEq neg (.loc l) e s = some (.ok (.bl (if neg then !decide (D.lst ds = e) else decide (D.lst ds = e))) s) := by
  have q := fEq_nb neg hd he s
  obtain ⟨p, h1, _⟩ := nb_py 64 _ hd
  obtain ⟨p2, h2, _⟩ := nb_py 64 _ he
  have e1 : pyS s.s (.loc l) = pyS s.s (.lst ds) := by
    rw [py0_S h1]
    simp only [py0] at h1
    simp only [pyS, hl]
    exact h1
  unfold fEq at q ⊢
  rw [e1]
  exact q
theorem W_eq {neg : Bool} {d e : D} {s : S} {Q : D → S → Prop} {E : EX} (hd : nbD 64 d = true) (he : nbD 64 e = true) (q : ∀ b : Bool, (b = true ↔ d = e) → Q (.bl (if neg then !b else b)) s) : W (fEq neg d e s) Q E := by
  rw [fEq_nb neg hd he]
  exact q (@decide (d = e) (Classical.propDecidable _)) (by simp)
theorem W_eqL {neg : Bool} {l : Nat} {ds : List D} {e : D} {s : S} {Q : D → S → Prop} {E : EX} (hl : s.s[l]? = some (some (.lst ds))) (hd : nbD 64 (.lst ds) = true) (he : nbD 64 e = true) (q : ∀ b : Bool, (b = true ↔ D.lst ds = e) → Q (.bl (if neg then !b else b)) s) : W (fEq neg (.loc l) e s) Q E := by
  rw [fEq_nbL neg hl hd he]
  exact q (@decide (D.lst ds = e) (Classical.propDecidable _)) (by simp)
@[simp] theorem nb_non (n : Nat) : nbD n .non = true := by simp [nbD]
@[simp] theorem nb_int (n : Nat) (i : Int) : nbD n (.int i) = true := by simp [nbD]
theorem nb_lst {n : Nat} {ds : List D} (h : ∀ d ∈ ds, nbD n d = true) : nbD (n + 1) (.lst ds) = true := by
  simp only [nbD]
  exact nbL_of h
theorem nb_tup {n : Nat} {ds : List D} (h : ∀ d ∈ ds, nbD n d = true) : nbD (n + 1) (.tup ds) = true := by
  simp only [nbD]
  exact nbL_of h
end DL

/-! from DW2.lean -/
set_option Elab.async false
set_option linter.all false
set_option maxRecDepth 100000
set_option maxHeartbeats 4000000
/-! DW2: rows of W for own operators, own len, dict comprehensions, three names at once. -/
namespace DL
open PySem L2
section
variable {s s' : S} {E : EX} {Q : Fl → S → Prop} {QD : D → S → Prop} {QB : Bool → S → Prop} {QL : List D → S → Prop}
def parF3 (i j l : Nat) (ds : List D) : M Fl := fun s => match ds with
  | [v, w, x] => some (.ok .nx { s with e := ((s.e.set i (some v)).set j (some w)).set l (some x) })
  | _ => none
@[simp] theorem parF3_s (i j l : Nat) (v w x : D) (s : S) : parF3 i j l [v, w, x] s = some (.ok .nx ⟨((s.e.set i (some v)).set j (some w)).set l (some x), s.s⟩) := (rfl)
@[simp ↓] theorem W_parS3 (i j l : Nat) (n : M (List D)) : W (parS3 i j l n s) Q E = W (n s) (fun ds s' => W (parF3 i j l ds s') Q E) E := W_bind n (parF3 i j l) _ rfl
def inF (neg : Bool) (k d : D) : M D := fun s => match dctD s.s d, keyD k with
  | some ms, some k => some (.ok (.bl (if neg then !(valD ms k).isSome else (valD ms k).isSome)) s)
  | _, _ => none
@[simp ↓] theorem W_inD (neg : Bool) (mk md : M D) : W (inD neg mk md s) QD E = W (mk s) (fun k s1 => W (md s1) (fun d s2 => W (inF neg k d s2) QD E) E) E := by
  refine (W_bind mk (fun k => bnd md fun d => inF neg k d) _ rfl).trans ?_
  refine W_cong fun x s1 => ?_
  rw [W_bnd]
@[simp] theorem inF_dct (neg : Bool) (i : Int) (ms : List (Key × D)) (s : S) : inF neg (.int i) (.dct ms) s = some (.ok (.bl (if neg then !(valD ms (.inl i)).isSome else (valD ms (.inl i)).isSome)) s) := (rfl)
@[simp ↓] theorem W_dcM (own : Bool) (vs : List Nat) (src : M (List D)) (g : Tg) (tt : M Bool) (tk tv : M D) : W (dcM own vs src g tt tk tv s) QD E = W (src s) (fun ds s' => W (dcK own vs g tt tk tv ds s') QD E) E := W_bind src (dcK own vs g tt tk tv) _ rfl
@[simp ↓] theorem W_isiC (C : Str) (others : List Str) (m : M D) : W (isiC C others m s) QD E = W (m s) (fun d s' => W (isiF' C others d s') QD E) E := W_bind m (isiF' C others) _ rfl
theorem putD_len (ms : List (Key × D)) (k : Key) (v : D) : (putD ms k v).length ≤ ms.length + 1 := by
  unfold putD
  split
  · rw [List.length_map]
    omega
  · rw [List.length_append]
    simp
/-- a dict of all of them, the store as it was -/
theorem W_dcm {α : Type} {own : Bool} {i : Nat} {tk tv : M D} {f : α → D} {xs : List α} (kk : α → Key) (vv : α → D) (hs : small xs.length = true)
    (h : ∀ x ∈ xs, W (tk ⟨s.e.set i (some (f x)), s.s⟩) (fun y s1 => keyD y = some (kk x) ∧ W (tv s1) (fun d s2 => d = vv x ∧ s2.s = s.s) EX0) EX0)
    (he : W (mkd own (xs.foldl (fun ms x => putD ms (kk x) (vv x)) []) s) QD E) : W (dcK own [i] (gset i) (ret true) tk tv (xs.map f) s) QD E := by
  have z : wipeD s.e [i] = s.e.set i none := (rfl)
  have go : ∀ (ys : List α) (ms : List (Key × D)), (∀ y ∈ ys, y ∈ xs) → ms.length + ys.length ≤ 1000000 → dcR (wipeD s.e [i]) (gset i) (ret true) tk tv (ys.map f) s.s ms = some (ys.foldl (fun ms x => putD ms (kk x) (vv x)) ms, s.s) := by
    intro ys
    induction ys with
    | nil => intro ms _ _; rfl
    | cons y ys ih =>
      intro ms hy hl
      simp only [List.length_cons] at hl
      have h0 := h y (hy y (List.mem_cons_self ..))
      obtain ⟨y1, s1, e1, k1, h1⟩ := W_get h0
      obtain ⟨d, s2, e2, rfl, e3⟩ := W_get h1
      have pl := putD_len ms (kk y) (vv y)
      have e4 := ih (putD ms (kk y) (vv y)) (fun x hx => hy x (List.mem_cons_of_mem _ hx)) (by omega)
      rw [List.map_cons, List.foldl_cons, ← e4]
      unfold dcR
      show (match tk ⟨(wipeD s.e [i]).set i (some (f y)), s.s⟩ with
        | some (.ok y s3) => (match tv s3 with
          | some (.ok z s4) => (match keyD y with
            | some k => if small ms.length = true then dcR (wipeD s.e [i]) (gset i) (ret true) tk tv (ys.map f) s4.s (putD ms k z) else none
            | none => none)
          | _ => none)
        | _ => none) = _
      rw [z, List.set_set, e1]
      dsimp only
      rw [e2]
      dsimp only
      rw [k1]
      dsimp only
      rw [if_pos (small_of (by omega)), e3]
      cases ys <;> rfl
  unfold dcK
  have hl := of_decide_eq_true hs
  rw [go xs [] (fun _ h => h) (by simpa using hl)]
  exact he
@[simp] theorem mkd_f (ms : List (Key × D)) (s : S) : mkd false ms s = some (.ok (.dct ms) s) := (rfl)
theorem valD_put (ms : List (Key × D)) (k k' : Key) (v : D) : (valD (putD ms k v) k').isSome = (decide (k = k') || (valD ms k').isSome) := by
  have e : ∀ ms : List (Key × D), (valD ms k').isSome = ms.any fun kv => decide (kv.1 = k') := fun ms => by
    unfold valD
    rw [Option.isSome_map]
    induction ms with
    | nil => rfl
    | cons kv ms ih =>
      rw [List.find?_cons, List.any_cons]
      cases c : decide (kv.1 = k') with
      | true => rfl
      | false => rw [ih]; rfl
  rw [e, e]
  unfold putD
  by_cases c : (ms.any fun kv => decide (kv.1 = k)) = true
  · rw [if_pos c, List.any_map]
    have e2 : ((fun kv : Key × D => decide (kv.1 = k')) ∘ fun kv => if kv.1 = k then (kv.1, v) else kv) = fun kv => decide (kv.1 = k') := by
      funext kv
      simp only [Function.comp]
      split <;> rfl
    rw [e2]
    by_cases c2 : k = k'
    · subst c2
      rw [c]
      simp
    · simp [c2]
  · rw [if_neg c, List.any_append]
    simp [Bool.or_comm]
theorem valD_fold {α : Type} (kk : α → Key) (vv : α → D) (k' : Key) : ∀ (xs : List α) (ms : List (Key × D)), (valD (xs.foldl (fun ms x => putD ms (kk x) (vv x)) ms) k').isSome = ((xs.any fun x => decide (kk x = k')) || (valD ms k').isSome)
  | [], ms => by simp
  | x :: xs, ms => by
    rw [List.foldl_cons, valD_fold kk vv k' xs, valD_put, List.any_cons, ← Bool.or_assoc, Bool.or_comm (xs.any _)]
theorem W_binI {C : Str} {f : DF} {d e : D} (hd : isI C s.s d = true) (he : isI C s.s e = true) (h : WF (f [d, e] s.s) (fun d ς' => QD d ⟨s.e, ς'⟩) EF0) : W (binIF C f d e s) QD E := by
  obtain ⟨r, ς', e1, q⟩ := WF_get h
  refine W_of (b := r) (s' := ⟨s.e, ς'⟩) ?_ q
  unfold binIF chk
  show guard' (isI C s.s d && isI C s.s e) _ s = _
  rw [hd, he]
  show okO s.e (f [d, e] s.s) = _
  rw [e1]
  rfl
theorem W_lenI {C : Str} {f : DF} {d : D} {n : Nat} (hd : isI C s.s d = true) (hn : n ≤ 1000000) (h : f [d] s.s = some (.ok (.int n) s.s)) (q : QD (.int n) s) : W (lenIF C f [d] s) QD E := by
  refine W_of (b := .int n) (s' := s) ?_ q
  unfold lenIF chk
  show guard' (isI C s.s d) _ s = _
  rw [hd]
  show lenO s.e (f [d] s.s) = _
  rw [h]
  unfold lenO
  simp only
  rw [if_pos ⟨by omega, by omega⟩]
@[simp] theorem fAny_map (all : Bool) (bs : List Bool) (s : S) : fAny all [.lst (bs.map .bl)] s = some (.ok (.bl (if all then bs.all id else bs.any id)) s) := by
  unfold fAny
  simp [blsD_map]
end
end DL
namespace DL
open PySem L2
@[simp] theorem setF_loc1 {x : Option O} {xs : List D} {e : List (Option D)} {r : Store} {j : Int} (v : D) : setF (.loc 1) (.int j) v ⟨e, x :: some (.lst xs) :: r⟩ = (match ixN xs.length j with
    | some n => some (.ok .nx ⟨e, x :: some (.lst (xs.set n v)) :: r⟩)
    | none => none) := (rfl)
@[simp] theorem sflat_tab (q : Str) (P : Addr) (r : Store) : sflat (some (.tab q P) :: r) = sflat r := by
  show (O.flat (.tab q P) && sflat r) = _
  simp [O.flat]
section
variable {s s' : S} {E : EX} {Q : Fl → S → Prop} {QD : D → S → Prop}
/-- a dict of some of them, the store as it was -/
theorem W_dcf {α : Type} {own : Bool} {vs : List Nat} {g : Tg} {tt : M Bool} {tk tv : M D} {f : α → D} {xs : List α} (kk : α → Key) (vv : α → D) (P : α → Bool) (hs : small xs.length = true)
    (h : ∀ x ∈ xs, W (tgM g (f x) ⟨wipeD s.e vs, s.s⟩) (fun _ s0 => W (tt s0) (fun b s' => b = P x ∧ (P x = true → W (tk s') (fun y s1 => keyD y = some (kk x) ∧ W (tv s1) (fun d s2 => d = vv x ∧ s2.s = s.s) EX0) EX0) ∧ (P x = false → s'.s = s.s)) EX0) EX0)
    (he : W (mkd own ((xs.filter P).foldl (fun ms x => putD ms (kk x) (vv x)) []) s) QD E) : W (dcK own vs g tt tk tv (xs.map f) s) QD E := by
  have go : ∀ (ys : List α) (ms : List (Key × D)), (∀ y ∈ ys, y ∈ xs) → ms.length + ys.length ≤ 1000000 → dcR (wipeD s.e vs) g tt tk tv (ys.map f) s.s ms = some ((ys.filter P).foldl (fun ms x => putD ms (kk x) (vv x)) ms, s.s) := by
    intro ys
    induction ys with
    | nil => intro ms _ _; rfl
    | cons y ys ih =>
      intro ms hy hl
      simp only [List.length_cons] at hl
      have h0 := h y (hy y (List.mem_cons_self ..))
      unfold tgM at h0
      cases hg : g (f y) ⟨wipeD s.e vs, s.s⟩ with
      | none => rw [hg] at h0; exact h0.elim
      | some s0 =>
        rw [hg] at h0
        obtain ⟨b, s1, e1, rfl, h1, h2⟩ := W_get (show W (tt s0) _ EX0 from h0)
        rw [List.map_cons, List.filter_cons]
        unfold dcR
        rw [hg]
        show (match tt s0 with
          | some (.ok true s2) => _
          | some (.ok false s2) => _
          | _ => _) = _
        rw [e1]
        cases hp : P y with
        | false =>
          have e := ih ms (fun x hx => hy x (List.mem_cons_of_mem _ hx)) (by omega)
          show dcR (wipeD s.e vs) g tt tk tv (ys.map f) s1.s ms = _
          rw [h2 hp, e]
          rfl
        | true =>
          obtain ⟨y1, s2, e2, k1, h3⟩ := W_get (h1 hp)
          obtain ⟨d, s3, e3, rfl, e4⟩ := W_get h3
          have pl := putD_len ms (kk y) (vv y)
          have e := ih (putD ms (kk y) (vv y)) (fun x hx => hy x (List.mem_cons_of_mem _ hx)) (by omega)
          show (match tk s1 with
            | some (.ok y s3) => (match tv s3 with
              | some (.ok z s4) => (match keyD y with
                | some k => if small ms.length = true then dcR (wipeD s.e vs) g tt tk tv (ys.map f) s4.s (putD ms k z) else none
                | none => none)
              | _ => none)
            | _ => none) = _
          rw [e2]
          dsimp only
          rw [e3]
          dsimp only
          rw [k1]
          dsimp only
          rw [if_pos (small_of (by omega)), e4, e]
          rfl
  unfold dcK
  have hl := of_decide_eq_true hs
  rw [go xs [] (fun _ h => h) (by simpa using hl)]
  exact he
end
end DL

/-! from DW3.lean -/
set_option Elab.async false
set_option linter.all false
set_option maxRecDepth 100000
set_option maxHeartbeats 4000000
/-! DW3: rows of W for comprehensions over lists that may change later; either way. -/
namespace DL
open PySem L2
section
variable {s s' : S} {E : EX} {Q : Fl → S → Prop} {QD : D → S → Prop}
theorem lcR_of {α : Type} {e : List (Option D)} {ς : Store} {g : Tg} {tt : M Bool} {te : M D} {f : α → D} (out : α → D) (P : α → Bool) : ∀ {xs : List α},
    (∀ x ∈ xs, W (tgM g (f x) ⟨e, ς⟩) (fun _ s1 => W (tt s1) (fun b s' => b = P x ∧ (P x = true → W (te s') (fun d s' => d = out x ∧ s'.s = ς) EX0) ∧ (P x = false → s'.s = ς)) EX0) EX0) →
    lcR e g tt te (xs.map f) ς = some ((xs.filter P).map out, ς)
  | [], _ => rfl
  | x :: xs, h => by
    have ih := lcR_of (xs := xs) out P fun y hy => h y (List.mem_cons_of_mem _ hy)
    have h0 := h x (List.mem_cons_self ..)
    unfold tgM at h0
    cases hg : g (f x) ⟨e, ς⟩ with
    | none => rw [hg] at h0; exact h0.elim
    | some s0 =>
      rw [hg] at h0
      obtain ⟨b, s1, e1, rfl, h1, h2⟩ := W_get (show W (tt s0) _ EX0 from h0)
      rw [List.map_cons, List.filter_cons]
      unfold lcR
      rw [hg]
      show (match tt s0 with | some (.ok true s2) => _ | some (.ok false s2) => _ | _ => _) = _
      rw [e1]
      cases hp : P x with
      | false =>
        show lcR e g tt te (xs.map f) s1.s = _
        rw [h2 hp, ih]
        rfl
      | true =>
        obtain ⟨d, s2, e2, rfl, e3⟩ := W_get (h1 hp)
        show (match te s1 with | some (.ok y s3) => _ | _ => _) = _
        rw [e2]
        show Option.map _ (lcR e g tt te (xs.map f) s2.s) = _
        rw [e3, ih]
        rfl
@[simp ↓] theorem W_lcL (own : Bool) (vs : List Nat) (md : M D) (g : Tg) (tt : M Bool) (te : M D) : W (lcL own vs md g tt te s) QD E = W (md s) (fun d s' => W (lcLK own vs g tt te d s') QD E) E := W_bind md (lcLK own vs g tt te) _ rfl
@[simp ↓] theorem W_dcL (own : Bool) (vs : List Nat) (md : M D) (g : Tg) (tt : M Bool) (tk tv : M D) : W (dcL own vs md g tt tk tv s) QD E = W (md s) (fun d s' => W (dcLK own vs g tt tk tv d s') QD E) E := W_bind md (dcLK own vs g tt tk tv) _ rfl
theorem set_back {ς : Store} {l : Nat} {o : Option O} (h : ς[l]? = some o) : (ς.set l none).set l o = ς := by
  rw [List.set_set]
  refine List.ext_getElem? fun j => ?_
  by_cases z : l = j
  · subst z
    rw [List.getElem?_set_self (List.getElem?_eq_some_iff.mp h).1, h]
  · rw [List.getElem?_set_ne z]
theorem W_lcLf {α : Type} {own : Bool} {vs : List Nat} {g : Tg} {tt : M Bool} {te : M D} {f : α → D} {xs : List α} {l : Nat} (out : α → D) (P : α → Bool) (hl : s.s[l]? = some (some (.lst (xs.map f)))) (hs : small xs.length = true)
    (h : ∀ x ∈ xs, W (tgM g (f x) ⟨wipeD s.e vs, s.s.set l none⟩) (fun _ s1 => W (tt s1) (fun b s' => b = P x ∧ (P x = true → W (te s') (fun d s' => d = out x ∧ s'.s = s.s.set l none) EX0) ∧ (P x = false → s'.s = s.s.set l none)) EX0) EX0)
    (he : W (mk own ((xs.filter P).map out) s) QD E) : W (lcLK own vs g tt te (.loc l) s) QD E := by
  have e := lcR_of out P h
  have hn : (s.s.set l none)[l]? = some none := List.getElem?_set_self (List.getElem?_eq_some_iff.mp hl).1
  have hsm : small ((xs.filter P).map out).length = true := by
    have := of_decide_eq_true hs
    have := List.length_filter_le P xs
    exact small_of (by rw [List.length_map]; omega)
  unfold lcLK ownL
  simp only [hl, e, hn]
  show W (guard' (small ((xs.filter P).map out).length) (mk own ((xs.filter P).map out)) ⟨s.e, (s.s.set l none).set l (some (.lst (xs.map f)))⟩) QD E
  rw [hsm, set_back hl]
  exact he
theorem dcR_of {α : Type} {e : List (Option D)} {ς : Store} {g : Tg} {tt : M Bool} {tk tv : M D} {f : α → D} (kk : α → Key) (vv : α → D) (P : α → Bool) : ∀ {xs : List α} (ms : List (Key × D)), ms.length + xs.length ≤ 1000000 →
    (∀ x ∈ xs, W (tgM g (f x) ⟨e, ς⟩) (fun _ s0 => W (tt s0) (fun b s' => b = P x ∧ (P x = true → W (tk s') (fun y s1 => keyD y = some (kk x) ∧ W (tv s1) (fun d s2 => d = vv x ∧ s2.s = ς) EX0) EX0) ∧ (P x = false → s'.s = ς)) EX0) EX0) →
    dcR e g tt tk tv (xs.map f) ς ms = some ((xs.filter P).foldl (fun ms x => putD ms (kk x) (vv x)) ms, ς)
  | [], ms, _, _ => rfl
  | y :: ys, ms, hl, h => by
    simp only [List.length_cons] at hl
    have h0 := h y (List.mem_cons_self ..)
    have ih := fun (ms : List (Key × D)) hl => dcR_of (xs := ys) kk vv P ms hl fun y hy => h y (List.mem_cons_of_mem _ hy)
    unfold tgM at h0
    cases hg : g (f y) ⟨e, ς⟩ with
    | none => rw [hg] at h0; exact h0.elim
    | some s0 =>
      rw [hg] at h0
      obtain ⟨b, s1, e1, rfl, h1, h2⟩ := W_get (show W (tt s0) _ EX0 from h0)
      rw [List.map_cons, List.filter_cons]
      unfold dcR
      rw [hg]
      show (match tt s0 with | some (.ok true s2) => _ | some (.ok false s2) => _ | _ => _) = _
      rw [e1]
      cases hp : P y with
      | false =>
        show dcR e g tt tk tv (ys.map f) s1.s ms = _
        rw [h2 hp, ih ms (by omega)]
        rfl
      | true =>
        obtain ⟨y1, s2, e2, k1, h3⟩ := W_get (h1 hp)
        obtain ⟨d, s3, e3, rfl, e4⟩ := W_get h3
        have pl := putD_len ms (kk y) (vv y)
        show (match tk s1 with
          | some (.ok y s3) => (match tv s3 with
            | some (.ok z s4) => (match keyD y with
              | some k => if small ms.length = true then dcR e g tt tk tv (ys.map f) s4.s (putD ms k z) else none
              | none => none)
            | _ => none)
          | _ => none) = _
        rw [e2]
        dsimp only
        rw [e3]
        dsimp only
        rw [k1]
        dsimp only
        rw [if_pos (small_of (by omega)), e4, ih _ (by omega)]
        rfl
theorem W_dcLf {α : Type} {own : Bool} {vs : List Nat} {g : Tg} {tt : M Bool} {tk tv : M D} {f : α → D} {xs : List α} {l : Nat} (kk : α → Key) (vv : α → D) (P : α → Bool) (hl : s.s[l]? = some (some (.lst (xs.map f)))) (hs : small xs.length = true)
    (h : ∀ x ∈ xs, W (tgM g (f x) ⟨wipeD s.e vs, s.s.set l none⟩) (fun _ s0 => W (tt s0) (fun b s' => b = P x ∧ (P x = true → W (tk s') (fun y s1 => keyD y = some (kk x) ∧ W (tv s1) (fun d s2 => d = vv x ∧ s2.s = s.s.set l none) EX0) EX0) ∧ (P x = false → s'.s = s.s.set l none)) EX0) EX0)
    (he : W (mkd own ((xs.filter P).foldl (fun ms x => putD ms (kk x) (vv x)) []) s) QD E) : W (dcLK own vs g tt tk tv (.loc l) s) QD E := by
  have hsz := of_decide_eq_true hs
  have e := dcR_of kk vv P (xs := xs) [] (by simpa using hsz) h
  have hn : (s.s.set l none)[l]? = some none := List.getElem?_set_self (List.getElem?_eq_some_iff.mp hl).1
  unfold dcLK ownL
  simp only [hl, e, hn]
  rw [set_back hl]
  exact he
theorem lcM_loc {own : Bool} {vs : List Nat} {g : Tg} {tt : M Bool} {te : M D} {i l : Nat} (h : s.e[i]? = some (some (.loc l))) : lcM own vs (seqI (name i)) g tt te s = none := by
  unfold lcM seqI bnd name
  simp only [h]
  rfl
theorem dcM_loc {own : Bool} {vs : List Nat} {g : Tg} {tt : M Bool} {tk tv : M D} {i l : Nat} (h : s.e[i]? = some (some (.loc l))) : dcM own vs (seqI (name i)) g tt tk tv s = none := by
  unfold dcM seqI bnd name
  simp only [h]
  rfl
end
/-! lists and tuples -/
def shp (b : Bool) (ds : List D) : D := match b with
  | true => .lst ds
  | false => .tup ds
section
variable {s : S} {Q : Fl → S → Prop} {E : EX}
@[simp] theorem seqF_shp (b : Bool) (ds : List D) : seqF (shp b ds) = some (b, ds) := by cases b <;> rfl
@[simp] theorem seqD_shp (b : Bool) (ds : List D) (ς : Store) : seqD ς (shp b ds) = some (b, ds) := by cases b <;> rfl
@[simp] theorem seqM_shp (b : Bool) (ds : List D) : seqM (shp b ds) s = some (.ok ds s) := by cases b <;> rfl
@[simp] theorem fIx_shp (b : Bool) (ds : List D) (i : Int) : fIx (shp b ds) (.int i) s = optD (atI ds i) s := fIx_of _ i (seqD_shp b ds _)
@[simp] theorem fLen_shp (b : Bool) (ds : List D) : fLen [shp b ds] s = some (.ok (.int ds.length) s) := fLen_s _ (seqD_shp b ds _)
@[simp] theorem fList_shp (o b : Bool) (ds : List D) : fList o [shp b ds] s = mk o ds s := fList_of o _ (seqD_shp b ds _)
@[simp] theorem fTuple_shp (b : Bool) (ds : List D) : fTuple [shp b ds] s = some (.ok (.tup ds) s) := fTuple_of _ (seqD_shp b ds _)
@[simp] theorem flat_shp (b : Bool) (ds : List D) : (shp b ds).flat = ds.all D.flat := by cases b <;> simp [shp]
@[simp] theorem enumF_shp (b : Bool) (ds : List D) : enumF [shp b ds] s = some (.ok (enumL ds) s) := by cases b <;> rfl
theorem W_tgS (b : Bool) (i j : Nat) (x y : D) : W (tgM (gtup 2 (gcons (gset i) (gcons (gset j) gnil))) (shp b [x, y]) s) Q E = Q .nx ⟨(s.e.set i (some x)).set j (some y), s.s⟩ := by cases b <;> rfl
end
end DL

/-! from DW4.lean -/
set_option Elab.async false
set_option linter.all false
set_option maxRecDepth 100000
set_option maxHeartbeats 4000000
/-! DW4: rows of W for dicts that change, for slots of lists; for over lists that change later. -/
namespace DL
open PySem L2
section
variable {s : S} {Q : Fl → S → Prop} {QD : D → S → Prop} {E : EX}
@[simp ↓] theorem W_newD : W (newD s) QD E = QD (.loc s.s.length) ⟨s.e, s.s ++ [some (.dct [])]⟩ := (rfl)
@[simp ↓] theorem W_getD (md mk : M D) : W (getD' md mk s) QD E = W (md s) (fun d s1 => W (mk s1) (fun k s2 => W (getF d k s2) QD E) E) E := by
  rw [getD_s]
  refine (W_bnd md _).trans ?_
  refine W_cong fun d s1 => ?_
  rw [W_bnd]
@[simp ↓] theorem W_get2D (md mk mx : M D) : W (get2D md mk mx s) QD E = W (md s) (fun d s1 => W (guard' (dctD s1.s d).isSome (bnd mk fun k => bnd mx fun x => get2F d k x) s1) QD E) E := by
  rw [get2D_s]
  refine (W_bnd md _).trans ?_
  rfl
@[simp ↓] theorem W_putDS (md mk mv : M D) : W (putDS md mk mv s) Q E = W (mv s) (fun v s1 => W (md s1) (fun d s2 => W (mk s2) (fun k s3 => W (putF d k v s3) Q E) E) E) E := by
  rw [putDS_s]
  refine (W_bnd mv _).trans ?_
  refine W_cong fun v s1 => ?_
  rw [W_bnd]
  refine W_cong fun d s2 => ?_
  rw [W_bnd]
theorem W_get2F {i : Nat} {ms : List (Key × D)} {k x : D} {q : Key} (h : s.s[i]? = some (some (.dct ms))) (hk : keyD k = some q) (he : QD ((valD ms q).getD x) s) : W (get2F (.loc i) k x s) QD E := W_of (get2F_loc h hk x) he
theorem W_getF {i : Nat} {ms : List (Key × D)} {k : D} {q : Key} {v : D} (h : s.s[i]? = some (some (.dct ms))) (hk : keyD k = some q) (hv : valD ms q = some v) (he : QD v s) : W (getF (.loc i) k s) QD E := W_of (b := v) (s' := s) (by rw [getF_loc h hk, hv]; rfl) he
theorem W_putF {i : Nat} {ms : List (Key × D)} {k v : D} {q : Key} (h : s.s[i]? = some (some (.dct ms))) (hk : keyD k = some q) (hs : small ms.length = true) (he : Q .nx ⟨s.e, s.s.set i (some (.dct (putD ms q v)))⟩) : W (putF (.loc i) k v s) Q E := W_of (putF_loc h hk hs v) he
theorem W_listDD {i : Nat} {ms : List (Key × D)} {o : Bool} (h : s.s[i]? = some (some (.dct ms))) (he : W (mk o (ms.map fun (kv : Key × D) => kD kv.1) s) QD E) : W (fListDD o [.loc i] s) QD E := by rw [fListDD_loc o h]; exact he
theorem W_sortI {o : Bool} {d : D} {ns : List Int} (h : seqD s.s d = some (true, ns.map .int)) (he : W (mk o ((sortI ns).map .int) s) QD E) : W (fSortI o [d] s) QD E := by
  have e : intsOf s.s d = some ns := by
    unfold intsOf
    simp only [h, intsD_map]
  unfold fSortI
  simp only [e]
  exact he
/-- `xs[i] += v` -/
def augF (g : Int → Int → Int) (d k : D) (me : M D) : M Fl := fun s => match ownL s.s d, k with
  | some (_, xs), .int j => match atI xs j with
    | some (.int m) => bnd me (augL2 g d j m) s
    | _ => none
  | _, _ => none
@[simp ↓] theorem W_augL (g : Int → Int → Int) (mo mi me : M D) : W (augL g mo mi me s) Q E = W (mo s) (fun d s1 => W (mi s1) (fun k s2 => W (augF g d k me s2) Q E) E) E := by
  refine (W_bind mo (fun d => bnd mi fun k => augF g d k me) _ rfl).trans ?_
  refine W_cong fun d s1 => ?_
  rw [W_bnd]
theorem W_augF {g : Int → Int → Int} {me : M D} {l : Nat} {xs : List D} {j n : Nat} {m v : Int} (h : s.s[l]? = some (some (.lst xs))) (hj : xs[j]? = some (.int m)) (hv : me s = some (.ok (.int v) s)) (he : Q .nx ⟨s.e, s.s.set l (some (.lst (xs.set j (.int (g m v)))))⟩) : W (augF g (.loc l) (.int (j : Int)) me s) Q E := by
  have lt : j < xs.length := (List.getElem?_eq_some_iff.mp hj).1
  have e1 : atI xs (j : Int) = some (.int m) := by rw [atI_n]; exact hj
  have e2 : ownL s.s (.loc l) = some (l, xs) := by simp [h]
  refine W_of (b := .nx) (s' := ⟨s.e, s.s.set l (some (.lst (xs.set j (.int (g m v)))))⟩) ?_ he
  unfold augF
  rw [e2]
  simp only [e1]
  unfold bnd
  rw [hv]
  simp only
  unfold augL2
  rw [e2]
  simp only [ixN_nat lt]
  rfl
end
/-! slices -/
def oIntF : D → M (Option Int) := fun d => match d with
  | .int i => ret (some i)
  | _ => fail
@[simp] theorem oIntF_i (i : Int) (s : S) : oIntF (.int i) s = some (.ok (some i) s) := (rfl)
theorem W_oInt (m : M D) {s : S} {Q : Option Int → S → Prop} {E : EX} : W (oInt m s) Q E = W (m s) (fun d s1 => W (oIntF d s1) Q E) E := W_bind m oIntF _ rfl
theorem W_slA (own : Bool) (m : M D) (ml mh : M (Option Int)) {s : S} {Q : D → S → Prop} {E : EX} : W (slA own m ml mh s) Q E = W (m s) (fun d s1 => W (ml s1) (fun lo s2 => W (mh s2) (fun hi s3 => W (slAf own d lo hi s3) Q E) E) E) E := by
  refine (W_bind m (fun d => bnd ml fun lo => bnd mh fun hi => slAf own d lo hi) _ rfl).trans ?_
  refine W_cong fun x s1 => ?_
  rw [W_bnd]
  refine W_cong fun y s2 => ?_
  rw [W_bnd]
@[simp] theorem slAf_l (ds : List D) (lo hi : Option Int) (s : S) : slAf false (.lst ds) lo hi s = some (.ok (.lst (cutL ds lo hi)) s) := (rfl)
@[simp] theorem slAf_t (ds : List D) (lo hi : Option Int) (s : S) : slAf false (.tup ds) lo hi s = some (.ok (.tup (cutL ds lo hi)) s) := (rfl)
theorem cut_take {ds : List D} {a : Nat} : cutL ds none (some (a : Int)) = ds.take a := by
  unfold cutL
  rw [HT.sIx_nat, show HT.sIx ds.length 0 none = 0 from rfl]
  simp
theorem cut_drop {ds : List D} {a : Nat} : cutL ds (some (a : Int)) none = ds.drop a := by
  unfold cutL
  rw [HT.sIx_nat, show HT.sIx ds.length ds.length none = ds.length from rfl]
  by_cases h : a ≤ ds.length
  · rw [Nat.min_eq_left h]
    exact List.take_of_length_le (by rw [List.length_drop]; omega)
  · rw [Nat.min_eq_right (by omega), List.drop_eq_nil_of_le (show ds.length ≤ a by omega)]
    simp
end DL

/-! from k23M.lean -/
set_option Elab.async false
set_option linter.all false
set_option maxRecDepth 100000
set_option maxHeartbeats 4000000
namespace Lw
open PySem L2 DL
noncomputable section
variable [TabA]
def tst_BadItem (C : Str) : Option Bool := if C = "BadItem" then some true else if C = "BadName" then some false else if C = "BadNumber" then some false else if C = "TooMany" then some false else none
def m__law_taken : DF := mdef 4
    (sq (ifS (tst (op2 fGt (op2 fIx (name 0) (ret (.int 3))) (ret (.int 0))))
    (sq (asg (op2 fMod (bnd (acons (op2 fIx (name 0) (ret (.int 3))) anil) fInt) (name 1)) (gset 3))
    (sq (setL (name 0) (ret (.int 3)) (op2 fDiv (op2 fIx (name 0) (ret (.int 3))) (name 1)))
    (retS (name 3))))
    nxt)
    (sq (setL (name 0) (ret (.int 1)) (op2 (fAdd false) (op2 fIx (name 0) (ret (.int 1))) (ret (.int 1))))
    (sq (ifS (tst (op2 fGt (op2 fIx (name 0) (ret (.int 1))) (bnd (acons (op2 fIx (name 0) (ret (.int 0))) anil) fLen)))
    (sq (setL (name 0) (ret (.int 2)) (op2 fMod (bnd (acons (op2 (fAdd false) (op2 (fMul false) (op2 fIx (name 0) (ret (.int 2))) (ret (.int 48271))) (ret (.int 11))) anil) fInt) (ret (.int 2147483647))))
    (retS (op2 fMod (bnd (acons (op2 fDiv (op2 fIx (name 0) (ret (.int 2))) (ret (.int 7))) anil) fInt) (name 1))))
    nxt)
    (sq (asg (op2 fIx (op2 fIx (name 0) (ret (.int 0))) (op2 fSub (op2 fIx (name 0) (ret (.int 1))) (ret (.int 1)))) (gset 2))
    (sq (setL (name 0) (ret (.int 2)) (op2 fMod (bnd (acons (op2 (fAdd false) (op2 (fAdd false) (op2 (fMul false) (op2 fIx (name 0) (ret (.int 2))) (ret (.int 48271))) (name 2)) (ret (.int 11))) anil) fInt) (ret (.int 2147483647))))
    (sq (ifS (tst (op2 fGe (name 2) (op2 fPow (ret (.int 10)) (ret (.int 18)))))
    (setL (name 0) (ret (.int 3)) (op2 fDiv (name 2) (name 1)))
    nxt)
    (retS (op2 fMod (bnd (acons (name 2) anil) fInt) (name 1)))))))))
def m__law_span : DF := mdef 4
    (sq (asg (bnd (acons (name 0) (acons (name 1) anil)) (callF m__law_taken)) (gset 3))
    (retS (bnd (acons (name 3) (acons (bnd (acons (name 1) (acons (op2 (fAdd false) (op2 (fAdd false) (name 3) (ret (.int 1))) (bnd (acons (name 0) (acons (name 2) anil)) (callF m__law_taken))) anil)) fMin2) anil)) tupD)))
def m__law_spans : DF := mdef 6
    (sq (asg (bnd anil (lstE true)) (gset 4))
    (sq (forS (rng1 (acons (name 1) anil)) (gset 5)
    (exprS (mthL fAppend (name 4) (acons (bnd (acons (name 0) (acons (name 2) (acons (name 3) anil))) (callF m__law_span)) anil))))
    (retS (nameF 4))))
def m__law_mixed : DF := mdef 2
    (sq (ifS (tst (op2 (fEq false) (bnd (acons (name 0) (acons (ret (.int 2)) anil)) (callF m__law_taken)) (ret (.int 0))))
    (retS (bnd (acons (name 1) anil) (fList false)))
    nxt)
    (retS (bnd (acons (name 1) anil) fTuple)))
def m__law_handed : DF := mdef 3
    (retS (bnd (acons (name 0) (acons (lcM false [2] (seqI (name 1)) (gset 2) (ret true) (bnd (acons (name 0) (acons (name 2) anil)) (callF m__law_mixed))) anil)) (callF m__law_mixed)))
def m__law_subset : DF := mdef 3
    (retS (lcM false [2] (rng1 (acons (name 1) anil)) (gset 2) (tst (op2 (fEq false) (bnd (acons (name 0) (acons (ret (.int 2)) anil)) (callF m__law_taken)) (ret (.int 1)))) (name 2)))
def m__law_pick : DF := mdef 2
    (retS (op2 fIx (name 1) (bnd (acons (name 0) (acons (bnd (acons (name 1) anil) fLen) anil)) (callF m__law_taken))))
def m_gains_of : DF := mdef 3
    (retS (bnd (acons (lcM false [1, 2] (seqI (name 0)) (gtup 2 (gcons (gset 1) (gcons (gset 2) gnil))) (ret true) (op2 fSub (name 1) (name 2))) anil) fTuple))
def m_fees_of : DF := mdef 3
    (retS (bnd (acons (lcM false [1, 2] (seqI (name 0)) (gtup 2 (gcons (gset 1) (gcons (gset 2) gnil))) (ret true) (name 2)) anil) fSumA))
def m_pay_if : DF := mdef 4
    (sq (asg (bnd (acons (name 0) anil) (callF m_gains_of)) (gset 2))
    (retS (op2 (fAdd false) (bnd (acons (name 0) anil) (callF m_fees_of)) (bnd (acons (lcM false [3] (seqI (name 1)) (gset 3) (ret true) (op2 fIx (name 2) (name 3))) anil) fSumA))))
def m_is_sequence : DF := mdef 1
    (retS (isiT (name 0) ["list", "tuple"]))
def m_want_sequence : DF := mdef 1
    (ifS (notT (tst (bnd (acons (name 0) anil) (callF m_is_sequence))))
    (bnd (acons (ret .non) anil) (excF "BadItem" ["index"]))
    nxt)
def m_first_wrong : DF := mdef 3
    (sq (forS (enumerateI (acons (name 0) anil)) (gtup 2 (gcons (gset 1) (gcons (gset 2) gnil)))
    (ifS (notT (tst (name 2)))
    (retS (name 1))
    nxt))
    (retS (ret .non)))
def m_want_right : DF := mdef 3
    (sq (asg (bnd (acons (name 0) anil) (callF m_first_wrong)) (gset 2))
    (sq (ifS (tst (op2 (fIsN true) (name 2) (ret .non)))
    (bnd (acons (name 2) anil) (excF "BadItem" ["index"]))
    nxt)
    (ifS (tst (op2 fGt (bnd (acons (name 0) anil) fLen) (name 1)))
    (bnd (acons (name 1) anil) (excF "TooMany" ["limit"]))
    nxt)))
def m_is_row : DF := mdef 2
    (retS (andV (bnd (acons (name 0) anil) (callF m_is_sequence)) (op2 (fEq false) (bnd (acons (name 0) anil) fLen) (name 1))))
def m_is_whole : DF := mdef 1
    (retS (andV (bnd (acons (name 0) (acons (ret (.ty "int")) anil)) fIsi) (notV (bnd (acons (name 0) (acons (ret (.ty "bool")) anil)) fIsi))))
def m_is_between : DF := mdef 3
    (retS (andV (bnd (acons (name 0) anil) (callF m_is_whole)) (chn fLe fLe (name 1) (name 0) (name 2))))
def m_is_offer : DF := mdef 1
    (retS (andV (bnd (acons (name 0) (acons (ret (.int 2)) anil)) (callF m_is_row)) (andV (bnd (acons (op2 fIx (name 0) (ret (.int 0))) (acons (ret (.int 0)) (acons (ret (.int 99999)) anil))) (callF m_is_between)) (bnd (acons (op2 fIx (name 0) (ret (.int 1))) (acons (ret (.int 0)) (acons (op2 fIx (name 0) (ret (.int 0))) anil))) (callF m_is_between)))))
def m_Group__len : DF := mdef 1
    (retS (bnd (acons (fldI "Group" "spans" (name 0)) anil) fLen))
def m_want_offers : DF := mdef 3
    (sq (exprS (bnd (acons (name 1) anil) (callF m_want_sequence)))
    (sq (exprS (bnd (acons (lcM false [2] (seqI (name 1)) (gset 2) (ret true) (bnd (acons (name 2) anil) (callF m_is_offer))) (acons (bnd (acons (name 1) anil) fLen) anil)) (callF m_want_right)))
    (ifS (tst (op2 (fEq true) (bnd (acons (name 1) anil) fLen) (bnd (acons (name 0) anil) (lenIF "Group" m_Group__len))))
    (bnd (acons (ret .non) anil) (excF "BadItem" ["index"]))
    nxt)))
def m_by_gains : DF := mdef 4
    (retS (lcM false [1, 2] (seqI (bnd (acons (lcM false [2, 3] (enumerateI (acons (bnd (acons (name 0) anil) (callF m_gains_of)) anil)) (gtup 2 (gcons (gset 2) (gcons (gset 3) gnil))) (ret true) (bnd (acons (name 3) (acons (name 2) anil)) tupD)) anil) (fSortD false))) (gtup 2 (gcons (gset 1) (gcons (gset 2) gnil))) (ret true) (name 2)))
def m_poorest_comers : DF := mdef 2
    (sq (exprS (bnd (acons (name 0) (acons (name 1) anil)) (callF m_want_offers)))
    (retS (bnd (acons (bnd (acons (slA false (bnd (acons (name 1) anil) (callF m_by_gains)) (ret none) (oInt (fldI "Group" "least" (name 0)))) anil) (fSortI false)) anil) fTuple)))
def m_sure_pay : DF := mdef 2
    (retS (bnd (acons (name 1) (acons (bnd (acons (name 0) (acons (name 1) anil)) (callF m_poorest_comers)) anil)) (callF m_pay_if)))
def m_richest_comers : DF := mdef 6
    (sq (exprS (bnd (acons (name 0) (acons (name 1) anil)) (callF m_want_offers)))
    (sq (asg (bnd (acons (lcM false [3, 4] (enumerateI (acons (bnd (acons (name 1) anil) (callF m_gains_of)) anil)) (gtup 2 (gcons (gset 3) (gcons (gset 4) gnil))) (ret true) (bnd (acons (un1 fNeg (name 4)) (acons (name 3) anil)) tupD)) anil) (fSortD false)) (gset 2))
    (retS (bnd (acons (bnd (acons (lcM false [5, 3] (seqI (slA false (name 2) (ret none) (oInt (fldI "Group" "most" (name 0))))) (gtup 2 (gcons (gset 5) (gcons (gset 3) gnil))) (ret true) (name 3)) anil) (fSortI false)) anil) fTuple))))
def m_greatest_group_pay : DF := mdef 2
    (retS (bnd (acons (name 1) (acons (bnd (acons (name 0) (acons (name 1) anil)) (callF m_richest_comers)) anil)) (callF m_pay_if)))
def m__law_whole : DF := mdef 1
    (retS (andV (bnd (acons (name 0) (acons (ret (.ty "int")) anil)) fIsi) (notV (bnd (acons (name 0) (acons (ret (.ty "bool")) anil)) fIsi))))
def m_least_for : DF := mdef 5
    (sq (exprS (bnd (acons (name 0) (acons (name 1) anil)) (callF m_want_offers)))
    (sq (asg (bnd (acons (name 1) anil) (callF m_by_gains)) (gset 3))
    (sq (forS (rng1 (acons (op2 (fAdd false) (fldI "Group" "most" (name 0)) (ret (.int 1))) anil)) (gset 4)
    (ifS (tst (op2 fGe (bnd (acons (name 1) (acons (slA false (name 3) (ret none) (oInt (name 4))) anil)) (callF m_pay_if)) (name 2)))
    (retS (name 4))
    nxt))
    (retS (ret .non)))))
def m__law_refused : DF := mdef 5
    (sq (forS (rng1 (acons (ret (.int 5)) anil)) (gset 3)
    (tryL
    (sq (ifS (tst (op2 (fEq false) (name 3) (ret (.int 0))))
    (exprS (bnd (acons (name 0) (acons (name 1) anil)) (callF m_sure_pay)))
    (ifS (tst (op2 (fEq false) (name 3) (ret (.int 1))))
    (exprS (bnd (acons (name 0) (acons (name 1) anil)) (callF m_greatest_group_pay)))
    (ifS (tst (op2 (fEq false) (name 3) (ret (.int 2))))
    (exprS (bnd (acons (name 0) (acons (name 1) anil)) (callF m_poorest_comers)))
    (ifS (tst (op2 (fEq false) (name 3) (ret (.int 3))))
    (exprS (bnd (acons (name 0) (acons (name 1) anil)) (callF m_richest_comers)))
    (exprS (bnd (acons (name 0) (acons (name 1) (acons (ret (.int 0)) anil))) (callF m_least_for)))))))
    (retS (ret (.bl false))))
    [⟨tst_BadItem, 4, fun a d C => (ifS (orT (tst (op2 (fEq true) (fldM a d (decide (C = "BadItem")) (name 4) "index") (name 2))) (tst (op2 (fEq true) (bnd (acons (fldM a d (decide (C = "BadItem")) (name 4) "index") anil) (callF m__law_whole)) (bnd (acons (name 2) anil) (callF m__law_whole)))))
    (retS (ret (.bl false)))
    nxt)⟩]))
    (retS (ret (.bl true))))
def m__law_name : DF := mdef 5
    (sq (asg (ret (.str "abcdefghijklmnopqrstuvwxyz0123456789")) (gset 1))
    (sq (asg (bnd (acons (name 0) (acons (bnd (acons (ret (.int 1)) (acons (ret (.int 1)) (acons (ret (.int 2)) (acons (ret (.int 3)) (acons (ret (.int 5)) (acons (ret (.int 12)) anil)))))) (lstE false)) anil)) (callF m__law_pick)) (gset 2))
    (sq (asg (op2 fIx (name 1) (bnd (acons (name 0) (acons (ret (.int 26)) anil)) (callF m__law_taken))) (gset 3))
    (sq (forS (rng1 (acons (op2 fSub (name 2) (ret (.int 1))) anil)) (gset 4)
    (asg (op2 (fAdd false) (name 3) (op2 fIx (name 1) (bnd (acons (name 0) (acons (ret (.int 36)) anil)) (callF m__law_taken)))) (gset 3)))
    (retS (name 3))))))
def m__law_if : DF := mdef 3
    (retS (bnd (acons (lcM false [2] (rng1 (acons (bnd (acons (name 0) anil) fLen) anil)) (gset 2) (ret true) (op2 fIx (op2 fIx (name 0) (name 2)) (bnd (acons (op2 (fIn true) (name 2) (name 1)) anil) fInt))) anil) fSumA))
def m__law_alike : Nat → DF
  | 0 => fun _ _ => none
  | n + 1 => mdef 3
    (sq (ifS (tst (isiT (name 1) ["tuple", "list"]))
    (sq (ifS (orT (notT (tst (isiT (name 0) ["tuple", "list"]))) (tst (op2 (fEq true) (bnd (acons (name 0) (acons (ret (.ty "list")) anil)) fIsi) (bnd (acons (name 1) (acons (ret (.ty "list")) anil)) fIsi))))
    (retS (ret (.bl false)))
    nxt)
    (sq (ifS (tst (op2 (fEq true) (bnd (acons (name 0) anil) fLen) (bnd (acons (name 1) anil) fLen)))
    (retS (ret (.bl false)))
    nxt)
    (retS (op2 (fEq false) (lcM false [2] (rng1 (acons (bnd (acons (name 1) anil) fLen) anil)) (gset 2) (notT (tst (bnd (acons (op2 fIx (name 0) (name 2)) (acons (op2 fIx (name 1) (name 2)) anil)) (callF (m__law_alike n))))) (name 2)) (bnd anil (lstE false))))))
    nxt)
    (sq (ifS (orT (tst (op2 (fIsN false) (name 1) (ret .non))) (tst (bnd (acons (name 1) (acons (ret (.ty "str")) anil)) fIsi)))
    (retS (andV (op2 (fEq false) (name 0) (name 1)) (op2 (fEq false) (bnd (acons (name 0) (acons (ret (.ty "str")) anil)) fIsi) (bnd (acons (name 1) (acons (ret (.ty "str")) anil)) fIsi))))
    nxt)
    (retS (andV (bnd (acons (name 0) (acons (ret (.ty "int")) anil)) fIsi) (andV (op2 (fEq false) (bnd (acons (name 0) (acons (ret (.ty "bool")) anil)) fIsi) (bnd (acons (name 1) (acons (ret (.ty "bool")) anil)) fIsi)) (op2 (fEq false) (name 0) (name 1)))))))
def m_all_sure : DF := mdef 4
    (retS (bnd (acons (lcM false [2, 3] (zipI (acons (name 0) (acons (name 1) anil))) (gtup 2 (gcons (gset 2) (gcons (gset 3) gnil))) (ret true) (bnd (acons (name 2) (acons (name 3) anil)) (callF m_sure_pay))) anil) fSumA))
def m_sure_request : DF := mdef 2
    (retS (bnd (acons (name 0) (acons (name 1) anil)) fMin2))
def m__law_subsets : DF := mdef 4
    (sq (asg (bnd (acons (bnd anil (lstE false)) anil) (lstE false)) (gset 1))
    (sq (forS (rng1 (acons (name 0) anil)) (gset 2)
    (asg (op2 (fAdd false) (name 1) (lcM false [3] (seqI (name 1)) (gset 3) (ret true) (op2 (fAdd false) (name 3) (bnd (acons (name 2) anil) (lstE false))))) (gset 1)))
    (retS (name 1))))
def m_pay_spread : DF := mdef 2
    (retS (op2 fSub (bnd (acons (name 0) (acons (name 1) anil)) (callF m_greatest_group_pay)) (bnd (acons (name 0) (acons (name 1) anil)) (callF m_sure_pay))))
def m_is_name : DF := mdef 2
    (sq (ifS (orT (notT (tst (bnd (acons (name 0) (acons (ret (.ty "str")) anil)) fIsi))) (notT (tst (chn fLe fLe (ret (.int 1)) (bnd (acons (name 0) anil) fLen) (ret (.int 12))))))
    (retS (ret (.bl false)))
    nxt)
    (retS (andV (alt (op2 (fIn false) (op2 fIx (name 0) (ret (.int 0))) (ret (.str "abcdefghijklmnopqrstuvwxyz"))) (op2 (fInS false) (op2 fIx (name 0) (ret (.int 0))) (ret (.str "abcdefghijklmnopqrstuvwxyz")))) (bnd (acons (lcM false [1] (strI (name 0)) (gset 1) (ret true) (orV (alt (op2 (fIn false) (name 1) (ret (.str "abcdefghijklmnopqrstuvwxyz"))) (op2 (fInS false) (name 1) (ret (.str "abcdefghijklmnopqrstuvwxyz")))) (alt (op2 (fIn false) (name 1) (ret (.str "0123456789"))) (op2 (fInS false) (name 1) (ret (.str "0123456789")))))) anil) (fAny true)))))
def m_want_name : DF := mdef 1
    (ifS (notT (tst (bnd (acons (name 0) anil) (callF m_is_name))))
    (bnd (acons (name 0) anil) (excF "BadName" ["value"]))
    nxt)
def m_is_night : DF := mdef 1
    (retS (bnd (acons (name 0) (acons (ret (.int 0)) (acons (ret (.int 36524)) anil))) (callF m_is_between)))
def m_is_span : DF := mdef 3
    (sq (ifS (notT (tst (bnd (acons (name 0) (acons (ret (.int 2)) anil)) (callF m_is_row))))
    (retS (ret (.bl false)))
    nxt)
    (sq (asg (name 0) (gtup 2 (gcons (gset 1) (gcons (gset 2) gnil))))
    (retS (andV (bnd (acons (name 1) anil) (callF m_is_night)) (bnd (acons (name 2) (acons (op2 (fAdd false) (name 1) (ret (.int 1))) (acons (op2 (fAdd false) (ret (.int 36524)) (ret (.int 1))) anil))) (callF m_is_between))))))
def m_copied_spans : DF := mdef 3
    (sq (exprS (bnd (acons (name 0) anil) (callF m_want_sequence)))
    (sq (exprS (bnd (acons (lcM false [2] (seqI (name 0)) (gset 2) (ret true) (bnd (acons (name 2) anil) (callF m_is_span))) (acons (name 1) anil)) (callF m_want_right)))
    (retS (bnd (acons (lcM false [2] (seqI (name 0)) (gset 2) (ret true) (bnd (acons (name 2) anil) fTuple)) anil) fTuple))))
def m_want_number : DF := mdef 3
    (ifS (notT (tst (bnd (acons (name 0) (acons (name 1) (acons (name 2) anil))) (callF m_is_between))))
    (bnd (acons (name 0) anil) (excF "BadNumber" ["value"]))
    nxt)
def m_Group__init : DF := mdef 8
    (sq (exprS (bnd (acons (name 1) anil) (callF m_want_name)))
    (sq (asg (bnd (acons (name 2) (acons (ret (.int 30)) anil)) (callF m_copied_spans)) (gset 7))
    (sq (exprS (bnd (acons (name 4) (acons (ret (.int 0)) (acons (bnd (acons (name 7) anil) fLen) anil))) (callF m_want_number)))
    (sq (exprS (bnd (acons (name 3) (acons (ret (.int 0)) (acons (name 4) anil))) (callF m_want_number)))
    (sq (exprS (bnd (acons (name 5) (acons (ret (.int 0)) (acons (name 4) anil))) (callF m_want_number)))
    (sq (exprS (bnd (acons (name 6) (acons (ret (.int 0)) (acons (ret (.int 7)) anil))) (callF m_want_number)))
    (sq (setI "Group" "name" (name 0) (name 1))
    (sq (setI "Group" "spans" (name 0) (name 7))
    (sq (setI "Group" "least" (name 0) (name 3))
    (sq (setI "Group" "most" (name 0) (name 4))
    (sq (setI "Group" "late_guests" (name 0) (name 5))
    (setI "Group" "late_nights" (name 0) (name 6)))))))))))))
def m_law : DF := mdef 28
    (sq (asg (bnd (acons (name 0) (acons (ret (.int 0)) (acons (ret (.int 127)) (acons (ret (.int 0)) anil)))) (lstE true)) (gset 1))
    (sq (asg (op2 (fEq false) (bnd (acons (name 1) (acons (ret (.int 4)) anil)) (callF m__law_taken)) (ret (.int 0))) (gset 2))
    (sq (asg (bnd (acons (name 1) (acons (op2 fIx (bnd (acons (ret (.int 7)) (acons (ret (.int 31)) anil)) (lstE false)) (bnd (acons (name 2) anil) fInt)) anil)) (callF m__law_taken)) (gset 3))
    (sq (asg (bnd (acons (name 1) (acons (name 3) (acons (ret (.int 30)) (acons (ret (.int 4)) anil)))) (callF m__law_spans)) (gset 4))
    (sq (asg (bnd (acons (name 1) (acons (op2 (fAdd false) (name 3) (ret (.int 1))) anil)) (callF m__law_taken)) (gset 5))
    (sq (asg (bnd (acons (name 1) (acons (op2 (fAdd false) (name 5) (ret (.int 1))) anil)) (callF m__law_taken)) (gset 6))
    (sq (asg (bnd (acons (bnd (acons (name 1) anil) (callF m__law_name)) (acons (name 4) (acons (name 6) (acons (name 5) anil)))) fun ds => makeF false "Group" m_Group__init (ds ++ [(.int 0), (.int 0)])) (gset 7))
    (sq (asg (bnd (acons (bnd (acons (name 1) (acons (bnd (acons (ret (.int 2)) (acons (ret (.int 9)) (acons (ret (.int 99999)) anil))) (lstE false)) anil)) (callF m__law_pick)) (acons (bnd anil (lstE true)) anil)) tupD) (gtup 2 (gcons (gset 20) (gcons (gset 21) gnil))))
    (sq (forS (rng1 (acons (name 3) anil)) (gset 8)
    (sq (asg (bnd (acons (name 1) (acons (op2 (fAdd false) (name 20) (ret (.int 1))) anil)) (callF m__law_taken)) (gset 22))
    (exprS (mthL fAppend (name 21) (acons (bnd (acons (name 22) (acons (bnd (acons (name 1) (acons (op2 (fAdd false) (name 22) (ret (.int 1))) anil)) (callF m__law_taken)) anil)) tupD) anil)))))
    (sq (asg (bnd (acons (name 1) (acons (nameF 21) anil)) (callF m__law_handed)) (gset 9))
    (sq (asg (lcM false [22, 26] (seqI (nameF 21)) (gtup 2 (gcons (gset 22) (gcons (gset 26) gnil))) (ret true) (op2 fSub (name 22) (name 26))) (gset 10))
    (sq (asg (bnd (acons (slA false (bnd (acons (listRg1 false (acons (name 3) anil)) anil) (fSortK false 0 "law.<locals>.<lambda>" TabA.P (.tup (.ix (.var 10) .prm) .prm))) (ret none) (oInt (name 6))) anil) (fSortI false)) (gset 11))
    (sq (asg (bnd (acons (slA false (bnd (acons (listRg1 false (acons (name 3) anil)) anil) (fSortK false 0 "law.<locals>.<lambda>" TabA.P (.tup (.sub (.int 0) (.ix (.var 10) .prm)) .prm))) (ret none) (oInt (name 5))) anil) (fSortI false)) (gset 12))
    (sq (parS 23 24 (acons (bnd (acons (nameF 21) (acons (name 11) anil)) (callF m__law_if)) (acons (bnd (acons (nameF 21) (acons (name 12) anil)) (callF m__law_if)) anil)))
    (sq (ifS (notT (tst (name 2)))
    (sq (asg (lcM false [13] (seqI (bnd (acons (name 3) anil) (callF m__law_subsets))) (gset 13) (tst (chn fLe fLe (name 6) (bnd (acons (name 13) anil) fLen) (name 5))) (bnd (acons (nameF 21) (acons (name 13) anil)) (callF m__law_if))) (gset 25))
    (ifS (tst (op2 (fEq true) (bnd (acons (bnd (acons (name 25) anil) fMin1) (acons (bnd (acons (name 25) anil) fMax1) anil)) tupD) (bnd (acons (name 23) (acons (name 24) anil)) tupD)))
    (retS (ret (.bl false)))
    nxt))
    nxt)
    (sq (ifS (notT (tst (bnd (acons (bnd (acons (bnd (acons (name 7) (acons (name 9) anil)) (callF m_sure_pay)) (acons (bnd (acons (name 7) (acons (name 9) anil)) (callF m_greatest_group_pay)) (acons (bnd (acons (name 7) (acons (name 9) anil)) (callF m_pay_spread)) anil))) tupD) (acons (bnd (acons (name 23) (acons (name 24) (acons (op2 fSub (name 24) (name 23)) anil))) tupD) anil)) (callF (m__law_alike 8)))))
    (retS (ret (.bl false)))
    nxt)
    (sq (ifS (notT (tst (bnd (acons (bnd (acons (bnd (acons (name 7) (acons (name 9) anil)) (callF m_poorest_comers)) (acons (bnd (acons (name 7) (acons (name 9) anil)) (callF m_richest_comers)) anil)) tupD) (acons (bnd (acons (bnd (acons (name 11) anil) fTuple) (acons (bnd (acons (name 12) anil) fTuple) anil)) tupD) anil)) (callF (m__law_alike 8)))))
    (retS (ret (.bl false)))
    nxt)
    (sq (ifS (notT (tst (bnd (acons (bnd (acons (bnd (acons (name 9) anil) (callF m_gains_of)) (acons (bnd (acons (name 9) anil) (callF m_fees_of)) anil)) tupD) (acons (bnd (acons (bnd (acons (name 10) anil) fTuple) (acons (bnd (acons (lcM false [22, 26] (seqI (nameF 21)) (gtup 2 (gcons (gset 22) (gcons (gset 26) gnil))) (ret true) (name 26)) anil) fSumA) anil)) tupD) anil)) (callF (m__law_alike 8)))))
    (retS (ret (.bl false)))
    nxt)
    (sq (asg (bnd (acons (name 1) (acons (name 3) anil)) (callF m__law_subset)) (gset 13))
    (sq (ifS (notT (tst (bnd (acons (bnd (acons (name 9) (acons (bnd (acons (name 1) (acons (name 13) anil)) (callF m__law_mixed)) anil)) (callF m_pay_if)) (acons (bnd (acons (nameF 21) (acons (name 13) anil)) (callF m__law_if)) anil)) (callF (m__law_alike 8)))))
    (retS (ret (.bl false)))
    nxt)
    (sq (asg (bnd (acons (name 1) (acons (bnd (acons (name 23) (acons (op2 (fAdd false) (name 23) (ret (.int 1))) (acons (name 24) (acons (op2 (fAdd false) (name 24) (ret (.int 1))) (acons (ret (.int 0)) (acons (bnd (acons (name 1) (acons (op2 (fAdd false) (op2 (fMul false) (ret (.int 2)) (name 20)) (ret (.int 1))) anil)) (callF m__law_taken)) anil)))))) (lstE false)) anil)) (callF m__law_pick)) (gset 14))
    (sq (asg (lcM false [27] (rng1 (acons (op2 (fAdd false) (name 5) (ret (.int 1))) anil)) (gset 27) (ret true) (bnd (acons (nameF 21) (acons (slA false (bnd (acons (listRg1 false (acons (name 3) anil)) anil) (fSortK false 0 "law.<locals>.<lambda>" TabA.P (.tup (.ix (.var 10) .prm) .prm))) (ret none) (oInt (name 27))) anil)) (callF m__law_if))) (gset 15))
    (sq (asg (lcM false [27] (rng1 (acons (op2 (fAdd false) (name 5) (ret (.int 1))) anil)) (gset 27) (tst (op2 fGe (op2 fIx (name 15) (name 27)) (name 14))) (name 27)) (gset 16))
    (sq (ifS (notT (tst (bnd (acons (bnd (acons (name 7) (acons (name 9) (acons (name 14) anil))) (callF m_least_for)) (acons (op2 fIx (op2 (fAdd false) (name 16) (bnd (acons (ret .non) anil) (lstE false))) (ret (.int 0))) anil)) (callF (m__law_alike 8)))))
    (retS (ret (.bl false)))
    nxt)
    (sq (asg (bnd (acons (ret (.str "g")) (acons (name 4) (acons (ret (.int 0)) (acons (name 3) anil)))) fun ds => makeF false "Group" m_Group__init (ds ++ [(.int 0), (.int 0)])) (gset 17))
    (sq (ifS (notT (tst (bnd (acons (bnd (acons (bnd (acons (name 7) (acons (name 17) anil)) tupD) (acons (bnd (acons (name 9) (acons (nameF 21) anil)) (lstE false)) anil)) (callF m_all_sure)) (acons (op2 (fAdd false) (name 23) (bnd (acons (lcM false [22, 26] (seqI (nameF 21)) (gtup 2 (gcons (gset 22) (gcons (gset 26) gnil))) (ret true) (name 26)) anil) fSumA)) anil)) (callF (m__law_alike 8)))))
    (retS (ret (.bl false)))
    nxt)
    (sq (parS 22 26 (acons (bnd (acons (name 1) (acons (ret (.int 9)) anil)) (callF m__law_taken)) (acons (bnd (acons (name 1) (acons (ret (.int 9)) anil)) (callF m__law_taken)) anil)))
    (sq (ifS (notT (tst (bnd (acons (bnd (acons (name 22) (acons (name 26) anil)) (callF m_sure_request)) (acons (bnd (acons (name 22) (acons (name 26) anil)) fMin2) anil)) (callF (m__law_alike 8)))))
    (retS (ret (.bl false)))
    nxt)
    (sq (ifS (orT (notT (tst (bnd (acons (name 7) (acons (op2 (fAdd false) (name 21) (bnd (acons (bnd (acons (ret (.int 1)) (acons (ret (.int 1)) anil)) tupD) anil) (lstE false))) (acons (ret .non) anil))) (callF m__law_refused)))) (notT (tst (bnd (acons (name 7) (acons (ret .non) (acons (ret .non) anil))) (callF m__law_refused)))))
    (retS (ret (.bl false)))
    nxt)
    (sq (ifS (tst (op2 (fEq false) (name 3) (ret (.int 0))))
    (retS (ret (.bl true)))
    nxt)
    (sq (asg (bnd (acons (name 1) (acons (name 3) anil)) (callF m__law_taken)) (gset 18))
    (sq (asg (bnd (acons (name 1) (acons (bnd (acons (bnd (acons (ret (.int 3)) (acons (ret (.int 4)) anil)) tupD) (acons (bnd (acons (ret (.int 100000)) (acons (ret (.int 0)) anil)) tupD) (acons (bnd (acons (ret (.int 5)) (acons (un1 fNeg (ret (.int 1))) anil)) tupD) (acons (bnd (acons (ret (.int 5)) (acons (ret (.bl true)) anil)) tupD) (acons (bnd (acons (ret (.int 5)) anil) tupD) (acons (ret .non) (acons (ret (.str "55")) anil))))))) (lstE false)) anil)) (callF m__law_pick)) (gset 19))
    (retS (bnd (acons (name 7) (acons (op2 (fAdd false) (op2 (fAdd false) (slA false (name 21) (ret none) (oInt (name 18))) (bnd (acons (name 19) anil) (lstE false))) (slA false (name 21) (oInt (op2 (fAdd false) (name 18) (ret (.int 1)))) (ret none))) (acons (name 18) anil))) (callF m__law_refused)))))))))))))))))))))))))))))))))))
end
end Lw

/-! from LT1_k23.lean -/
set_option Elab.async false
set_option linter.all false
set_option maxRecDepth 100000
set_option maxHeartbeats 4000000
namespace Lw
open PySem L2 DL
variable [TabA]
variable {tq : Str}
def TO (q : Str) : Option O := some (.tab q TabA.P)
/-! the law's own row behind a table, taken from, picked from -/
def RowO (sc : List Int) (a b c : Int) : Option O := some (.lst [.rdl (sc.map .int), .int a, .int b, .int c])
def IsRow (sc : List Int) (o : Option O) : Prop := ∃ a b c : Int, 0 ≤ a ∧ o = RowO sc a b c
theorem IsRow.flat {sc : List Int} {o : Option O} (h : IsRow sc o) (r : Store) : sflat (o :: r) = sflat r := by
  obtain ⟨a, b, c, _, rfl⟩ := h
  simp [RowO]
theorem IsRow.start (sc : List Int) (b : Int) : IsRow sc (some (.lst [.rdl (sc.map .int), .int 0, .int b, .int 0])) := ⟨0, b, 0, by omega, rfl⟩
theorem row_cut {o o' : Option O} {r : Store} (b : Bool) : cutS (TO tq :: o :: r) (TO tq :: o' :: r) b = TO tq :: o' :: r := cut_same b rfl
theorem cut_row {sc : List Int} {o o' : Option O} {r x : Store} (h : IsRow sc o') (hf : sflat r = true) : cutS (TO tq :: o :: r) (TO tq :: o' :: (r ++ x)) true = TO tq :: o' :: r := by
  have := cut_app (ς := TO tq :: o :: r) (ς' := TO tq :: o' :: r) (r := x) (by simp) (by unfold TO; rw [sflat_tab, h.flat]; exact hf)
  simpa using this
theorem taken_w {sc : List Int} {o : Option O} {r : Store} {many : Int} {Q : D → Store → Prop} (h : IsRow sc o) (hm : 0 < many) (hs : many < 1073741824) (q : ∀ v o', 0 ≤ v → v < many → IsRow sc o' → Q (.int v) (TO tq :: o' :: r)) : WF (m__law_taken [.loc 1, .int many] (TO tq :: o :: r)) Q EF0 := by
  obtain ⟨a, b, c, ha, rfl⟩ := h
  have h0 : many ≠ 0 := by omega
  have hn : many.natAbs < 1073741824 := by omega
  have h00 : 0 ≤ many := by omega
  have fin : ∀ x a' b' c' : Int, 0 ≤ a' → Q (.int (x % many)) (TO tq :: RowO sc a' b' c' :: r) := fun x a' b' c' h => q _ _ (Int.emod_nonneg _ h0) (Int.emod_lt_of_pos _ hm) ⟨a', b', c', h, rfl⟩
  unfold RowO at *
  rw [m__law_taken, WF_def]
  simp [startD]
  refine W_iteD (fun k => ?_) fun k => ?_
  · simp [h0, hn, h00, row_cut]
    exact fin c a b (c / many) ha
  · simp
    refine W_iteD (fun k2 => ?_) fun k2 => ?_
    · simp [h0, hn, h00, row_cut]
      exact fin _ (a + 1) _ c (by omega)
    · obtain ⟨n, rfl⟩ := Int.eq_ofNat_of_zero_le ha
      have hl : n < sc.length := by omega
      have e : atI (sc.map D.int) (n : Int) = some (.int sc[n]) := by
        rw [atI_n]
        simp [hl]
      simp [e]
      refine W_iteD (fun k3 => ?_) fun k3 => ?_
      · simp [h0, hn, h00, row_cut]
        exact fin _ ((n : Int) + 1) _ _ (by omega)
      · simp [h0, hn, h00, row_cut]
        exact fin _ ((n : Int) + 1) _ c (by omega)
theorem pick_w {sc : List Int} {o : Option O} {r : Store} {ds : List D} {Q : D → Store → Prop} (h : IsRow sc o) (hm : 0 < ds.length) (hs : ds.length < 1073741824) (q : ∀ d ∈ ds, ∀ o', IsRow sc o' → Q d (TO tq :: o' :: r)) : WF (m__law_pick [.loc 1, .lst ds] (TO tq :: o :: r)) Q EF0 := by
  rw [m__law_pick, WF_def]
  simp [startD]
  refine taken_w (many := (ds.length : Int)) h (by omega) (by omega) fun v o' h1 h2 h3 => ?_
  obtain ⟨n, rfl⟩ := Int.eq_ofNat_of_zero_le h1
  have hl : n < ds.length := by omega
  have e : atI ds (n : Int) = some ds[n] := by rw [atI_n]; simp [hl]
  simp [e, row_cut]
  exact q _ (List.getElem_mem hl) _ h3
end Lw

/-! from LA_k23.lean -/
set_option Elab.async false
set_option linter.all false
set_option maxRecDepth 100000
set_option maxHeartbeats 4000000
namespace Lw
open PySem L2 DL
variable [TabA]
/-! plain data is alike to itself -/
def plD : Nat → D → Bool
  | _, .non => true
  | _, .bl _ => true
  | _, .int _ => true
  | _, .str x => PyData.strOk x
  | n + 1, .lst ds => small ds.length && ds.all (plD n)
  | n + 1, .tup ds => small ds.length && ds.all (plD n)
  | _, _ => false
theorem alike_lc {n : Nat} {ds : List D} {L : D} {e : List (Option D)} {ς : Store} (he : e = [some L, some L, none]) (hL : ∀ s : S, seqD s.s L = some (true, ds) ∨ seqD s.s L = some (false, ds)) (hs : small ds.length = true) (ih : ∀ d ∈ ds, ∀ ς, m__law_alike n [d, d] ς = some (.ok (.bl true) ς)) {QD : D → S → Prop} (q : QD (.lst []) ⟨e, ς⟩) :
    W (lcK false [2] (gset 2) (notT (tst (bnd (acons (op2 fIx (name 0) (name 2)) (acons (op2 fIx (name 1) (name 2)) anil)) (callF (m__law_alike n))))) (name 2) (rngL 0 ds.length) ⟨e, ς⟩) QD EX0 := by
  subst he
  rw [rngL_0]
  refine W_lcf (fun (k : Nat) => D.int (k : Int)) (fun _ => false) (by rw [List.length_range]; exact hs) (fun k hk => ?_) (by rw [List.filter_eq_nil_iff.mpr (by simp)]; exact q)
  rw [List.mem_range] at hk
  have e1 : atI ds (k : Int) = some ds[k] := by rw [atI_n]; simp [hk]
  have ix : ∀ (s : S) (i : Int), fIx L (.int i) s = optD (atI ds i) s := fun s i => by
    rcases hL s with h | h
    · exact fIx_of L i h
    · exact fIx_of L i h
  simp [ix, e1, ih ds[k] (List.getElem_mem hk)]
theorem alike_refl (n : Nat) : ∀ (d : D) (ς : Store), plD n d = true → m__law_alike (n + 1) [d, d] ς = some (.ok (.bl true) ς) := by
  induction n with
  | zero =>
    intro d ς h
    apply WF_eqn
    rw [m__law_alike, WF_def]
    cases d <;> first | (simp [plD] at h; done) | (simp [startD]; done) | skip
    rename_i x
    have hx : PyData.strOk x = true := by simpa [plD] using h
    simp [startD, fEq_s, hx]
  | succ n ih =>
    intro d ς h
    apply WF_eqn
    rw [m__law_alike, WF_def]
    cases d <;> first | (simp [plD] at h; done) | (simp [startD]; done) | skip
    · rename_i x
      have hx : PyData.strOk x = true := by simpa [plD] using h
      simp [startD, fEq_s, hx]
    · rename_i ds
      simp only [plD, Bool.and_eq_true, List.all_eq_true] at h
      have hl : ds.length ≤ 1000000000 := by have := of_decide_eq_true h.1; omega
      simp [startD, rng1F_n hl]
      refine alike_lc rfl (fun s => .inl rfl) h.1 (fun d hd ς => ih d ς (h.2 d hd)) ?_
      simp
    · rename_i ds
      simp only [plD, Bool.and_eq_true, List.all_eq_true] at h
      have hl : ds.length ≤ 1000000000 := by have := of_decide_eq_true h.1; omega
      simp [startD, rng1F_n hl]
      refine alike_lc rfl (fun s => .inr rfl) h.1 (fun d hd ς => ih d ς (h.2 d hd)) ?_
      simp
end Lw

/-! from k23a.lean -/
set_option Elab.async false
set_option linter.all false
set_option maxRecDepth 100000
set_option maxHeartbeats 4000000
/-! k23a: what guests pay, whoever comes (no program). -/
namespace Lw
open PySem L2 DL
abbrev Of := Int × Int
structure OfOk (O : List Of) : Prop where
  bd : ∀ p ∈ O, 0 ≤ p.2 ∧ p.2 ≤ p.1 ∧ p.1 ≤ 99999
  n1 : O.length ≤ 30
def gs (O : List Of) : List Int := O.map fun p => p.1 - p.2
def fees (O : List Of) : Int := (O.map (·.2)).sum
def gk (O : List Of) (k : Nat) : Int := (gs O).getD k 0
/-- what is paid if just these come -/
def payF (O : List Of) (cs : List Nat) : Int := fees O + (cs.map (gk O)).sum
theorem gs_len (O : List Of) : (gs O).length = O.length := by unfold gs; simp
theorem gk_nn {O : List Of} (h : OfOk O) (k : Nat) : 0 ≤ gk O k := by
  unfold gk
  rw [List.getD_eq_getElem?_getD]
  cases e : (gs O)[k]? with
  | none => simp
  | some x =>
    obtain ⟨p, hp, rfl⟩ := List.mem_map.mp (List.mem_of_getElem? e)
    have := h.bd p hp
    simp only [Option.getD_some]
    omega
/-! the order of the gains -/
def leS (p q : Int × Int) : Bool := decide (p.1 < q.1 ∨ (p.1 = q.1 ∧ p.2 ≤ q.2))
theorem leS_of {p q : Int × Int} : leS p q = true ↔ (p.1 < q.1 ∨ (p.1 = q.1 ∧ p.2 ≤ q.2)) := by
  unfold leS
  exact decide_eq_true_iff
theorem leS_trans (a b c : Int × Int) (h1 : leS a b = true) (h2 : leS b c = true) : leS a c = true := by
  rw [leS_of] at *
  omega
theorem leS_total (a b : Int × Int) : (leS a b || leS b a) = true := by
  rw [Bool.or_eq_true, leS_of, leS_of]
  omega
def keyG (up : Bool) (rs : List Int) (i : Nat) : Int × Int := (if up then rs.getD i 0 else 0 - rs.getD i 0, (i : Int))
def ord (up : Bool) (rs : List Int) : List Nat := (List.range rs.length).mergeSort fun i j => leS (keyG up rs i) (keyG up rs j)
theorem ord_perm (up : Bool) (rs : List Int) : (ord up rs).Perm (List.range rs.length) := List.mergeSort_perm _ _
theorem ord_nodup (up : Bool) (rs : List Int) : (ord up rs).Nodup := (ord_perm up rs).nodup_iff.mpr List.nodup_range
theorem ord_mem {up : Bool} {rs : List Int} {a : Nat} : a ∈ ord up rs ↔ a < rs.length := by rw [(ord_perm up rs).mem_iff, List.mem_range]
theorem ord_len (up : Bool) (rs : List Int) : (ord up rs).length = rs.length := by rw [(ord_perm up rs).length_eq, List.length_range]
theorem ord_le (up : Bool) (rs : List Int) : (ord up rs).Pairwise fun a b => if up then rs.getD a 0 ≤ rs.getD b 0 else rs.getD b 0 ≤ rs.getD a 0 := by
  have h := List.pairwise_mergeSort (le := fun i j => leS (keyG up rs i) (keyG up rs j)) (fun a b c => leS_trans _ _ _) (fun a b => leS_total _ _) (List.range rs.length)
  exact h.imp fun h => by
    have := leS_of.mp h
    unfold keyG at this
    cases up <;> simp at this ⊢ <;> omega
theorem sum_perm {xs ys : List Int} (h : xs.Perm ys) : xs.sum = ys.sum := by
  induction h with
  | nil => rfl
  | cons x _ ih => rw [List.sum_cons, List.sum_cons, ih]
  | swap x y l => simp only [List.sum_cons]; omega
  | trans _ _ h1 h2 => rw [h1, h2]
theorem payF_perm {O : List Of} {cs ds : List Nat} (h : cs.Perm ds) : payF O cs = payF O ds := by unfold payF; rw [sum_perm (h.map _)]
theorem sum_nnF {g : Nat → Int} (h : ∀ k, 0 ≤ g k) : ∀ cs : List Nat, 0 ≤ (cs.map g).sum
  | [] => Int.le_refl _
  | c :: cs => by
    have := sum_nnF h cs
    have := h c
    rw [List.map_cons, List.sum_cons]
    omega
theorem take_succ_sum {g : Nat → Int} : ∀ {L : List Nat} {m : Nat} (h : m < L.length), ((L.take (m + 1)).map g).sum = ((L.take m).map g).sum + g L[m]
  | [], m, h => by simp at h
  | a :: L, 0, _ => by simp
  | a :: L, m + 1, h => by
    have := take_succ_sum (g := g) (L := L) (m := m) (by simpa using h)
    rw [List.take_succ_cons, List.take_succ_cons, List.map_cons, List.map_cons, List.sum_cons, List.sum_cons, this, List.getElem_cons_succ]
    omega
/-- the smallest ones bring no more than any -/
theorem low_le {g : Nat → Int} (h : ∀ k, 0 ≤ g k) {s L : List Nat} (hs : s.Sublist L) : L.Pairwise (fun a b => g a ≤ g b) → ∀ m, m ≤ s.length → ((L.take m).map g).sum ≤ (s.map g).sum := by
  induction hs with
  | slnil => intro _ m _; simp
  | @cons s L a hs ih =>
    intro hp m hm
    have hp := List.pairwise_cons.mp hp
    cases m with
    | zero => simpa using sum_nnF h s
    | succ m =>
      have ih := ih hp.2 (m + 1) hm
      have hl : m < L.length := by have := hs.length_le; omega
      rw [take_succ_sum hl] at ih
      have := hp.1 L[m] (List.getElem_mem hl)
      rw [List.take_succ_cons, List.map_cons, List.sum_cons]
      omega
  | @cons_cons s L a hs ih =>
    intro hp m hm
    have hp := List.pairwise_cons.mp hp
    cases m with
    | zero => simpa using sum_nnF h (a :: s)
    | succ m =>
      have ih := ih hp.2 m (by simpa using hm)
      rw [List.take_succ_cons, List.map_cons, List.sum_cons, List.map_cons, List.sum_cons]
      omega
/-- the greatest ones bring no less than any -/
theorem le_high {g : Nat → Int} (h : ∀ k, 0 ≤ g k) {s L : List Nat} (hs : s.Sublist L) : L.Pairwise (fun a b => g b ≤ g a) → ∀ m, s.length ≤ m → (s.map g).sum ≤ ((L.take m).map g).sum := by
  induction hs with
  | slnil => intro _ m _; simp
  | @cons s L a hs ih =>
    intro hp m hm
    have hp := List.pairwise_cons.mp hp
    cases m with
    | zero =>
      have : s = [] := List.length_eq_zero_iff.mp (by omega)
      subst this
      simp
    | succ m =>
      have ih := ih hp.2 (m + 1) hm
      rw [List.take_succ_cons, List.map_cons, List.sum_cons]
      by_cases hl : m < L.length
      · rw [take_succ_sum hl] at ih
        have := hp.1 L[m] (List.getElem_mem hl)
        omega
      · rw [List.take_of_length_le (show L.length ≤ m + 1 by omega)] at ih
        rw [List.take_of_length_le (show L.length ≤ m by omega)]
        have := h a
        omega
  | @cons_cons s L a hs ih =>
    intro hp m hm
    have hp := List.pairwise_cons.mp hp
    cases m with
    | zero => simp at hm
    | succ m =>
      have ih := ih hp.2 m (by simpa using hm)
      rw [List.take_succ_cons, List.map_cons, List.sum_cons, List.map_cons, List.sum_cons]
      omega
/-- as a part of another row, in its sequence -/
theorem as_sub {cs L : List Nat} (hn : cs.Nodup) (hL : L.Nodup) (hm : ∀ c ∈ cs, c ∈ L) : ∃ s : List Nat, s.Sublist L ∧ s.Perm cs := by
  refine ⟨L.filter fun x => decide (x ∈ cs), List.filter_sublist, ?_⟩
  rw [List.perm_ext_iff_of_nodup (hL.sublist List.filter_sublist) hn]
  intro a
  rw [List.mem_filter]
  constructor
  · rintro ⟨_, h⟩
    exact of_decide_eq_true h
  · intro h
    exact ⟨hm a h, decide_eq_true h⟩
/-- the least that is paid -/
def low (O : List Of) (m : Nat) : Int := payF O ((ord true (gs O)).take m)
def high (O : List Of) (m : Nat) : Int := payF O ((ord false (gs O)).take m)
theorem low_of {O : List Of} (h : OfOk O) {cs : List Nat} (hn : cs.Nodup) (hc : ∀ c ∈ cs, c < O.length) {m : Nat} (hm : m ≤ cs.length) : low O m ≤ payF O cs := by
  obtain ⟨s, s1, s2⟩ := as_sub hn (ord_nodup true (gs O)) fun c hc' => ord_mem.mpr (by rw [gs_len]; exact hc c hc')
  have := low_le (g := gk O) (gk_nn h) s1 ((ord_le true (gs O)).imp fun w => by simpa [gk] using w) m (by rw [s2.length_eq]; exact hm)
  rw [sum_perm (s2.map _)] at this
  unfold low payF
  omega
theorem high_of {O : List Of} (h : OfOk O) {cs : List Nat} (hn : cs.Nodup) (hc : ∀ c ∈ cs, c < O.length) {m : Nat} (hm : cs.length ≤ m) : payF O cs ≤ high O m := by
  obtain ⟨s, s1, s2⟩ := as_sub hn (ord_nodup false (gs O)) fun c hc' => ord_mem.mpr (by rw [gs_len]; exact hc c hc')
  have := le_high (g := gk O) (gk_nn h) s1 ((ord_le false (gs O)).imp fun w => by simpa [gk] using w) m (by rw [s2.length_eq]; exact hm)
  rw [sum_perm (s2.map _)] at this
  unfold high payF
  omega
/-! all rising rows of numbers below a number -/
def subs : Nat → List (List Nat)
  | 0 => [[]]
  | n + 1 => subs n ++ (subs n).map fun c => c ++ [n]
theorem subs_len (n : Nat) : (subs n).length = 2 ^ n := by
  induction n with
  | zero => rfl
  | succ n ih => rw [subs, List.length_append, List.length_map, ih, Nat.pow_succ]; omega
theorem subs_ok (n : Nat) : ∀ c ∈ subs n, c.Pairwise (· < ·) ∧ ∀ x ∈ c, x < n := by
  induction n with
  | zero => intro c hc; rw [subs, List.mem_singleton] at hc; subst hc; simp
  | succ n ih =>
    intro c hc
    rw [subs] at hc
    rcases List.mem_append.mp hc with z | z
    · have := ih c z
      exact ⟨this.1, fun x hx => by have := this.2 x hx; omega⟩
    · obtain ⟨d, hd, rfl⟩ := List.mem_map.mp z
      have := ih d hd
      refine ⟨List.pairwise_append.mpr ⟨this.1, by simp, fun a ha b hb => by rw [List.mem_singleton.mp hb]; exact this.2 a ha⟩, fun x hx => ?_⟩
      rcases List.mem_append.mp hx with w | w
      · have := this.2 x w; omega
      · rw [List.mem_singleton.mp w]; omega
theorem subs_all (n : Nat) : ∀ c : List Nat, c.Pairwise (· < ·) → (∀ x ∈ c, x < n) → c ∈ subs n := by
  induction n with
  | zero =>
    intro c _ h
    cases c with
    | nil => simp [subs]
    | cons x c => have := h x (List.mem_cons_self ..); omega
  | succ n ih =>
    intro c hp h
    rw [subs]
    by_cases z : n ∈ c
    · rcases List.eq_nil_or_concat c with e | ⟨d, x, e⟩
      · subst e; cases z
      · have e' : c = d ++ [x] := by rw [e]; simp
        subst e'
        have hp := List.pairwise_append.mp hp
        have dl : ∀ y ∈ d, y < x := fun y hy => hp.2.2 y hy x (List.mem_cons_self ..)
        have xn : x = n := by
          rcases List.mem_append.mp z with w | w
          · have := dl n w
            have := h x (List.mem_append.mpr (.inr (List.mem_cons_self ..)))
            omega
          · exact (List.mem_singleton.mp w).symm
        subst xn
        exact List.mem_append.mpr (.inr (List.mem_map.mpr ⟨d, ih d hp.1 dl, rfl⟩))
    · refine List.mem_append.mpr (.inl (ih c hp fun x hx => ?_))
      have := h x hx
      have : x ≠ n := fun e => z (by rw [← e]; exact hx)
      omega
theorem asc_nodup {c : List Nat} (h : c.Pairwise (· < ·)) : c.Nodup := h.imp fun h => by omega
/-- numbers in rising sequence -/
def srt (cs : List Nat) : List Nat := cs.mergeSort fun a b => decide (a ≤ b)
theorem srt_perm (cs : List Nat) : (srt cs).Perm cs := List.mergeSort_perm _ _
theorem srt_asc {cs : List Nat} (h : cs.Nodup) : (srt cs).Pairwise (· < ·) := by
  have p := List.pairwise_mergeSort (le := fun a b : Nat => decide (a ≤ b)) (fun a b c h1 h2 => by simp at *; omega) (fun a b => by simp; omega) cs
  have n : (srt cs).Nodup := (srt_perm cs).nodup_iff.mpr h
  have n' : (srt cs).Pairwise (· ≠ ·) := n
  exact p.imp₂ (fun a b x y => by simp at x; omega) n'
theorem srt_ints (cs : List Nat) : sortI (cs.map fun (k : Nat) => (k : Int)) = (srt cs).map fun (k : Nat) => (k : Int) := by
  unfold sortI srt
  exact (List.map_mergeSort (f := fun (k : Nat) => (k : Int)) fun a _ b _ => by simp).symm
/-! what is paid, counted guest by guest -/
theorem ind_sum (g : Nat → Int) : ∀ (cs : List Nat) (n : Nat), cs.Nodup → (∀ c ∈ cs, c < n) → ((List.range n).map fun k => if k ∈ cs then g k else 0).sum = (cs.map g).sum
  | cs, 0, _, h => by
    cases cs with
    | nil => rfl
    | cons c cs => have := h c (List.mem_cons_self ..); omega
  | cs, n + 1, hn, h => by
    rw [List.range_succ, List.map_append, List.sum_append]
    by_cases z : n ∈ cs
    · have ih := ind_sum g (cs.erase n) n (hn.erase n) fun c hc => by
        have h1 := h c (List.mem_of_mem_erase hc)
        have h2 : c ≠ n := fun e => by
          subst e
          exact (List.Nodup.not_mem_erase hn) hc
        omega
      have e1 : ((List.range n).map fun k => if k ∈ cs then g k else 0) = (List.range n).map fun k => if k ∈ cs.erase n then g k else 0 := by
        refine List.map_congr_left fun k hk => ?_
        have := List.mem_range.mp hk
        have e : k ∈ cs.erase n ↔ k ∈ cs := List.mem_erase_of_ne (by omega)
        by_cases w : k ∈ cs
        · rw [if_pos w, if_pos (e.mpr w)]
        · rw [if_neg w, if_neg (fun q => w (e.mp q))]
      rw [e1, ih, ← sum_perm ((List.perm_cons_erase z).map g).symm]
      simp [z]
      omega
    · have ih := ind_sum g cs n hn fun c hc => by
        have h1 := h c hc
        have h2 : c ≠ n := fun e => z (by rw [← e]; exact hc)
        omega
      rw [ih]
      simp [z]
def ifL (O : List Of) (cs : List Nat) : List Int := (List.range O.length).map fun k => if k ∈ cs then (O.getD k (0, 0)).1 else (O.getD k (0, 0)).2
theorem sum_addF {α : Type} (f g : α → Int) : ∀ xs : List α, (xs.map fun k => f k + g k).sum = (xs.map f).sum + (xs.map g).sum
  | [] => rfl
  | x :: xs => by
    rw [List.map_cons, List.map_cons, List.map_cons, List.sum_cons, List.sum_cons, List.sum_cons, sum_addF f g xs]
    omega
theorem ifL_sum {O : List Of} {cs : List Nat} (hn : cs.Nodup) (hc : ∀ c ∈ cs, c < O.length) : (ifL O cs).sum = payF O cs := by
  have e : ifL O cs = (List.range O.length).map fun k => (O.getD k (0, 0)).2 + if k ∈ cs then gk O k else 0 := by
    refine List.map_congr_left fun k hk => ?_
    have hk := List.mem_range.mp hk
    have : gk O k = (O.getD k (0, 0)).1 - (O.getD k (0, 0)).2 := by simp [gk, gs, hk]
    split <;> omega
  rw [e, sum_addF, ind_sum (gk O) cs O.length hn hc]
  unfold payF fees
  congr 2
  refine List.ext_getElem (by simp) fun i h1 h2 => ?_
  have : i < O.length := by simpa using h2
  simp [this]
end Lw

/-! from k23b.lean -/
set_option Elab.async false
set_option linter.all false
set_option maxRecDepth 100000
set_option maxHeartbeats 4000000
/-! k23b: the program's parts over right offers. -/
namespace DL
open PySem L2
@[simp] theorem fSumA_shp (b : Bool) (ns : List Int) (s : S) : fSumA [shp b (ns.map .int)] s = some (.ok (.int ns.sum) s) := by cases b <;> simp [shp]
end DL
namespace Lw
open PySem L2 DL
noncomputable section
variable [TabA]
def tupI (p : Int × Int) : D := .tup [.int p.1, .int p.2]
@[simp] theorem ix_tup0 (p : Int × Int) (s : S) : fIx (tupI p) (.int 0) s = some (.ok (.int p.1) s) := by simp [tupI]
@[simp] theorem ix_tup1 (p : Int × Int) (s : S) : fIx (tupI p) (.int 1) s = some (.ok (.int p.2) s) := by simp [tupI]
@[simp] theorem flat_tupI (p : Int × Int) : (tupI p).flat = true := by simp [tupI]
def sortP (L : List (Int × Int)) : List (Int × Int) := L.mergeSort leS
def pS (p : Int × Int) : PyData := .tuple [.int p.1, .int p.2]
theorem pyL_map : ∀ L : List (Int × Int), pyL (L.map tupI) = some (L.map pS)
  | [] => rfl
  | p :: L => by
    rw [List.map_cons, pyL, pyL_map L]
    rfl
theorem le_pS (x y : D) (p q : Int × Int) : leD (x, pS p) (y, pS q) = leS p q := by
  show (!PyProof.Rows.lexLt PyProof.Rows.itemOrd (PySem.W.keyToks (pS q)) (PySem.W.keyToks (pS p))) = leS p q
  have e1 : PySem.W.keyToks (pS q) = [.inl 1, .inl q.1, .inl 1, .inl q.2, .inl 0] := rfl
  have e2 : PySem.W.keyToks (pS p) = [.inl 1, .inl p.1, .inl 1, .inl p.2, .inl 0] := rfl
  rw [e1, e2]
  unfold leS
  by_cases c1 : q.1 < p.1
  · have n1 : ¬ (p.1 < q.1 ∨ (p.1 = q.1 ∧ p.2 ≤ q.2)) := by omega
    rw [decide_eq_false n1]
    simp [PyProof.Rows.lexLt, PyProof.Rows.itemLt, c1]
  · by_cases c2 : q.1 = p.1
    · by_cases c3 : q.2 < p.2
      · have n1 : ¬ (p.1 < q.1 ∨ (p.1 = q.1 ∧ p.2 ≤ q.2)) := by omega
        rw [decide_eq_false n1]
        simp [PyProof.Rows.lexLt, PyProof.Rows.itemLt, c1, c2, c3]
      · have n1 : (p.1 < q.1 ∨ (p.1 = q.1 ∧ p.2 ≤ q.2)) := by omega
        rw [decide_eq_true n1]
        by_cases c4 : q.2 = p.2
        · simp [PyProof.Rows.lexLt, PyProof.Rows.itemLt, c1, c2, c3, c4]
        · simp [PyProof.Rows.lexLt, PyProof.Rows.itemLt, c1, c2, c3, c4]
    · have n1 : (p.1 < q.1 ∨ (p.1 = q.1 ∧ p.2 ≤ q.2)) := by omega
      rw [decide_eq_true n1]
      simp [PyProof.Rows.lexLt, PyProof.Rows.itemLt, c1, c2]
      omega
theorem sort_any (L : List (Int × Int)) (s : S) : fSortD false [.lst (L.map tupI)] s = some (.ok (.lst ((sortP L).map tupI)) s) := by
  have g : (alikeB (L.map pS) && sortB (L.map pS) && (L.map pS).all fun p => decide (p.depth ≤ 60)) = true := by
    rw [Bool.and_eq_true, Bool.and_eq_true]
    refine ⟨⟨?_, ?_⟩, ?_⟩
    · unfold alikeB
      rw [List.all_eq_true]
      intro d hd
      rw [List.all_eq_true]
      intro e he
      obtain ⟨p, _, rfl⟩ := List.mem_map.mp hd
      obtain ⟨q, _, rfl⟩ := List.mem_map.mp he
      rfl
    · unfold sortB
      rw [Bool.or_eq_true]
      refine .inl ?_
      rw [List.all_eq_true]
      intro d hd
      obtain ⟨p, _, rfl⟩ := List.mem_map.mp hd
      rfl
    · rw [List.all_eq_true]
      intro d hd
      obtain ⟨p, _, rfl⟩ := List.mem_map.mp hd
      rfl
  have so : sortD (L.map tupI) (L.map pS) = (sortP L).map tupI := by
    unfold sortD
    have z : (L.map tupI).zip (L.map pS) = L.map fun p => (tupI p, pS p) := by
      rw [List.zip_map, List.zip_eq_zipWith, List.zipWith_self, List.map_map]
      rfl
    rw [z]
    have q1 : (L.mergeSort leS).map (fun p => (tupI p, pS p)) = (L.map fun p => (tupI p, pS p)).mergeSort leD := List.map_mergeSort fun p _ q _ => (le_pS _ _ p q).symm
    rw [← q1, List.map_map]
    rfl
  unfold fSortD
  simp only [seqD, pyL_map]
  rw [g, so]
  rfl

abbrev Sp := Int × Int
def spD (q : Bool × Sp) : D := shp q.1 [.int q.2.1, .int q.2.2]
@[simp] theorem ix_sp0 (q : Bool × Sp) (s : S) : fIx (spD q) (.int 0) s = some (.ok (.int q.2.1) s) := by simp [spD]
@[simp] theorem ix_sp1 (q : Bool × Sp) (s : S) : fIx (spD q) (.int 1) s = some (.ok (.int q.2.2) s) := by simp [spD]
@[simp] theorem flat_spD (q : Bool × Sp) : (spD q).flat = true := by simp [spD]
theorem W_tgQ {s : S} {Q : Fl → S → Prop} {E : EX} (q : Bool × Sp) (i j : Nat) : W (tgM (gtup 2 (gcons (gset i) (gcons (gset j) gnil))) (spD q) s) Q E = Q .nx ⟨(s.e.set i (some (.int q.2.1))).set j (some (.int q.2.2)), s.s⟩ := W_tgS ..
theorem map_sp (L : List Sp) : (L.map fun p => ((false, p) : Bool × Sp)).map spD = L.map tupI := by
  rw [List.map_map]
  rfl
theorem map_2 (b : Bool) (L : List Sp) : (L.map fun p => ((b, p) : Bool × Sp)).map (·.2) = L := by
  rw [List.map_map]
  exact List.map_id _
theorem ints_flat (P : List Int) : (P.map D.int).all D.flat = true := by
  rw [List.all_eq_true]
  intro d hd
  obtain ⟨x, _, rfl⟩ := List.mem_map.mp hd
  rfl
theorem nats_flat (P : List Nat) : (P.map fun (k : Nat) => D.int (k : Int)).all D.flat = true := by
  rw [List.all_eq_true]
  intro d hd
  obtain ⟨x, _, rfl⟩ := List.mem_map.mp hd
  rfl
theorem getI' {P : List Int} {i : Nat} (h : i < P.length) : atI (P.map D.int) (i : Int) = some (.int (P.getD i 0)) := by
  rw [atI_map h]
  simp [h]
theorem enum_ints (rs : List Int) : enumL (rs.map .int) = (List.range rs.length).map fun (i : Nat) => D.tup [.int (i : Int), .int (rs.getD i 0)] := by
  refine List.ext_getElem (by simp [enumL]) fun i h1 h2 => ?_
  have h3 : i < rs.length := by simpa using h2
  simp [enumL, h3]
theorem rsorted (up : Bool) (rs : List Int) : sortP ((List.range rs.length).map (keyG up rs)) = (ord up rs).map (keyG up rs) := by
  unfold sortP ord
  exact (List.map_mergeSort (f := keyG up rs) fun _ _ _ _ => rfl).symm
section
variable {O : List Of} {qs : List (Bool × Sp)}
theorem gains_ev (hO : OfOk O) (hq : qs.map (·.2) = O) (b : Bool) (ς : Store) : m_gains_of [shp b (qs.map spD)] ς = some (.ok (.tup ((gs O).map .int)) ς) := by
  apply WF_eqn
  rw [m_gains_of, WF_def]
  have n1 := hO.n1
  have ql : qs.length = O.length := by rw [← hq, List.length_map]
  simp [startD]
  refine W_lcG (fun q => .int (q.2.1 - q.2.2)) (fun _ => true) (small_of (by omega)) (fun q hq => ?_) ?_
  · rw [W_tgQ]
    simp
  · rw [List.filter_eq_self.mpr (by simp), show (qs.map fun q => D.int (q.2.1 - q.2.2)) = (gs O).map .int from by unfold gs; rw [← hq, List.map_map, List.map_map]; rfl]
    simp [ints_flat]
theorem fees_ev (hO : OfOk O) (hq : qs.map (·.2) = O) (b : Bool) (ς : Store) : m_fees_of [shp b (qs.map spD)] ς = some (.ok (.int (fees O)) ς) := by
  apply WF_eqn
  rw [m_fees_of, WF_def]
  have n1 := hO.n1
  have ql : qs.length = O.length := by rw [← hq, List.length_map]
  simp [startD]
  refine W_lcG (fun q => .int q.2.2) (fun _ => true) (small_of (by omega)) (fun q hq => ?_) ?_
  · rw [W_tgQ]
    simp
  · rw [List.filter_eq_self.mpr (by simp), show (qs.map fun q => D.int q.2.2) = (O.map (·.2)).map .int from by rw [← hq, List.map_map, List.map_map]; rfl]
    simp [fees, -List.map_map]
theorem payif_ev (hO : OfOk O) (hq : qs.map (·.2) = O) (b c : Bool) {cs : List Nat} (hc : ∀ k ∈ cs, k < O.length) (hl : cs.length ≤ 1000) (ς : Store) : m_pay_if [shp b (qs.map spD), shp c (cs.map fun (k : Nat) => .int (k : Int))] ς = some (.ok (.int (payF O cs)) ς) := by
  apply WF_eqn
  rw [m_pay_if, WF_def]
  simp [startD, gains_ev hO hq, fees_ev hO hq]
  refine W_lcf (fun k => .int (gk O k)) (fun _ => true) (small_of (by omega)) (fun k hk => ?_) ?_
  · have e := getI' (P := gs O) (i := k) (by rw [gs_len]; exact hc k hk)
    unfold gk
    generalize (gs O).getD k 0 = x at e ⊢
    simp [e]
  · rw [List.filter_eq_self.mpr (by simp), show (cs.map fun k => D.int (gk O k)) = (cs.map (gk O)).map .int from by rw [List.map_map]; rfl]
    simp [payF, -List.map_map]
theorem sorted_ev (up : Bool) (rs : List Int) (s : S) : fSortD false [.lst ((List.range rs.length).map fun i => tupI (keyG up rs i))] s = some (.ok (.lst ((ord up rs).map fun i => tupI (keyG up rs i))) s) := by
  have e := rsorted up rs
  have := sort_any ((List.range rs.length).map (keyG up rs)) s
  rw [e, List.map_map, List.map_map] at this
  exact this
theorem bygains_ev (hO : OfOk O) (hq : qs.map (·.2) = O) (b : Bool) (ς : Store) : m_by_gains [shp b (qs.map spD)] ς = some (.ok (.lst ((ord true (gs O)).map fun (k : Nat) => .int (k : Int))) ς) := by
  apply WF_eqn
  rw [m_by_gains, WF_def]
  have n1 := hO.n1
  have gl := gs_len O
  have ol := ord_len true (gs O)
  simp [startD, gains_ev hO hq, enum_ints]
  refine W_lcG (fun i => tupI (keyG true (gs O) i)) (fun _ => true) (small_of (by simp; omega)) (fun i hi => ?_) ?_
  · rw [W_tg2]
    simp [keyG, tupI]
  · rw [List.filter_eq_self.mpr (by simp)]
    simp only [W_ok, mk_f, W_acons, W_anil]
    rw [sorted_ev]
    simp
    refine W_lcG (fun (k : Nat) => .int (k : Int)) (fun _ => true) (small_of (by omega)) (fun k hk => ?_) ?_
    · rw [show tupI (keyG true (gs O) k) = D.tup [.int (keyG true (gs O) k).1, .int (k : Int)] from rfl, W_tg2]
      simp
    · rw [List.filter_eq_self.mpr (by simp)]
      have fl := nats_flat (ord true (gs O))
      generalize ((ord true (gs O)).map fun (k : Nat) => D.int (k : Int)) = us at fl ⊢
      simp [fl]
end
end
end Lw

/-! from k23c.lean -/
set_option Elab.async false
set_option linter.all false
set_option maxRecDepth 100000
set_option maxHeartbeats 4000000
/-! k23c: offers are judged; what a group pays. -/
namespace Lw
open PySem L2 DL
noncomputable section
variable [TabA]
theorem is_whole_ev (i : Int) (ς : Store) : m_is_whole [.int i] ς = some (.ok (.bl true) ς) := by
  apply WF_eqn
  rw [m_is_whole, WF_def]
  simp [startD]
theorem is_between_ev (i a b : Int) (h : a ≤ i) (h' : i ≤ b) (ς : Store) : m_is_between [.int i, .int a, .int b] ς = some (.ok (.bl true) ς) := by
  apply WF_eqn
  rw [m_is_between, WF_def]
  simp [startD, is_whole_ev, h, h']
theorem is_seq_l (ds : List D) (ς : Store) : m_is_sequence [.lst ds] ς = some (.ok (.bl true) ς) := by
  apply WF_eqn
  rw [m_is_sequence, WF_def]
  simp [startD]
theorem is_seq_t (ds : List D) (ς : Store) : m_is_sequence [.tup ds] ς = some (.ok (.bl true) ς) := by
  apply WF_eqn
  rw [m_is_sequence, WF_def]
  simp [startD]
theorem want_seq_l (ds : List D) (ς : Store) : m_want_sequence [.lst ds] ς = some (.ok .non ς) := by
  apply WF_eqn
  rw [m_want_sequence, WF_def]
  simp [startD, is_seq_l]
theorem want_seq_t (ds : List D) (ς : Store) : m_want_sequence [.tup ds] ς = some (.ok .non ς) := by
  apply WF_eqn
  rw [m_want_sequence, WF_def]
  simp [startD, is_seq_t]
theorem enum_true {ds : List D} (h : ∀ d ∈ ds, d = .bl true) : ∀ d ∈ enumL ds, ∃ i : Int, d = .tup [.int i, .bl true] := by
  intro d hd
  unfold enumL at hd
  rw [List.mem_mapIdx] at hd
  obtain ⟨i, hi, rfl⟩ := hd
  exact ⟨i, by rw [h _ (List.getElem_mem hi)]⟩
theorem first_wrong_ev {ds : List D} (h : ∀ d ∈ ds, d = .bl true) (ς : Store) : m_first_wrong [.lst ds] ς = some (.ok .non ς) := by
  apply WF_eqn
  rw [m_first_wrong, WF_def]
  simp [startD]
  refine W_for (fun es s => (∀ d ∈ es, ∃ i : Int, d = .tup [.int i, .bl true]) ∧ ∃ o1 o2, s = ⟨[some (.lst ds), o1, o2], ς⟩) ⟨enum_true h, none, none, rfl⟩ ?_ ?_
  · rintro d ds s ⟨h, o1, o2, rfl⟩
    obtain ⟨i, rfl⟩ := h d (List.mem_cons_self ..)
    simp
    exact fun d hd => h d (List.mem_cons_of_mem _ hd)
  · rintro s ⟨h, o1, o2, rfl⟩
    simp
theorem want_right_ev {ds : List D} {m : Int} (h : ∀ d ∈ ds, d = .bl true) (hm : (ds.length : Int) ≤ m) (ς : Store) : m_want_right [.lst ds, .int m] ς = some (.ok .non ς) := by
  have h' : ¬ m < (ds.length : Int) := by omega
  apply WF_eqn
  rw [m_want_right, WF_def]
  simp [startD, first_wrong_ev h, h']
theorem trues {α : Type} (xs : List α) : ∀ d ∈ xs.map (fun _ => D.bl true), d = .bl true := by
  intro d hd
  obtain ⟨_, _, rfl⟩ := List.mem_map.mp hd
  rfl
theorem WF_exn {o : Option OutF} {ς' : Store} {C : Str} {fs : List (Str × D)} (h : WF o (fun _ _ => False) (fun C1 fs1 ς1 => C1 = C ∧ fs1 = fs ∧ ς1 = ς')) : o = some (.exc C fs ς') := by
  cases o with
  | none => exact h.elim
  | some o =>
    cases o with
    | ok d ς => exact h.elim
    | exc C1 fs1 ς1 =>
      obtain ⟨rfl, rfl, rfl⟩ := h
      rfl
/-- no list, no tuple -/
def smp : D → Bool
  | .int _ => true
  | .bl _ => true
  | .non => true
  | .str _ => true
  | _ => false
def btw (a b : Int) : D → Bool
  | .int i => decide (a ≤ i) && decide (i ≤ b)
  | _ => false
def whl : D → Bool
  | .int _ => true
  | _ => false
theorem is_whole_d {d : D} (h : smp d = true) (ς : Store) : m_is_whole [d] ς = some (.ok (.bl (whl d)) ς) := by
  apply WF_eqn
  rw [m_is_whole, WF_def]
  cases d <;> first | (simp [smp] at h; done) | simp [startD, whl]
theorem is_between_d {d : D} (h : smp d = true) (a b : Int) (ς : Store) : m_is_between [d, .int a, .int b] ς = some (.ok (.bl (btw a b d)) ς) := by
  apply WF_eqn
  rw [m_is_between, WF_def]
  have w := is_whole_d h
  cases d with
  | int i =>
    by_cases c : a ≤ i
    · by_cases c2 : i ≤ b
      · simp [startD, w, whl, btw, c, c2]
      · simp [startD, w, whl, btw, c, c2]
    · simp [startD, w, whl, btw, c]
  | bl i => simp [startD, w, whl, btw]
  | non => simp [startD, w, whl, btw]
  | str z => simp [startD, w, whl, btw]
  | _ => simp [smp] at h
theorem excF_s (C : Str) (fs : List Str) (ds : List D) (s : S) (Q : Fl → S → Prop) (E : EX) : W (excF C fs ds s) Q E = E C (fs.zip ds).reverse s := (rfl)
/-- the first mark that is not true -/
theorem first_wrong_at {ds : List D} {k : Nat} (h : ∀ j, j < k → ds[j]? = some (.bl true)) (hk : ds[k]? = some (.bl false)) (ς : Store) : m_first_wrong [.lst ds] ς = some (.ok (.int (k : Int)) ς) := by
  have kl : k < ds.length := (List.getElem?_eq_some_iff.mp hk).1
  have el : (enumL ds).length = ds.length := by simp [enumL]
  have eg : ∀ (j : Nat) (x : D), ds[j]? = some x → (enumL ds)[j]? = some (D.tup [.int (j : Int), x]) := fun j x e => by
    unfold enumL
    rw [List.getElem?_mapIdx, e]
    rfl
  apply WF_eqn
  rw [m_first_wrong, WF_def]
  simp [startD]
  refine W_for (fun es s => ∃ j o1 o2, j ≤ k ∧ es = (enumL ds).drop j ∧ s = ⟨[some (.lst ds), o1, o2], ς⟩) ⟨0, none, none, by omega, by simp, rfl⟩ ?_ ?_
  · rintro d es s ⟨j, o1, o2, jk, e, rfl⟩
    have hj : (enumL ds)[j]? = some d := by
      have := congrArg (fun l => l[0]?) e
      simpa using this.symm
    have hd : es = (enumL ds).drop (j + 1) := by
      have := congrArg List.tail e
      simpa using this
    by_cases c : j = k
    · subst c
      rw [eg j _ hk] at hj
      cases hj
      simp
    · rw [eg j _ (h j (by omega))] at hj
      cases hj
      simp
      exact ⟨j + 1, by omega, hd⟩
  · rintro s ⟨j, o1, o2, jk, e, rfl⟩
    have := congrArg List.length e
    rw [List.length_drop, el] at this
    simp at this
    omega
theorem want_right_at {ds : List D} {k : Nat} (h : ∀ j, j < k → ds[j]? = some (.bl true)) (hk : ds[k]? = some (.bl false)) (m : Int) (ς : Store) : m_want_right [.lst ds, .int m] ς = some (.exc "BadItem" [("index", .int (k : Int))] ς) := by
  apply WF_exn
  rw [m_want_right, WF_def]
  simp [startD, first_wrong_at h hk, excF_s]
theorem want_right_many {ds : List D} {m : Int} (h : ∀ d ∈ ds, d = .bl true) (hm : m < (ds.length : Int)) (ς : Store) : m_want_right [.lst ds, .int m] ς = some (.exc "TooMany" [("limit", .int m)] ς) := by
  apply WF_exn
  rw [m_want_right, WF_def]
  simp [startD, first_wrong_ev h, hm, excF_s]
theorem is_seq_s {d : D} (h : smp d = true) (ς : Store) : m_is_sequence [d] ς = some (.ok (.bl false) ς) := by
  apply WF_eqn
  rw [m_is_sequence, WF_def]
  cases d <;> first | (simp [smp] at h; done) | simp [startD]
theorem want_seq_s {d : D} (h : smp d = true) (ς : Store) : m_want_sequence [d] ς = some (.exc "BadItem" [("index", .non)] ς) := by
  apply WF_exn
  rw [m_want_sequence, WF_def]
  simp [startD, is_seq_s h, excF_s]
theorem want_seq_s' {d : D} (h : smp d = true) (ς : Store) : m_want_sequence [d] ς = some (.exc "BadItem" [("index", .non)] ς) := want_seq_s h ς
theorem want_seq_b (b : Bool) (ds : List D) (ς : Store) : m_want_sequence [shp b ds] ς = some (.ok .non ς) := by
  cases b
  · exact want_seq_t ds ς
  · exact want_seq_l ds ς
theorem is_row_b (b : Bool) (ds : List D) (n : Int) (ς : Store) : m_is_row [shp b ds, .int n] ς = some (.ok (.bl (decide ((ds.length : Int) = n))) ς) := by
  apply WF_eqn
  rw [m_is_row, WF_def]
  have s : ∀ ς, m_is_sequence [shp b ds] ς = some (.ok (.bl true) ς) := fun ς => by
    cases b
    · exact is_seq_t ds ς
    · exact is_seq_l ds ς
  simp [startD, s]
  rfl
def offB (q : Sp) : Bool := decide (0 ≤ q.1 ∧ q.1 ≤ 99999) && decide (0 ≤ q.2 ∧ q.2 ≤ q.1)
theorem btw_ev (x a b : Int) (ς : Store) : m_is_between [.int x, .int a, .int b] ς = some (.ok (.bl (decide (a ≤ x ∧ x ≤ b))) ς) := by
  rw [is_between_d rfl]
  unfold btw
  simp
theorem offer_ev (q : Bool × Sp) (ς : Store) : m_is_offer [spD q] ς = some (.ok (.bl (offB q.2)) ς) := by
  apply WF_eqn
  rw [m_is_offer, WF_def]
  have r : ∀ ς, m_is_row [spD q, .int 2] ς = some (.ok (.bl true) ς) := fun ς => by
    unfold spD
    rw [is_row_b]
    rfl
  unfold offB
  have b1 := fun ς => btw_ev q.2.1 0 99999 ς
  have b2 := fun ς => btw_ev q.2.2 0 q.2.1 ς
  generalize decide (0 ≤ q.2.1 ∧ q.2.1 ≤ 99999) = x at b1 ⊢
  generalize decide (0 ≤ q.2.2 ∧ q.2.2 ≤ q.2.1) = y at b2 ⊢
  simp [startD, r, b1, b2]
  cases x <;> simp [b2]
theorem offer_s {d : D} (h : smp d = true) (ς : Store) : m_is_offer [d] ς = some (.ok (.bl false) ς) := by
  apply WF_eqn
  rw [m_is_offer, WF_def]
  have r : ∀ ς, m_is_row [d, .int 2] ς = some (.ok (.bl false) ς) := fun ς => by
    apply WF_eqn
    rw [m_is_row, WF_def]
    simp [startD, is_seq_s h]
  simp [startD, r]
theorem offer_one (x : D) (ς : Store) : m_is_offer [.tup [x]] ς = some (.ok (.bl false) ς) := by
  apply WF_eqn
  rw [m_is_offer, WF_def]
  have r : ∀ ς, m_is_row [.tup [x], .int 2] ς = some (.ok (.bl false) ς) := fun ς => by
    have := is_row_b false [x] 2 ς
    exact this
  simp [startD, r]
theorem offer_t (ς : Store) : m_is_offer [.tup [.int 5, .bl true]] ς = some (.ok (.bl false) ς) := by
  apply WF_eqn
  rw [m_is_offer, WF_def]
  have r : ∀ ς, m_is_row [.tup [.int 5, .bl true], .int 2] ς = some (.ok (.bl true) ς) := fun ς => by
    have := is_row_b false [.int 5, .bl true] 2 ς
    exact this
  have t : ∀ ς, m_is_between [.bl true, .int 0, .int 5] ς = some (.ok (.bl false) ς) := fun ς => is_between_d rfl 0 5 ς
  simp [startD, r, btw_ev, t]
/-- a group of stays -/
def grD (nm : Str) (L : List Sp) (least most : Nat) : D := .ins "Group" [("name", .str nm), ("spans", .tup (L.map tupI)), ("least", .int (least : Nat)), ("most", .int (most : Nat)), ("late_guests", .int 0), ("late_nights", .int 0)]
section
variable {nm : Str} {L : List Sp} {l m : Nat}
theorem grp_least (s : S) : fldF "Group" "least" (grD nm L l m) s = some (.ok (.int (l : Nat)) s) := (rfl)
theorem grp_most (s : S) : fldF "Group" "most" (grD nm L l m) s = some (.ok (.int (m : Nat)) s) := (rfl)
theorem grp_spans (s : S) : fldF "Group" "spans" (grD nm L l m) s = some (.ok (.tup (L.map tupI)) s) := (rfl)
theorem grp_is (ς : Store) : isI "Group" ς (grD nm L l m) = true := (rfl)
theorem glen_ev (ς : Store) : m_Group__len [grD nm L l m] ς = some (.ok (.int (L.length : Nat)) ς) := by
  apply WF_eqn
  rw [m_Group__len, WF_def]
  simp [startD, grp_spans]
theorem wlen {s : S} {QD : D → S → Prop} {E : EX} (hl : L.length ≤ 1000) (q : QD (.int (L.length : Nat)) s) : W (lenIF "Group" m_Group__len [grD nm L l m] s) QD E := W_lenI (grp_is s.s) (by omega) (glen_ev s.s) q
theorem marks {α : Type} {xs : List α} {f : α → D} {v : α → Bool} (hv : ∀ x ∈ xs, ∀ ς, m_is_offer [f x] ς = some (.ok (.bl (v x)) ς)) (hl : xs.length ≤ 1000) (b : Bool) {e2 : Option D} {g0 : D} {ς : Store} {Q : D → S → Prop} {E : EX} (q : Q (.lst (xs.map fun x => .bl (v x))) ⟨[some g0, some (shp b (xs.map f)), e2], ς⟩) :
    W (lcK false [2] (gset 2) (ret true) (bnd (acons (name 2) anil) (callF m_is_offer)) (xs.map f) ⟨[some g0, some (shp b (xs.map f)), e2], ς⟩) Q E := by
  refine W_lcf (fun x => .bl (v x)) (fun _ => true) (small_of (by omega)) (fun x hx => by simp [hv x hx]) ?_
  rw [List.filter_eq_self.mpr (by simp)]
  exact q
theorem wo_ok {α : Type} {xs : List α} {f : α → D} {v : α → Bool} (hv : ∀ x ∈ xs, ∀ ς, m_is_offer [f x] ς = some (.ok (.bl (v x)) ς)) (ht : ∀ x ∈ xs, v x = true) (hl : xs.length = L.length) (hL : L.length ≤ 1000) (b : Bool) (ς : Store) : m_want_offers [grD nm L l m, shp b (xs.map f)] ς = some (.ok .non ς) := by
  apply WF_eqn
  rw [m_want_offers, WF_def]
  simp [startD, want_seq_b]
  refine marks hv (by omega) b ?_
  have wr : ∀ ς, m_want_right [.lst (xs.map fun x => D.bl (v x)), .int (xs.length : Nat)] ς = some (.ok .non ς) := fun ς => want_right_ev (fun d hd => by
    obtain ⟨x, hx, rfl⟩ := List.mem_map.mp hd
    rw [ht x hx]) (by simp) ς
  generalize (xs.map fun x => D.bl (v x)) = ms at wr
  simp [wr]
  refine wlen hL ?_
  simp [hl]
theorem wo_len {α : Type} {xs : List α} {f : α → D} {v : α → Bool} (hv : ∀ x ∈ xs, ∀ ς, m_is_offer [f x] ς = some (.ok (.bl (v x)) ς)) (ht : ∀ x ∈ xs, v x = true) (hl : xs.length ≠ L.length) (hL : L.length ≤ 900) (hx : xs.length ≤ 1000) (b : Bool) (ς : Store) : m_want_offers [grD nm L l m, shp b (xs.map f)] ς = some (.exc "BadItem" [("index", .non)] ς) := by
  apply WF_exn
  rw [m_want_offers, WF_def]
  simp [startD, want_seq_b]
  refine marks hv (by omega) b ?_
  have wr : ∀ ς, m_want_right [.lst (xs.map fun x => D.bl (v x)), .int (xs.length : Nat)] ς = some (.ok .non ς) := fun ς => want_right_ev (fun d hd => by
    obtain ⟨x, hx, rfl⟩ := List.mem_map.mp hd
    rw [ht x hx]) (by simp) ς
  generalize (xs.map fun x => D.bl (v x)) = ms at wr
  simp [wr]
  refine wlen (by omega) ?_
  have ne : ((xs.length : Int) == (L.length : Int)) = false := beq_false_of_ne (by omega)
  simp [ne, excF_s]
theorem wo_at {α : Type} {xs : List α} {f : α → D} {v : α → Bool} (hv : ∀ x ∈ xs, ∀ ς, m_is_offer [f x] ς = some (.ok (.bl (v x)) ς)) {k : Nat} (h1 : ∀ j, j < k → (xs.map v)[j]? = some true) (h2 : (xs.map v)[k]? = some false) (hx : xs.length ≤ 1000) (b : Bool) (ς : Store) : m_want_offers [grD nm L l m, shp b (xs.map f)] ς = some (.exc "BadItem" [("index", .int (k : Nat))] ς) := by
  apply WF_exn
  rw [m_want_offers, WF_def]
  simp [startD, want_seq_b]
  refine marks hv (by omega) b ?_
  have e : (xs.map fun x => D.bl (v x)) = (xs.map v).map .bl := by rw [List.map_map]; rfl
  have wr : ∀ ς, m_want_right [.lst (xs.map fun x => D.bl (v x)), .int (xs.length : Nat)] ς = some (.exc "BadItem" [("index", .int (k : Nat))] ς) := fun ς => by
    rw [e]
    refine want_right_at (k := k) (fun j hj => ?_) ?_ _ ς
    · rw [List.getElem?_map, h1 j hj]
      rfl
    · rw [List.getElem?_map, h2]
      rfl
  generalize (xs.map fun x => D.bl (v x)) = ms at wr
  simp [wr]
theorem wo_non (ς : Store) : m_want_offers [grD nm L l m, .non] ς = some (.exc "BadItem" [("index", .non)] ς) := by
  apply WF_exn
  rw [m_want_offers, WF_def]
  have w := want_seq_s (d := .non) rfl
  simp [startD, w]
/-! right offers -/
structure Wo (nm : Str) (L : List Sp) (l m : Nat) (O : List Of) (b : Bool) (qs : List (Bool × Sp)) : Prop where
  ok : OfOk O
  q : qs.map (·.2) = O
  wo : ∀ ς, m_want_offers [grD nm L l m, shp b (qs.map spD)] ς = some (.ok .non ς)
  lm : l ≤ m
  mn : m ≤ O.length
variable {O : List Of} {b : Bool} {qs : List (Bool × Sp)}
theorem sort_nats (cs : List Nat) (s : S) : fSortI false [.lst (cs.map fun (k : Nat) => .int (k : Int))] s = some (.ok (.lst ((srt cs).map fun (k : Nat) => .int (k : Int))) s) := by
  have e : (cs.map fun (k : Nat) => D.int (k : Int)) = (cs.map fun (k : Nat) => (k : Int)).map .int := by rw [List.map_map]; rfl
  have e2 : ((srt cs).map fun (k : Nat) => D.int (k : Int)) = ((srt cs).map fun (k : Nat) => (k : Int)).map .int := by rw [List.map_map]; rfl
  have q : W (fSortI false [.lst (cs.map fun (k : Nat) => .int (k : Int))] s) (fun d s' => d = .lst ((srt cs).map fun (k : Nat) => .int (k : Int)) ∧ s' = s) EX0 := by
    refine W_sortI (ns := cs.map fun (k : Nat) => (k : Int)) (by rw [e]; rfl) ?_
    rw [srt_ints, ← e2]
    exact ⟨rfl, rfl⟩
  obtain ⟨d, s', h1, rfl, rfl⟩ := W_get q
  exact h1
def poor (O : List Of) (l : Nat) : List Nat := srt ((ord true (gs O)).take l)
def rich (O : List Of) (m : Nat) : List Nat := srt ((ord false (gs O)).take m)
theorem poor_pay (O : List Of) (l : Nat) : payF O (poor O l) = low O l := payF_perm (srt_perm _)
theorem rich_pay (O : List Of) (m : Nat) : payF O (rich O m) = high O m := payF_perm (srt_perm _)
theorem take_lt {up : Bool} {O : List Of} {m : Nat} : ∀ k ∈ (ord up (gs O)).take m, k < O.length := fun k hk => by
  have := ord_mem.mp ((List.take_sublist _ _).subset hk)
  rwa [gs_len] at this
theorem poor_lt {O : List Of} {l : Nat} : ∀ k ∈ poor O l, k < O.length := fun k hk => take_lt k ((srt_perm _).mem_iff.mp hk)
theorem rich_lt {O : List Of} {l : Nat} : ∀ k ∈ rich O l, k < O.length := fun k hk => take_lt k ((srt_perm _).mem_iff.mp hk)
theorem poor_len {O : List Of} {l : Nat} (h : l ≤ O.length) : (poor O l).length = l := by
  unfold poor
  rw [(srt_perm _).length_eq, List.length_take, ord_len, gs_len]
  omega
theorem rich_len {O : List Of} {l : Nat} (h : l ≤ O.length) : (rich O l).length = l := by
  unfold rich
  rw [(srt_perm _).length_eq, List.length_take, ord_len, gs_len]
  omega
theorem poor_ev (h : Wo nm L l m O b qs) (ς : Store) : m_poorest_comers [grD nm L l m, shp b (qs.map spD)] ς = some (.ok (.tup ((poor O l).map fun (k : Nat) => .int (k : Int))) ς) := by
  apply WF_eqn
  rw [m_poorest_comers, WF_def]
  simp [startD, h.wo, bygains_ev h.ok h.q, W_slA, W_oInt, grp_least, cut_take]
  rw [← List.map_take, sort_nats]
  have fl := nats_flat (srt ((ord true (gs O)).take l))
  unfold poor
  generalize ((srt ((ord true (gs O)).take l)).map fun (k : Nat) => D.int (k : Int)) = us at fl ⊢
  simp [fl]
theorem rich_ev (h : Wo nm L l m O b qs) (ς : Store) : m_richest_comers [grD nm L l m, shp b (qs.map spD)] ς = some (.ok (.tup ((rich O m).map fun (k : Nat) => .int (k : Int))) ς) := by
  apply WF_eqn
  rw [m_richest_comers, WF_def]
  have n1 := h.ok.n1
  have gl := gs_len O
  have ol := ord_len false (gs O)
  simp [startD, h.wo, gains_ev h.ok h.q, enum_ints]
  refine W_lcG (fun i => tupI (keyG false (gs O) i)) (fun _ => true) (small_of (by simp; omega)) (fun i hi => ?_) ?_
  · rw [W_tg2]
    simp [keyG, tupI]
  · rw [List.filter_eq_self.mpr (by simp)]
    simp only [W_ok, mk_f, W_acons, W_anil]
    rw [sorted_ev]
    simp [W_slA, W_oInt, grp_most, cut_take]
    rw [← List.map_take]
    have tl := List.length_take_le m (ord false (gs O))
    have tl2 : ((ord false (gs O)).take m).length ≤ 1000 := by rw [List.length_take]; omega
    unfold rich
    generalize (ord false (gs O)).take m = T at tl2
    refine W_lcG (fun (k : Nat) => .int (k : Int)) (fun _ => true) (small_of (by omega)) (fun k hk => ?_) ?_
    · rw [show tupI (keyG false (gs O) k) = D.tup [.int (keyG false (gs O) k).1, .int (k : Int)] from rfl, W_tg2]
      simp
    · rw [List.filter_eq_self.mpr (by simp)]
      simp only [W_ok, mk_f, W_anil]
      rw [sort_nats]
      have fl := nats_flat (srt T)
      generalize ((srt T).map fun (k : Nat) => D.int (k : Int)) = us at fl ⊢
      simp [fl]
theorem sure_ev (h : Wo nm L l m O b qs) (ς : Store) : m_sure_pay [grD nm L l m, shp b (qs.map spD)] ς = some (.ok (.int (low O l)) ς) := by
  apply WF_eqn
  rw [m_sure_pay, WF_def]
  have lm := h.lm
  have mn := h.mn
  have n1 := h.ok.n1
  have pe := fun ς => payif_ev h.ok h.q b false (cs := poor O l) poor_lt (by rw [poor_len (by omega)]; omega) ς
  have pe' : ∀ ς, m_pay_if [shp b (qs.map spD), .tup ((poor O l).map fun (k : Nat) => .int (k : Int))] ς = some (.ok (.int (low O l)) ς) := fun ς => by rw [← poor_pay]; exact pe ς
  have po := poor_ev h
  generalize ((poor O l).map fun (k : Nat) => D.int (k : Int)) = us at pe' po
  simp [startD, po, pe']
theorem great_ev (h : Wo nm L l m O b qs) (ς : Store) : m_greatest_group_pay [grD nm L l m, shp b (qs.map spD)] ς = some (.ok (.int (high O m)) ς) := by
  apply WF_eqn
  rw [m_greatest_group_pay, WF_def]
  have lm := h.lm
  have mn := h.mn
  have n1 := h.ok.n1
  have pe := fun ς => payif_ev h.ok h.q b false (cs := rich O m) rich_lt (by rw [rich_len (by omega)]; omega) ς
  have pe' : ∀ ς, m_pay_if [shp b (qs.map spD), .tup ((rich O m).map fun (k : Nat) => .int (k : Int))] ς = some (.ok (.int (high O m)) ς) := fun ς => by rw [← rich_pay]; exact pe ς
  have po := rich_ev h
  generalize ((rich O m).map fun (k : Nat) => D.int (k : Int)) = us at pe' po
  simp [startD, po, pe']
theorem spread_ev (h : Wo nm L l m O b qs) (ς : Store) : m_pay_spread [grD nm L l m, shp b (qs.map spD)] ς = some (.ok (.int (high O m - low O l)) ς) := by
  apply WF_eqn
  rw [m_pay_spread, WF_def]
  simp [startD, sure_ev h, great_ev h]
/-- the first that is enough -/
def enough (O : List Of) (m : Nat) (w : Int) : List Nat := (List.range (m + 1)).filter fun n => decide (w ≤ low O n)
def enD : List Nat → D
  | [] => .non
  | n :: _ => .int (n : Nat)
theorem least_ev (h : Wo nm L l m O b qs) (w : Int) (ς : Store) : m_least_for [grD nm L l m, shp b (qs.map spD), .int w] ς = some (.ok (enD (enough O m w)) ς) := by
  apply WF_eqn
  rw [m_least_for, WF_def]
  have mn := h.mn
  have n1 := h.ok.n1
  simp [startD, h.wo, bygains_ev h.ok h.q, grp_most]
  rw [show ((m : Int) + 1) = ((m + 1 : Nat) : Int) by omega, rng1F_n (by omega)]
  simp only [W_ok]
  refine W_forN (fun i s => ∃ o4 : Option D, s = ⟨[some (grD nm L l m), some (shp b (qs.map spD)), some (.int w), some (.lst ((ord true (gs O)).map fun (k : Nat) => .int (k : Int))), o4], ς⟩ ∧ ∀ n, n < i → ¬ w ≤ low O n) ⟨none, rfl, fun n h => by omega⟩ ?_ ?_
  · rintro i hi s ⟨o4, rfl, ok⟩
    have pe := fun ς => payif_ev h.ok h.q b true (cs := (ord true (gs O)).take i) take_lt (by rw [List.length_take, ord_len, gs_len]; omega) ς
    have pe' : ∀ ς, m_pay_if [shp b (qs.map spD), .lst (((ord true (gs O)).take i).map fun (k : Nat) => .int (k : Int))] ς = some (.ok (.int (low O i)) ς) := pe
    rw [W_tg_set]
    simp [W_slA, W_oInt, cut_take]
    rw [← List.map_take, pe']
    simp
    refine W_iteD (fun c => ?_) fun c => ?_
    · have e : enough O m w = i :: (List.range' (i + 1) (m - i)).filter fun n => decide (w ≤ low O n) := by
        unfold enough
        rw [List.range_eq_range', show m + 1 = i + (m - i + 1) by omega, ← List.range'_append_1, List.filter_append, List.filter_eq_nil_iff.mpr (fun n hn => by
          have := (List.mem_range'_1.mp hn).2
          simpa using ok n (by omega)), List.nil_append, Nat.zero_add, List.range'_succ, List.filter_cons, if_pos (by simpa using c)]
      rw [e]
      simp [enD]
    · refine W_of (b := .nx) rfl ?_
      dsimp only [FlI]
      exact ⟨_, rfl, fun n hn => by
        rcases Nat.lt_or_ge n i with z | z
        · exact ok n z
        · have : n = i := by omega
          subst this
          exact c⟩
  · rintro s ⟨o4, rfl, ok⟩
    have e : enough O m w = [] := List.filter_eq_nil_iff.mpr fun n hn => by simpa using ok n (List.mem_range.mp hn)
    rw [e]
    simp [enD]
/-! wrong offers -/
theorem all5 {g d ix : D} {ς : Store} (wo : ∀ ς, m_want_offers [g, d] ς = some (.exc "BadItem" [("index", ix)] ς)) (fx : flatN [(("index" : Str), ix)] = true) :
    m_poorest_comers [g, d] ς = some (.exc "BadItem" [("index", ix)] ς) ∧ m_richest_comers [g, d] ς = some (.exc "BadItem" [("index", ix)] ς) ∧ m_least_for [g, d, .int 0] ς = some (.exc "BadItem" [("index", ix)] ς) := by
  refine ⟨?_, ?_, ?_⟩
  · apply WF_exn
    rw [m_poorest_comers, WF_def]
    simp [startD, wo, fx]
  · apply WF_exn
    rw [m_richest_comers, WF_def]
    simp [startD, wo, fx]
  · apply WF_exn
    rw [m_least_for, WF_def]
    simp [startD, wo, fx]
end
end
end Lw

/-! from k23d.lean -/
set_option Elab.async false
set_option linter.all false
set_option maxRecDepth 100000
set_option maxHeartbeats 4000000
/-! k23d: names, groups made; the law's own parts. -/
namespace DL
open PySem L2
/-! try, several clauses, held to what it ends with -/
theorem W_tryL {mb : M Fl} {L : List ClD} {s : S} {Q : Fl → S → Prop} {E : EX} (h : W (mb s) Q (fun C fs s1 => W (clauseL C fs s1 L) Q E)) : W (tryL mb L s) Q E := by
  unfold tryL
  cases e : mb s with
  | none => rw [e] at h; exact h.elim
  | some o =>
    rw [e] at h
    cases o with
    | ok b s' => exact h
    | exc C fs s' => exact h
theorem W_clG {q : ClD} {r : List ClD} {C : Str} {fs : List (Str × D)} {s1 : S} {rr : Fl} {Q : Fl → S → Prop} {E : EX} (ht : q.test C = some true) (h : ∀ a d, W (q.mh a d C ⟨s1.e.set q.i (some (.exn a d fs)), s1.s⟩) (fun fl s' => fl = rr ∧ s' = ⟨s1.e.set q.i (some (.exn a d fs)), s1.s⟩) EX0) (k : Q rr ⟨s1.e.set q.i none, s1.s⟩) : W (clauseL C fs s1 (q :: r)) Q E := by
  unfold clauseL
  rw [ht]
  show W (suiteO q.i q.mh C fs s1) Q E
  rw [suiteO_ev (r := .ok rr ⟨s1.e.set q.i none, s1.s⟩) fun a d => ?_]
  · exact k
  · obtain ⟨fl, s', e1, rfl, rfl⟩ := W_get (h a d)
    rw [e1]
    show some _ = _
    rw [List.set_set]
theorem fldM_s {a : Addr} {d : Option Addr} {m : M D} {f : Str} {fs : List (Str × D)} {v : D} {s : S} (hm : m s = some (.ok (.exn a d fs) s)) (hl : fs.lookup f = some v) : fldM a d true m f s = some (.ok v s) := by
  unfold fldM bnd
  rw [hm]
  simp [hl]

def strF (d : D) : M (List D) := fun s => match d with
  | .str z => some (.ok (z.cps.toList.map sgn) s)
  | _ => none
@[simp] theorem strF_str (z : Str) (s : S) : strF (.str z) s = some (.ok (z.cps.toList.map sgn) s) := (rfl)
@[simp ↓] theorem W_strI (m : M D) {s : S} {QL : List D → S → Prop} {E : EX} : W (strI m s) QL E = W (m s) (fun d s' => W (strF d s') QL E) E := by
  unfold strI
  rw [W_bnd]
  refine W_cong fun d s' => ?_
  cases d <;> rfl
theorem fIx_str {z : Str} {i c : Nat} (h : z.cps.toList[i]? = some c) (hs : z.length ≤ 1000000) (s : S) : fIx (.str z) (.int (i : Int)) s = some (.ok (sgn c) s) := by
  unfold fIx
  have e : atI z.cps.toList (i : Int) = some c := by rw [atI_n]; exact h
  simp only [seqD, e]
  show guard' (small z.length) _ s = _
  rw [small_of hs]
  rfl
theorem fLen_str (z : Str) (hs : z.length ≤ 1000000) (s : S) : fLen [.str z] s = some (.ok (.int (z.length : Nat)) s) := by
  show guard' (small z.length) _ s = _
  rw [small_of hs]
  rfl
end DL
namespace Lw
open PySem L2 DL
noncomputable section
variable [TabA]
def tq : Str := "law.<locals>.<lambda>"
theorem tq_flat {r : Store} (hf : sflat r = true) : sflat (TO tq :: r) = true := by unfold TO; rw [sflat_tab]; exact hf
theorem row_flat {sc : List Int} {o : Option O} {r : Store} (h : IsRow sc o) (hf : sflat r = true) : sflat (o :: r) = true := by rw [h.flat]; exact hf
theorem fld_x {v : D} {x : Str} {i : Nat} {a : Addr} {d : Option Addr} {s' : S} (e : s'.e[i]? = some (some (.exn a d [(x, v)]))) : fldM a d true (name i) x s' = some (.ok v s') := by
  refine fldM_s (fs := [(x, v)]) ?_ (by simp)
  unfold name
  rw [e]

def SpB (top : Int) (ps : List Sp) : Prop := ∀ p ∈ ps, 0 ≤ p.1 ∧ p.1 < p.2 ∧ p.2 ≤ top
section
variable {sc : List Int} {o : Option O} {r : Store} {Q : D → Store → Prop}
theorem span_w {top lo : Int} (h : IsRow sc o) (hm : 0 < top) (hs : top < 1073741824) (hl : 0 < lo) (hk : lo < 1073741824) (q : ∀ (p : Int × Int) o', 0 ≤ p.1 → p.1 < p.2 → p.2 ≤ top → IsRow sc o' → Q (tupI p) (TO tq :: o' :: r)) :
    WF (m__law_span [.loc 1, .int top, .int lo] (TO tq :: o :: r)) Q EF0 := by
  rw [m__law_span, WF_def]
  simp [startD]
  refine taken_w h hm hs fun v o1 v0 v1 r1 => ?_
  simp
  refine taken_w r1 hl hk fun w o2 w0 w1 r2 => ?_
  simp [row_cut]
  exact q (v, min top (v + 1 + w)) o2 v0 (by simp only; omega) (by simp only; omega) r2
theorem spans_w {many : Nat} {top lo : Int} (h : IsRow sc o) (hf : sflat r = true) (hn : many ≤ 1000000) (hm : 0 < top) (hs : top < 1073741824) (hl : 0 < lo) (hk : lo < 1073741824) (q : ∀ (ps : List Sp) o', SpB top ps → ps.length = many → IsRow sc o' → Q (.lst (ps.map tupI)) (TO tq :: o' :: r)) :
    WF (m__law_spans [.loc 1, .int (many : Nat), .int top, .int lo] (TO tq :: o :: r)) Q EF0 := by
  rw [m__law_spans, WF_def]
  simp [startD, rng1F_n (show many ≤ 1000000000 by omega)]
  refine W_forN (fun i s => ∃ (acc : List Sp) (o' : Option O) (o5 : Option D), s = ⟨[some (.loc 1), some (.int (many : Nat)), some (.int top), some (.int lo), some (.loc (r.length + 2)), o5], TO tq :: o' :: (r ++ [some (.lst (acc.map tupI))])⟩ ∧ SpB top acc ∧ acc.length = i ∧ IsRow sc o') ⟨[], o, none, rfl, by simp [SpB], rfl, h⟩ ?_ ?_
  · rintro i hi s ⟨acc, o', o5, rfl, ha, hl2, hr⟩
    rw [W_tg_set]
    simp
    refine W_guard ?_ ?_
    · unfold isL
      simp
    · simp
      refine span_w (r := r ++ [some (.lst (acc.map tupI))]) hr hm hs hl hk fun p o1 p0 p1 p2 r1 => ?_
      refine W_append (l := r.length + 2) (acc := acc.map tupI) (by simp) (small_of (by rw [List.length_map]; omega)) ?_
      refine ⟨acc ++ [p], o1, some (.int (i : Nat)), ?_, fun x hx => ?_, by simp [hl2], r1⟩
      · simp
      · rcases List.mem_append.mp hx with z | z
        · exact ha x z
        · rw [List.mem_singleton.mp z]
          exact ⟨p0, p1, p2⟩
  · rintro s ⟨acc, o', o5, rfl, ha, hl2, hr⟩
    simp
    refine W_nameL (l := r.length + 2) (o := .lst (acc.map tupI)) (by simp) (by simp) ?_
    have e : (TO tq :: o' :: (r ++ [some (O.lst (acc.map tupI))])).set (r.length + 2) none = TO tq :: o' :: (r ++ [none]) := by simp
    simp [e]
    rw [show acc.all (D.flat ∘ tupI) = true from List.all_eq_true.mpr fun p _ => rfl, cut_row hr hf]
    exact q acc o' ha hl2 hr
theorem mixed_w {k : Bool} {ds : List D} (h : IsRow sc o) (hd : ds.all D.flat = true) (q : ∀ b o', IsRow sc o' → Q (shp b ds) (TO tq :: o' :: r)) : WF (m__law_mixed [.loc 1, shp k ds] (TO tq :: o :: r)) Q EF0 := by
  rw [m__law_mixed, WF_def]
  simp [startD]
  refine taken_w h (by omega) (by omega) fun v o1 v0 v1 r1 => ?_
  simp
  refine W_ite (fun k => ?_) fun k => ?_
  · simp [hd, row_cut]
    exact q true o1 r1
  · simp [hd, row_cut]
    exact q false o1 r1
end
def J11 (r : Store) (sc : List Int) (L : List Sp) (ds acc : List D) (ς : Store) : Prop := ∃ (qs : List (Bool × Sp)) (rest : List Sp) (o' : Option O), ds = rest.map tupI ∧ acc = qs.map spD ∧ qs.map (·.2) ++ rest = L ∧ ς = TO tq :: o' :: r ∧ IsRow sc o'
theorem handed_w {sc : List Int} {o : Option O} {r : Store} {Q : D → Store → Prop} {L : List Sp} (hl : L.length ≤ 100) (h : IsRow sc o) (q : ∀ (b : Bool) (qs : List (Bool × Sp)) o', qs.map (·.2) = L → IsRow sc o' → Q (shp b (qs.map spD)) (TO tq :: o' :: r)) :
    WF (m__law_handed [.loc 1, .lst (L.map tupI)] (TO tq :: o :: r)) Q EF0 := by
  rw [m__law_handed, WF_def]
  simp [startD]
  refine W_lc (J11 r sc L) ⟨[], L, o, rfl, rfl, rfl, rfl, h⟩ (fun d ds acc ς h0 => ?_) fun acc ς h0 => ?_
  · obtain ⟨qs, rest, o', hd, rfl, ht, rfl, hr⟩ := h0
    cases rest with
    | nil => cases hd
    | cons p rest =>
      cases hd
      simp
      refine mixed_w (k := false) (ds := [.int p.1, .int p.2]) hr (by simp) fun b o1 r1 => ?_
      exact ⟨qs ++ [(b, p)], rest, o1, rfl, by simp [spD], by rw [← ht]; simp, rfl, r1⟩
  · obtain ⟨qs, rest, o', hd, rfl, ht, rfl, hr⟩ := h0
    have hz : rest = [] := by simpa using hd.symm
    subst hz
    rw [List.append_nil] at ht
    have tl := congrArg List.length ht
    rw [List.length_map] at tl
    refine ⟨small_of (by rw [List.length_map]; omega), ?_⟩
    have fl : (qs.map spD).all D.flat = true := by
      rw [List.all_eq_true]
      intro d hd
      obtain ⟨q, _, rfl⟩ := List.mem_map.mp hd
      exact flat_spD q
    simp only [W_ok, mk_f, W_anil, W_call]
    refine mixed_w (k := true) (ds := qs.map spD) hr fl fun b o1 r1 => ?_
    simp only [FlF, flat_shp, fl, row_cut]
    exact q b qs o1 ht r1

/-! names -/
def lts : List Nat := (List.range 26).map (97 + ·)
def fgs : List Nat := (List.range 10).map (48 + ·)
theorem e_sg : (Str.ofString "abcdefghijklmnopqrstuvwxyz0123456789").cps.toList = lts ++ fgs := by decide +kernel
theorem e_lt : (Str.ofString "abcdefghijklmnopqrstuvwxyz").cps.toList = lts := by decide +kernel
theorem e_fg : (Str.ofString "0123456789").cps.toList = fgs := by decide +kernel
/-- a right name -/
structure NmOk (z : Str) : Prop where
  n0 : 1 ≤ z.length
  n1 : z.length ≤ 12
  all : ∀ c ∈ z.cps.toList, c ∈ lts ∨ c ∈ fgs
  hd : ∃ c, z.cps.toList[0]? = some c ∧ c ∈ lts
theorem in_lt (c : Nat) (s : S) : W (alt (op2 (fIn false) (ret (sgn c)) (ret (.str "abcdefghijklmnopqrstuvwxyz"))) (op2 (fInS false) (ret (sgn c)) (ret (.str "abcdefghijklmnopqrstuvwxyz"))) s) (fun d s' => d = .bl (decide (c ∈ lts)) ∧ s' = s) EX0 := by
  refine W_alt2 ?_ rfl
  simp
  rw [inS_sgn, show ("abcdefghijklmnopqrstuvwxyz" : Str).cps.toList = lts from e_lt]
  simp
theorem name_ev {z : Str} (h : NmOk z) (ς : Store) : m_is_name [.str z] ς = some (.ok (.bl true) ς) := by
  apply WF_eqn
  rw [m_is_name, WF_def]
  have n0 := h.n0
  have n1 := h.n1
  obtain ⟨c0, hc, hl⟩ := h.hd
  have f0 := fun s => fIx_str hc (by omega) s
  have fl := fun s => fLen_str z (by omega) s
  have c1 : (1 : Int) ≤ (z.length : Int) := by omega
  have c2 : (z.length : Int) ≤ 12 := by omega
  have L1 : ∀ (c : Nat) (s : S), fInS false (sgn c) (.str (Str.ofString "abcdefghijklmnopqrstuvwxyz")) s = some (.ok (.bl (decide (c ∈ lts))) s) := fun c s => by rw [inS_sgn, e_lt]; simp
  have L2 : ∀ (c : Nat) (s : S), fInS false (sgn c) (.str (Str.ofString "0123456789")) s = some (.ok (.bl (decide (c ∈ fgs))) s) := fun c s => by rw [inS_sgn, e_fg]; simp
  have N : ∀ (c : Nat) (z : Str) (s : S), fIn false (sgn c) (.str z) s = none := fun c z s => rfl
  have f0' : ∀ s, fIx (.str z) (.int 0) s = some (.ok (sgn c0) s) := f0
  simp [startD, fl, c1, c2]
  refine W_alt2 ?_ ?_
  · simp [f0', L1, hl]
    refine W_lcf (f := sgn) (xs := z.cps.toList) (fun _ => .bl true) (fun _ => true) (small_of (by simpa [Str.length] using (show z.length ≤ 1000000 by omega))) (fun c hc => ?_) ?_
    · simp
      have ha := h.all c hc
      refine W_alt2 ?_ (by simp [op2, bnd, N])
      simp [L1]
      by_cases m1 : c ∈ lts
      · simp [m1]
      · have m2 : c ∈ fgs := by rcases ha with z | z; exact absurd z m1; exact z
        simp [m1]
        refine W_alt2 ?_ (by simp [op2, bnd, N])
        simp [L2, m2]
    · rw [List.filter_eq_self.mpr (by simp)]
      have e := fun s => fAny_map (s := s) true (z.cps.toList.map fun _ => true)
      have e' : ∀ s : S, fAny true [.lst (z.cps.toList.map fun _ => D.bl true)] s = some (.ok (.bl true) s) := fun s => by
        have := e s
        rw [List.map_map] at this
        rw [show (z.cps.toList.map fun _ => D.bl true) = z.cps.toList.map (D.bl ∘ fun _ => true) from rfl, this]
        simp
      simp only [W_ok, mk_f]
      generalize (z.cps.toList.map fun _ => D.bl true) = us at e' ⊢
      simp [e']
  · simp [op2, bnd, f0', N]
theorem wname_ev {z : Str} (h : NmOk z) (ς : Store) : m_want_name [.str z] ς = some (.ok .non ς) := by
  apply WF_eqn
  rw [m_want_name, WF_def]
  simp [startD, name_ev h]
end
end Lw

/-! from k23e.lean -/
set_option Elab.async false
set_option linter.all false
set_option maxRecDepth 100000
set_option maxHeartbeats 4000000
/-! k23e: groups made; the law's own parts. -/
namespace Lw
open PySem L2 DL
noncomputable section
variable [TabA]
theorem fIn_ints (neg : Bool) (ns : List Int) (x : Int) (s : S) : fIn neg (.int x) (.lst (ns.map .int)) s = some (.ok (.bl (if neg then !decide (x ∈ ns) else decide (x ∈ ns))) s) := by
  have g : (D.flt (.int x) && (ns.map D.int).all D.flt) = true := by
    rw [Bool.and_eq_true]
    refine ⟨rfl, ?_⟩
    rw [List.all_eq_true]
    intro d hd
    obtain ⟨y, _, rfl⟩ := List.mem_map.mp hd
    rfl
  have e : ((ns.map D.int).any fun y => eqD y (.int x)) = decide (x ∈ ns) := by
    rw [List.any_map]
    induction ns with
    | nil => simp
    | cons n ns ih =>
      rw [List.any_cons, ih (by simp [D.flt])]
      by_cases c : n = x
      · subst c
        simp [eqD]
      · have c' : ¬ x = n := fun h => c h.symm
        simp [eqD, c, c']
  unfold fIn
  simp only [seqD]
  rw [g, e]
  rfl
theorem want_num_ok {i a b : Int} (h : a ≤ i) (h' : i ≤ b) (ς : Store) : m_want_number [.int i, .int a, .int b] ς = some (.ok .non ς) := by
  apply WF_eqn
  rw [m_want_number, WF_def]
  simp [startD, is_between_ev i a b h h']
theorem is_night_ev {i : Int} (h : 0 ≤ i) (h' : i ≤ 36524) (ς : Store) : m_is_night [.int i] ς = some (.ok (.bl true) ς) := by
  apply WF_eqn
  rw [m_is_night, WF_def]
  simp [startD, is_between_ev i 0 36524 h h']
theorem is_span_ev {p : Int × Int} (h : 0 ≤ p.1 ∧ p.1 < p.2 ∧ p.2 ≤ 36525) (ς : Store) : m_is_span [tupI p] ς = some (.ok (.bl true) ς) := by
  have row : ∀ ς, m_is_row [tupI p, .int 2] ς = some (.ok (.bl true) ς) := fun ς => is_row_b false [.int p.1, .int p.2] 2 ς
  apply WF_eqn
  rw [m_is_span, WF_def]
  simp [startD, row]
  rw [show tupI p = D.tup [.int p.1, .int p.2] from rfl, W_tg2]
  simp [is_night_ev (i := p.1) h.1 (by omega), is_between_ev p.2 (p.1 + 1) 36525 (by omega) h.2.2]
theorem copied_ev {L : List Sp} (h : SpB 30 L) (hl : L.length ≤ 30) (ς : Store) : m_copied_spans [.lst (L.map tupI), .int 30] ς = some (.ok (.tup (L.map tupI)) ς) := by
  apply WF_eqn
  rw [m_copied_spans, WF_def]
  simp [startD, want_seq_l]
  refine W_lcm (fun _ => .bl true) (small_of (by omega)) (fun p hp => ?_) ?_
  · have a := h p hp
    simp [is_span_ev (p := p) ⟨a.1, a.2.1, by omega⟩]
  · have w := want_right_ev (trues L) (m := 30) (by simp; omega)
    simp [-List.map_const, w]
    refine W_lcm tupI (small_of (by omega)) (fun p hp => ?_) ?_
    · simp [tupI]
    · simp
theorem ginit {nm : Str} {L : List Sp} {l m : Nat} (hn : NmOk nm) (hL : SpB 30 L) (hl : L.length ≤ 30) (lm : l ≤ m) (mn : m ≤ L.length) (ς : Store) :
    m_Group__init [.loc ς.length, .str nm, .lst (L.map tupI), .int (l : Nat), .int (m : Nat), .int 0, .int 0] (ς ++ [some (.ins "Group" [])]) = some (.ok .non (ς ++ [some (.ins "Group" [("name", .str nm), ("spans", .tup (L.map tupI)), ("least", .int (l : Nat)), ("most", .int (m : Nat)), ("late_guests", .int 0), ("late_nights", .int 0)])])) := by
  apply WF_eqn
  rw [m_Group__init, WF_def]
  have w1 := want_num_ok (i := (m : Int)) (a := 0) (b := (L.length : Int)) (by omega) (by omega)
  have w2 := want_num_ok (i := (l : Int)) (a := 0) (b := (m : Int)) (by omega) (by omega)
  have w3 := want_num_ok (i := 0) (a := 0) (b := (m : Int)) (by omega) (by omega)
  have w4 := want_num_ok (i := 0) (a := 0) (b := 7) (by omega) (by omega)
  have cp := copied_ev hL hl
  have g : ∀ o : O, (ς ++ [some o])[ς.length]? = some (some o) := fun o => by simp
  simp [startD, wname_ev hn, cp, w1, w2, w3, w4]
  refine W_setIF (fs := []) (g _) (by simp) ?_
  simp
  refine W_setIF (fs := [("name", .str nm)]) (g _) (by simp) ?_
  simp
  refine W_setIF (fs := [("name", .str nm), ("spans", .tup (L.map tupI))]) (g _) (by simp) ?_
  simp
  refine W_setIF (fs := [("name", .str nm), ("spans", .tup (L.map tupI)), ("least", .int (l : Nat))]) (g _) (by simp) ?_
  simp
  refine W_setIF (fs := [("name", .str nm), ("spans", .tup (L.map tupI)), ("least", .int (l : Nat)), ("most", .int (m : Nat))]) (g _) (by simp) ?_
  simp
  refine W_setIF (fs := [("name", .str nm), ("spans", .tup (L.map tupI)), ("least", .int (l : Nat)), ("most", .int (m : Nat)), ("late_guests", .int 0)]) (g _) (by simp) ?_
  simp
  rw [cut_same _ (by simp)]
  rfl
theorem gmake {nm : Str} {L : List Sp} {l m : Nat} (hn : NmOk nm) (hL : SpB 30 L) (hl : L.length ≤ 30) (lm : l ≤ m) (mn : m ≤ L.length) {s : S} {E : EX} {Q : D → S → Prop} (hf : sflat s.s = true) (q : Q (grD nm L l m) s) : W (makeF false "Group" m_Group__init [.str nm, .lst (L.map tupI), .int (l : Nat), .int (m : Nat), .int 0, .int 0] s) Q E := by
  refine W_make (fs := [("name", .str nm), ("spans", .tup (L.map tupI)), ("least", .int (l : Nat)), ("most", .int (m : Nat)), ("late_guests", .int 0), ("late_nights", .int 0)]) (ginit hn hL hl lm mn s.s) last_get ?_
  have fa : (L.all (D.flat ∘ tupI)) = true := by
    rw [List.all_eq_true]
    intro p _
    exact flat_tupI p
  rw [show flatN [(("name" : Str), D.str nm), ("spans", .tup (L.map tupI)), ("least", .int (l : Nat)), ("most", .int (m : Nat)), ("late_guests", .int 0), ("late_nights", .int 0)] = true by simp [flatN, flatQ, fa], last_set, cut_back rfl hf]
  exact q
/-! the law's name -/
theorem sg_get {v : Int} {n : Nat} (h0 : 0 ≤ v) (h1 : v < n) (hn : n ≤ 36) (s : S) : ∃ c, (c ∈ lts ∨ c ∈ fgs) ∧ (n ≤ 26 → c ∈ lts) ∧ fIx (.str (Str.ofString "abcdefghijklmnopqrstuvwxyz0123456789")) (.int v) s = some (.ok (sgn c) s) := by
  obtain ⟨i, rfl⟩ := Int.eq_ofNat_of_zero_le h0
  have hi : i < (lts ++ fgs).length := by
    have : (lts ++ fgs).length = 36 := by decide
    omega
  refine ⟨(lts ++ fgs)[i], ?_, fun z => ?_, fIx_str (by rw [e_sg, List.getElem?_eq_getElem hi]) (by decide +kernel) s⟩
  · exact List.mem_append.mp (List.getElem_mem hi)
  · have hl : i < lts.length := by
      have : lts.length = 26 := by decide
      omega
    rw [List.getElem_append_left hl]
    exact List.getElem_mem hl
theorem str_app (z : Str) (c : Nat) : (z ++ (⟨#[c]⟩ : Str)).cps.toList = z.cps.toList ++ [c] := by
  show (z.cps ++ #[c]).toList = _
  simp
section
variable {sc : List Int} {o : Option O} {r : Store} {Q : D → Store → Prop}
def Jn (sc : List Int) (r : Store) (c0 n i : Nat) (s : S) : Prop := ∃ (z : Str) (o' : Option O) (o4 : Option D), z.length = i + 1 ∧ (∀ c ∈ z.cps.toList, c ∈ lts ∨ c ∈ fgs) ∧ z.cps.toList[0]? = some c0 ∧ IsRow sc o' ∧ s = ⟨[some (.loc 1), some (.str (Str.ofString "abcdefghijklmnopqrstuvwxyz0123456789")), some (.int (n : Nat)), some (.str z), o4], TO tq :: o' :: r⟩
def Js (sc : List Int) (r : Store) (n : Nat) (ds acc : List D) (ς : Store) : Prop := ∃ (i : Nat) (cs : List Nat) (o' : Option O), ds = (List.range' i (n - i)).map (fun (k : Nat) => D.int (k : Int)) ∧ i ≤ n ∧ acc = cs.map (fun (k : Nat) => D.int (k : Int)) ∧ cs.Nodup ∧ (∀ c ∈ cs, c < i) ∧ cs.length ≤ i ∧ ς = TO tq :: o' :: r ∧ IsRow sc o'
theorem lname_w (h : IsRow sc o) (q : ∀ (z : Str) o', NmOk z → IsRow sc o' → Q (.str z) (TO tq :: o' :: r)) : WF (m__law_name [.loc 1] (TO tq :: o :: r)) Q EF0 := by
  rw [m__law_name, WF_def]
  simp [startD]
  refine pick_w h (by simp) (by simp) fun d hd o1 r1 => ?_
  have : ∃ n : Nat, d = .int (n : Nat) ∧ 1 ≤ n ∧ n ≤ 12 := by
    simp at hd
    rcases hd with rfl | rfl | rfl | rfl | rfl
    · exact ⟨1, rfl, by omega, by omega⟩
    · exact ⟨2, rfl, by omega, by omega⟩
    · exact ⟨3, rfl, by omega, by omega⟩
    · exact ⟨5, rfl, by omega, by omega⟩
    · exact ⟨12, rfl, by omega, by omega⟩
  obtain ⟨n, rfl, n0, n1⟩ := this
  simp
  refine taken_w r1 (by omega) (by omega) fun v o2 v0 v1 r2 => ?_
  obtain ⟨c0, k1, k2, k3⟩ := sg_get (n := 26) v0 (by omega) (by omega) ⟨[some (.loc 1), some (.str (Str.ofString "abcdefghijklmnopqrstuvwxyz0123456789")), some (.int (n : Nat)), none, none], TO tq :: o2 :: r⟩
  have k2 := k2 (by omega)
  refine W_of k3 ?_
  simp
  rw [rng1F_i (by omega) (by omega), show ((n : Int) - 1).toNat = n - 1 by omega]
  simp only [W_ok]
  refine W_forN (Jn sc r c0 n) ⟨⟨#[c0]⟩, o2, none, rfl, fun c hc => by
    have : c = c0 := by simpa using hc
    rw [this]
    exact .inl k2, rfl, r2, rfl⟩ ?_ ?_
  · rintro i hi s ⟨z, o', o4, zl, za, zh, hr, rfl⟩
    rw [W_tg_set]
    simp
    refine taken_w (many := 36) hr (by omega) (by omega) fun w o3 w0 w1 r3 => ?_
    obtain ⟨c, m1, m2, m3⟩ := sg_get (n := 36) w0 (by omega) (by omega) ⟨[some (.loc 1), some (.str (Str.ofString "abcdefghijklmnopqrstuvwxyz0123456789")), some (.int (n : Nat)), some (.str z), some (.int (i : Nat))], TO tq :: o3 :: r⟩
    refine W_of m3 ?_
    have ad : ∀ s : S, fAdd false (.str z) (sgn c) s = some (.ok (.str (z ++ ⟨#[c]⟩)) s) := fun s => by
      show guard' (small (z.length + 1)) _ s = _
      rw [small_of (by omega)]
      rfl
    simp [ad]
    have zp : 0 < z.cps.toList.length := by
      have : z.length = z.cps.size := rfl
      simp
      omega
    refine ⟨z ++ ⟨#[c]⟩, o3, _, ?_, fun x hx => ?_, ?_, r3, rfl⟩
    · show (z.cps ++ #[c]).size = _
      have : z.length = z.cps.size := rfl
      simp
      omega
    · rw [str_app] at hx
      rcases List.mem_append.mp hx with y | y
      · exact za x y
      · rw [List.mem_singleton.mp y]
        exact m1
    · rw [str_app, List.getElem?_append_left zp]
      exact zh
  · rintro s ⟨z, o', o4, zl, za, zh, hr, rfl⟩
    simp [row_cut]
    exact q z o' ⟨by omega, by omega, za, c0, zh, k2⟩ hr
theorem subset_w {n : Nat} (hn : n ≤ 1000) (h : IsRow sc o) (q : ∀ (cs : List Nat) o', cs.Nodup → (∀ c ∈ cs, c < n) → cs.length ≤ n → IsRow sc o' → Q (.lst (cs.map fun (k : Nat) => .int (k : Int))) (TO tq :: o' :: r)) : WF (m__law_subset [.loc 1, .int (n : Nat)] (TO tq :: o :: r)) Q EF0 := by
  rw [m__law_subset, WF_def]
  simp [startD, rng1F_n (show n ≤ 1000000000 by omega)]
  rw [rngL_0, List.range_eq_range']
  refine W_lc (Js sc r n) ⟨0, [], o, rfl, by omega, rfl, List.nodup_nil, by simp, by simp, rfl, h⟩ (fun d ds acc ς h0 => ?_) fun acc ς h0 => ?_
  · obtain ⟨i, cs, o', hd, hi, rfl, hcn, hc, hl, rfl, hr⟩ := h0
    have hlt : i < n := by
      refine Nat.lt_of_not_le fun z => ?_
      rw [show n - i = 0 by omega] at hd
      cases hd
    rw [show n - i = (n - (i + 1)) + 1 by omega, List.range'_succ, List.map_cons] at hd
    cases hd
    simp
    refine taken_w hr (by omega) (by omega) fun v o1 v0 v1 r1 => ?_
    simp
    refine ⟨fun _ => ?_, fun _ => ?_⟩
    · refine ⟨i + 1, cs ++ [i], o1, rfl, by omega, by simp, ?_, fun c hc' => ?_, by simp; omega, rfl, r1⟩
      · refine List.nodup_append.mpr ⟨hcn, by simp, fun a ha b hb => ?_⟩
        have := hc a ha
        rw [List.mem_singleton.mp hb]
        omega
      · rcases List.mem_append.mp hc' with z | z
        · have := hc c z; omega
        · rw [List.mem_singleton.mp z]; omega
    · exact ⟨i + 1, cs, o1, rfl, by omega, rfl, hcn, fun c hc' => by have := hc c hc'; omega, by omega, rfl, r1⟩
  · obtain ⟨i, cs, o', hd, hi, rfl, hcn, hc, hl, rfl, hr⟩ := h0
    have : i = n := by
      have := congrArg List.length hd
      simp at this
      omega
    subst this
    refine ⟨small_of (by rw [List.length_map]; omega), ?_⟩
    have fl := nats_flat cs
    have q1 := q cs o' hcn hc hl hr
    generalize (cs.map fun (k : Nat) => D.int (k : Int)) = us at fl q1 ⊢
    simp [fl, row_cut]
    exact q1
end
/-! what is paid, by the law -/
theorem lif_ev {O : List Of} (hO : OfOk O) {cs : List Nat} (hn : cs.Nodup) (hc : ∀ c ∈ cs, c < O.length) (ς : Store) : m__law_if [.lst (O.map tupI), .lst (cs.map fun (k : Nat) => .int (k : Int))] ς = some (.ok (.int (payF O cs)) ς) := by
  apply WF_eqn
  rw [m__law_if, WF_def]
  have n1 := hO.n1
  have fi : ∀ (x : Nat) (s : S), fIn true (.int (x : Int)) (.lst (cs.map fun (k : Nat) => D.int (k : Int))) s = some (.ok (.bl (!decide (x ∈ cs))) s) := fun x s => by
    have := fIn_ints true (cs.map fun (k : Nat) => (k : Int)) x s
    rw [List.map_map] at this
    have e : decide ((x : Int) ∈ cs.map fun (k : Nat) => (k : Int)) = decide (x ∈ cs) := by
      rw [Bool.eq_iff_iff, decide_eq_true_iff, decide_eq_true_iff, List.mem_map]
      constructor
      · rintro ⟨y, hy, e⟩
        rwa [← Int.ofNat.inj e]
      · intro h
        exact ⟨x, h, rfl⟩
    rw [e] at this
    exact this
  have ib : ∀ (c : Bool) (s : S), fInt [.bl c] s = some (.ok (.int (if c then 1 else 0)) s) := fun c s => by cases c <;> rfl
  simp [startD, rng1F_n (show O.length ≤ 1000000000 by omega)]
  rw [rngL_0]
  refine W_lcf (fun k => .int (if k ∈ cs then (O.getD k (0, 0)).1 else (O.getD k (0, 0)).2)) (fun _ => true) (small_of (by simp; omega)) (fun k hk => ?_) ?_
  · have hk := List.mem_range.mp hk
    have e1 : atI (O.map tupI) (k : Int) = some (tupI (O.getD k (0, 0))) := by
      rw [atI_map hk]
      simp [hk]
    generalize O.getD k (0, 0) = p at e1
    simp [e1, fi, ib]
    by_cases m : k ∈ cs
    · simp [m]
    · simp [m]
  · rw [List.filter_eq_self.mpr (by simp), show ((List.range O.length).map fun k => D.int (if k ∈ cs then (O.getD k (0, 0)).1 else (O.getD k (0, 0)).2)) = (ifL O cs).map .int from by unfold ifL; rw [List.map_map]; rfl]
    have es := ifL_sum hn hc
    generalize ifL O cs = xs at es
    simp [es]
theorem subs_clen (n : Nat) : ∀ c ∈ subs n, c.length ≤ n := by
  induction n with
  | zero => intro c hc; rw [subs, List.mem_singleton] at hc; subst hc; simp
  | succ n ih =>
    intro c hc
    rw [subs] at hc
    rcases List.mem_append.mp hc with z | z
    · have := ih c z; omega
    · obtain ⟨d, hd, rfl⟩ := List.mem_map.mp z
      have := ih d hd
      simp
      omega
theorem subsets_ev {n : Nat} (hn : n ≤ 8) (ς : Store) : m__law_subsets [.int (n : Nat)] ς = some (.ok (.lst ((subs n).map fun c => .lst (c.map fun (k : Nat) => .int (k : Int)))) ς) := by
  apply WF_eqn
  rw [m__law_subsets, WF_def]
  simp [startD, rng1F_n (show n ≤ 1000000000 by omega)]
  refine W_forN (fun i s => ∃ o2 o3 : Option D, s = ⟨[some (.int (n : Nat)), some (.lst ((subs i).map fun c => .lst (c.map fun (k : Nat) => .int (k : Int)))), o2, o3], ς⟩) ⟨none, none, rfl⟩ ?_ ?_
  · rintro i hi s ⟨o2, o3, rfl⟩
    have sl := subs_len i
    have p2 : 2 ^ i ≤ 2 ^ 8 := Nat.pow_le_pow_right (by omega) (by omega)
    rw [W_tg_set]
    simp
    refine W_lcf (fun c => .lst ((c ++ [i]).map fun (k : Nat) => .int (k : Int))) (fun _ => true) (small_of (by omega)) (fun c hc => ?_) ?_
    · have cl : c.length ≤ 8 := by
        have h := subs_ok i c hc
        have := subs_clen i c hc
        omega
      simp
      refine W_guard (small_of (by omega)) ?_
      simp
    · rw [List.filter_eq_self.mpr (by simp)]
      simp
      refine W_guard (small_of (by omega)) ?_
      simp
      rw [subs]
      simp
  · rintro s ⟨o2, o3, rfl⟩
    simp
/-! the law's order of the gains -/
def kxU : Bool → KX
  | true => .tup (.ix (.var 10) .prm) .prm
  | false => .tup (.sub (.int 0) (.ix (.var 10) .prm)) .prm
theorem keyPs_ev (up : Bool) (vs : Nat → Option PyData) (rs : List Int) (hv : vs 10 = some (.list (rs.map .int))) (hl : rs.length ≤ 1000) : ∀ is : List Nat, (∀ i ∈ is, i < rs.length) → keyPs vs (kxU up) (is.map fun (i : Nat) => D.int (i : Int)) = some (is.map fun i => pS (keyG up rs i))
  | [], _ => rfl
  | i :: is, h => by
    have ih := keyPs_ev up vs rs hv hl is fun j hj => h j (List.mem_cons_of_mem _ hj)
    have hi := h i (List.mem_cons_self ..)
    have sm : small (rs.map PyData.int).length = true := small_of (by rw [List.length_map]; omega)
    have e : KX.den vs (.int (i : Int)) (kxU up) = some (pS (keyG up rs i)) := by
      have g : atI (rs.map PyData.int) (i : Int) = some (.int (rs.getD i 0)) := by
        rw [atI_map hi]
        simp [hi]
      unfold keyG
      generalize rs.getD i 0 = x at g
      cases up
      · simp only [kxU, KX.den, hv, sm, if_true, g, pS]
        rfl
      · simp only [kxU, KX.den, hv, sm, if_true, g, pS]
    rw [List.map_cons, keyPs]
    simp only [py0, e, ih]
    rfl
theorem pyL_ints : ∀ xs : List Int, pyL (xs.map D.int) = some (xs.map PyData.int)
  | [] => rfl
  | x :: xs => by
    rw [List.map_cons, pyL, pyL_ints xs]
    rfl
theorem pyS_ints (xs : List Int) (ς : Store) : pyS ς (.lst (xs.map .int)) = some (.list (xs.map .int)) := by
  have : py0 (.lst (xs.map .int)) = some (.list (xs.map .int)) := by
    simp only [py0, pyL_ints]
    rfl
  exact py0_S this
theorem sortK_ev (up : Bool) {rs : List Int} (hl : rs.length ≤ 1000) (s : S) (hs : s.s[0]? = some (TO tq)) (hv : s.e[10]? = some (some (.lst (rs.map .int)))) :
    fSortK false 0 tq TabA.P (kxU up) [.lst ((List.range rs.length).map fun (i : Nat) => D.int (i : Int))] s = some (.ok (.lst ((ord up rs).map fun (a : Nat) => .int (a : Int))) s) := by
  have kp := keyPs_ev up (slotP s) rs (by unfold slotP; simp [hv, pyS_ints]) hl (List.range rs.length) fun i hi => List.mem_range.mp hi
  have so : sortD ((List.range rs.length).map fun (i : Nat) => D.int (i : Int)) ((List.range rs.length).map fun i => pS (keyG up rs i)) = (ord up rs).map fun (a : Nat) => .int (a : Int) := by
    unfold sortD
    rw [List.zip_map', show ((List.range rs.length).map fun (i : Nat) => (D.int (i : Int), pS (keyG up rs i))).mergeSort leD = (ord up rs).map (fun (i : Nat) => (D.int (i : Int), pS (keyG up rs i))) from (List.map_mergeSort (f := fun (i : Nat) => (D.int (i : Int), pS (keyG up rs i))) fun i _ j _ => (le_pS _ _ (keyG up rs i) (keyG up rs j)).symm).symm, List.map_map]
    rfl
  have g : ((alikeB ((List.range rs.length).map fun i => pS (keyG up rs i)) && sortB ((List.range rs.length).map fun i => pS (keyG up rs i))) && (((List.range rs.length).map fun i => pS (keyG up rs i)).all (fun p => decide (p.depth ≤ 60)) && (((List.range rs.length).map fun i => pS (keyG up rs i)).all PuX.plainP && small ((List.range rs.length).map fun (i : Nat) => D.int (i : Int)).length))) = true := by
    simp only [Bool.and_eq_true]
    refine ⟨⟨?_, ?_⟩, ?_, ?_, small_of (by simp; omega)⟩
    · unfold alikeB
      rw [List.all_eq_true]
      intro d hd
      rw [List.all_eq_true]
      intro e he
      obtain ⟨p, _, rfl⟩ := List.mem_map.mp hd
      obtain ⟨q, _, rfl⟩ := List.mem_map.mp he
      rfl
    · unfold sortB
      rw [Bool.or_eq_true]
      refine .inl ?_
      rw [List.all_eq_true]
      intro d hd
      obtain ⟨p, _, rfl⟩ := List.mem_map.mp hd
      rfl
    · rw [List.all_eq_true]
      intro d hd
      obtain ⟨p, _, rfl⟩ := List.mem_map.mp hd
      rfl
    · rw [List.all_eq_true]
      intro d hd
      obtain ⟨p, _, rfl⟩ := List.mem_map.mp hd
      rfl
  unfold fSortK
  unfold TO at hs
  simp only [seqD_lst, hs, and_self, if_true, kp]
  rw [g, so]
  rfl
/-! what is refused -/
theorem truth_ix {ix : D} (hx : nbD 64 ix = true) (s : S) : fEq true ix ix s = some (.ok (.bl false) s) := by
  rw [fEq_nb true hx hx]
  simp
theorem lwhole_ev (ix : D) (hx : smp ix = true) (ς : Store) : m__law_whole [ix] ς = some (.ok (.bl (whl ix)) ς) := by
  apply WF_eqn
  rw [m__law_whole, WF_def]
  cases ix <;> first | (simp [smp] at hx; done) | simp [startD, whl]
theorem lrefused_ev {g d ix : D} (wo : ∀ ς, m_want_offers [g, d] ς = some (.exc "BadItem" [("index", ix)] ς)) (fx : flatN [(("index" : Str), ix)] = true) (hx : nbD 64 ix = true) (hs : smp ix = true) (fd : d.flat = true) {ς : Store} (hf : sflat ς = true) : m__law_refused [g, d, ix] ς = some (.ok (.bl true) ς) := by
  obtain ⟨h3, h4, h5⟩ : (∀ ς, m_poorest_comers [g, d] ς = some (.exc "BadItem" [("index", ix)] ς)) ∧ (∀ ς, m_richest_comers [g, d] ς = some (.exc "BadItem" [("index", ix)] ς)) ∧ (∀ ς, m_least_for [g, d, .int 0] ς = some (.exc "BadItem" [("index", ix)] ς)) := ⟨fun ς => (all5 (ς := ς) wo fx).1, fun ς => (all5 (ς := ς) wo fx).2.1, fun ς => (all5 (ς := ς) wo fx).2.2⟩
  have h1 : ∀ ς, m_sure_pay [g, d] ς = some (.exc "BadItem" [("index", ix)] ς) := fun ς => by
    apply WF_exn
    rw [m_sure_pay, WF_def]
    simp [startD, h3, fx]
  have h2 : ∀ ς, m_greatest_group_pay [g, d] ς = some (.exc "BadItem" [("index", ix)] ς) := fun ς => by
    apply WF_exn
    rw [m_greatest_group_pay, WF_def]
    simp [startD, h4, fx]
  apply WF_eqn
  rw [m__law_refused, WF_def]
  simp [startD, rng1F_i]
  refine W_forR (fun i s => ∃ x3 x4 : Option D, s = ⟨[some g, some d, some ix, x3, x4], ς⟩) ⟨none, none, rfl⟩ ?_ ?_
  · rintro i hi s ⟨x3, x4, rfl⟩
    rw [W_tg_set]
    simp
    refine W_tryL ?_
    have n3 : ∀ (a : Addr) (b : Option Addr) (s' : S), s'.e[4]? = some (some (.exn a b [("index", ix)])) → fldM a b true (name 4) "index" s' = some (.ok ix s') := fun a b s' e => fld_x e
    have fin : ∀ (E : EX) (Q : Fl → S → Prop) (y : D), Q .nx ⟨[some g, some d, some ix, some y, none], ς⟩ → W (clauseL "BadItem" [("index", ix)] ⟨[some g, some d, some ix, some y, x4], ς⟩ [⟨tst_BadItem, 4, fun a d C => (ifS (orT (tst (op2 (fEq true) (fldM a d (decide (C = "BadItem")) (name 4) "index") (name 2))) (tst (op2 (fEq true) (bnd (acons (fldM a d (decide (C = "BadItem")) (name 4) "index") anil) (callF m__law_whole)) (bnd (acons (name 2) anil) (callF m__law_whole)))))
    (retS (ret (.bl false)))
    nxt)⟩]) Q E := fun E Q y k => by
      refine W_clG (rr := .nx) rfl (fun a b => ?_) ?_
      · simp [n3, truth_ix hx, lwhole_ev ix hs]
      · simpa using k
    simp
    refine W_ite (fun k => ?_) fun k => ?_
    · simp [h1]
      exact fin _ _ _ ⟨_, _, rfl⟩
    · simp
      refine W_ite (fun k => ?_) fun k => ?_
      · simp [h2]
        exact fin _ _ _ ⟨_, _, rfl⟩
      · simp
        refine W_ite (fun k => ?_) fun k => ?_
        · simp [h3]
          exact fin _ _ _ ⟨_, _, rfl⟩
        · simp
          refine W_ite (fun k => ?_) fun k => ?_
          · simp [h4]
            exact fin _ _ _ ⟨_, _, rfl⟩
          · simp [h5]
            exact fin _ _ _ ⟨_, _, rfl⟩
  · rintro s ⟨x3, x4, rfl⟩
    simp
end
end Lw

/-! from k23f.lean -/
set_option Elab.async false
set_option linter.all false
set_option maxRecDepth 100000
set_option maxHeartbeats 4000000
/-! k23f: the law in pieces. -/
namespace Lw
open PySem L2 DL
noncomputable section
variable [TabA]
def lw1 : M Fl := (asg (bnd (acons (name 0) (acons (ret (.int 0)) (acons (ret (.int 127)) (acons (ret (.int 0)) anil)))) (lstE true)) (gset 1))
def lw2 : M Fl := (asg (op2 (fEq false) (bnd (acons (name 1) (acons (ret (.int 4)) anil)) (callF m__law_taken)) (ret (.int 0))) (gset 2))
def lw3 : M Fl := (asg (bnd (acons (name 1) (acons (op2 fIx (bnd (acons (ret (.int 7)) (acons (ret (.int 31)) anil)) (lstE false)) (bnd (acons (name 2) anil) fInt)) anil)) (callF m__law_taken)) (gset 3))
def lw4 : M Fl := (asg (bnd (acons (name 1) (acons (name 3) (acons (ret (.int 30)) (acons (ret (.int 4)) anil)))) (callF m__law_spans)) (gset 4))
def lw5 : M Fl := (asg (bnd (acons (name 1) (acons (op2 (fAdd false) (name 3) (ret (.int 1))) anil)) (callF m__law_taken)) (gset 5))
def lw6 : M Fl := (asg (bnd (acons (name 1) (acons (op2 (fAdd false) (name 5) (ret (.int 1))) anil)) (callF m__law_taken)) (gset 6))
def lw7 : M Fl := (asg (bnd (acons (bnd (acons (name 1) anil) (callF m__law_name)) (acons (name 4) (acons (name 6) (acons (name 5) anil)))) fun ds => makeF false "Group" m_Group__init (ds ++ [(.int 0), (.int 0)])) (gset 7))
def lw8 : M Fl := (asg (bnd (acons (bnd (acons (name 1) (acons (bnd (acons (ret (.int 2)) (acons (ret (.int 9)) (acons (ret (.int 99999)) anil))) (lstE false)) anil)) (callF m__law_pick)) (acons (bnd anil (lstE true)) anil)) tupD) (gtup 2 (gcons (gset 20) (gcons (gset 21) gnil))))
def lf1 : M Fl := (asg (bnd (acons (name 1) (acons (op2 (fAdd false) (name 20) (ret (.int 1))) anil)) (callF m__law_taken)) (gset 22))
def lf2 : M Fl := (exprS (mthL fAppend (name 21) (acons (bnd (acons (name 22) (acons (bnd (acons (name 1) (acons (op2 (fAdd false) (name 22) (ret (.int 1))) anil)) (callF m__law_taken)) anil)) tupD) anil)))
def lfb : M Fl := (sq lf1 lf2)
def lw9 : M Fl := (forS (rng1 (acons (name 3) anil)) (gset 8) lfb)
def lw10 : M Fl := (asg (bnd (acons (name 1) (acons (nameF 21) anil)) (callF m__law_handed)) (gset 9))
def lw11 : M Fl := (asg (lcM false [22, 26] (seqI (nameF 21)) (gtup 2 (gcons (gset 22) (gcons (gset 26) gnil))) (ret true) (op2 fSub (name 22) (name 26))) (gset 10))
def lw12 : M Fl := (asg (bnd (acons (slA false (bnd (acons (listRg1 false (acons (name 3) anil)) anil) (fSortK false 0 "law.<locals>.<lambda>" TabA.P (.tup (.ix (.var 10) .prm) .prm))) (ret none) (oInt (name 6))) anil) (fSortI false)) (gset 11))
def lw13 : M Fl := (asg (bnd (acons (slA false (bnd (acons (listRg1 false (acons (name 3) anil)) anil) (fSortK false 0 "law.<locals>.<lambda>" TabA.P (.tup (.sub (.int 0) (.ix (.var 10) .prm)) .prm))) (ret none) (oInt (name 5))) anil) (fSortI false)) (gset 12))
def lw14 : M Fl := (parS 23 24 (acons (bnd (acons (nameF 21) (acons (name 11) anil)) (callF m__law_if)) (acons (bnd (acons (nameF 21) (acons (name 12) anil)) (callF m__law_if)) anil)))
def lw15 : M Fl := (ifS (notT (tst (name 2)))
    (sq (asg (lcM false [13] (seqI (bnd (acons (name 3) anil) (callF m__law_subsets))) (gset 13) (tst (chn fLe fLe (name 6) (bnd (acons (name 13) anil) fLen) (name 5))) (bnd (acons (nameF 21) (acons (name 13) anil)) (callF m__law_if))) (gset 25))
    (ifS (tst (op2 (fEq true) (bnd (acons (bnd (acons (name 25) anil) fMin1) (acons (bnd (acons (name 25) anil) fMax1) anil)) tupD) (bnd (acons (name 23) (acons (name 24) anil)) tupD)))
    (retS (ret (.bl false)))
    nxt))
    nxt)
def lw16 : M Fl := (ifS (notT (tst (bnd (acons (bnd (acons (bnd (acons (name 7) (acons (name 9) anil)) (callF m_sure_pay)) (acons (bnd (acons (name 7) (acons (name 9) anil)) (callF m_greatest_group_pay)) (acons (bnd (acons (name 7) (acons (name 9) anil)) (callF m_pay_spread)) anil))) tupD) (acons (bnd (acons (name 23) (acons (name 24) (acons (op2 fSub (name 24) (name 23)) anil))) tupD) anil)) (callF (m__law_alike 8)))))
    (retS (ret (.bl false)))
    nxt)
def lw17 : M Fl := (ifS (notT (tst (bnd (acons (bnd (acons (bnd (acons (name 7) (acons (name 9) anil)) (callF m_poorest_comers)) (acons (bnd (acons (name 7) (acons (name 9) anil)) (callF m_richest_comers)) anil)) tupD) (acons (bnd (acons (bnd (acons (name 11) anil) fTuple) (acons (bnd (acons (name 12) anil) fTuple) anil)) tupD) anil)) (callF (m__law_alike 8)))))
    (retS (ret (.bl false)))
    nxt)
def lw18 : M Fl := (ifS (notT (tst (bnd (acons (bnd (acons (bnd (acons (name 9) anil) (callF m_gains_of)) (acons (bnd (acons (name 9) anil) (callF m_fees_of)) anil)) tupD) (acons (bnd (acons (bnd (acons (name 10) anil) fTuple) (acons (bnd (acons (lcM false [22, 26] (seqI (nameF 21)) (gtup 2 (gcons (gset 22) (gcons (gset 26) gnil))) (ret true) (name 26)) anil) fSumA) anil)) tupD) anil)) (callF (m__law_alike 8)))))
    (retS (ret (.bl false)))
    nxt)
def lw19 : M Fl := (asg (bnd (acons (name 1) (acons (name 3) anil)) (callF m__law_subset)) (gset 13))
def lw20 : M Fl := (ifS (notT (tst (bnd (acons (bnd (acons (name 9) (acons (bnd (acons (name 1) (acons (name 13) anil)) (callF m__law_mixed)) anil)) (callF m_pay_if)) (acons (bnd (acons (nameF 21) (acons (name 13) anil)) (callF m__law_if)) anil)) (callF (m__law_alike 8)))))
    (retS (ret (.bl false)))
    nxt)
def lw21 : M Fl := (asg (bnd (acons (name 1) (acons (bnd (acons (name 23) (acons (op2 (fAdd false) (name 23) (ret (.int 1))) (acons (name 24) (acons (op2 (fAdd false) (name 24) (ret (.int 1))) (acons (ret (.int 0)) (acons (bnd (acons (name 1) (acons (op2 (fAdd false) (op2 (fMul false) (ret (.int 2)) (name 20)) (ret (.int 1))) anil)) (callF m__law_taken)) anil)))))) (lstE false)) anil)) (callF m__law_pick)) (gset 14))
def lw22 : M Fl := (asg (lcM false [27] (rng1 (acons (op2 (fAdd false) (name 5) (ret (.int 1))) anil)) (gset 27) (ret true) (bnd (acons (nameF 21) (acons (slA false (bnd (acons (listRg1 false (acons (name 3) anil)) anil) (fSortK false 0 "law.<locals>.<lambda>" TabA.P (.tup (.ix (.var 10) .prm) .prm))) (ret none) (oInt (name 27))) anil)) (callF m__law_if))) (gset 15))
def lw23 : M Fl := (asg (lcM false [27] (rng1 (acons (op2 (fAdd false) (name 5) (ret (.int 1))) anil)) (gset 27) (tst (op2 fGe (op2 fIx (name 15) (name 27)) (name 14))) (name 27)) (gset 16))
def lw24 : M Fl := (ifS (notT (tst (bnd (acons (bnd (acons (name 7) (acons (name 9) (acons (name 14) anil))) (callF m_least_for)) (acons (op2 fIx (op2 (fAdd false) (name 16) (bnd (acons (ret .non) anil) (lstE false))) (ret (.int 0))) anil)) (callF (m__law_alike 8)))))
    (retS (ret (.bl false)))
    nxt)
def lw25 : M Fl := (asg (bnd (acons (ret (.str "g")) (acons (name 4) (acons (ret (.int 0)) (acons (name 3) anil)))) fun ds => makeF false "Group" m_Group__init (ds ++ [(.int 0), (.int 0)])) (gset 17))
def lw26 : M Fl := (ifS (notT (tst (bnd (acons (bnd (acons (bnd (acons (name 7) (acons (name 17) anil)) tupD) (acons (bnd (acons (name 9) (acons (nameF 21) anil)) (lstE false)) anil)) (callF m_all_sure)) (acons (op2 (fAdd false) (name 23) (bnd (acons (lcM false [22, 26] (seqI (nameF 21)) (gtup 2 (gcons (gset 22) (gcons (gset 26) gnil))) (ret true) (name 26)) anil) fSumA)) anil)) (callF (m__law_alike 8)))))
    (retS (ret (.bl false)))
    nxt)
def lw27 : M Fl := (parS 22 26 (acons (bnd (acons (name 1) (acons (ret (.int 9)) anil)) (callF m__law_taken)) (acons (bnd (acons (name 1) (acons (ret (.int 9)) anil)) (callF m__law_taken)) anil)))
def lw28 : M Fl := (ifS (notT (tst (bnd (acons (bnd (acons (name 22) (acons (name 26) anil)) (callF m_sure_request)) (acons (bnd (acons (name 22) (acons (name 26) anil)) fMin2) anil)) (callF (m__law_alike 8)))))
    (retS (ret (.bl false)))
    nxt)
def lw29 : M Fl := (ifS (orT (notT (tst (bnd (acons (name 7) (acons (op2 (fAdd false) (name 21) (bnd (acons (bnd (acons (ret (.int 1)) (acons (ret (.int 1)) anil)) tupD) anil) (lstE false))) (acons (ret .non) anil))) (callF m__law_refused)))) (notT (tst (bnd (acons (name 7) (acons (ret .non) (acons (ret .non) anil))) (callF m__law_refused)))))
    (retS (ret (.bl false)))
    nxt)
def lw30 : M Fl := (ifS (tst (op2 (fEq false) (name 3) (ret (.int 0))))
    (retS (ret (.bl true)))
    nxt)
def lw31 : M Fl := (asg (bnd (acons (name 1) (acons (name 3) anil)) (callF m__law_taken)) (gset 18))
def lw32 : M Fl := (asg (bnd (acons (name 1) (acons (bnd (acons (bnd (acons (ret (.int 3)) (acons (ret (.int 4)) anil)) tupD) (acons (bnd (acons (ret (.int 100000)) (acons (ret (.int 0)) anil)) tupD) (acons (bnd (acons (ret (.int 5)) (acons (un1 fNeg (ret (.int 1))) anil)) tupD) (acons (bnd (acons (ret (.int 5)) (acons (ret (.bl true)) anil)) tupD) (acons (bnd (acons (ret (.int 5)) anil) tupD) (acons (ret .non) (acons (ret (.str "55")) anil))))))) (lstE false)) anil)) (callF m__law_pick)) (gset 19))
def lw33 : M Fl := (retS (bnd (acons (name 7) (acons (op2 (fAdd false) (op2 (fAdd false) (slA false (name 21) (ret none) (oInt (name 18))) (bnd (acons (name 19) anil) (lstE false))) (slA false (name 21) (oInt (op2 (fAdd false) (name 18) (ret (.int 1)))) (ret none))) (acons (name 18) anil))) (callF m__law_refused)))
theorem law_is : m_law = mdef 28 (sq lw1 (sq lw2 (sq lw3 (sq lw4 (sq lw5 (sq lw6 (sq lw7 (sq lw8 (sq lw9 (sq lw10 (sq lw11 (sq lw12 (sq lw13 (sq lw14 (sq lw15 (sq lw16 (sq lw17 (sq lw18 (sq lw19 (sq lw20 (sq lw21 (sq lw22 (sq lw23 (sq lw24 (sq lw25 (sq lw26 (sq lw27 (sq lw28 (sq lw29 (sq lw30 (sq lw31 (sq lw32 lw33)))))))))))))))))))))))))))))))) := rfl
end
end Lw

/-! from k23g.lean -/
set_option Elab.async false
set_option linter.all false
set_option maxRecDepth 100000
set_option maxHeartbeats 4000000
namespace Lw
open PySem L2 DL
noncomputable section
variable [TabA]
theorem nameF_lst {i : Nat} {e : List (Option D)} {s0 : Store} {ds : List D} (h : e[i]? = some (some (.lst ds))) : nameF i ⟨e, s0⟩ = some (.ok (.lst ds) ⟨e, s0⟩) := by
  unfold nameF
  rw [h]
/-- stays, and how many may come -/
structure Gp (L : List Sp) (n l m : Nat) : Prop where
  sp : SpB 30 L
  ln : L.length = n
  n1 : n ≤ 30
  lm : l ≤ m
  mn : m ≤ n
structure Hs (O : List Of) (n : Nat) : Prop where
  ok : OfOk O
  ln : O.length = n
section
variable {sc : List Int} {o : Option O} {r : Store} {Q : Fl → S → Prop} {x0 x1 x2 x3 x4 x5 x6 x7 x8 x9 x10 x11 x12 x13 x14 x15 x16 x17 x18 x19 x20 x21 x22 x23 x24 x25 x26 x27 : Option D}
variable {n l m : Nat} {L : List Sp} {O : List Of} {nm : Str} {b : Bool} {qs : List (Bool × Sp)} {s0 : Store} {g : Bool}
theorem a1 {ns : List Int} (q : ∀ o', IsRow ns o' → Q .nx ⟨[some (.rdl (ns.map .int)), some (.loc 1), x2, x3, x4, x5, x6, x7, x8, x9, x10, x11, x12, x13, x14, x15, x16, x17, x18, x19, x20, x21, x22, x23, x24, x25, x26, x27], [TO tq, o']⟩) :
    W (lw1 ⟨[some (.rdl (ns.map .int)), none, x2, x3, x4, x5, x6, x7, x8, x9, x10, x11, x12, x13, x14, x15, x16, x17, x18, x19, x20, x21, x22, x23, x24, x25, x26, x27], [TO tq]⟩) Q EX0 := by
  unfold lw1
  simp
  exact q _ (IsRow.start ns 127)
theorem a2 (h : IsRow sc o) (q : ∀ (g : Bool) o', IsRow sc o' → Q .nx ⟨[x0, some (.loc 1), some (.bl g), x3, x4, x5, x6, x7, x8, x9, x10, x11, x12, x13, x14, x15, x16, x17, x18, x19, x20, x21, x22, x23, x24, x25, x26, x27], TO tq :: o' :: r⟩) :
    W (lw2 ⟨[x0, some (.loc 1), x2, x3, x4, x5, x6, x7, x8, x9, x10, x11, x12, x13, x14, x15, x16, x17, x18, x19, x20, x21, x22, x23, x24, x25, x26, x27], TO tq :: o :: r⟩) Q EX0 := by
  unfold lw2
  simp
  refine taken_w h (by omega) (by omega) fun v o1 v0 v1 r1 => ?_
  simp
  exact q _ o1 r1
theorem a3 (h : IsRow sc o) (q : ∀ (n : Nat) o', n ≤ 30 → (g = false → n ≤ 6) → IsRow sc o' → Q .nx ⟨[x0, some (.loc 1), some (.bl g), some (.int (n : Nat)), x4, x5, x6, x7, x8, x9, x10, x11, x12, x13, x14, x15, x16, x17, x18, x19, x20, x21, x22, x23, x24, x25, x26, x27], TO tq :: o' :: r⟩) :
    W (lw3 ⟨[x0, some (.loc 1), some (.bl g), x3, x4, x5, x6, x7, x8, x9, x10, x11, x12, x13, x14, x15, x16, x17, x18, x19, x20, x21, x22, x23, x24, x25, x26, x27], TO tq :: o :: r⟩) Q EX0 := by
  unfold lw3
  have ib : ∀ (c : Bool) (s : S), fInt [.bl c] s = some (.ok (.int (if c then 1 else 0)) s) := fun c s => by cases c <;> rfl
  simp [ib]
  cases g with
  | false =>
    have e : atI [D.int 7, D.int 31] 0 = some (.int 7) := rfl
    simp [e]
    refine taken_w (many := 7) h (by omega) (by omega) fun v o1 v0 v1 r1 => ?_
    obtain ⟨k, rfl⟩ := Int.eq_ofNat_of_zero_le v0
    simp
    exact q k o1 (by omega) (fun _ => by omega) r1
  | true =>
    have e : atI [D.int 7, D.int 31] 1 = some (.int 31) := rfl
    simp [e]
    refine taken_w (many := 31) h (by omega) (by omega) fun v o1 v0 v1 r1 => ?_
    obtain ⟨k, rfl⟩ := Int.eq_ofNat_of_zero_le v0
    simp
    exact q k o1 (by omega) (fun z => by cases z) r1
theorem a4 (h : IsRow sc o) (hf : sflat r = true) (hn : n ≤ 30) (q : ∀ (L : List Sp) o', SpB 30 L → L.length = n → IsRow sc o' → Q .nx ⟨[x0, some (.loc 1), x2, some (.int (n : Nat)), some (.lst (L.map tupI)), x5, x6, x7, x8, x9, x10, x11, x12, x13, x14, x15, x16, x17, x18, x19, x20, x21, x22, x23, x24, x25, x26, x27], TO tq :: o' :: r⟩) :
    W (lw4 ⟨[x0, some (.loc 1), x2, some (.int (n : Nat)), x4, x5, x6, x7, x8, x9, x10, x11, x12, x13, x14, x15, x16, x17, x18, x19, x20, x21, x22, x23, x24, x25, x26, x27], TO tq :: o :: r⟩) Q EX0 := by
  unfold lw4
  simp
  refine spans_w (many := n) h hf (by omega) (by omega) (by omega) (by omega) (by omega) fun ps o5 hp hl r5 => ?_
  simp
  exact q ps o5 hp hl r5
theorem a5 (h : IsRow sc o) (hn : n ≤ 30) (q : ∀ (m : Nat) o', m ≤ n → IsRow sc o' → Q .nx ⟨[x0, some (.loc 1), x2, some (.int (n : Nat)), x4, some (.int (m : Nat)), x6, x7, x8, x9, x10, x11, x12, x13, x14, x15, x16, x17, x18, x19, x20, x21, x22, x23, x24, x25, x26, x27], TO tq :: o' :: r⟩) :
    W (lw5 ⟨[x0, some (.loc 1), x2, some (.int (n : Nat)), x4, x5, x6, x7, x8, x9, x10, x11, x12, x13, x14, x15, x16, x17, x18, x19, x20, x21, x22, x23, x24, x25, x26, x27], TO tq :: o :: r⟩) Q EX0 := by
  unfold lw5
  simp
  refine taken_w (many := (n : Int) + 1) h (by omega) (by omega) fun v o1 v0 v1 r1 => ?_
  obtain ⟨k, rfl⟩ := Int.eq_ofNat_of_zero_le v0
  simp
  exact q k o1 (by omega) r1
theorem a6 (h : IsRow sc o) (hn : m ≤ 30) (q : ∀ (l : Nat) o', l ≤ m → IsRow sc o' → Q .nx ⟨[x0, some (.loc 1), x2, x3, x4, some (.int (m : Nat)), some (.int (l : Nat)), x7, x8, x9, x10, x11, x12, x13, x14, x15, x16, x17, x18, x19, x20, x21, x22, x23, x24, x25, x26, x27], TO tq :: o' :: r⟩) :
    W (lw6 ⟨[x0, some (.loc 1), x2, x3, x4, some (.int (m : Nat)), x6, x7, x8, x9, x10, x11, x12, x13, x14, x15, x16, x17, x18, x19, x20, x21, x22, x23, x24, x25, x26, x27], TO tq :: o :: r⟩) Q EX0 := by
  unfold lw6
  simp
  refine taken_w (many := (m : Int) + 1) h (by omega) (by omega) fun v o1 v0 v1 r1 => ?_
  obtain ⟨k, rfl⟩ := Int.eq_ofNat_of_zero_le v0
  simp
  exact q k o1 (by omega) r1
theorem a7 (hp : Gp L n l m) (h : IsRow sc o) (hf : sflat r = true) (q : ∀ (nm : Str) o', NmOk nm → IsRow sc o' → Q .nx ⟨[x0, some (.loc 1), x2, x3, some (.lst (L.map tupI)), some (.int (m : Nat)), some (.int (l : Nat)), some (grD nm L l m), x8, x9, x10, x11, x12, x13, x14, x15, x16, x17, x18, x19, x20, x21, x22, x23, x24, x25, x26, x27], TO tq :: o' :: r⟩) :
    W (lw7 ⟨[x0, some (.loc 1), x2, x3, some (.lst (L.map tupI)), some (.int (m : Nat)), some (.int (l : Nat)), x7, x8, x9, x10, x11, x12, x13, x14, x15, x16, x17, x18, x19, x20, x21, x22, x23, x24, x25, x26, x27], TO tq :: o :: r⟩) Q EX0 := by
  unfold lw7
  have ln := hp.ln
  have n1 := hp.n1
  have mn := hp.mn
  simp
  refine lname_w h fun z o1 hz r1 => ?_
  simp
  refine gmake hz hp.sp (by omega) hp.lm (by omega) (tq_flat (row_flat r1 hf)) ?_
  simp
  exact q z o1 hz r1
theorem a8 (h : IsRow sc o) (q : ∀ (top : Int) o', 0 ≤ top → top ≤ 99999 → IsRow sc o' → Q .nx ⟨[x0, some (.loc 1), x2, x3, x4, x5, x6, x7, x8, x9, x10, x11, x12, x13, x14, x15, x16, x17, x18, x19, some (.int top), some (.loc (r.length + 2)), x22, x23, x24, x25, x26, x27], TO tq :: o' :: (r ++ [some (.lst [])])⟩) :
    W (lw8 ⟨[x0, some (.loc 1), x2, x3, x4, x5, x6, x7, x8, x9, x10, x11, x12, x13, x14, x15, x16, x17, x18, x19, x20, x21, x22, x23, x24, x25, x26, x27], TO tq :: o :: r⟩) Q EX0 := by
  unfold lw8
  simp
  refine pick_w h (by simp) (by simp) fun d hd o1 r1 => ?_
  have : ∃ c : Int, d = .int c ∧ 0 ≤ c ∧ c ≤ 99999 := by
    simp at hd
    rcases hd with rfl | rfl | rfl <;> exact ⟨_, rfl, by omega, by omega⟩
  obtain ⟨c, rfl, c0, c1⟩ := this
  simp
  exact q c o1 c0 c1 r1
def J9 (sc : List Int) (r : Store) (top : Int) (n : Nat) (x0 x2 x4 x5 x6 x7 x9 x10 x11 x12 x13 x14 x15 x16 x17 x18 x19 x23 x24 x25 x26 x27 : Option D) (i : Nat) (s : S) : Prop := ∃ (O : List Of) (o' : Option DL.O) (x8 x22 : Option D), (∀ p ∈ O, 0 ≤ p.2 ∧ p.2 ≤ p.1 ∧ p.1 ≤ top) ∧ O.length = i ∧ IsRow sc o' ∧ s = ⟨[x0, some (.loc 1), x2, some (.int (n : Nat)), x4, x5, x6, x7, x8, x9, x10, x11, x12, x13, x14, x15, x16, x17, x18, x19, some (.int top), some (.loc (r.length + 2)), x22, x23, x24, x25, x26, x27], TO tq :: o' :: (r ++ [some (.lst (O.map tupI))])⟩
theorem a9 {top : Int} (h : IsRow sc o) (hn : n ≤ 30) (t0 : 0 ≤ top) (t1 : top ≤ 99999) (q : ∀ (O : List Of) (x8 x22 : Option D) o', Hs O n → IsRow sc o' → Q .nx ⟨[x0, some (.loc 1), x2, some (.int (n : Nat)), x4, x5, x6, x7, x8, x9, x10, x11, x12, x13, x14, x15, x16, x17, x18, x19, some (.int top), some (.loc (r.length + 2)), x22, x23, x24, x25, x26, x27], TO tq :: o' :: (r ++ [some (.lst (O.map tupI))])⟩) :
    W (lw9 ⟨[x0, some (.loc 1), x2, some (.int (n : Nat)), x4, x5, x6, x7, x8, x9, x10, x11, x12, x13, x14, x15, x16, x17, x18, x19, some (.int top), some (.loc (r.length + 2)), x22, x23, x24, x25, x26, x27], TO tq :: o :: (r ++ [some (.lst [])])⟩) Q EX0 := by
  unfold lw9
  simp [rng1F_n (show n ≤ 1000000000 by omega)]
  refine W_forN (J9 sc r top n x0 x2 x4 x5 x6 x7 x9 x10 x11 x12 x13 x14 x15 x16 x17 x18 x19 x23 x24 x25 x26 x27) ⟨[], o, x8, x22, by simp, rfl, h, rfl⟩ ?_ ?_
  · rintro i hi s ⟨O, o', x8, x22, ho, hl, hr, rfl⟩
    rw [W_tg_set]
    unfold lfb lf1 lf2
    simp
    refine taken_w (many := top + 1) (r := r ++ [some (.lst (O.map tupI))]) hr (by omega) (by omega) fun v o1 v0 v1 r1 => ?_
    simp
    refine W_guard (by unfold isL; simp) ?_
    simp
    refine taken_w (many := v + 1) (r := r ++ [some (.lst (O.map tupI))]) r1 (by omega) (by omega) fun w o2 w0 w1 r2 => ?_
    simp
    refine W_append (l := r.length + 2) (acc := O.map tupI) (by simp) (small_of (by simp; omega)) ?_
    refine ⟨O ++ [(v, w)], o2, some (.int (i : Nat)), some (.int v), fun p hp => ?_, by simp [hl], r2, ?_⟩
    · rcases List.mem_append.mp hp with z | z
      · exact ho p z
      · rw [List.mem_singleton.mp z]
        simp only
        omega
    · simp [tupI]
  · rintro s ⟨O, o', x8, x22, ho, hl, hr, rfl⟩
    exact q O x8 x22 o' ⟨⟨fun p hp => by have := ho p hp; omega, by omega⟩, hl⟩ hr
theorem a10 (hs : Hs O n) (hn : n ≤ 30) (h : IsRow sc o) (q : ∀ (b : Bool) (qs : List (Bool × Sp)) o', qs.map (·.2) = O → IsRow sc o' → Q .nx ⟨[x0, some (.loc 1), x2, x3, x4, x5, x6, x7, x8, some (shp b (qs.map spD)), x10, x11, x12, x13, x14, x15, x16, x17, x18, x19, x20, some (.lst (O.map tupI)), x22, x23, x24, x25, x26, x27], TO tq :: o' :: (r ++ [none])⟩) :
    W (lw10 ⟨[x0, some (.loc 1), x2, x3, x4, x5, x6, x7, x8, x9, x10, x11, x12, x13, x14, x15, x16, x17, x18, x19, x20, some (.loc (r.length + 2)), x22, x23, x24, x25, x26, x27], TO tq :: o :: (r ++ [some (.lst (O.map tupI))])⟩) Q EX0 := by
  unfold lw10
  have ln := hs.ln
  simp
  refine W_nameL (l := r.length + 2) (o := .lst (O.map tupI)) (by simp) (by simp) ?_
  have e : (TO tq :: o :: (r ++ [some (DL.O.lst (O.map tupI))])).set (r.length + 2) none = TO tq :: o :: (r ++ [none]) := by simp
  simp only [e, frz_lst]
  simp
  refine handed_w (r := r ++ [none]) (by omega) h fun b qs o1 hq r1 => ?_
  simp
  exact q b qs o1 hq r1
theorem a11 (hs : Hs O n) (hn : n ≤ 30) (q : Q .nx ⟨[x0, x1, x2, x3, x4, x5, x6, x7, x8, x9, some (.lst ((gs O).map .int)), x11, x12, x13, x14, x15, x16, x17, x18, x19, x20, some (.lst (O.map tupI)), x22, x23, x24, x25, x26, x27], s0⟩) :
    W (lw11 ⟨[x0, x1, x2, x3, x4, x5, x6, x7, x8, x9, x10, x11, x12, x13, x14, x15, x16, x17, x18, x19, x20, some (.lst (O.map tupI)), x22, x23, x24, x25, x26, x27], s0⟩) Q EX0 := by
  unfold lw11
  have ln := hs.ln
  simp
  refine W_lcG (fun p => .int (p.1 - p.2)) (fun _ => true) (small_of (by omega)) (fun p hp => ?_) ?_
  · rw [show tupI p = D.tup [.int p.1, .int p.2] from rfl, W_tg2]
    simp
  · rw [List.filter_eq_self.mpr (by simp), show (O.map fun p => D.int (p.1 - p.2)) = (gs O).map .int from by unfold gs; rw [List.map_map]; rfl]
    simp
    exact q
theorem a12 (hs : Hs O n) (hn : n ≤ 30) (q : Q .nx ⟨[x0, x1, x2, some (.int (n : Nat)), x4, x5, some (.int (l : Nat)), x7, x8, x9, some (.lst ((gs O).map .int)), some (.lst ((poor O l).map fun (k : Nat) => .int (k : Int))), x12, x13, x14, x15, x16, x17, x18, x19, x20, x21, x22, x23, x24, x25, x26, x27], TO tq :: r⟩) :
    W (lw12 ⟨[x0, x1, x2, some (.int (n : Nat)), x4, x5, some (.int (l : Nat)), x7, x8, x9, some (.lst ((gs O).map .int)), x11, x12, x13, x14, x15, x16, x17, x18, x19, x20, x21, x22, x23, x24, x25, x26, x27], TO tq :: r⟩) Q EX0 := by
  unfold lw12
  have ln := hs.ln
  have gl := gs_len O
  have sk := fun s h1 h2 => sortK_ev true (rs := gs O) (by omega) s h1 h2
  rw [gl, ln] at sk
  simp [W_slA]
  refine W_guard (m := mk false (rngL 0 ((n : Int) - 0).toNat)) ?_ ?_
  · unfold rgN
    rw [rngB_of (by omega) (by omega), rngB_of (by omega) (by omega)]
    exact small_of (by omega)
  simp
  rw [rngL_0]
  refine W_of (sk _ rfl rfl) ?_
  simp [W_slA, W_oInt, cut_take]
  rw [← List.map_take, sort_nats]
  simp only [W_ok, W_tg_set]
  exact q
theorem a13 (hs : Hs O n) (hn : n ≤ 30) (q : Q .nx ⟨[x0, x1, x2, some (.int (n : Nat)), x4, some (.int (m : Nat)), x6, x7, x8, x9, some (.lst ((gs O).map .int)), x11, some (.lst ((rich O m).map fun (k : Nat) => .int (k : Int))), x13, x14, x15, x16, x17, x18, x19, x20, x21, x22, x23, x24, x25, x26, x27], TO tq :: r⟩) :
    W (lw13 ⟨[x0, x1, x2, some (.int (n : Nat)), x4, some (.int (m : Nat)), x6, x7, x8, x9, some (.lst ((gs O).map .int)), x11, x12, x13, x14, x15, x16, x17, x18, x19, x20, x21, x22, x23, x24, x25, x26, x27], TO tq :: r⟩) Q EX0 := by
  unfold lw13
  have ln := hs.ln
  have gl := gs_len O
  have sk := fun s h1 h2 => sortK_ev false (rs := gs O) (by omega) s h1 h2
  rw [gl, ln] at sk
  simp [W_slA]
  refine W_guard (m := mk false (rngL 0 ((n : Int) - 0).toNat)) ?_ ?_
  · unfold rgN
    rw [rngB_of (by omega) (by omega), rngB_of (by omega) (by omega)]
    exact small_of (by omega)
  simp
  rw [rngL_0]
  refine W_of (sk _ rfl rfl) ?_
  simp [W_slA, W_oInt, cut_take]
  rw [← List.map_take, sort_nats]
  simp only [W_ok, W_tg_set]
  exact q
theorem poor_nodup (O : List Of) (l : Nat) : (poor O l).Nodup := (srt_perm _).nodup_iff.mpr ((ord_nodup _ _).sublist (List.take_sublist _ _))
theorem rich_nodup (O : List Of) (l : Nat) : (rich O l).Nodup := (srt_perm _).nodup_iff.mpr ((ord_nodup _ _).sublist (List.take_sublist _ _))
theorem poor_asc (O : List Of) (l : Nat) : (poor O l).Pairwise (· < ·) := srt_asc ((ord_nodup _ _).sublist (List.take_sublist _ _))
theorem rich_asc (O : List Of) (l : Nat) : (rich O l).Pairwise (· < ·) := srt_asc ((ord_nodup _ _).sublist (List.take_sublist _ _))
theorem a14 (hs : Hs O n) (q : Q .nx ⟨[x0, x1, x2, x3, x4, x5, x6, x7, x8, x9, x10, some (.lst ((poor O l).map fun (k : Nat) => .int (k : Int))), some (.lst ((rich O m).map fun (k : Nat) => .int (k : Int))), x13, x14, x15, x16, x17, x18, x19, x20, some (.lst (O.map tupI)), x22, some (.int (low O l)), some (.int (high O m)), x25, x26, x27], s0⟩) :
    W (lw14 ⟨[x0, x1, x2, x3, x4, x5, x6, x7, x8, x9, x10, some (.lst ((poor O l).map fun (k : Nat) => .int (k : Int))), some (.lst ((rich O m).map fun (k : Nat) => .int (k : Int))), x13, x14, x15, x16, x17, x18, x19, x20, some (.lst (O.map tupI)), x22, x23, x24, x25, x26, x27], s0⟩) Q EX0 := by
  unfold lw14
  have l1 := fun ς => lif_ev hs.ok (poor_nodup O l) poor_lt ς
  have l2 := fun ς => lif_ev hs.ok (rich_nodup O m) rich_lt ς
  rw [poor_pay] at l1
  rw [rich_pay] at l2
  have nf := fun e s0 h => nameF_lst (i := 21) (ds := O.map tupI) (e := e) (s0 := s0) h
  generalize ((poor O l).map fun (k : Nat) => D.int (k : Int)) = us at l1 q ⊢
  generalize ((rich O m).map fun (k : Nat) => D.int (k : Int)) = vs at l2 q ⊢
  simp [l1, l2, nf]
  exact q
end
end
end Lw

/-! from k23h.lean -/
set_option Elab.async false
set_option linter.all false
set_option maxRecDepth 100000
set_option maxHeartbeats 4000000
namespace Lw
open PySem L2 DL
noncomputable section
variable [TabA]
section
variable {sc : List Int} {o : Option O} {r : Store} {Q : Fl → S → Prop} {x0 x1 x2 x3 x4 x5 x6 x7 x8 x9 x10 x11 x12 x13 x14 x15 x16 x17 x18 x19 x20 x21 x22 x23 x24 x25 x26 x27 : Option D}
variable {n l m : Nat} {L : List Sp} {O : List Of} {nm : Str} {b : Bool} {qs : List (Bool × Sp)} {s0 : Store} {g : Bool}
theorem wo_of (hp : Gp L n l m) (hs : Hs O n) (hq : qs.map (·.2) = O) (b : Bool) : Wo nm L l m O b qs := by
  have ln := hp.ln
  have n1 := hp.n1
  have on := hs.ln
  have ql : qs.length = O.length := by rw [← hq, List.length_map]
  refine ⟨hs.ok, hq, fun ς => wo_ok (v := fun q : Bool × Sp => offB q.2) (fun q _ ς => offer_ev q ς) (fun q h => ?_) (by omega) (by omega) b ς, hp.lm, by have := hp.mn; omega⟩
  have := hs.ok.bd q.2 (by rw [← hq]; exact List.mem_map.mpr ⟨q, h, rfl⟩)
  unfold offB
  rw [Bool.and_eq_true, decide_eq_true_iff, decide_eq_true_iff]
  omega
def inR (l m : Nat) (c : List Nat) : Bool := decide (l ≤ c.length ∧ c.length ≤ m)
def pys (O : List Of) (n l m : Nat) : List Int := ((subs n).filter (inR l m)).map (payF O)
theorem pys_low (hs : Hs O n) (hl : l ≤ m) (hm : m ≤ n) : low O l ∈ pys O n l m := by
  have on := hs.ln
  refine List.mem_map.mpr ⟨poor O l, List.mem_filter.mpr ⟨subs_all n _ (poor_asc O l) fun x hx => by have := poor_lt x hx; omega, ?_⟩, poor_pay O l⟩
  unfold inR
  rw [poor_len (by omega)]
  exact decide_eq_true ⟨Nat.le_refl _, hl⟩
theorem pys_high (hs : Hs O n) (hl : l ≤ m) (hm : m ≤ n) : high O m ∈ pys O n l m := by
  have on := hs.ln
  refine List.mem_map.mpr ⟨rich O m, List.mem_filter.mpr ⟨subs_all n _ (rich_asc O m) fun x hx => by have := rich_lt x hx; omega, ?_⟩, rich_pay O m⟩
  unfold inR
  rw [rich_len (by omega)]
  exact decide_eq_true ⟨hl, Nat.le_refl _⟩
theorem pys_bd (hs : Hs O n) : ∀ x ∈ pys O n l m, low O l ≤ x ∧ x ≤ high O m := by
  intro x hx
  have on := hs.ln
  obtain ⟨c, hc, rfl⟩ := List.mem_map.mp hx
  obtain ⟨h1, h2⟩ := List.mem_filter.mp hc
  have h2 := of_decide_eq_true h2
  have h3 := subs_ok n c h1
  exact ⟨low_of hs.ok (asc_nodup h3.1) (fun y hy => by have := h3.2 y hy; omega) h2.1, high_of hs.ok (asc_nodup h3.1) (fun y hy => by have := h3.2 y hy; omega) h2.2⟩
theorem a15 (hs : Hs O n) (hl : l ≤ m) (hm : m ≤ n) (hn : g = false → n ≤ 6) (q : ∀ x25, Q .nx ⟨[x0, x1, some (.bl g), some (.int (n : Nat)), x4, some (.int (m : Nat)), some (.int (l : Nat)), x7, x8, x9, x10, x11, x12, x13, x14, x15, x16, x17, x18, x19, x20, some (.lst (O.map tupI)), x22, some (.int (low O l)), some (.int (high O m)), x25, x26, x27], s0⟩) :
    W (lw15 ⟨[x0, x1, some (.bl g), some (.int (n : Nat)), x4, some (.int (m : Nat)), some (.int (l : Nat)), x7, x8, x9, x10, x11, x12, x13, x14, x15, x16, x17, x18, x19, x20, some (.lst (O.map tupI)), x22, some (.int (low O l)), some (.int (high O m)), x25, x26, x27], s0⟩) Q EX0 := by
  unfold lw15
  have on := hs.ln
  have nf := fun e s0 h => nameF_lst (i := 21) (ds := O.map tupI) (e := e) (s0 := s0) h
  cases g with
  | true =>
    simp
    exact q _
  | false =>
    have n6 := hn rfl
    have sl := subs_len n
    have p2 : 2 ^ n ≤ 2 ^ 6 := Nat.pow_le_pow_right (by omega) (by omega)
    have se := fun ς => subsets_ev (n := n) (by omega) ς
    simp [se]
    refine W_lcf (f := fun c : List Nat => D.lst (c.map fun (k : Nat) => .int (k : Int))) (fun c => .int (payF O c)) (inR l m) (small_of (by omega)) (fun c hc => ?_) ?_
    · have h3 := subs_ok n c hc
      have li := fun ς => lif_ev hs.ok (asc_nodup h3.1) (fun y hy => by have := h3.2 y hy; omega) ς
      have cl : (c.map fun (k : Nat) => D.int (k : Int)).length = c.length := List.length_map ..
      generalize (c.map fun (k : Nat) => D.int (k : Int)) = us at li cl
      unfold inR
      simp [cl]
      refine W_iteD (fun z => ?_) fun z => ?_
      · have z : l ≤ c.length := by omega
        simp [z]
        intro w
        simp [nf, li]
      · have z : ¬ l ≤ c.length := by omega
        simp [z]
    · have e : (((subs n).filter (inR l m)).map fun c => D.int (payF O c)) = (pys O n l m).map .int := by unfold pys; rw [List.map_map]; rfl
      rw [e]
      have h1 := pys_low hs hl hm
      have h2 := pys_high hs hl hm
      have h3 := pys_bd (l := l) (m := m) hs
      generalize pys O n l m = P at h1 h2 h3
      cases P with
      | nil => cases h1
      | cons y ys =>
        have mn := minL_le y ys
        have mx := maxL_ge y ys
        have e1 : minL y ys = low O l := by
          have a : low O l ≤ minL y ys := by
            rcases mn.2.2 with z | z
            · rw [z]; exact (h3 y (List.mem_cons_self ..)).1
            · exact (h3 _ (List.mem_cons_of_mem _ z)).1
          have b : minL y ys ≤ low O l := by
            rcases List.mem_cons.mp h1 with z | z
            · rw [z]; exact mn.1
            · exact mn.2.1 _ z
          omega
        have e2 : maxL y ys = high O m := by
          have a : maxL y ys ≤ high O m := by
            rcases mx.2.2 with z | z
            · rw [z]; exact (h3 y (List.mem_cons_self ..)).2
            · exact (h3 _ (List.mem_cons_of_mem _ z)).2
          have b : high O m ≤ maxL y ys := by
            rcases List.mem_cons.mp h2 with z | z
            · rw [z]; exact mx.1
            · exact mx.2.1 _ z
          omega
        simp
        refine W_min1 (n := y) (ns := ys) rfl ?_
        simp
        refine W_max1 (n := y) (ns := ys) rfl ?_
        rw [e1, e2]
        have nb : nbD 64 (.tup [.int (low O l), .int (high O m)]) = true := nb_tup fun d hd => by
          simp at hd
          rcases hd with rfl | rfl <;> simp
        have fe := fun s => fEq_nb true nb nb s
        simp [fe]
        exact q _
theorem a16 (hw : Wo nm L l m O b qs) (q : Q .nx ⟨[x0, x1, x2, x3, x4, x5, x6, some (grD nm L l m), x8, some (shp b (qs.map spD)), x10, x11, x12, x13, x14, x15, x16, x17, x18, x19, x20, x21, x22, some (.int (low O l)), some (.int (high O m)), x25, x26, x27], s0⟩) :
    W (lw16 ⟨[x0, x1, x2, x3, x4, x5, x6, some (grD nm L l m), x8, some (shp b (qs.map spD)), x10, x11, x12, x13, x14, x15, x16, x17, x18, x19, x20, x21, x22, some (.int (low O l)), some (.int (high O m)), x25, x26, x27], s0⟩) Q EX0 := by
  unfold lw16
  have al := fun ς => alike_refl 7 (.tup [.int (low O l), .int (high O m), .int (high O m - low O l)]) ς (by simp [plD])
  have s1 := sure_ev hw
  have s2 := great_ev hw
  have s3 := spread_ev hw
  simp [s1, s2, s3, al]
  exact q
theorem pl_nats (xs : List Nat) (h : xs.length ≤ 1000) (k : Nat) : plD (k + 1) (.tup (xs.map fun (k : Nat) => .int (k : Int))) = true := by
  simp only [plD, Bool.and_eq_true]
  refine ⟨small_of (by rw [List.length_map]; omega), ?_⟩
  rw [List.all_eq_true]
  intro d hd
  obtain ⟨e, _, rfl⟩ := List.mem_map.mp hd
  cases k <;> rfl
theorem pl_ints (xs : List Int) (h : xs.length ≤ 1000) (k : Nat) : plD (k + 1) (.tup (xs.map .int)) = true := by
  simp only [plD, Bool.and_eq_true]
  refine ⟨small_of (by rw [List.length_map]; omega), ?_⟩
  rw [List.all_eq_true]
  intro d hd
  obtain ⟨e, _, rfl⟩ := List.mem_map.mp hd
  cases k <;> rfl
theorem pl_two {d e : D} {k : Nat} (h1 : plD k d = true) (h2 : plD k e = true) : plD (k + 1) (.tup [d, e]) = true := by
  simp only [plD, Bool.and_eq_true]
  refine ⟨small_of (by simp), ?_⟩
  simp [h1, h2]
theorem a17 (hw : Wo nm L l m O b qs) (q : Q .nx ⟨[x0, x1, x2, x3, x4, x5, x6, some (grD nm L l m), x8, some (shp b (qs.map spD)), x10, some (.lst ((poor O l).map fun (k : Nat) => .int (k : Int))), some (.lst ((rich O m).map fun (k : Nat) => .int (k : Int))), x13, x14, x15, x16, x17, x18, x19, x20, x21, x22, x23, x24, x25, x26, x27], s0⟩) :
    W (lw17 ⟨[x0, x1, x2, x3, x4, x5, x6, some (grD nm L l m), x8, some (shp b (qs.map spD)), x10, some (.lst ((poor O l).map fun (k : Nat) => .int (k : Int))), some (.lst ((rich O m).map fun (k : Nat) => .int (k : Int))), x13, x14, x15, x16, x17, x18, x19, x20, x21, x22, x23, x24, x25, x26, x27], s0⟩) Q EX0 := by
  unfold lw17
  have lm := hw.lm
  have mn := hw.mn
  have n1 := hw.ok.n1
  have al := fun ς => alike_refl 7 (.tup [.tup ((poor O l).map fun (k : Nat) => .int (k : Int)), .tup ((rich O m).map fun (k : Nat) => .int (k : Int))]) ς (pl_two (pl_nats _ (by rw [poor_len (by omega)]; omega) 5) (pl_nats _ (by rw [rich_len (by omega)]; omega) 5))
  have s1 := poor_ev hw
  have s2 := rich_ev hw
  generalize ((poor O l).map fun (k : Nat) => D.int (k : Int)) = us at s1 al q ⊢
  generalize ((rich O m).map fun (k : Nat) => D.int (k : Int)) = vs at s2 al q ⊢
  simp [s1, s2, al]
  exact q
theorem a18 (hs : Hs O n) (hn : n ≤ 30) (hq : qs.map (·.2) = O) (q : Q .nx ⟨[x0, x1, x2, x3, x4, x5, x6, x7, x8, some (shp b (qs.map spD)), some (.lst ((gs O).map .int)), x11, x12, x13, x14, x15, x16, x17, x18, x19, x20, some (.lst (O.map tupI)), x22, x23, x24, x25, x26, x27], s0⟩) :
    W (lw18 ⟨[x0, x1, x2, x3, x4, x5, x6, x7, x8, some (shp b (qs.map spD)), some (.lst ((gs O).map .int)), x11, x12, x13, x14, x15, x16, x17, x18, x19, x20, some (.lst (O.map tupI)), x22, x23, x24, x25, x26, x27], s0⟩) Q EX0 := by
  unfold lw18
  have on := hs.ln
  have gl := gs_len O
  have nf := fun e s0 h => nameF_lst (i := 21) (ds := O.map tupI) (e := e) (s0 := s0) h
  have al := fun ς => alike_refl 7 (.tup [.tup ((gs O).map .int), .int (fees O)]) ς (pl_two (pl_ints _ (by omega) 5) rfl)
  have s1 := fun ς => gains_ev hs.ok hq b ς
  have s2 := fun ς => fees_ev hs.ok hq b ς
  generalize ((gs O).map D.int) = us at s1 al q ⊢
  simp [s1, s2, nf]
  refine W_lcG (fun p => .int p.2) (fun _ => true) (small_of (by omega)) (fun p hp => ?_) ?_
  · rw [show tupI p = D.tup [.int p.1, .int p.2] from rfl, W_tg2]
    simp
  · rw [List.filter_eq_self.mpr (by simp), show (O.map fun p => D.int p.2) = (O.map (·.2)).map .int from by rw [List.map_map]; rfl]
    have ef : (O.map (·.2)).sum = fees O := rfl
    generalize (O.map (·.2)) = fs at ef
    simp [ef, al]
    exact q
theorem a19 (h : IsRow sc o) (hn : n ≤ 30) (q : ∀ (cs : List Nat) o', cs.Nodup → (∀ c ∈ cs, c < n) → cs.length ≤ n → IsRow sc o' → Q .nx ⟨[x0, some (.loc 1), x2, some (.int (n : Nat)), x4, x5, x6, x7, x8, x9, x10, x11, x12, some (.lst ((cs).map fun (k : Nat) => .int (k : Int))), x14, x15, x16, x17, x18, x19, x20, x21, x22, x23, x24, x25, x26, x27], TO tq :: o' :: r⟩) :
    W (lw19 ⟨[x0, some (.loc 1), x2, some (.int (n : Nat)), x4, x5, x6, x7, x8, x9, x10, x11, x12, x13, x14, x15, x16, x17, x18, x19, x20, x21, x22, x23, x24, x25, x26, x27], TO tq :: o :: r⟩) Q EX0 := by
  unfold lw19
  simp
  refine subset_w (by omega) h fun cs o1 h1 h2 h3 r1 => ?_
  simp only [W_tg_set]
  exact q cs o1 h1 h2 h3 r1
theorem a20 {cs : List Nat} (hs : Hs O n) (hn : n ≤ 30) (hq : qs.map (·.2) = O) (h : IsRow sc o) (h1 : cs.Nodup) (h2 : ∀ c ∈ cs, c < n) (h3 : cs.length ≤ n) (q : ∀ o', IsRow sc o' → Q .nx ⟨[x0, some (.loc 1), x2, x3, x4, x5, x6, x7, x8, some (shp b (qs.map spD)), x10, x11, x12, some (.lst ((cs).map fun (k : Nat) => .int (k : Int))), x14, x15, x16, x17, x18, x19, x20, some (.lst (O.map tupI)), x22, x23, x24, x25, x26, x27], TO tq :: o' :: r⟩) :
    W (lw20 ⟨[x0, some (.loc 1), x2, x3, x4, x5, x6, x7, x8, some (shp b (qs.map spD)), x10, x11, x12, some (.lst ((cs).map fun (k : Nat) => .int (k : Int))), x14, x15, x16, x17, x18, x19, x20, some (.lst (O.map tupI)), x22, x23, x24, x25, x26, x27], TO tq :: o :: r⟩) Q EX0 := by
  unfold lw20
  have on := hs.ln
  have nf := fun e s0 h => nameF_lst (i := 21) (ds := O.map tupI) (e := e) (s0 := s0) h
  have pe := fun c ς => payif_ev hs.ok hq b c (cs := cs) (fun k hk => by have := h2 k hk; omega) (by omega) ς
  have li := fun ς => lif_ev hs.ok h1 (fun k hk => by have := h2 k hk; omega) ς
  have al := fun ς => alike_refl 7 (.int (payF O cs)) ς rfl
  have fl := nats_flat cs
  generalize (cs.map fun (k : Nat) => D.int (k : Int)) = us at pe li q fl ⊢
  simp
  refine mixed_w (k := true) (ds := us) h fl fun c o1 r1 => ?_
  simp [pe, li, al, nf]
  exact q o1 r1
theorem a21 {top : Int} (h : IsRow sc o) (t0 : 0 ≤ top) (t1 : top ≤ 99999) (q : ∀ (w : Int) o', IsRow sc o' → Q .nx ⟨[x0, some (.loc 1), x2, x3, x4, x5, x6, x7, x8, x9, x10, x11, x12, x13, some (.int w), x15, x16, x17, x18, x19, some (.int top), x21, x22, some (.int (low O l)), some (.int (high O m)), x25, x26, x27], TO tq :: o' :: r⟩) :
    W (lw21 ⟨[x0, some (.loc 1), x2, x3, x4, x5, x6, x7, x8, x9, x10, x11, x12, x13, x14, x15, x16, x17, x18, x19, some (.int top), x21, x22, some (.int (low O l)), some (.int (high O m)), x25, x26, x27], TO tq :: o :: r⟩) Q EX0 := by
  unfold lw21
  have i2 : DL.i64 2 = true := i64_of (by omega) (by omega)
  have i3 : DL.i64 top = true := i64_of (by omega) (by omega)
  simp [i2, i3]
  refine taken_w (many := 2 * top + 1) h (by omega) (by omega) fun v o1 v0 v1 r1 => ?_
  simp
  refine pick_w r1 (by simp) (by simp) fun d hd o2 r2 => ?_
  have : ∃ w : Int, d = .int w := by
    simp at hd
    rcases hd with rfl | rfl | rfl | rfl | rfl | rfl <;> exact ⟨_, rfl⟩
  obtain ⟨w, rfl⟩ := this
  simp
  exact q w o2 r2
theorem a22 (hs : Hs O n) (hn : n ≤ 30) (hm : m ≤ n) (q : Q .nx ⟨[x0, x1, x2, some (.int (n : Nat)), x4, some (.int (m : Nat)), x6, x7, x8, x9, some (.lst ((gs O).map .int)), x11, x12, x13, x14, some (.lst ((List.range (m + 1)).map fun k => .int (low O k))), x16, x17, x18, x19, x20, some (.lst (O.map tupI)), x22, x23, x24, x25, x26, x27], TO tq :: r⟩) :
    W (lw22 ⟨[x0, x1, x2, some (.int (n : Nat)), x4, some (.int (m : Nat)), x6, x7, x8, x9, some (.lst ((gs O).map .int)), x11, x12, x13, x14, x15, x16, x17, x18, x19, x20, some (.lst (O.map tupI)), x22, x23, x24, x25, x26, x27], TO tq :: r⟩) Q EX0 := by
  unfold lw22
  have on := hs.ln
  have gl := gs_len O
  have sk := fun s h1 h2 => sortK_ev true (rs := gs O) (by omega) s h1 h2
  rw [gl, on] at sk
  have nf := fun e s0 h => nameF_lst (i := 21) (ds := O.map tupI) (e := e) (s0 := s0) h
  simp
  rw [show ((m : Int) + 1) = ((m + 1 : Nat) : Int) by omega, rng1F_n (by omega)]
  simp only [W_ok]
  rw [rngL_0]
  refine W_lcf (fun k => .int (low O k)) (fun _ => true) (small_of (by simp; omega)) (fun k hk => ?_) ?_
  · have li := fun ς => lif_ev hs.ok (cs := (ord true (gs O)).take k) ((ord_nodup _ _).sublist (List.take_sublist _ _)) take_lt ς
    have li' : ∀ ς, m__law_if [.lst (O.map tupI), .lst (((ord true (gs O)).take k).map fun (k : Nat) => .int (k : Int))] ς = some (.ok (.int (low O k)) ς) := li
    simp [nf, W_slA]
    refine W_guard (m := mk false (rngL 0 ((n : Int) - 0).toNat)) ?_ ?_
    · unfold rgN
      rw [rngB_of (by omega) (by omega), rngB_of (by omega) (by omega)]
      exact small_of (by omega)
    simp
    rw [rngL_0]
    refine W_of (sk _ rfl rfl) ?_
    simp [W_slA, W_oInt, cut_take]
    rw [← List.map_take, li']
    simp
  · rw [List.filter_eq_self.mpr (by simp)]
    simp only [W_ok, mk_f, W_tg_set]
    exact q
theorem a23 {w : Int} (hn : m ≤ 30) (q : Q .nx ⟨[x0, x1, x2, x3, x4, some (.int (m : Nat)), x6, x7, x8, x9, x10, x11, x12, x13, some (.int w), some (.lst ((List.range (m + 1)).map fun k => .int (low O k))), some (.lst ((enough O m w).map fun (k : Nat) => .int (k : Int))), x17, x18, x19, x20, x21, x22, x23, x24, x25, x26, x27], s0⟩) :
    W (lw23 ⟨[x0, x1, x2, x3, x4, some (.int (m : Nat)), x6, x7, x8, x9, x10, x11, x12, x13, some (.int w), some (.lst ((List.range (m + 1)).map fun k => .int (low O k))), x16, x17, x18, x19, x20, x21, x22, x23, x24, x25, x26, x27], s0⟩) Q EX0 := by
  unfold lw23
  simp
  rw [show ((m : Int) + 1) = ((m + 1 : Nat) : Int) by omega, rng1F_n (by omega)]
  simp only [W_ok]
  rw [rngL_0]
  refine W_lcf (fun (k : Nat) => .int (k : Int)) (fun k => decide (w ≤ low O k)) (small_of (by simp; omega)) (fun k hk => ?_) ?_
  · have e : atI ((List.range (m + 1)).map fun k => D.int (low O k)) (k : Int) = some (.int (low O k)) := by
      rw [atI_map (by simpa using hk)]
      simp
    generalize ((List.range (m + 1)).map fun k => D.int (low O k)) = us at e
    simp [e]
  · simp only [W_ok, mk_f, W_tg_set]
    exact q
theorem a24 {w : Int} (hw : Wo nm L l m O b qs) (hm : m ≤ 30) (q : Q .nx ⟨[x0, x1, x2, x3, x4, x5, x6, some (grD nm L l m), x8, some (shp b (qs.map spD)), x10, x11, x12, x13, some (.int w), x15, some (.lst ((enough O m w).map fun (k : Nat) => .int (k : Int))), x17, x18, x19, x20, x21, x22, x23, x24, x25, x26, x27], s0⟩) :
    W (lw24 ⟨[x0, x1, x2, x3, x4, x5, x6, some (grD nm L l m), x8, some (shp b (qs.map spD)), x10, x11, x12, x13, some (.int w), x15, some (.lst ((enough O m w).map fun (k : Nat) => .int (k : Int))), x17, x18, x19, x20, x21, x22, x23, x24, x25, x26, x27], s0⟩) Q EX0 := by
  unfold lw24
  have le := fun ς => least_ev hw w ς
  have al := fun ς => alike_refl 7 (enD (enough O m w)) ς (by cases enough O m w <;> rfl)
  have el : (enough O m w).length ≤ m + 1 := by
    unfold enough
    have := List.length_filter_le (fun n => decide (w ≤ low O n)) (List.range (m + 1))
    rwa [List.length_range] at this
  have e0 : atI (((enough O m w).map fun (k : Nat) => D.int (k : Int)) ++ [.non]) 0 = some (enD (enough O m w)) := by
    have := DL.atI_n (((enough O m w).map fun (k : Nat) => D.int (k : Int)) ++ [D.non]) 0
    rw [show ((0 : Nat) : Int) = 0 from rfl] at this
    rw [this]
    cases enough O m w <;> rfl
  have l0 : ((enough O m w).map fun (k : Nat) => D.int (k : Int)).length ≤ 1000 := by rw [List.length_map]; omega
  generalize enD (enough O m w) = ed at le al e0
  generalize ((enough O m w).map fun (k : Nat) => D.int (k : Int)) = us at e0 q l0 ⊢
  simp [le]
  refine W_guard (small_of (by omega)) ?_
  simp [e0, al]
  exact q
end
end
end Lw

/-! from k23i.lean -/
set_option Elab.async false
set_option linter.all false
set_option maxRecDepth 100000
set_option maxHeartbeats 4000000
namespace Lw
open PySem L2 DL
noncomputable section
variable [TabA]
section
variable {sc : List Int} {o : Option O} {r : Store} {Q : Fl → S → Prop} {x0 x1 x2 x3 x4 x5 x6 x7 x8 x9 x10 x11 x12 x13 x14 x15 x16 x17 x18 x19 x20 x21 x22 x23 x24 x25 x26 x27 : Option D}
variable {n l m : Nat} {L : List Sp} {O : List Of} {nm : Str} {b : Bool} {qs : List (Bool × Sp)} {s0 : Store} {g : Bool}
theorem nm_g : NmOk (Str.ofString "g") := ⟨by decide +kernel, by decide +kernel, by decide +kernel, 103, by decide +kernel, by decide +kernel⟩
theorem a25 (hp : Gp L n l m) (hf : sflat s0 = true) (q : Q .nx ⟨[x0, x1, x2, some (.int (n : Nat)), some (.lst (L.map tupI)), x5, x6, x7, x8, x9, x10, x11, x12, x13, x14, x15, x16, some (grD (Str.ofString "g") L 0 n), x18, x19, x20, x21, x22, x23, x24, x25, x26, x27], s0⟩) :
    W (lw25 ⟨[x0, x1, x2, some (.int (n : Nat)), some (.lst (L.map tupI)), x5, x6, x7, x8, x9, x10, x11, x12, x13, x14, x15, x16, x17, x18, x19, x20, x21, x22, x23, x24, x25, x26, x27], s0⟩) Q EX0 := by
  unfold lw25
  have ln := hp.ln
  have n1 := hp.n1
  simp
  refine gmake (l := 0) (m := n) nm_g hp.sp (by omega) (by omega) (by omega) hf ?_
  simp
  exact q
theorem a26 (hp : Gp L n l m) (hs : Hs O n) (hw : Wo nm L l m O b qs) (q : Q .nx ⟨[x0, x1, x2, x3, x4, x5, x6, some (grD nm L l m), x8, some (shp b (qs.map spD)), x10, x11, x12, x13, x14, x15, x16, some (grD (Str.ofString "g") L 0 n), x18, x19, x20, some (.lst (O.map tupI)), x22, some (.int (low O l)), x24, x25, x26, x27], s0⟩) :
    W (lw26 ⟨[x0, x1, x2, x3, x4, x5, x6, some (grD nm L l m), x8, some (shp b (qs.map spD)), x10, x11, x12, x13, x14, x15, x16, some (grD (Str.ofString "g") L 0 n), x18, x19, x20, some (.lst (O.map tupI)), x22, some (.int (low O l)), x24, x25, x26, x27], s0⟩) Q EX0 := by
  unfold lw26
  have on := hs.ln
  have n1 := hp.n1
  have nf := fun e s0 h => nameF_lst (i := 21) (ds := O.map tupI) (e := e) (s0 := s0) h
  have hp2 : Gp L n 0 n := ⟨hp.sp, hp.ln, hp.n1, by omega, by omega⟩
  have w2 : Wo (Str.ofString "g") L 0 n O true (O.map fun p => (false, p)) := wo_of hp2 hs (map_2 false O) true
  have s1 := sure_ev hw
  have s2 := sure_ev w2
  rw [map_sp] at s2
  have s2' : ∀ ς, m_sure_pay [grD (Str.ofString "g") L 0 n, .lst (O.map tupI)] ς = some (.ok (.int (low O 0)) ς) := s2
  have l0 : low O 0 = fees O := by unfold low payF; simp
  have al := fun ς => alike_refl 7 (.int (low O l + fees O)) ς rfl
  have zf : ∀ s : S, zipF [.tup [grD nm L l m, grD (Str.ofString "g") L 0 n], .lst [shp b (qs.map spD), .lst (O.map tupI)]] s = some (.ok [.tup [grD nm L l m, shp b (qs.map spD)], .tup [grD (Str.ofString "g") L 0 n, .lst (O.map tupI)]] s) := fun s => rfl
  have as : ∀ ς, m_all_sure [.tup [grD nm L l m, grD (Str.ofString "g") L 0 n], .lst [shp b (qs.map spD), .lst (O.map tupI)]] ς = some (.ok (.int (low O l + fees O)) ς) := fun ς => by
    apply WF_eqn
    rw [m_all_sure, WF_def]
    simp [startD, zf]
    have ex : ([.tup [grD nm L l m, shp b (qs.map spD)], .tup [grD (Str.ofString "g") L 0 n, .lst (O.map tupI)]] : List D) = [true, false].map fun c => if c then D.tup [grD nm L l m, shp b (qs.map spD)] else D.tup [grD (Str.ofString "g") L 0 n, .lst (O.map tupI)] := rfl
    rw [ex]
    refine W_lcG (fun c => .int (if c then low O l else fees O)) (fun _ => true) (small_of (by simp)) (fun c hc => ?_) ?_
    · cases c with
      | true =>
        simp only [if_true]
        rw [W_tg2]
        simp [s1]
      | false =>
        simp only [Bool.false_eq_true, if_false]
        rw [W_tg2]
        simp [s2', l0]
    · rw [List.filter_eq_self.mpr (by simp)]
      have : ([true, false].map fun c => D.int (if c = true then low O l else fees O)) = [low O l, fees O].map .int := rfl
      rw [this]
      simp [-List.map_cons]
  simp [as, nf]
  refine W_lcG (fun p => .int p.2) (fun _ => true) (small_of (by omega)) (fun p hp => ?_) ?_
  · rw [show tupI p = D.tup [.int p.1, .int p.2] from rfl, W_tg2]
    simp
  · rw [List.filter_eq_self.mpr (by simp), show (O.map fun p => D.int p.2) = (O.map (·.2)).map .int from by rw [List.map_map]; rfl]
    have ef : (O.map (·.2)).sum = fees O := rfl
    generalize (O.map (·.2)) = fs at ef
    simp [ef, al]
    exact q
theorem a27 (h : IsRow sc o) (q : ∀ (u v : Int) o', IsRow sc o' → Q .nx ⟨[x0, some (.loc 1), x2, x3, x4, x5, x6, x7, x8, x9, x10, x11, x12, x13, x14, x15, x16, x17, x18, x19, x20, x21, some (.int u), x23, x24, x25, some (.int v), x27], TO tq :: o' :: r⟩) :
    W (lw27 ⟨[x0, some (.loc 1), x2, x3, x4, x5, x6, x7, x8, x9, x10, x11, x12, x13, x14, x15, x16, x17, x18, x19, x20, x21, x22, x23, x24, x25, x26, x27], TO tq :: o :: r⟩) Q EX0 := by
  unfold lw27
  simp
  refine taken_w h (by omega) (by omega) fun u o1 u0 u1 r1 => ?_
  simp
  refine taken_w r1 (by omega) (by omega) fun v o2 v0 v1 r2 => ?_
  simp
  exact q u v o2 r2
theorem a28 {u v : Int} (q : Q .nx ⟨[x0, x1, x2, x3, x4, x5, x6, x7, x8, x9, x10, x11, x12, x13, x14, x15, x16, x17, x18, x19, x20, x21, some (.int u), x23, x24, x25, some (.int v), x27], s0⟩) :
    W (lw28 ⟨[x0, x1, x2, x3, x4, x5, x6, x7, x8, x9, x10, x11, x12, x13, x14, x15, x16, x17, x18, x19, x20, x21, some (.int u), x23, x24, x25, some (.int v), x27], s0⟩) Q EX0 := by
  unfold lw28
  have al := fun ς => alike_refl 7 (.int (min u v)) ς rfl
  have sr : ∀ ς, m_sure_request [.int u, .int v] ς = some (.ok (.int (min u v)) ς) := fun ς => by
    apply WF_eqn
    rw [m_sure_request, WF_def]
    simp [startD]
  simp [sr, al]
  exact q
def offV : D → Bool
  | .tup [.int x, .int y] => offB (x, y)
  | _ => false
def Jd (d : D) : Prop := ∀ ς, m_is_offer [d] ς = some (.ok (.bl (offV d)) ς)
theorem jd_tup (p : Sp) : Jd (tupI p) := fun ς => offer_ev (false, p) ς
theorem ok_tup {O : List Of} (hO : OfOk O) {p : Sp} (h : p ∈ O) : offV (tupI p) = true := by
  have := hO.bd p h
  show offB p = true
  unfold offB
  rw [Bool.and_eq_true, decide_eq_true_iff, decide_eq_true_iff]
  omega
theorem nb_at (k : Nat) (x : Int) : nbD k (.int x) = true := nb_int k x
theorem a29 (hp : Gp L n l m) (hs : Hs O n) (hf : sflat s0 = true) (q : Q .nx ⟨[x0, x1, x2, x3, x4, x5, x6, some (grD nm L l m), x8, x9, x10, x11, x12, x13, x14, x15, x16, x17, x18, x19, x20, some (.lst (O.map tupI)), x22, x23, x24, x25, x26, x27], s0⟩) :
    W (lw29 ⟨[x0, x1, x2, x3, x4, x5, x6, some (grD nm L l m), x8, x9, x10, x11, x12, x13, x14, x15, x16, x17, x18, x19, x20, some (.lst (O.map tupI)), x22, x23, x24, x25, x26, x27], s0⟩) Q EX0 := by
  unfold lw29
  have on := hs.ln
  have ln := hp.ln
  have n1 := hp.n1
  have w1 : ∀ ς, m_want_offers [grD nm L l m, .lst (O.map tupI ++ [.tup [.int 1, .int 1]])] ς = some (.exc "BadItem" [("index", .non)] ς) := fun ς => by
    have e : O.map tupI ++ [D.tup [.int 1, .int 1]] = (O ++ [(1, 1)]).map tupI := by rw [List.map_append]; rfl
    rw [e]
    refine wo_len (v := fun p => offV (tupI p)) (fun p _ ς => jd_tup p ς) (fun p hp => ?_) (by simp; omega) (by omega) (by simp; omega) true ς
    rcases List.mem_append.mp hp with z | z
    · exact ok_tup hs.ok z
    · rw [List.mem_singleton.mp z]
      rfl
  have fa : (O.map tupI ++ [D.tup [.int 1, .int 1]]).all D.flat = true := by
    rw [List.all_append, List.all_map]
    simp
  have r1 := lrefused_ev w1 rfl (by simp) rfl (by simpa using fa) hf
  have r2 := lrefused_ev (g := grD nm L l m) (d := .non) (ix := .non) (fun ς => wo_non ς) rfl (by simp) rfl rfl hf
  have ol : (O.map tupI).length ≤ 30 := by rw [List.length_map]; omega
  generalize O.map tupI = us at w1 r1 q ol ⊢
  simp
  refine W_guard (small_of (by omega)) ?_
  simp [r1, r2]
  exact q
theorem a30 (q0 : ∀ s, Q (.rt (.bl true)) s) (q : 0 < n → Q .nx ⟨[x0, x1, x2, some (.int (n : Nat)), x4, x5, x6, x7, x8, x9, x10, x11, x12, x13, x14, x15, x16, x17, x18, x19, x20, x21, x22, x23, x24, x25, x26, x27], s0⟩) :
    W (lw30 ⟨[x0, x1, x2, some (.int (n : Nat)), x4, x5, x6, x7, x8, x9, x10, x11, x12, x13, x14, x15, x16, x17, x18, x19, x20, x21, x22, x23, x24, x25, x26, x27], s0⟩) Q EX0 := by
  unfold lw30
  simp
  refine W_ite (fun c => ?_) fun c => ?_
  · simp
    exact q0 _
  · refine W_of (b := .nx) rfl ?_
    refine q (Nat.pos_of_ne_zero fun z => ?_)
    subst z
    cases c
theorem a31 (h : IsRow sc o) (h0 : 0 < n) (hn : n ≤ 30) (q : ∀ (k : Nat) o', k < n → IsRow sc o' → Q .nx ⟨[x0, some (.loc 1), x2, some (.int (n : Nat)), x4, x5, x6, x7, x8, x9, x10, x11, x12, x13, x14, x15, x16, x17, some (.int (k : Nat)), x19, x20, x21, x22, x23, x24, x25, x26, x27], TO tq :: o' :: r⟩) :
    W (lw31 ⟨[x0, some (.loc 1), x2, some (.int (n : Nat)), x4, x5, x6, x7, x8, x9, x10, x11, x12, x13, x14, x15, x16, x17, x18, x19, x20, x21, x22, x23, x24, x25, x26, x27], TO tq :: o :: r⟩) Q EX0 := by
  unfold lw31
  simp
  refine taken_w (many := (n : Int)) h (by omega) (by omega) fun v o1 v0 v1 r1 => ?_
  obtain ⟨k, rfl⟩ := Int.eq_ofNat_of_zero_le v0
  simp
  exact q k o1 (by omega) r1
theorem a32 (h : IsRow sc o) (q : ∀ (d : D) o', Jd d → offV d = false → d.flat = true → IsRow sc o' → Q .nx ⟨[x0, some (.loc 1), x2, x3, x4, x5, x6, x7, x8, x9, x10, x11, x12, x13, x14, x15, x16, x17, x18, some d, x20, x21, x22, x23, x24, x25, x26, x27], TO tq :: o' :: r⟩) :
    W (lw32 ⟨[x0, some (.loc 1), x2, x3, x4, x5, x6, x7, x8, x9, x10, x11, x12, x13, x14, x15, x16, x17, x18, x19, x20, x21, x22, x23, x24, x25, x26, x27], TO tq :: o :: r⟩) Q EX0 := by
  unfold lw32
  simp
  refine pick_w h (by simp) (by simp) fun d hd o1 r1 => ?_
  simp
  simp only [List.mem_cons, List.not_mem_nil, or_false] at hd
  rcases hd with rfl | rfl | rfl | rfl | rfl | rfl | rfl
  · exact q _ o1 (jd_tup (3, 4)) rfl rfl r1
  · exact q _ o1 (jd_tup (100000, 0)) rfl rfl r1
  · exact q _ o1 (jd_tup (5, -1)) rfl rfl r1
  · exact q _ o1 (fun ς => offer_t ς) rfl rfl r1
  · exact q _ o1 (fun ς => offer_one _ ς) rfl rfl r1
  · exact q _ o1 (fun ς => offer_s rfl ς) rfl rfl r1
  · exact q _ o1 (fun ς => offer_s rfl ς) rfl rfl r1
theorem a33 {k : Nat} {d : D} (hp : Gp L n l m) (hs : Hs O n) (hk : k < n) (hd : Jd d) (hv : offV d = false) (hfd : d.flat = true) (hf : sflat s0 = true) (q : ∀ s, Q (.rt (.bl true)) s) :
    W (lw33 ⟨[x0, x1, x2, x3, x4, x5, x6, some (grD nm L l m), x8, x9, x10, x11, x12, x13, x14, x15, x16, x17, some (.int (k : Nat)), some d, x20, some (.lst (O.map tupI)), x22, x23, x24, x25, x26, x27], s0⟩) Q EX0 := by
  unfold lw33
  have on := hs.ln
  have n1 := hp.n1
  have c1 : cutL (O.map tupI) none (some (k : Int)) = (O.take k).map tupI := by rw [cut_take, List.map_take]
  have c2 : cutL (O.map tupI) (some ((k : Int) + 1)) none = (O.drop (k + 1)).map tupI := by
    have := cut_drop (ds := O.map tupI) (a := k + 1)
    rw [← List.map_drop] at this
    exact this
  have t1 : (O.take k).length = k := by rw [List.length_take]; omega
  have t2 : (O.drop (k + 1)).length ≤ 30 := by rw [List.length_drop]; omega
  have w1 : ∀ ς, m_want_offers [grD nm L l m, .lst ((O.take k).map tupI ++ [d] ++ (O.drop (k + 1)).map tupI)] ς = some (.exc "BadItem" [("index", .int (k : Nat))] ς) := fun ς => by
    have := wo_at (nm := nm) (L := L) (l := l) (m := m) (xs := (O.take k).map tupI ++ [d] ++ (O.drop (k + 1)).map tupI) (f := id) (v := offV) (fun x hx ς => by
      rcases List.mem_append.mp hx with z | z
      · rcases List.mem_append.mp z with y | y
        · obtain ⟨p, _, rfl⟩ := List.mem_map.mp y
          exact jd_tup p ς
        · rw [List.mem_singleton.mp y]
          exact hd ς
      · obtain ⟨p, _, rfl⟩ := List.mem_map.mp z
        exact jd_tup p ς) (k := k) (fun j hj => by
      rw [List.map_append, List.map_append, List.append_assoc, List.getElem?_append_left (by simp; omega), List.getElem?_map, List.getElem?_map, List.getElem?_take_of_lt hj, List.getElem?_eq_getElem (show j < O.length by omega)]
      simp only [Option.map_some]
      rw [ok_tup hs.ok (List.getElem_mem _)]) (by
      rw [List.map_append, List.map_append, List.append_assoc, List.getElem?_append_right (by simp; omega)]
      simp [hv, show min k O.length = k by omega]) (by simp; omega) true ς
    rw [List.map_id] at this
    exact this
  have fa : ((O.take k).map tupI ++ [d] ++ (O.drop (k + 1)).map tupI).all D.flat = true := by
    rw [List.all_eq_true]
    intro x hx
    rcases List.mem_append.mp hx with z | z
    · rcases List.mem_append.mp z with y | y
      · obtain ⟨p, _, rfl⟩ := List.mem_map.mp y
        exact flat_tupI p
      · rw [List.mem_singleton.mp y]
        exact hfd
    · obtain ⟨p, _, rfl⟩ := List.mem_map.mp z
      exact flat_tupI p
  have r1 := lrefused_ev w1 rfl (by simp) rfl (by simpa only [flat_lst] using fa) hf
  have l1 : ((O.take k).map tupI).length ≤ 30 := by rw [List.length_map]; omega
  have l2 : ((O.drop (k + 1)).map tupI).length ≤ 30 := by rw [List.length_map]; omega
  generalize (O.take k).map tupI = us at c1 r1 l1
  generalize (O.drop (k + 1)).map tupI = vs at c2 r1 l2
  simp [W_slA, W_oInt, c1, c2]
  refine W_guard (small_of (by omega)) ?_
  simp [W_slA, W_oInt, c1, c2]
  refine W_guard (small_of (by omega)) ?_
  simp only [List.append_assoc, List.cons_append, List.nil_append] at r1
  simp [r1]
  exact q _
end
theorem law_w (sc : List Int) : WF (m_law [.rdl (sc.map .int)] [TO tq]) (fun d _ => d = .bl true) EF0 := by
  rw [law_is, WF_def]
  simp only [startD]
  have e : List.map some [D.rdl (List.map D.int sc)] ++ List.replicate (28 - [D.rdl (List.map D.int sc)].length) none = [some (.rdl (sc.map .int)), none, none, none, none, none, none, none, none, none, none, none, none, none, none, none, none, none, none, none, none, none, none, none, none, none, none, none] := rfl
  rw [e]
  have fl : ∀ {o : Option O} {r : Store}, IsRow sc o → sflat r = true → sflat (TO tq :: o :: r) = true := fun h hf => tq_flat (row_flat h hf)
  rw [W_sq]; refine a1 fun o1 r1 => ?_; rw [W_then_nx]
  rw [W_sq]; refine a2 r1 fun g o2 r2 => ?_; rw [W_then_nx]
  rw [W_sq]; refine a3 r2 fun n o3 n1 n6 r3 => ?_; rw [W_then_nx]
  rw [W_sq]; refine a4 r3 rfl n1 fun L o4 sp ln r4 => ?_; rw [W_then_nx]
  rw [W_sq]; refine a5 r4 n1 fun m o5 mn r5 => ?_; rw [W_then_nx]
  rw [W_sq]; refine a6 r5 (by omega) fun l o6 lm r6 => ?_; rw [W_then_nx]
  rw [W_sq]; refine a7 (n := n) ⟨sp, ln, n1, lm, mn⟩ r6 rfl fun nm o7 hn r7 => ?_; rw [W_then_nx]
  rw [W_sq]; refine a8 r7 fun top o8 t0 t1 r8 => ?_; rw [W_then_nx]
  rw [W_sq]; refine a9 r8 n1 t0 t1 fun O x8 x22 o9 hs r9 => ?_; rw [W_then_nx]
  rw [W_sq]; refine a10 hs n1 r9 fun b qs o10 hq r10 => ?_; rw [W_then_nx]
  rw [W_sq]; refine a11 hs n1 ?_; rw [W_then_nx]
  rw [W_sq]; refine a12 hs n1 ?_; rw [W_then_nx]
  rw [W_sq]; refine a13 hs n1 ?_; rw [W_then_nx]
  rw [W_sq]; refine a14 hs ?_; rw [W_then_nx]
  rw [W_sq]; refine a15 hs lm mn n6 fun x25 => ?_; rw [W_then_nx]
  have hp : Gp L n l m := ⟨sp, ln, n1, lm, mn⟩
  have hw : Wo nm L l m O b qs := wo_of hp hs hq b
  rw [W_sq]; refine a16 hw ?_; rw [W_then_nx]
  rw [W_sq]; refine a17 hw ?_; rw [W_then_nx]
  rw [W_sq]; refine a18 hs n1 hq ?_; rw [W_then_nx]
  rw [W_sq]; refine a19 r10 n1 fun cs o11 h1 h2 h3 r11 => ?_; rw [W_then_nx]
  rw [W_sq]; refine a20 hs n1 hq r11 h1 h2 h3 fun o12 r12 => ?_; rw [W_then_nx]
  rw [W_sq]; refine a21 r12 t0 t1 fun w o13 r13 => ?_; rw [W_then_nx]
  rw [W_sq]; refine a22 hs n1 mn ?_; rw [W_then_nx]
  rw [W_sq]; refine a23 (by omega) ?_; rw [W_then_nx]
  rw [W_sq]; refine a24 hw (by omega) ?_; rw [W_then_nx]
  rw [W_sq]; refine a25 hp (fl r13 rfl) ?_; rw [W_then_nx]
  rw [W_sq]; refine a26 hp hs hw ?_; rw [W_then_nx]
  rw [W_sq]; refine a27 r13 fun u v o14 r14 => ?_; rw [W_then_nx]
  rw [W_sq]; refine a28 ?_; rw [W_then_nx]
  rw [W_sq]; refine a29 hp hs (fl r14 rfl) ?_; rw [W_then_nx]
  rw [W_sq]; refine a30 (fun s => rfl) fun n0 => ?_; rw [W_then_nx]
  rw [W_sq]; refine a31 r14 n0 n1 fun k o15 hk r15 => ?_; rw [W_then_nx]
  rw [W_sq]; refine a32 r15 fun d o16 hd hv hfd r16 => ?_; rw [W_then_nx]
  exact a33 hp hs hk hd hv hfd (fl r16 rfl) fun s => rfl
theorem law_true : ∀ ns : List Int, ns.length ≤ 63 → ∃ ς, m_law [.rdl (ns.map .int)] [some (.tab "law.<locals>.<lambda>" TabA.P)] = some (.ok (.bl true) ς) := by
  intro ns _
  obtain ⟨d, ς, h1, rfl⟩ := WF_get (law_w ns)
  exact ⟨ς, h1⟩
end
end Lw

/-! from k23G.lean -/
set_option Elab.async false
set_option linter.all false
set_option maxRecDepth 100000
set_option maxHeartbeats 4000000
namespace Lw
open PySem L2 DL
def top (i : Nat) : Stmt := PySem.Challenge.pw_keptnights_k23_whole_sure_income.main.body.getD i (.Pass ⟨0, 0, 0, 0⟩)
def clsBody : Stmt → List Stmt
  | .ClassDef _ _ _ b _ _ _ _ _ _ _ => b
  | _ => []
def topC (i j : Nat) : Stmt := (clsBody (top i)).getD j (.Pass ⟨0, 0, 0, 0⟩)
abbrev s__law_taken : Stmt := top 48
abbrev N__law_taken : List Str := ["row", "many", "cell", "found"]
theorem sc__law_taken : FnScope N__law_taken ["row", "many"] (defScope s__law_taken) := ⟨rfl, rfl, rfl, by decide +kernel, rfl, by decide +kernel, by decide +kernel⟩
abbrev s__law_span : Stmt := top 51
abbrev N__law_span : List Str := ["row", "top", "longest", "first"]
theorem sc__law_span : FnScope N__law_span ["row", "top", "longest"] (defScope s__law_span) := ⟨rfl, rfl, rfl, by decide +kernel, rfl, by decide +kernel, by decide +kernel⟩
abbrev s__law_spans : Stmt := top 52
abbrev N__law_spans : List Str := ["row", "many", "top", "longest", "found", "k"]
theorem sc__law_spans : FnScope N__law_spans ["row", "many", "top", "longest"] (defScope s__law_spans) := ⟨rfl, rfl, rfl, by decide +kernel, rfl, by decide +kernel, by decide +kernel⟩
abbrev s__law_mixed : Stmt := top 53
abbrev N__law_mixed : List Str := ["row", "value"]
theorem sc__law_mixed : FnScope N__law_mixed ["row", "value"] (defScope s__law_mixed) := ⟨rfl, rfl, rfl, by decide +kernel, rfl, by decide +kernel, by decide +kernel⟩
abbrev s__law_handed : Stmt := top 54
abbrev N__law_handed : List Str := ["row", "spans", "span"]
theorem sc__law_handed : FnScope N__law_handed ["row", "spans"] (defScope s__law_handed) := ⟨rfl, rfl, rfl, by decide +kernel, rfl, by decide +kernel, by decide +kernel⟩
abbrev s__law_subset : Stmt := top 56
abbrev N__law_subset : List Str := ["row", "many", "k"]
theorem sc__law_subset : FnScope N__law_subset ["row", "many"] (defScope s__law_subset) := ⟨rfl, rfl, rfl, by decide +kernel, rfl, by decide +kernel, by decide +kernel⟩
abbrev s__law_pick : Stmt := top 49
abbrev N__law_pick : List Str := ["row", "kinds"]
theorem sc__law_pick : FnScope N__law_pick ["row", "kinds"] (defScope s__law_pick) := ⟨rfl, rfl, rfl, by decide +kernel, rfl, by decide +kernel, by decide +kernel⟩
abbrev s_gains_of : Stmt := top 29
abbrev N_gains_of : List Str := ["offers", "pay", "fee"]
theorem sc_gains_of : FnScope N_gains_of ["offers"] (defScope s_gains_of) := ⟨rfl, rfl, rfl, by decide +kernel, rfl, by decide +kernel, by decide +kernel⟩
abbrev s_fees_of : Stmt := top 30
abbrev N_fees_of : List Str := ["offers", "_", "fee"]
theorem sc_fees_of : FnScope N_fees_of ["offers"] (defScope s_fees_of) := ⟨rfl, rfl, rfl, by decide +kernel, rfl, by decide +kernel, by decide +kernel⟩
abbrev s_pay_if : Stmt := top 34
abbrev N_pay_if : List Str := ["offers", "comers", "gains", "index"]
theorem sc_pay_if : FnScope N_pay_if ["offers", "comers"] (defScope s_pay_if) := ⟨rfl, rfl, rfl, by decide +kernel, rfl, by decide +kernel, by decide +kernel⟩
abbrev s_is_sequence : Stmt := top 14
abbrev N_is_sequence : List Str := ["value"]
theorem sc_is_sequence : FnScope N_is_sequence ["value"] (defScope s_is_sequence) := ⟨rfl, rfl, rfl, by decide +kernel, rfl, by decide +kernel, by decide +kernel⟩
abbrev s_want_sequence : Stmt := top 21
abbrev N_want_sequence : List Str := ["value"]
theorem sc_want_sequence : FnScope N_want_sequence ["value"] (defScope s_want_sequence) := ⟨rfl, rfl, rfl, by decide +kernel, rfl, by decide +kernel, by decide +kernel⟩
abbrev s_first_wrong : Stmt := top 22
abbrev N_first_wrong : List Str := ["marks", "place", "mark"]
theorem sc_first_wrong : FnScope N_first_wrong ["marks"] (defScope s_first_wrong) := ⟨rfl, rfl, rfl, by decide +kernel, rfl, by decide +kernel, by decide +kernel⟩
abbrev s_want_right : Stmt := top 23
abbrev N_want_right : List Str := ["marks", "limit", "place"]
theorem sc_want_right : FnScope N_want_right ["marks", "limit"] (defScope s_want_right) := ⟨rfl, rfl, rfl, by decide +kernel, rfl, by decide +kernel, by decide +kernel⟩
abbrev s_is_row : Stmt := top 15
abbrev N_is_row : List Str := ["value", "size"]
theorem sc_is_row : FnScope N_is_row ["value", "size"] (defScope s_is_row) := ⟨rfl, rfl, rfl, by decide +kernel, rfl, by decide +kernel, by decide +kernel⟩
abbrev s_is_whole : Stmt := top 12
abbrev N_is_whole : List Str := ["value"]
theorem sc_is_whole : FnScope N_is_whole ["value"] (defScope s_is_whole) := ⟨rfl, rfl, rfl, by decide +kernel, rfl, by decide +kernel, by decide +kernel⟩
abbrev s_is_between : Stmt := top 13
abbrev N_is_between : List Str := ["value", "least", "most"]
theorem sc_is_between : FnScope N_is_between ["value", "least", "most"] (defScope s_is_between) := ⟨rfl, rfl, rfl, by decide +kernel, rfl, by decide +kernel, by decide +kernel⟩
abbrev s_is_offer : Stmt := top 27
abbrev N_is_offer : List Str := ["value"]
theorem sc_is_offer : FnScope N_is_offer ["value"] (defScope s_is_offer) := ⟨rfl, rfl, rfl, by decide +kernel, rfl, by decide +kernel, by decide +kernel⟩
abbrev s_Group__len : Stmt := topC 46 1
abbrev N_Group__len : List Str := ["self"]
theorem sc_Group__len : FnScope N_Group__len ["self"] (defScope s_Group__len) := ⟨rfl, rfl, rfl, by decide +kernel, rfl, by decide +kernel, by decide +kernel⟩
abbrev s_want_offers : Stmt := top 28
abbrev N_want_offers : List Str := ["group", "offers", "offer"]
theorem sc_want_offers : FnScope N_want_offers ["group", "offers"] (defScope s_want_offers) := ⟨rfl, rfl, rfl, by decide +kernel, rfl, by decide +kernel, by decide +kernel⟩
abbrev s_by_gains : Stmt := top 31
abbrev N_by_gains : List Str := ["offers", "_", "index", "gain"]
theorem sc_by_gains : FnScope N_by_gains ["offers"] (defScope s_by_gains) := ⟨rfl, rfl, rfl, by decide +kernel, rfl, by decide +kernel, by decide +kernel⟩
abbrev s_poorest_comers : Stmt := top 32
abbrev N_poorest_comers : List Str := ["group", "offers"]
theorem sc_poorest_comers : FnScope N_poorest_comers ["group", "offers"] (defScope s_poorest_comers) := ⟨rfl, rfl, rfl, by decide +kernel, rfl, by decide +kernel, by decide +kernel⟩
abbrev s_sure_pay : Stmt := top 35
abbrev N_sure_pay : List Str := ["group", "offers"]
theorem sc_sure_pay : FnScope N_sure_pay ["group", "offers"] (defScope s_sure_pay) := ⟨rfl, rfl, rfl, by decide +kernel, rfl, by decide +kernel, by decide +kernel⟩
abbrev s_richest_comers : Stmt := top 33
abbrev N_richest_comers : List Str := ["group", "offers", "order", "index", "gain", "_"]
theorem sc_richest_comers : FnScope N_richest_comers ["group", "offers"] (defScope s_richest_comers) := ⟨rfl, rfl, rfl, by decide +kernel, rfl, by decide +kernel, by decide +kernel⟩
abbrev s_greatest_group_pay : Stmt := top 36
abbrev N_greatest_group_pay : List Str := ["group", "offers"]
theorem sc_greatest_group_pay : FnScope N_greatest_group_pay ["group", "offers"] (defScope s_greatest_group_pay) := ⟨rfl, rfl, rfl, by decide +kernel, rfl, by decide +kernel, by decide +kernel⟩
abbrev s__law_whole : Stmt := top 58
abbrev N__law_whole : List Str := ["value"]
theorem sc__law_whole : FnScope N__law_whole ["value"] (defScope s__law_whole) := ⟨rfl, rfl, rfl, by decide +kernel, rfl, by decide +kernel, by decide +kernel⟩
abbrev s_least_for : Stmt := top 40
abbrev N_least_for : List Str := ["group", "offers", "wanted", "order", "many"]
theorem sc_least_for : FnScope N_least_for ["group", "offers", "wanted"] (defScope s_least_for) := ⟨rfl, rfl, rfl, by decide +kernel, rfl, by decide +kernel, by decide +kernel⟩
abbrev s__law_refused : Stmt := top 60
abbrev N__law_refused : List Str := ["group", "offers", "index", "turn", "e"]
theorem sc__law_refused : FnScope N__law_refused ["group", "offers", "index"] (defScope s__law_refused) := ⟨rfl, rfl, rfl, by decide +kernel, rfl, by decide +kernel, by decide +kernel⟩
abbrev s__law_name : Stmt := top 55
abbrev N__law_name : List Str := ["row", "signs", "size", "found", "k"]
theorem sc__law_name : FnScope N__law_name ["row"] (defScope s__law_name) := ⟨rfl, rfl, rfl, by decide +kernel, rfl, by decide +kernel, by decide +kernel⟩
abbrev s__law_if : Stmt := top 59
abbrev N__law_if : List Str := ["offers", "comers", "k"]
theorem sc__law_if : FnScope N__law_if ["offers", "comers"] (defScope s__law_if) := ⟨rfl, rfl, rfl, by decide +kernel, rfl, by decide +kernel, by decide +kernel⟩
abbrev s__law_alike : Stmt := top 50
abbrev N__law_alike : List Str := ["found", "due", "k"]
theorem sc__law_alike : FnScope N__law_alike ["found", "due"] (defScope s__law_alike) := ⟨rfl, rfl, rfl, by decide +kernel, rfl, by decide +kernel, by decide +kernel⟩
abbrev s_all_sure : Stmt := top 39
abbrev N_all_sure : List Str := ["groups", "offers", "group", "own"]
theorem sc_all_sure : FnScope N_all_sure ["groups", "offers"] (defScope s_all_sure) := ⟨rfl, rfl, rfl, by decide +kernel, rfl, by decide +kernel, by decide +kernel⟩
abbrev s_sure_request : Stmt := top 38
abbrev N_sure_request : List Str := ["pay", "fee"]
theorem sc_sure_request : FnScope N_sure_request ["pay", "fee"] (defScope s_sure_request) := ⟨rfl, rfl, rfl, by decide +kernel, rfl, by decide +kernel, by decide +kernel⟩
abbrev s__law_subsets : Stmt := top 57
abbrev N__law_subsets : List Str := ["many", "found", "k", "chosen"]
theorem sc__law_subsets : FnScope N__law_subsets ["many"] (defScope s__law_subsets) := ⟨rfl, rfl, rfl, by decide +kernel, rfl, by decide +kernel, by decide +kernel⟩
abbrev s_pay_spread : Stmt := top 37
abbrev N_pay_spread : List Str := ["group", "offers"]
theorem sc_pay_spread : FnScope N_pay_spread ["group", "offers"] (defScope s_pay_spread) := ⟨rfl, rfl, rfl, by decide +kernel, rfl, by decide +kernel, by decide +kernel⟩
abbrev s_is_name : Stmt := top 16
abbrev N_is_name : List Str := ["value", "sign"]
theorem sc_is_name : FnScope N_is_name ["value"] (defScope s_is_name) := ⟨rfl, rfl, rfl, by decide +kernel, rfl, by decide +kernel, by decide +kernel⟩
abbrev s_want_name : Stmt := top 20
abbrev N_want_name : List Str := ["value"]
theorem sc_want_name : FnScope N_want_name ["value"] (defScope s_want_name) := ⟨rfl, rfl, rfl, by decide +kernel, rfl, by decide +kernel, by decide +kernel⟩
abbrev s_is_night : Stmt := top 17
abbrev N_is_night : List Str := ["value"]
theorem sc_is_night : FnScope N_is_night ["value"] (defScope s_is_night) := ⟨rfl, rfl, rfl, by decide +kernel, rfl, by decide +kernel, by decide +kernel⟩
abbrev s_is_span : Stmt := top 18
abbrev N_is_span : List Str := ["value", "first", "leave"]
theorem sc_is_span : FnScope N_is_span ["value"] (defScope s_is_span) := ⟨rfl, rfl, rfl, by decide +kernel, rfl, by decide +kernel, by decide +kernel⟩
abbrev s_copied_spans : Stmt := top 24
abbrev N_copied_spans : List Str := ["value", "limit", "item"]
theorem sc_copied_spans : FnScope N_copied_spans ["value", "limit"] (defScope s_copied_spans) := ⟨rfl, rfl, rfl, by decide +kernel, rfl, by decide +kernel, by decide +kernel⟩
abbrev s_want_number : Stmt := top 19
abbrev N_want_number : List Str := ["value", "least", "most"]
theorem sc_want_number : FnScope N_want_number ["value", "least", "most"] (defScope s_want_number) := ⟨rfl, rfl, rfl, by decide +kernel, rfl, by decide +kernel, by decide +kernel⟩
abbrev s_Group__init : Stmt := topC 46 0
abbrev N_Group__init : List Str := ["self", "name", "spans", "least", "most", "late_guests", "late_nights", "copied"]
theorem sc_Group__init : FnScope N_Group__init ["self", "name", "spans", "least", "most", "late_guests", "late_nights"] (defScope s_Group__init) := ⟨rfl, rfl, rfl, by decide +kernel, rfl, by decide +kernel, by decide +kernel⟩
abbrev s_law : Stmt := top 61
abbrev N_law : List Str := ["script", "row", "great", "many", "spans", "most", "least", "group", "k", "handed", "gains", "poor", "rich", "some", "wanted", "sums", "enough", "other", "at", "wrong", "top", "offers", "pay", "low", "high", "pays", "fee", "number"]
theorem sc_law : FnScope N_law ["script"] (defScope s_law) := ⟨rfl, rfl, rfl, by decide +kernel, rfl, by decide +kernel, by decide +kernel⟩
abbrev s_BadItem__init : Stmt := topC 5 0
theorem sc_BadItem__init : FnScope ["self", "index"] ["self", "index"] (defScope s_BadItem__init) := ⟨rfl, rfl, rfl, by decide +kernel, rfl, by decide +kernel, by decide +kernel⟩
abbrev s_BadName__init : Stmt := topC 4 0
theorem sc_BadName__init : FnScope ["self", "value"] ["self", "value"] (defScope s_BadName__init) := ⟨rfl, rfl, rfl, by decide +kernel, rfl, by decide +kernel, by decide +kernel⟩
abbrev s_BadNumber__init : Stmt := topC 3 0
theorem sc_BadNumber__init : FnScope ["self", "value"] ["self", "value"] (defScope s_BadNumber__init) := ⟨rfl, rfl, rfl, by decide +kernel, rfl, by decide +kernel, by decide +kernel⟩
abbrev s_TooMany__init : Stmt := topC 6 0
theorem sc_TooMany__init : FnScope ["self", "limit"] ["self", "limit"] (defScope s_TooMany__init) := ⟨rfl, rfl, rfl, by decide +kernel, rfl, by decide +kernel, by decide +kernel⟩
structure Txt (K : PySem.W.Frag) (mg : Str → Option Value) : Prop where
  b_all : mg "all" = none
  b_bool : mg "bool" = none
  b_enumerate : mg "enumerate" = none
  b_int : mg "int" = none
  b_isinstance : mg "isinstance" = none
  b_len : mg "len" = none
  b_list : mg "list" = none
  b_max : mg "max" = none
  b_min : mg "min" = none
  b_range : mg "range" = none
  b_sorted : mg "sorted" = none
  b_str : mg "str" = none
  b_sum : mg "sum" = none
  b_tuple : mg "tuple" = none
  b_zip : mg "zip" = none
  c_FIGURES : ∃ t, mg "FIGURES" = some (.str "0123456789" t)
  c_LAST_NIGHT : ∃ t, mg "LAST_NIGHT" = some (.int 36524 t)
  c_LETTERS : ∃ t, mg "LETTERS" = some (.str "abcdefghijklmnopqrstuvwxyz" t)
  c_LONGEST_NAME : ∃ t, mg "LONGEST_NAME" = some (.int 12 t)
  c_MOST_LATE_NIGHTS : ∃ t, mg "MOST_LATE_NIGHTS" = some (.int 7 t)
  c_MOST_PAY : ∃ t, mg "MOST_PAY" = some (.int 99999 t)
  c_MOST_STAYS : ∃ t, mg "MOST_STAYS" = some (.int 30 t)
structure Cfs (K : PySem.W.Frag) (mg : Str → Option Value) : Prop where
  fld_Group_least : FldT K "Group" "least"
  fld_Group_most : FldT K "Group" "most"
  fld_Group_late_nights : FldT K "Group" "late_nights"
  fld_Group_late_guests : FldT K "Group" "late_guests"
  fld_Group_spans : FldT K "Group" "spans"
  fld_Group_name : FldT K "Group" "name"
  is_Group : IsT K mg "Group" []
structure Errs (K : PySem.W.Frag) (mg : Str → Option Value) : Prop where
  g_BadItem : mg "BadItem" = some (clsV K "BadItem")
  t_BadItem : ∀ C b, tst_BadItem C = some b → PySem.W.exmOne K (clsV K C) (clsV K "BadItem") = some b
  x_BadItem_index : ∃ Ca : Addr, clsV K "BadItem" = .ref Ca ∧ XfC K Ca ∧ PySem.W.findIn K (.ref Ca) "index" = some none
section
variable [TabA]
variable {P : Program} {w : World} {K : PySem.W.Frag} {mg : Str → Option Value} {base : Heap}
set_option maxHeartbeats 8000000 in
theorem ok__law_taken {f : Addr} {fd : FuncData} (F : Fun K "_law_taken" "_law_taken" s__law_taken f fd) (T : Txt K mg) (CF : Cfs K mg) : FnOk P w K mg base (L2.CX P w) 1 f fd ["row", "many"] (spF K 2 m__law_taken) :=
  fn_def (k := 0) F sc__law_taken fun cdv A outer s H E hr => by
    exact ((d_cons (d_if (d_tcmp op_gt s_gt (d_ix ix_seq s_ix (d_name 0) d_int fun _ _ => rfl) d_int (nomark _))
    (d_cons (d_set 3 (d_op op_modN s_mod (d_callTy call_int1 s_int T.b_int (by decide +kernel) (d_acons (d_ix ix_seq s_ix (d_name 0) d_int fun _ _ => rfl) d_anil)) (d_name 1)) sc__law_taken.nd)
    (d_cons (d_setL (d_op op_fdivN s_div (d_ix ix_seq s_ix (d_name 0) d_int fun _ _ => rfl) (d_name 1)) (d_name 0) d_int)
    (d_one (d_ret (d_name 3)))))
    d_nil)
    (d_cons (d_setL (d_op op_addA (s_add false) (d_ix ix_seq s_ix (d_name 0) d_int fun _ _ => rfl) d_int) (d_name 0) d_int)
    (d_cons (d_if (d_tcmp op_gt s_gt (d_ix ix_seq s_ix (d_name 0) d_int fun _ _ => rfl) (d_callB call_len s_len T.b_len (by decide +kernel) (d_acons (d_ix ix_seq s_ix (d_name 0) d_int fun _ _ => rfl) d_anil)) (nomark _))
    (d_cons (d_setL (d_op op_modN s_mod (d_callTy call_int1 s_int T.b_int (by decide +kernel) (d_acons (d_op op_addA (s_add false) (d_op op_mulA (s_mul false) (d_ix ix_seq s_ix (d_name 0) d_int fun _ _ => rfl) d_int) d_int) d_anil)) d_int) (d_name 0) d_int)
    (d_one (d_ret (d_op op_modN s_mod (d_callTy call_int1 s_int T.b_int (by decide +kernel) (d_acons (d_op op_fdivN s_div (d_ix ix_seq s_ix (d_name 0) d_int fun _ _ => rfl) d_int) d_anil)) (d_name 1)))))
    d_nil)
    (d_cons (d_set 2 (d_ix ix_seq s_ix (d_ix ix_seq s_ix (d_name 0) d_int fun _ _ => rfl) (d_op op_sub s_sub (d_ix ix_seq s_ix (d_name 0) d_int fun _ _ => rfl) d_int) fun _ _ => rfl) sc__law_taken.nd)
    (d_cons (d_setL (d_op op_modN s_mod (d_callTy call_int1 s_int T.b_int (by decide +kernel) (d_acons (d_op op_addA (s_add false) (d_op op_addA (s_add false) (d_op op_mulA (s_mul false) (d_ix ix_seq s_ix (d_name 0) d_int fun _ _ => rfl) d_int) (d_name 2)) d_int) d_anil)) d_int) (d_name 0) d_int)
    (d_cons (d_if (d_tcmp op_ge s_ge (d_name 2) (d_op op_pow s_pow d_int d_int) (nomark _))
    (d_one (d_setL (d_op op_fdivN s_div (d_name 2) (d_name 1)) (d_name 0) d_int))
    d_nil)
    (d_one (d_ret (d_op op_modN s_mod (d_callTy call_int1 s_int T.b_int (by decide +kernel) (d_acons (d_name 2) d_anil)) (d_name 1)))))))))))
set_option maxHeartbeats 8000000 in
theorem ok__law_span {f : Addr} {fd : FuncData} (F : Fun K "_law_span" "_law_span" s__law_span f fd) (T : Txt K mg) (C__law_taken : Cal P w K mg base 1 "_law_taken" 2 m__law_taken) (CF : Cfs K mg) : FnOk P w K mg base (L2.CX P w) 2 f fd ["row", "top", "longest"] (spF K 3 m__law_span) :=
  fn_def (k := 1) F sc__law_span fun cdv A outer s H E hr => by
    exact ((d_cons (d_set 3 (d_call C__law_taken (hr.mono (by decide)) (takes_of rfl rfl rfl rfl) rfl (d_acons (d_name 0) (d_acons (d_name 1) d_anil)) rfl (len_cons (len_cons (fun _ _ _ h => len_nil h)))) sc__law_span.nd)
    (d_one (d_ret (d_tup (d_acons (d_name 3) (d_acons (d_callB (call_min2 rfl) s_min2 T.b_min (by decide +kernel) (d_acons (d_name 1) (d_acons (d_op op_addA (s_add false) (d_op op_addA (s_add false) (d_name 3) d_int) (d_call C__law_taken (hr.mono (by decide)) (takes_of rfl rfl rfl rfl) rfl (d_acons (d_name 0) (d_acons (d_name 2) d_anil)) rfl (len_cons (len_cons (fun _ _ _ h => len_nil h))))) d_anil))) d_anil)))))))
set_option maxHeartbeats 8000000 in
theorem ok__law_spans {f : Addr} {fd : FuncData} (F : Fun K "_law_spans" "_law_spans" s__law_spans f fd) (T : Txt K mg) (C__law_span : Cal P w K mg base 2 "_law_span" 3 m__law_span) (CF : Cfs K mg) : FnOk P w K mg base (L2.CX P w) 3 f fd ["row", "many", "top", "longest"] (spF K 4 m__law_spans) :=
  fn_def (k := 2) F sc__law_spans fun cdv A outer s H E hr => by
    exact ((d_cons (d_set 4 (d_lst true d_anil) sc__law_spans.nd)
    (d_cons (d_for (passes_of rfl) rfl (i_rng1 T.b_range (d_acons (d_name 1) d_anil)) (g_name 5 sc__law_spans.nd)
    (d_one (d_expr (d_mthL PySem.F.slot_list_append PySem.F.type_list_append mt_append s_append (d_name 4) (d_acons (d_call C__law_span (hr.mono (by decide)) (takes_of rfl rfl rfl rfl) rfl (d_acons (d_name 0) (d_acons (d_name 2) (d_acons (d_name 3) d_anil))) rfl (len_cons (len_cons (len_cons (fun _ _ _ h => len_nil h))))) d_anil)))))
    (d_one (d_ret (d_nameF 4))))))
set_option maxHeartbeats 8000000 in
theorem ok__law_mixed {f : Addr} {fd : FuncData} (F : Fun K "_law_mixed" "_law_mixed" s__law_mixed f fd) (T : Txt K mg) (C__law_taken : Cal P w K mg base 1 "_law_taken" 2 m__law_taken) (CF : Cfs K mg) : FnOk P w K mg base (L2.CX P w) 2 f fd ["row", "value"] (spF K 2 m__law_mixed) :=
  fn_def (k := 1) F sc__law_mixed fun cdv A outer s H E hr => by
    exact ((d_cons (d_if (d_tcmp (op_eqD hr.units) s_eq (d_call C__law_taken (hr.mono (by decide)) (takes_of rfl rfl rfl rfl) rfl (d_acons (d_name 0) (d_acons d_int d_anil)) rfl (len_cons (len_cons (fun _ _ _ h => len_nil h)))) d_int (nomark _))
    (d_one (d_ret (d_callTy call_list_of (s_list false) T.b_list (by decide +kernel) (d_acons (d_name 1) d_anil))))
    d_nil)
    (d_one (d_ret (d_callTy call_tuple_of s_tuple T.b_tuple (by decide +kernel) (d_acons (d_name 1) d_anil))))))
set_option maxHeartbeats 8000000 in
theorem ok__law_handed {f : Addr} {fd : FuncData} (F : Fun K "_law_handed" "_law_handed" s__law_handed f fd) (T : Txt K mg) (C__law_mixed : Cal P w K mg base 2 "_law_mixed" 2 m__law_mixed) (CF : Cfs K mg) : FnOk P w K mg base (L2.CX P w) 3 f fd ["row", "spans"] (spF K 2 m__law_handed) :=
  fn_def (k := 2) F sc__law_handed fun cdv A outer s H E hr => by
    exact ((d_one (d_ret (d_call C__law_mixed (hr.mono (by decide)) (takes_of rfl rfl rfl rfl) rfl (d_acons (d_name 0) (d_acons (d_lc false (ow := [("span", 2)]) rfl sc__law_handed.nd (i_seq (d_name 1)) (blkOk_by (N := N__law_handed) (sc := defScope s__law_handed) (by decide +kernel)) (fun _ _ _ _ _ => (g_name 2 sc__law_handed.nd)) (fun _ _ _ _ _ => d_ts0) (fun _ _ _ _ _ => (d_call C__law_mixed (hr.mono (by decide)) takes0 rfl (d_acons (d_name 0) (d_acons (d_name 2) d_anil)) rfl (len_cons (len_cons (fun _ _ _ h => len_nil h)))))) d_anil)) rfl (len_cons (len_cons (fun _ _ _ h => len_nil h)))))))
set_option maxHeartbeats 8000000 in
theorem ok__law_subset {f : Addr} {fd : FuncData} (F : Fun K "_law_subset" "_law_subset" s__law_subset f fd) (T : Txt K mg) (C__law_taken : Cal P w K mg base 1 "_law_taken" 2 m__law_taken) (CF : Cfs K mg) : FnOk P w K mg base (L2.CX P w) 2 f fd ["row", "many"] (spF K 2 m__law_subset) :=
  fn_def (k := 1) F sc__law_subset fun cdv A outer s H E hr => by
    exact ((d_one (d_ret (d_lc false (ow := [("k", 2)]) rfl sc__law_subset.nd (i_rng1 T.b_range (d_acons (d_name 1) d_anil)) (blkOk_by (N := N__law_subset) (sc := defScope s__law_subset) (by decide +kernel)) (fun _ _ _ _ _ => (g_name 2 sc__law_subset.nd)) (fun _ _ _ _ _ => (d_ts1 (d_tcmp (op_eqD hr.units) s_eq (d_call C__law_taken (hr.mono (by decide)) takes0 rfl (d_acons (d_name 0) (d_acons d_int d_anil)) rfl (len_cons (len_cons (fun _ _ _ h => len_nil h)))) d_int (nomark _)))) (fun _ _ _ _ _ => (d_name 2))))))
set_option maxHeartbeats 8000000 in
theorem ok__law_pick {f : Addr} {fd : FuncData} (F : Fun K "_law_pick" "_law_pick" s__law_pick f fd) (T : Txt K mg) (C__law_taken : Cal P w K mg base 1 "_law_taken" 2 m__law_taken) (CF : Cfs K mg) : FnOk P w K mg base (L2.CX P w) 2 f fd ["row", "kinds"] (spF K 2 m__law_pick) :=
  fn_def (k := 1) F sc__law_pick fun cdv A outer s H E hr => by
    exact ((d_one (d_ret (d_ix ix_seq s_ix (d_name 1) (d_call C__law_taken (hr.mono (by decide)) (takes_of rfl rfl rfl rfl) rfl (d_acons (d_name 0) (d_acons (d_callB call_len s_len T.b_len (by decide +kernel) (d_acons (d_name 1) d_anil)) d_anil)) rfl (len_cons (len_cons (fun _ _ _ h => len_nil h)))) fun _ _ => rfl))))
set_option maxHeartbeats 8000000 in
theorem ok_gains_of {f : Addr} {fd : FuncData} (F : Fun K "gains_of" "gains_of" s_gains_of f fd) (T : Txt K mg) (CF : Cfs K mg) : FnOk P w K mg base (L2.CX P w) 1 f fd ["offers"] (spF K 1 m_gains_of) :=
  fn_def (k := 0) F sc_gains_of fun cdv A outer s H E hr => by
    exact ((d_one (d_ret (d_callTy call_tuple_of s_tuple T.b_tuple (by decide +kernel) (d_acons (d_lc false (ow := [("pay", 1), ("fee", 2)]) rfl sc_gains_of.nd (i_seq (d_name 0)) (blkOk_by (N := N_gains_of) (sc := defScope s_gains_of) (by decide +kernel)) (fun _ _ _ _ _ => (g_tupK (K := K) 2 rfl (g_cons (g_name 1 sc_gains_of.nd) (g_cons (g_name 2 sc_gains_of.nd) g_nil)))) (fun _ _ _ _ _ => d_ts0) (fun _ _ _ _ _ => (d_op op_sub s_sub (d_name 1) (d_name 2)))) d_anil)))))
set_option maxHeartbeats 8000000 in
theorem ok_fees_of {f : Addr} {fd : FuncData} (F : Fun K "fees_of" "fees_of" s_fees_of f fd) (T : Txt K mg) (CF : Cfs K mg) : FnOk P w K mg base (L2.CX P w) 1 f fd ["offers"] (spF K 1 m_fees_of) :=
  fn_def (k := 0) F sc_fees_of fun cdv A outer s H E hr => by
    exact ((d_one (d_ret (d_callB (cr_sumA rfl) s_sumA T.b_sum (by decide +kernel) (d_acons (d_lc false (ow := [("_", 1), ("fee", 2)]) rfl sc_fees_of.nd (i_seq (d_name 0)) (blkOk_by (N := N_fees_of) (sc := defScope s_fees_of) (by decide +kernel)) (fun _ _ _ _ _ => (g_tupK (K := K) 2 rfl (g_cons (g_name 1 sc_fees_of.nd) (g_cons (g_name 2 sc_fees_of.nd) g_nil)))) (fun _ _ _ _ _ => d_ts0) (fun _ _ _ _ _ => (d_name 2))) d_anil)))))
set_option maxHeartbeats 8000000 in
theorem ok_pay_if {f : Addr} {fd : FuncData} (F : Fun K "pay_if" "pay_if" s_pay_if f fd) (T : Txt K mg) (C_gains_of : Cal P w K mg base 1 "gains_of" 1 m_gains_of) (C_fees_of : Cal P w K mg base 1 "fees_of" 1 m_fees_of) (CF : Cfs K mg) : FnOk P w K mg base (L2.CX P w) 2 f fd ["offers", "comers"] (spF K 2 m_pay_if) :=
  fn_def (k := 1) F sc_pay_if fun cdv A outer s H E hr => by
    exact ((d_cons (d_set 2 (d_call C_gains_of (hr.mono (by decide)) (takes_of rfl rfl rfl rfl) rfl (d_acons (d_name 0) d_anil) rfl (len_cons (fun _ _ _ h => len_nil h))) sc_pay_if.nd)
    (d_one (d_ret (d_op op_addA (s_add false) (d_call C_fees_of (hr.mono (by decide)) (takes_of rfl rfl rfl rfl) rfl (d_acons (d_name 0) d_anil) rfl (len_cons (fun _ _ _ h => len_nil h))) (d_callB (cr_sumA rfl) s_sumA T.b_sum (by decide +kernel) (d_acons (d_lc false (ow := [("index", 3)]) rfl sc_pay_if.nd (i_seq (d_name 1)) (blkOk_by (N := N_pay_if) (sc := defScope s_pay_if) (by decide +kernel)) (fun _ _ _ _ _ => (g_name 3 sc_pay_if.nd)) (fun _ _ _ _ _ => d_ts0) (fun _ _ _ _ _ => (d_ix ix_seq s_ix (d_name 2) (d_name 3) fun _ _ => rfl))) d_anil)))))))
set_option maxHeartbeats 8000000 in
theorem ok_is_sequence {f : Addr} {fd : FuncData} (F : Fun K "is_sequence" "is_sequence" s_is_sequence f fd) (T : Txt K mg) (CF : Cfs K mg) : FnOk P w K mg base (L2.CX P w) 1 f fd ["value"] (spF K 1 m_is_sequence) :=
  fn_def (k := 0) F sc_is_sequence fun cdv A outer s H E hr => by
    exact ((d_one (d_ret (d_isiT T.b_isinstance (d_name 0) (pa_tys T.b_list (by decide +kernel) (pa_tys T.b_tuple (by decide +kernel) pa_tys0))))))
set_option maxHeartbeats 8000000 in
theorem ok_want_sequence {f : Addr} {fd : FuncData} (F : Fun K "want_sequence" "want_sequence" s_want_sequence f fd) (T : Txt K mg) (C_is_sequence : Cal P w K mg base 1 "is_sequence" 1 m_is_sequence) (X_BadItem : ExcTx P w K mg base "BadItem" 1 ["index"]) (CF : Cfs K mg) : FnOk P w K mg base (L2.CX P w) 3 f fd ["value"] (spF K 1 m_want_sequence) :=
  fn_def (k := 2) F sc_want_sequence fun cdv A outer s H E hr => by
    exact ((d_one (d_if (d_not (d_tst (d_call C_is_sequence (hr.mono (by decide)) (takes_of rfl rfl rfl rfl) rfl (d_acons (d_name 0) d_anil) rfl (len_cons (fun _ _ _ h => len_nil h)))))
    (d_one (d_raise X_BadItem (hr.mono (by decide)) rfl (takes_of rfl rfl rfl rfl) rfl (by decide) (d_acons d_non d_anil) rfl (len_cons (fun _ _ _ h => len_nil h))))
    d_nil)))
set_option maxHeartbeats 8000000 in
theorem ok_first_wrong {f : Addr} {fd : FuncData} (F : Fun K "first_wrong" "first_wrong" s_first_wrong f fd) (T : Txt K mg) (CF : Cfs K mg) : FnOk P w K mg base (L2.CX P w) 1 f fd ["marks"] (spF K 1 m_first_wrong) :=
  fn_def (k := 0) F sc_first_wrong fun cdv A outer s H E hr => by
    exact ((d_cons (d_for (passes_of rfl) rfl (i_enumerate T.b_enumerate (d_acons (d_name 0) d_anil)) (g_tup 2 rfl (g_cons (g_name 1 sc_first_wrong.nd) (g_cons (g_name 2 sc_first_wrong.nd) g_nil)))
    (d_one (d_if (d_not (d_tst (d_name 2)))
    (d_one (d_ret (d_name 1)))
    d_nil)))
    (d_one (d_ret d_non))))
set_option maxHeartbeats 8000000 in
theorem ok_want_right {f : Addr} {fd : FuncData} (F : Fun K "want_right" "want_right" s_want_right f fd) (T : Txt K mg) (C_first_wrong : Cal P w K mg base 1 "first_wrong" 1 m_first_wrong) (X_BadItem : ExcTx P w K mg base "BadItem" 1 ["index"]) (X_TooMany : ExcTx P w K mg base "TooMany" 1 ["limit"]) (CF : Cfs K mg) : FnOk P w K mg base (L2.CX P w) 3 f fd ["marks", "limit"] (spF K 2 m_want_right) :=
  fn_def (k := 2) F sc_want_right fun cdv A outer s H E hr => by
    exact ((d_cons (d_set 2 (d_call C_first_wrong (hr.mono (by decide)) (takes_of rfl rfl rfl rfl) rfl (d_acons (d_name 0) d_anil) rfl (len_cons (fun _ _ _ h => len_nil h))) sc_want_right.nd)
    (d_cons (d_if (d_tcmp op_notN s_notN (d_name 2) d_non (nomark _))
    (d_one (d_raise X_BadItem (hr.mono (by decide)) rfl (takes_of rfl rfl rfl rfl) rfl (by decide) (d_acons (d_name 2) d_anil) rfl (len_cons (fun _ _ _ h => len_nil h))))
    d_nil)
    (d_one (d_if (d_tcmp op_gt s_gt (d_callB call_len s_len T.b_len (by decide +kernel) (d_acons (d_name 0) d_anil)) (d_name 1) (nomark _))
    (d_one (d_raise X_TooMany (hr.mono (by decide)) rfl (takes_of rfl rfl rfl rfl) rfl (by decide) (d_acons (d_name 1) d_anil) rfl (len_cons (fun _ _ _ h => len_nil h))))
    d_nil)))))
set_option maxHeartbeats 8000000 in
theorem ok_is_row {f : Addr} {fd : FuncData} (F : Fun K "is_row" "is_row" s_is_row f fd) (T : Txt K mg) (C_is_sequence : Cal P w K mg base 1 "is_sequence" 1 m_is_sequence) (CF : Cfs K mg) : FnOk P w K mg base (L2.CX P w) 2 f fd ["value", "size"] (spF K 2 m_is_row) :=
  fn_def (k := 1) F sc_is_row fun cdv A outer s H E hr => by
    exact ((d_one (d_ret (d_andV (d_call C_is_sequence (hr.mono (by decide)) (takes_of rfl rfl rfl rfl) rfl (d_acons (d_name 0) d_anil) rfl (len_cons (fun _ _ _ h => len_nil h))) (d_oneV (d_cmp (op_eqD hr.units) s_eq (d_callB call_len s_len T.b_len (by decide +kernel) (d_acons (d_name 0) d_anil)) (d_name 1) (nomark _)))))))
set_option maxHeartbeats 8000000 in
theorem ok_is_whole {f : Addr} {fd : FuncData} (F : Fun K "is_whole" "is_whole" s_is_whole f fd) (T : Txt K mg) (CF : Cfs K mg) : FnOk P w K mg base (L2.CX P w) 1 f fd ["value"] (spF K 1 m_is_whole) :=
  fn_def (k := 0) F sc_is_whole fun cdv A outer s H E hr => by
    exact ((d_one (d_ret (d_andV (d_callB call_isi s_isi T.b_isinstance (by decide +kernel) (d_acons (d_name 0) (d_acons (d_ty T.b_int (by decide +kernel)) d_anil))) (d_oneV (d_notV (d_callB call_isi s_isi T.b_isinstance (by decide +kernel) (d_acons (d_name 0) (d_acons (d_ty T.b_bool (by decide +kernel)) d_anil)))))))))
set_option maxHeartbeats 8000000 in
theorem ok_is_between {f : Addr} {fd : FuncData} (F : Fun K "is_between" "is_between" s_is_between f fd) (T : Txt K mg) (C_is_whole : Cal P w K mg base 1 "is_whole" 1 m_is_whole) (CF : Cfs K mg) : FnOk P w K mg base (L2.CX P w) 2 f fd ["value", "least", "most"] (spF K 3 m_is_between) :=
  fn_def (k := 1) F sc_is_between fun cdv A outer s H E hr => by
    exact ((d_one (d_ret (d_andV (d_call C_is_whole (hr.mono (by decide)) (takes_of rfl rfl rfl rfl) rfl (d_acons (d_name 0) d_anil) rfl (len_cons (fun _ _ _ h => len_nil h))) (d_oneV (d_chain op_le op_le s_le s_le (d_name 1) (d_name 0) (d_name 2)))))))
set_option maxHeartbeats 8000000 in
theorem ok_is_offer {f : Addr} {fd : FuncData} (F : Fun K "is_offer" "is_offer" s_is_offer f fd) (T : Txt K mg) (C_is_row : Cal P w K mg base 2 "is_row" 2 m_is_row) (C_is_between : Cal P w K mg base 2 "is_between" 3 m_is_between) (CF : Cfs K mg) : FnOk P w K mg base (L2.CX P w) 3 f fd ["value"] (spF K 1 m_is_offer) :=
  fn_def (k := 2) F sc_is_offer fun cdv A outer s H E hr => by
    exact ((d_one (d_ret (d_andV (d_call C_is_row (hr.mono (by decide)) (takes_of rfl rfl rfl rfl) rfl (d_acons (d_name 0) (d_acons d_int d_anil)) rfl (len_cons (len_cons (fun _ _ _ h => len_nil h)))) (d_andV (d_call C_is_between (hr.mono (by decide)) (takes_of rfl rfl rfl rfl) rfl (d_acons (d_ix ix_seq s_ix (d_name 0) d_int fun _ _ => rfl) (d_acons d_int (d_acons (d_glI T.c_MOST_PAY) d_anil))) rfl (len_cons (len_cons (len_cons (fun _ _ _ h => len_nil h))))) (d_oneV (d_call C_is_between (hr.mono (by decide)) (takes_of rfl rfl rfl rfl) rfl (d_acons (d_ix ix_seq s_ix (d_name 0) d_int fun _ _ => rfl) (d_acons d_int (d_acons (d_ix ix_seq s_ix (d_name 0) d_int fun _ _ => rfl) d_anil))) rfl (len_cons (len_cons (len_cons (fun _ _ _ h => len_nil h)))))))))))
set_option maxHeartbeats 8000000 in
theorem ok_Group__len {f : Addr} {fd : FuncData} (F : Fun K "__len__" "Group.__len__" s_Group__len f fd) (T : Txt K mg) (CF : Cfs K mg) : FnOk P w K mg base (L2.CX P w) 1 f fd ["self"] (spF K 1 m_Group__len) :=
  fn_def (k := 0) F sc_Group__len fun cdv A outer s H E hr => by
    exact ((d_one (d_ret (d_callB call_len s_len T.b_len (by decide +kernel) (d_acons (d_fldI CF.fld_Group_spans (d_name 0)) d_anil)))))
set_option maxHeartbeats 8000000 in
theorem ok_want_offers {f : Addr} {fd : FuncData} (F : Fun K "want_offers" "want_offers" s_want_offers f fd) (T : Txt K mg) (C_want_sequence : Cal P w K mg base 3 "want_sequence" 1 m_want_sequence) (C_want_right : Cal P w K mg base 3 "want_right" 2 m_want_right) (C_is_offer : Cal P w K mg base 3 "is_offer" 1 m_is_offer) (D_Group__len : DunT P w K mg base 1 "Group" "__len__" 1 m_Group__len) (X_BadItem : ExcTx P w K mg base "BadItem" 1 ["index"]) (CF : Cfs K mg) : FnOk P w K mg base (L2.CX P w) 4 f fd ["group", "offers"] (spF K 2 m_want_offers) :=
  fn_def (k := 3) F sc_want_offers fun cdv A outer s H E hr => by
    exact ((d_cons (d_expr (d_call C_want_sequence (hr.mono (by decide)) (takes_of rfl rfl rfl rfl) rfl (d_acons (d_name 1) d_anil) rfl (len_cons (fun _ _ _ h => len_nil h))))
    (d_cons (d_expr (d_call C_want_right (hr.mono (by decide)) (takes_of rfl rfl rfl rfl) rfl (d_acons (d_lc false (ow := [("offer", 2)]) rfl sc_want_offers.nd (i_seq (d_name 1)) (blkOk_by (N := N_want_offers) (sc := defScope s_want_offers) (by decide +kernel)) (fun _ _ _ _ _ => (g_name 2 sc_want_offers.nd)) (fun _ _ _ _ _ => d_ts0) (fun _ _ _ _ _ => (d_call C_is_offer (hr.mono (by decide)) takes0 rfl (d_acons (d_name 2) d_anil) rfl (len_cons (fun _ _ _ h => len_nil h))))) (d_acons (d_callB call_len s_len T.b_len (by decide +kernel) (d_acons (d_name 1) d_anil)) d_anil)) rfl (len_cons (len_cons (fun _ _ _ h => len_nil h)))))
    (d_one (d_if (d_tcmp (op_neD hr.units) s_ne (d_callB call_len s_len T.b_len (by decide +kernel) (d_acons (d_name 1) d_anil)) (d_lenI D_Group__len (hr.mono (by decide)) T.b_len (d_acons (d_name 0) d_anil)) (nomark _))
    (d_one (d_raise X_BadItem (hr.mono (by decide)) rfl (takes_of rfl rfl rfl rfl) rfl (by decide) (d_acons d_non d_anil) rfl (len_cons (fun _ _ _ h => len_nil h))))
    d_nil)))))
set_option maxHeartbeats 8000000 in
theorem ok_by_gains {f : Addr} {fd : FuncData} (F : Fun K "by_gains" "by_gains" s_by_gains f fd) (T : Txt K mg) (C_gains_of : Cal P w K mg base 1 "gains_of" 1 m_gains_of) (CF : Cfs K mg) : FnOk P w K mg base (L2.CX P w) 2 f fd ["offers"] (spF K 1 m_by_gains) :=
  fn_def (k := 1) F sc_by_gains fun cdv A outer s H E hr => by
    exact ((d_one (d_ret (d_lc false (ow := [("_", 1), ("index", 2)]) rfl sc_by_gains.nd (i_seq (d_callB (SrD.cr_sortedD hr.units) (s_sortD false) T.b_sorted (by decide +kernel) (d_acons (d_lc false (ow := [("index", 2), ("gain", 3)]) rfl sc_by_gains.nd (i_enumerate T.b_enumerate (d_acons (d_call C_gains_of (hr.mono (by decide)) (takes_of rfl rfl rfl rfl) rfl (d_acons (d_name 0) d_anil) rfl (len_cons (fun _ _ _ h => len_nil h))) d_anil)) (blkOk_by (N := N_by_gains) (sc := defScope s_by_gains) (by decide +kernel)) (fun _ _ _ _ _ => (g_tupK (K := K) 2 rfl (g_cons (g_name 2 sc_by_gains.nd) (g_cons (g_name 3 sc_by_gains.nd) g_nil)))) (fun _ _ _ _ _ => d_ts0) (fun _ _ _ _ _ => (d_tup (d_acons (d_name 3) (d_acons (d_name 2) d_anil))))) d_anil))) (blkOk_by (N := N_by_gains) (sc := defScope s_by_gains) (by decide +kernel)) (fun _ _ _ _ _ => (g_tupK (K := K) 2 rfl (g_cons (g_name 1 sc_by_gains.nd) (g_cons (g_name 2 sc_by_gains.nd) g_nil)))) (fun _ _ _ _ _ => d_ts0) (fun _ _ _ _ _ => (d_name 2))))))
set_option maxHeartbeats 8000000 in
theorem ok_poorest_comers {f : Addr} {fd : FuncData} (F : Fun K "poorest_comers" "poorest_comers" s_poorest_comers f fd) (T : Txt K mg) (C_want_offers : Cal P w K mg base 4 "want_offers" 2 m_want_offers) (C_by_gains : Cal P w K mg base 2 "by_gains" 1 m_by_gains) (CF : Cfs K mg) : FnOk P w K mg base (L2.CX P w) 5 f fd ["group", "offers"] (spF K 2 m_poorest_comers) :=
  fn_def (k := 4) F sc_poorest_comers fun cdv A outer s H E hr => by
    exact ((d_cons (d_expr (d_call C_want_offers (hr.mono (by decide)) (takes_of rfl rfl rfl rfl) rfl (d_acons (d_name 0) (d_acons (d_name 1) d_anil)) rfl (len_cons (len_cons (fun _ _ _ h => len_nil h)))))
    (d_one (d_ret (d_callTy call_tuple_of s_tuple T.b_tuple (by decide +kernel) (d_acons (d_callB cr_sortedI (s_sortI false) T.b_sorted (by decide +kernel) (d_acons (d_slA false (d_call C_by_gains (hr.mono (by decide)) (takes_of rfl rfl rfl rfl) rfl (d_acons (d_name 1) d_anil) rfl (len_cons (fun _ _ _ h => len_nil h))) d_o0 (d_o1 (d_fldI CF.fld_Group_least (d_name 0)))) d_anil)) d_anil))))))
set_option maxHeartbeats 8000000 in
theorem ok_sure_pay {f : Addr} {fd : FuncData} (F : Fun K "sure_pay" "sure_pay" s_sure_pay f fd) (T : Txt K mg) (C_pay_if : Cal P w K mg base 2 "pay_if" 2 m_pay_if) (C_poorest_comers : Cal P w K mg base 5 "poorest_comers" 2 m_poorest_comers) (CF : Cfs K mg) : FnOk P w K mg base (L2.CX P w) 6 f fd ["group", "offers"] (spF K 2 m_sure_pay) :=
  fn_def (k := 5) F sc_sure_pay fun cdv A outer s H E hr => by
    exact ((d_one (d_ret (d_call C_pay_if (hr.mono (by decide)) (takes_of rfl rfl rfl rfl) rfl (d_acons (d_name 1) (d_acons (d_call C_poorest_comers (hr.mono (by decide)) (takes_of rfl rfl rfl rfl) rfl (d_acons (d_name 0) (d_acons (d_name 1) d_anil)) rfl (len_cons (len_cons (fun _ _ _ h => len_nil h)))) d_anil)) rfl (len_cons (len_cons (fun _ _ _ h => len_nil h)))))))
set_option maxHeartbeats 8000000 in
theorem ok_richest_comers {f : Addr} {fd : FuncData} (F : Fun K "richest_comers" "richest_comers" s_richest_comers f fd) (T : Txt K mg) (C_want_offers : Cal P w K mg base 4 "want_offers" 2 m_want_offers) (C_gains_of : Cal P w K mg base 1 "gains_of" 1 m_gains_of) (CF : Cfs K mg) : FnOk P w K mg base (L2.CX P w) 5 f fd ["group", "offers"] (spF K 2 m_richest_comers) :=
  fn_def (k := 4) F sc_richest_comers fun cdv A outer s H E hr => by
    exact ((d_cons (d_expr (d_call C_want_offers (hr.mono (by decide)) (takes_of rfl rfl rfl rfl) rfl (d_acons (d_name 0) (d_acons (d_name 1) d_anil)) rfl (len_cons (len_cons (fun _ _ _ h => len_nil h)))))
    (d_cons (d_set 2 (d_callB (SrD.cr_sortedD hr.units) (s_sortD false) T.b_sorted (by decide +kernel) (d_acons (d_lc false (ow := [("index", 3), ("gain", 4)]) rfl sc_richest_comers.nd (i_enumerate T.b_enumerate (d_acons (d_call C_gains_of (hr.mono (by decide)) (takes_of rfl rfl rfl rfl) rfl (d_acons (d_name 1) d_anil) rfl (len_cons (fun _ _ _ h => len_nil h))) d_anil)) (blkOk_by (N := N_richest_comers) (sc := defScope s_richest_comers) (by decide +kernel)) (fun _ _ _ _ _ => (g_tupK (K := K) 2 rfl (g_cons (g_name 3 sc_richest_comers.nd) (g_cons (g_name 4 sc_richest_comers.nd) g_nil)))) (fun _ _ _ _ _ => d_ts0) (fun _ _ _ _ _ => (d_tup (d_acons (d_un un_neg s_neg (d_name 4)) (d_acons (d_name 3) d_anil))))) d_anil)) sc_richest_comers.nd)
    (d_one (d_ret (d_callTy call_tuple_of s_tuple T.b_tuple (by decide +kernel) (d_acons (d_callB cr_sortedI (s_sortI false) T.b_sorted (by decide +kernel) (d_acons (d_lc false (ow := [("_", 5), ("index", 3)]) rfl sc_richest_comers.nd (i_seq (d_slA false (d_name 2) d_o0 (d_o1 (d_fldI CF.fld_Group_most (d_name 0))))) (blkOk_by (N := N_richest_comers) (sc := defScope s_richest_comers) (by decide +kernel)) (fun _ _ _ _ _ => (g_tupK (K := K) 2 rfl (g_cons (g_name 5 sc_richest_comers.nd) (g_cons (g_name 3 sc_richest_comers.nd) g_nil)))) (fun _ _ _ _ _ => d_ts0) (fun _ _ _ _ _ => (d_name 3))) d_anil)) d_anil)))))))
set_option maxHeartbeats 8000000 in
theorem ok_greatest_group_pay {f : Addr} {fd : FuncData} (F : Fun K "greatest_group_pay" "greatest_group_pay" s_greatest_group_pay f fd) (T : Txt K mg) (C_pay_if : Cal P w K mg base 2 "pay_if" 2 m_pay_if) (C_richest_comers : Cal P w K mg base 5 "richest_comers" 2 m_richest_comers) (CF : Cfs K mg) : FnOk P w K mg base (L2.CX P w) 6 f fd ["group", "offers"] (spF K 2 m_greatest_group_pay) :=
  fn_def (k := 5) F sc_greatest_group_pay fun cdv A outer s H E hr => by
    exact ((d_one (d_ret (d_call C_pay_if (hr.mono (by decide)) (takes_of rfl rfl rfl rfl) rfl (d_acons (d_name 1) (d_acons (d_call C_richest_comers (hr.mono (by decide)) (takes_of rfl rfl rfl rfl) rfl (d_acons (d_name 0) (d_acons (d_name 1) d_anil)) rfl (len_cons (len_cons (fun _ _ _ h => len_nil h)))) d_anil)) rfl (len_cons (len_cons (fun _ _ _ h => len_nil h)))))))
set_option maxHeartbeats 8000000 in
theorem okq__law_whole {f : Addr} {fd : FuncData} (F : Fun K "_law_whole" "_law_whole" s__law_whole f fd) (T : Txt K mg) : FnQ P w K mg base (L2.CX P w) 1 f fd ["value"] (spF K 1 m__law_whole) :=
  fn_hot (k := 0) F sc__law_whole fun cdv A outer s H E p hr => by
    exact ((d_one (d_ret (d_andV (d_callB call_isi s_isi T.b_isinstance (by decide +kernel) (d_acons (d_name 0) (d_acons (d_ty T.b_int (by decide +kernel)) d_anil))) (d_oneV (d_notV (d_callB call_isi s_isi T.b_isinstance (by decide +kernel) (d_acons (d_name 0) (d_acons (d_ty T.b_bool (by decide +kernel)) d_anil)))))))))
theorem ok__law_whole {f : Addr} {fd : FuncData} (F : Fun K "_law_whole" "_law_whole" s__law_whole f fd) (T : Txt K mg) (CF : Cfs K mg) : FnOk P w K mg base (L2.CX P w) 1 f fd ["value"] (spF K 1 m__law_whole) :=
  fn_def (k := 0) F sc__law_whole fun cdv A outer s H E hr => by
    exact ((d_one (d_ret (d_andV (d_callB call_isi s_isi T.b_isinstance (by decide +kernel) (d_acons (d_name 0) (d_acons (d_ty T.b_int (by decide +kernel)) d_anil))) (d_oneV (d_notV (d_callB call_isi s_isi T.b_isinstance (by decide +kernel) (d_acons (d_name 0) (d_acons (d_ty T.b_bool (by decide +kernel)) d_anil)))))))))
set_option maxHeartbeats 8000000 in
theorem ok_least_for {f : Addr} {fd : FuncData} (F : Fun K "least_for" "least_for" s_least_for f fd) (T : Txt K mg) (C_want_offers : Cal P w K mg base 4 "want_offers" 2 m_want_offers) (C_by_gains : Cal P w K mg base 2 "by_gains" 1 m_by_gains) (C_pay_if : Cal P w K mg base 2 "pay_if" 2 m_pay_if) (CF : Cfs K mg) : FnOk P w K mg base (L2.CX P w) 5 f fd ["group", "offers", "wanted"] (spF K 3 m_least_for) :=
  fn_def (k := 4) F sc_least_for fun cdv A outer s H E hr => by
    exact ((d_cons (d_expr (d_call C_want_offers (hr.mono (by decide)) (takes_of rfl rfl rfl rfl) rfl (d_acons (d_name 0) (d_acons (d_name 1) d_anil)) rfl (len_cons (len_cons (fun _ _ _ h => len_nil h)))))
    (d_cons (d_set 3 (d_call C_by_gains (hr.mono (by decide)) (takes_of rfl rfl rfl rfl) rfl (d_acons (d_name 1) d_anil) rfl (len_cons (fun _ _ _ h => len_nil h))) sc_least_for.nd)
    (d_cons (d_for (passes_of rfl) rfl (i_rng1 T.b_range (d_acons (d_op op_addA (s_add false) (d_fldI CF.fld_Group_most (d_name 0)) d_int) d_anil)) (g_name 4 sc_least_for.nd)
    (d_one (d_if (d_tcmp op_ge s_ge (d_call C_pay_if (hr.mono (by decide)) (takes_of rfl rfl rfl rfl) rfl (d_acons (d_name 1) (d_acons (d_slA false (d_name 3) d_o0 (d_o1 (d_name 4))) d_anil)) rfl (len_cons (len_cons (fun _ _ _ h => len_nil h)))) (d_name 2) (nomark _))
    (d_one (d_ret (d_name 4)))
    d_nil)))
    (d_one (d_ret d_non))))))
set_option maxHeartbeats 8000000 in
theorem ok__law_refused {f : Addr} {fd : FuncData} (F : Fun K "_law_refused" "_law_refused" s__law_refused f fd) (T : Txt K mg) (H__law_whole : CalQ P w K mg base 1 "_law_whole" 1 m__law_whole) (C_sure_pay : Cal P w K mg base 6 "sure_pay" 2 m_sure_pay) (C_greatest_group_pay : Cal P w K mg base 6 "greatest_group_pay" 2 m_greatest_group_pay) (C_poorest_comers : Cal P w K mg base 5 "poorest_comers" 2 m_poorest_comers) (C_richest_comers : Cal P w K mg base 5 "richest_comers" 2 m_richest_comers) (C_least_for : Cal P w K mg base 5 "least_for" 3 m_least_for) (EX : Errs K mg) (CF : Cfs K mg) : FnOk P w K mg base (L2.CX P w) 7 f fd ["group", "offers", "index"] (spF K 3 m__law_refused) :=
  fn_def (k := 6) F sc__law_refused fun cdv A outer s H E hr => by
    exact ((d_cons (d_for (passes_of rfl) rfl (i_rng1 T.b_range (d_acons d_int d_anil)) (g_name 3 sc__law_refused.nd)
    (d_one (d_tryL rfl rfl sc__law_refused.nd (takes_of rfl rfl rfl rfl) (fun W pn xe tk po =>
    (d_cons (d_if (d_tcmp (op_eqD hr.units) s_eq (d_name 3) d_int (nomark _))
    (d_one (d_expr (d_call C_sure_pay (hr.mono (by decide)) tk rfl (d_acons (d_name 0) (d_acons (d_name 1) d_anil)) rfl (len_cons (len_cons (fun _ _ _ h => len_nil h))))))
    (d_one (d_if (d_tcmp (op_eqD hr.units) s_eq (d_name 3) d_int (nomark _))
    (d_one (d_expr (d_call C_greatest_group_pay (hr.mono (by decide)) tk rfl (d_acons (d_name 0) (d_acons (d_name 1) d_anil)) rfl (len_cons (len_cons (fun _ _ _ h => len_nil h))))))
    (d_one (d_if (d_tcmp (op_eqD hr.units) s_eq (d_name 3) d_int (nomark _))
    (d_one (d_expr (d_call C_poorest_comers (hr.mono (by decide)) tk rfl (d_acons (d_name 0) (d_acons (d_name 1) d_anil)) rfl (len_cons (len_cons (fun _ _ _ h => len_nil h))))))
    (d_one (d_if (d_tcmp (op_eqD hr.units) s_eq (d_name 3) d_int (nomark _))
    (d_one (d_expr (d_call C_richest_comers (hr.mono (by decide)) tk rfl (d_acons (d_name 0) (d_acons (d_name 1) d_anil)) rfl (len_cons (len_cons (fun _ _ _ h => len_nil h))))))
    (d_one (d_expr (d_call C_least_for (hr.mono (by decide)) tk rfl (d_acons (d_name 0) (d_acons (d_name 1) (d_acons d_int d_anil))) rfl (len_cons (len_cons (len_cons (fun _ _ _ h => len_nil h))))))))))))))
    (d_one (d_ret d_bl))))
    (AsD.cons rfl rfl ⟨rfl, by decide, .inl EX.g_BadItem⟩ EX.t_BadItem (fun a oe cls d pn C hz hf ec => (d_one (d_if (PW.pt (d_or (d_tcmp (op_neD hr.units) s_ne (d_fld ec (fun _ => EX.x_BadItem_index) hz hf (d_name 4)) (d_name 2) (nomark _)) (d_or1 (d_tcmp (op_neD hr.units) s_ne (d_callQ H__law_whole List.mem_cons_self (roomQ hr (by decide)) takes0 rfl (d_acons (d_fld ec (fun _ => EX.x_BadItem_index) hz hf (d_name 4)) d_anil) rfl (len_cons (fun _ _ _ h => len_nil h))) (d_callQ H__law_whole List.mem_cons_self (roomQ hr (by decide)) takes0 rfl (d_acons (d_name 2) d_anil) rfl (len_cons (fun _ _ _ h => len_nil h))) (nomark _)))))
    (d_one (d_ret d_bl))
    d_nil))) AsD.nil))))
    (d_one (d_ret d_bl))))
set_option maxHeartbeats 8000000 in
theorem ok__law_name {f : Addr} {fd : FuncData} (F : Fun K "_law_name" "_law_name" s__law_name f fd) (T : Txt K mg) (C__law_pick : Cal P w K mg base 2 "_law_pick" 2 m__law_pick) (C__law_taken : Cal P w K mg base 1 "_law_taken" 2 m__law_taken) (CF : Cfs K mg) : FnOk P w K mg base (L2.CX P w) 3 f fd ["row"] (spF K 1 m__law_name) :=
  fn_def (k := 2) F sc__law_name fun cdv A outer s H E hr => by
    exact ((d_cons (d_set 1 d_str sc__law_name.nd)
    (d_cons (d_set 2 (d_call C__law_pick (hr.mono (by decide)) (takes_of rfl rfl rfl rfl) rfl (d_acons (d_name 0) (d_acons (d_lst false (d_acons d_int (d_acons d_int (d_acons d_int (d_acons d_int (d_acons d_int (d_acons d_int d_anil))))))) d_anil)) rfl (len_cons (len_cons (fun _ _ _ h => len_nil h)))) sc__law_name.nd)
    (d_cons (d_set 3 (d_ix ix_seq s_ix (d_name 1) (d_call C__law_taken (hr.mono (by decide)) (takes_of rfl rfl rfl rfl) rfl (d_acons (d_name 0) (d_acons d_int d_anil)) rfl (len_cons (len_cons (fun _ _ _ h => len_nil h)))) fun _ _ => rfl) sc__law_name.nd)
    (d_cons (d_for (passes_of rfl) rfl (i_rng1 T.b_range (d_acons (d_op op_sub s_sub (d_name 2) d_int) d_anil)) (g_name 4 sc__law_name.nd)
    (d_one (d_set 3 (d_op op_addA (s_add false) (d_name 3) (d_ix ix_seq s_ix (d_name 1) (d_call C__law_taken (hr.mono (by decide)) (takes_of rfl rfl rfl rfl) rfl (d_acons (d_name 0) (d_acons d_int d_anil)) rfl (len_cons (len_cons (fun _ _ _ h => len_nil h)))) fun _ _ => rfl)) sc__law_name.nd)))
    (d_one (d_ret (d_name 3))))))))
set_option maxHeartbeats 8000000 in
theorem ok__law_if {f : Addr} {fd : FuncData} (F : Fun K "_law_if" "_law_if" s__law_if f fd) (T : Txt K mg) (CF : Cfs K mg) : FnOk P w K mg base (L2.CX P w) 1 f fd ["offers", "comers"] (spF K 2 m__law_if) :=
  fn_def (k := 0) F sc__law_if fun cdv A outer s H E hr => by
    exact ((d_one (d_ret (d_callB (cr_sumA rfl) s_sumA T.b_sum (by decide +kernel) (d_acons (d_lc false (ow := [("k", 2)]) rfl sc__law_if.nd (i_rng1 T.b_range (d_acons (d_callB call_len s_len T.b_len (by decide +kernel) (d_acons (d_name 0) d_anil)) d_anil)) (blkOk_by (N := N__law_if) (sc := defScope s__law_if) (by decide +kernel)) (fun _ _ _ _ _ => (g_name 2 sc__law_if.nd)) (fun _ _ _ _ _ => d_ts0) (fun _ _ _ _ _ => (d_ix ix_seq s_ix (d_ix ix_seq s_ix (d_name 0) (d_name 2) fun _ _ => rfl) (d_callTy call_int1 s_int T.b_int (by decide +kernel) (d_acons (d_cmp op_notIn_seq (s_in true) (d_name 2) (d_name 1) rfl) d_anil)) fun _ _ => rfl))) d_anil)))))
set_option maxHeartbeats 8000000 in
theorem ok__law_alike {f : Addr} {fd : FuncData} (F : Fun K "_law_alike" "_law_alike" s__law_alike f fd) (T : Txt K mg) (hm : mg "_law_alike" = some (.ref f)) (hb : Binds K fd ["found", "due"] []) (CF : Cfs K mg) : ∀ n, FnOk P w K mg base (L2.CX P w) (n + 1) f fd ["found", "due"] (spF K 2 (m__law_alike n))
  | 0 => ⟨fun vs H Q E h => h.1, fun A outer s H args us vs Q E _ _ _ _ h => by obtain ⟨_, _, _, _, _, _, _, _, z⟩ := h; exact z.elim⟩
  | n + 1 => by
    have C__law_alike : Cal P w K mg base (n + 1) "_law_alike" 2 (m__law_alike n) := ⟨f, fd, ["found", "due"], hm, F.kp, hb, rfl, ok__law_alike F T hm hb CF n⟩
    have q : FnOk P w K mg base (L2.CX P w) (n + 1 + 1) f fd ["found", "due"] (spF K 2 (m__law_alike (n + 1))) := fn_def (k := n + 1) F sc__law_alike fun cdv A outer s H E hr => by
      exact ((d_cons (d_if (d_tst (d_isiT T.b_isinstance (d_name 1) (pa_tys T.b_tuple (by decide +kernel) (pa_tys T.b_list (by decide +kernel) pa_tys0))))
    (d_cons (d_if (PW.pt (d_or (d_not (d_tst (d_isiT T.b_isinstance (d_name 0) (pa_tys T.b_tuple (by decide +kernel) (pa_tys T.b_list (by decide +kernel) pa_tys0))))) (d_or1 (d_tcmp (op_neD hr.units) s_ne (d_callB call_isi s_isi T.b_isinstance (by decide +kernel) (d_acons (d_name 0) (d_acons (d_ty T.b_list (by decide +kernel)) d_anil))) (d_callB call_isi s_isi T.b_isinstance (by decide +kernel) (d_acons (d_name 1) (d_acons (d_ty T.b_list (by decide +kernel)) d_anil))) (nomark _)))))
    (d_one (d_ret d_bl))
    d_nil)
    (d_cons (d_if (d_tcmp (op_neD hr.units) s_ne (d_callB call_len s_len T.b_len (by decide +kernel) (d_acons (d_name 0) d_anil)) (d_callB call_len s_len T.b_len (by decide +kernel) (d_acons (d_name 1) d_anil)) (nomark _))
    (d_one (d_ret d_bl))
    d_nil)
    (d_one (d_ret (d_cmp (op_eqD hr.units) s_eq (d_lc false (ow := [("k", 2)]) rfl sc__law_alike.nd (i_rng1 T.b_range (d_acons (d_callB call_len s_len T.b_len (by decide +kernel) (d_acons (d_name 1) d_anil)) d_anil)) (blkOk_by (N := N__law_alike) (sc := defScope s__law_alike) (by decide +kernel)) (fun _ _ _ _ _ => (g_name 2 sc__law_alike.nd)) (fun _ _ _ _ _ => (d_ts1 (d_not (d_tst (d_call C__law_alike hr takes0 rfl (d_acons (d_ix ix_seq s_ix (d_name 0) (d_name 2) fun _ _ => rfl) (d_acons (d_ix ix_seq s_ix (d_name 1) (d_name 2) fun _ _ => rfl) d_anil)) rfl (len_cons (len_cons (fun _ _ _ h => len_nil h)))))))) (fun _ _ _ _ _ => (d_name 2))) (d_lst false d_anil) (nomark _))))))
    d_nil)
    (d_cons (d_if (PW.pt (d_or (d_tcmp op_isN s_isN (d_name 1) d_non (nomark _)) (d_or1 (d_tst (d_callB call_isi s_isi T.b_isinstance (by decide +kernel) (d_acons (d_name 1) (d_acons (d_ty T.b_str (by decide +kernel)) d_anil)))))))
    (d_one (d_ret (d_andV (d_cmp (op_eqD hr.units) s_eq (d_name 0) (d_name 1) (nomark _)) (d_oneV (d_cmp (op_eqD hr.units) s_eq (d_callB call_isi s_isi T.b_isinstance (by decide +kernel) (d_acons (d_name 0) (d_acons (d_ty T.b_str (by decide +kernel)) d_anil))) (d_callB call_isi s_isi T.b_isinstance (by decide +kernel) (d_acons (d_name 1) (d_acons (d_ty T.b_str (by decide +kernel)) d_anil))) (nomark _))))))
    d_nil)
    (d_one (d_ret (d_andV (d_callB call_isi s_isi T.b_isinstance (by decide +kernel) (d_acons (d_name 0) (d_acons (d_ty T.b_int (by decide +kernel)) d_anil))) (d_andV (d_cmp (op_eqD hr.units) s_eq (d_callB call_isi s_isi T.b_isinstance (by decide +kernel) (d_acons (d_name 0) (d_acons (d_ty T.b_bool (by decide +kernel)) d_anil))) (d_callB call_isi s_isi T.b_isinstance (by decide +kernel) (d_acons (d_name 1) (d_acons (d_ty T.b_bool (by decide +kernel)) d_anil))) (nomark _)) (d_oneV (d_cmp (op_eqD hr.units) s_eq (d_name 0) (d_name 1) (nomark _))))))))))
    rw [show n + 1 + 1 = n + 1 + 1 by omega]
    exact q
set_option maxHeartbeats 8000000 in
theorem ok_all_sure {f : Addr} {fd : FuncData} (F : Fun K "all_sure" "all_sure" s_all_sure f fd) (T : Txt K mg) (C_sure_pay : Cal P w K mg base 6 "sure_pay" 2 m_sure_pay) (CF : Cfs K mg) : FnOk P w K mg base (L2.CX P w) 7 f fd ["groups", "offers"] (spF K 2 m_all_sure) :=
  fn_def (k := 6) F sc_all_sure fun cdv A outer s H E hr => by
    exact ((d_one (d_ret (d_callB (cr_sumA rfl) s_sumA T.b_sum (by decide +kernel) (d_acons (d_lc false (ow := [("group", 2), ("own", 3)]) rfl sc_all_sure.nd (i_zip T.b_zip (d_acons (d_name 0) (d_acons (d_name 1) d_anil))) (blkOk_by (N := N_all_sure) (sc := defScope s_all_sure) (by decide +kernel)) (fun _ _ _ _ _ => (g_tupK (K := K) 2 rfl (g_cons (g_name 2 sc_all_sure.nd) (g_cons (g_name 3 sc_all_sure.nd) g_nil)))) (fun _ _ _ _ _ => d_ts0) (fun _ _ _ _ _ => (d_call C_sure_pay (hr.mono (by decide)) takes0 rfl (d_acons (d_name 2) (d_acons (d_name 3) d_anil)) rfl (len_cons (len_cons (fun _ _ _ h => len_nil h)))))) d_anil)))))
set_option maxHeartbeats 8000000 in
theorem ok_sure_request {f : Addr} {fd : FuncData} (F : Fun K "sure_request" "sure_request" s_sure_request f fd) (T : Txt K mg) (CF : Cfs K mg) : FnOk P w K mg base (L2.CX P w) 1 f fd ["pay", "fee"] (spF K 2 m_sure_request) :=
  fn_def (k := 0) F sc_sure_request fun cdv A outer s H E hr => by
    exact ((d_one (d_ret (d_callB (call_min2 rfl) s_min2 T.b_min (by decide +kernel) (d_acons (d_name 0) (d_acons (d_name 1) d_anil))))))
set_option maxHeartbeats 8000000 in
theorem ok__law_subsets {f : Addr} {fd : FuncData} (F : Fun K "_law_subsets" "_law_subsets" s__law_subsets f fd) (T : Txt K mg) (CF : Cfs K mg) : FnOk P w K mg base (L2.CX P w) 1 f fd ["many"] (spF K 1 m__law_subsets) :=
  fn_def (k := 0) F sc__law_subsets fun cdv A outer s H E hr => by
    exact ((d_cons (d_set 1 (d_lst false (d_acons (d_lst false d_anil) d_anil)) sc__law_subsets.nd)
    (d_cons (d_for (passes_of rfl) rfl (i_rng1 T.b_range (d_acons (d_name 0) d_anil)) (g_name 2 sc__law_subsets.nd)
    (d_one (d_set 1 (d_op op_addA (s_add false) (d_name 1) (d_lc false (ow := [("chosen", 3)]) rfl sc__law_subsets.nd (i_seq (d_name 1)) (blkOk_by (N := N__law_subsets) (sc := defScope s__law_subsets) (by decide +kernel)) (fun _ _ _ _ _ => (g_name 3 sc__law_subsets.nd)) (fun _ _ _ _ _ => d_ts0) (fun _ _ _ _ _ => (d_op op_addA (s_add false) (d_name 3) (d_lst false (d_acons (d_name 2) d_anil)))))) sc__law_subsets.nd)))
    (d_one (d_ret (d_name 1))))))
set_option maxHeartbeats 8000000 in
theorem ok_pay_spread {f : Addr} {fd : FuncData} (F : Fun K "pay_spread" "pay_spread" s_pay_spread f fd) (T : Txt K mg) (C_greatest_group_pay : Cal P w K mg base 6 "greatest_group_pay" 2 m_greatest_group_pay) (C_sure_pay : Cal P w K mg base 6 "sure_pay" 2 m_sure_pay) (CF : Cfs K mg) : FnOk P w K mg base (L2.CX P w) 7 f fd ["group", "offers"] (spF K 2 m_pay_spread) :=
  fn_def (k := 6) F sc_pay_spread fun cdv A outer s H E hr => by
    exact ((d_one (d_ret (d_op op_sub s_sub (d_call C_greatest_group_pay (hr.mono (by decide)) (takes_of rfl rfl rfl rfl) rfl (d_acons (d_name 0) (d_acons (d_name 1) d_anil)) rfl (len_cons (len_cons (fun _ _ _ h => len_nil h)))) (d_call C_sure_pay (hr.mono (by decide)) (takes_of rfl rfl rfl rfl) rfl (d_acons (d_name 0) (d_acons (d_name 1) d_anil)) rfl (len_cons (len_cons (fun _ _ _ h => len_nil h))))))))
set_option maxHeartbeats 8000000 in
theorem ok_is_name {f : Addr} {fd : FuncData} (F : Fun K "is_name" "is_name" s_is_name f fd) (T : Txt K mg) (CF : Cfs K mg) : FnOk P w K mg base (L2.CX P w) 1 f fd ["value"] (spF K 1 m_is_name) :=
  fn_def (k := 0) F sc_is_name fun cdv A outer s H E hr => by
    exact ((d_cons (d_if (PW.pt (d_or (d_not (d_tst (d_callB call_isi s_isi T.b_isinstance (by decide +kernel) (d_acons (d_name 0) (d_acons (d_ty T.b_str (by decide +kernel)) d_anil))))) (d_or1 (d_not (d_tchain op_le op_le s_le s_le d_int (d_callB call_len s_len T.b_len (by decide +kernel) (d_acons (d_name 0) d_anil)) (d_glI T.c_LONGEST_NAME))))))
    (d_one (d_ret d_bl))
    d_nil)
    (d_one (d_ret (d_andV (d_alt (d_cmp op_in_seq (s_in false) (d_ix ix_seq s_ix (d_name 0) d_int fun _ _ => rfl) (d_glS T.c_LETTERS) rfl) (d_cmp op_in_str s_inS (d_ix ix_seq s_ix (d_name 0) d_int fun _ _ => rfl) (d_glS T.c_LETTERS) rfl)) (d_oneV (d_callB (cr_all rfl) s_all T.b_all (by decide +kernel) (d_acons (d_lc false (ow := [("sign", 1)]) rfl sc_is_name.nd (i_str (d_name 0)) (blkOk_by (N := N_is_name) (sc := defScope s_is_name) (by decide +kernel)) (fun _ _ _ _ _ => (g_name 1 sc_is_name.nd)) (fun _ _ _ _ _ => d_ts0) (fun _ _ _ _ _ => (d_orV (d_alt (d_cmp op_in_seq (s_in false) (d_name 1) (d_glS T.c_LETTERS) rfl) (d_cmp op_in_str s_inS (d_name 1) (d_glS T.c_LETTERS) rfl)) (d_oneV (d_alt (d_cmp op_in_seq (s_in false) (d_name 1) (d_glS T.c_FIGURES) rfl) (d_cmp op_in_str s_inS (d_name 1) (d_glS T.c_FIGURES) rfl)))))) d_anil))))))))
set_option maxHeartbeats 8000000 in
theorem ok_want_name {f : Addr} {fd : FuncData} (F : Fun K "want_name" "want_name" s_want_name f fd) (T : Txt K mg) (C_is_name : Cal P w K mg base 1 "is_name" 1 m_is_name) (X_BadName : ExcTx P w K mg base "BadName" 1 ["value"]) (CF : Cfs K mg) : FnOk P w K mg base (L2.CX P w) 3 f fd ["value"] (spF K 1 m_want_name) :=
  fn_def (k := 2) F sc_want_name fun cdv A outer s H E hr => by
    exact ((d_one (d_if (d_not (d_tst (d_call C_is_name (hr.mono (by decide)) (takes_of rfl rfl rfl rfl) rfl (d_acons (d_name 0) d_anil) rfl (len_cons (fun _ _ _ h => len_nil h)))))
    (d_one (d_raise X_BadName (hr.mono (by decide)) rfl (takes_of rfl rfl rfl rfl) rfl (by decide) (d_acons (d_name 0) d_anil) rfl (len_cons (fun _ _ _ h => len_nil h))))
    d_nil)))
set_option maxHeartbeats 8000000 in
theorem ok_is_night {f : Addr} {fd : FuncData} (F : Fun K "is_night" "is_night" s_is_night f fd) (T : Txt K mg) (C_is_between : Cal P w K mg base 2 "is_between" 3 m_is_between) (CF : Cfs K mg) : FnOk P w K mg base (L2.CX P w) 3 f fd ["value"] (spF K 1 m_is_night) :=
  fn_def (k := 2) F sc_is_night fun cdv A outer s H E hr => by
    exact ((d_one (d_ret (d_call C_is_between (hr.mono (by decide)) (takes_of rfl rfl rfl rfl) rfl (d_acons (d_name 0) (d_acons d_int (d_acons (d_glI T.c_LAST_NIGHT) d_anil))) rfl (len_cons (len_cons (len_cons (fun _ _ _ h => len_nil h))))))))
set_option maxHeartbeats 8000000 in
theorem ok_is_span {f : Addr} {fd : FuncData} (F : Fun K "is_span" "is_span" s_is_span f fd) (T : Txt K mg) (C_is_row : Cal P w K mg base 2 "is_row" 2 m_is_row) (C_is_night : Cal P w K mg base 3 "is_night" 1 m_is_night) (C_is_between : Cal P w K mg base 2 "is_between" 3 m_is_between) (CF : Cfs K mg) : FnOk P w K mg base (L2.CX P w) 4 f fd ["value"] (spF K 1 m_is_span) :=
  fn_def (k := 3) F sc_is_span fun cdv A outer s H E hr => by
    exact ((d_cons (d_if (d_not (d_tst (d_call C_is_row (hr.mono (by decide)) (takes_of rfl rfl rfl rfl) rfl (d_acons (d_name 0) (d_acons d_int d_anil)) rfl (len_cons (len_cons (fun _ _ _ h => len_nil h))))))
    (d_one (d_ret d_bl))
    d_nil)
    (d_cons (d_asg (d_name 0) (g_tup 2 rfl (g_cons (g_name 1 sc_is_span.nd) (g_cons (g_name 2 sc_is_span.nd) g_nil))))
    (d_one (d_ret (d_andV (d_call C_is_night (hr.mono (by decide)) (takes_of rfl rfl rfl rfl) rfl (d_acons (d_name 1) d_anil) rfl (len_cons (fun _ _ _ h => len_nil h))) (d_oneV (d_call C_is_between (hr.mono (by decide)) (takes_of rfl rfl rfl rfl) rfl (d_acons (d_name 2) (d_acons (d_op op_addA (s_add false) (d_name 1) d_int) (d_acons (d_op op_addA (s_add false) (d_glI T.c_LAST_NIGHT) d_int) d_anil))) rfl (len_cons (len_cons (len_cons (fun _ _ _ h => len_nil h))))))))))))
set_option maxHeartbeats 8000000 in
theorem ok_copied_spans {f : Addr} {fd : FuncData} (F : Fun K "copied_spans" "copied_spans" s_copied_spans f fd) (T : Txt K mg) (C_want_sequence : Cal P w K mg base 3 "want_sequence" 1 m_want_sequence) (C_want_right : Cal P w K mg base 3 "want_right" 2 m_want_right) (C_is_span : Cal P w K mg base 4 "is_span" 1 m_is_span) (CF : Cfs K mg) : FnOk P w K mg base (L2.CX P w) 5 f fd ["value", "limit"] (spF K 2 m_copied_spans) :=
  fn_def (k := 4) F sc_copied_spans fun cdv A outer s H E hr => by
    exact ((d_cons (d_expr (d_call C_want_sequence (hr.mono (by decide)) (takes_of rfl rfl rfl rfl) rfl (d_acons (d_name 0) d_anil) rfl (len_cons (fun _ _ _ h => len_nil h))))
    (d_cons (d_expr (d_call C_want_right (hr.mono (by decide)) (takes_of rfl rfl rfl rfl) rfl (d_acons (d_lc false (ow := [("item", 2)]) rfl sc_copied_spans.nd (i_seq (d_name 0)) (blkOk_by (N := N_copied_spans) (sc := defScope s_copied_spans) (by decide +kernel)) (fun _ _ _ _ _ => (g_name 2 sc_copied_spans.nd)) (fun _ _ _ _ _ => d_ts0) (fun _ _ _ _ _ => (d_call C_is_span (hr.mono (by decide)) takes0 rfl (d_acons (d_name 2) d_anil) rfl (len_cons (fun _ _ _ h => len_nil h))))) (d_acons (d_name 1) d_anil)) rfl (len_cons (len_cons (fun _ _ _ h => len_nil h)))))
    (d_one (d_ret (d_callTy call_tuple_of s_tuple T.b_tuple (by decide +kernel) (d_acons (d_lc false (ow := [("item", 2)]) rfl sc_copied_spans.nd (i_seq (d_name 0)) (blkOk_by (N := N_copied_spans) (sc := defScope s_copied_spans) (by decide +kernel)) (fun _ _ _ _ _ => (g_name 2 sc_copied_spans.nd)) (fun _ _ _ _ _ => d_ts0) (fun _ _ _ _ _ => (d_callTy call_tuple_of s_tuple T.b_tuple (by decide +kernel) (d_acons (d_name 2) d_anil)))) d_anil)))))))
set_option maxHeartbeats 8000000 in
theorem ok_want_number {f : Addr} {fd : FuncData} (F : Fun K "want_number" "want_number" s_want_number f fd) (T : Txt K mg) (C_is_between : Cal P w K mg base 2 "is_between" 3 m_is_between) (X_BadNumber : ExcTx P w K mg base "BadNumber" 1 ["value"]) (CF : Cfs K mg) : FnOk P w K mg base (L2.CX P w) 3 f fd ["value", "least", "most"] (spF K 3 m_want_number) :=
  fn_def (k := 2) F sc_want_number fun cdv A outer s H E hr => by
    exact ((d_one (d_if (d_not (d_tst (d_call C_is_between (hr.mono (by decide)) (takes_of rfl rfl rfl rfl) rfl (d_acons (d_name 0) (d_acons (d_name 1) (d_acons (d_name 2) d_anil))) rfl (len_cons (len_cons (len_cons (fun _ _ _ h => len_nil h)))))))
    (d_one (d_raise X_BadNumber (hr.mono (by decide)) rfl (takes_of rfl rfl rfl rfl) rfl (by decide) (d_acons (d_name 0) d_anil) rfl (len_cons (fun _ _ _ h => len_nil h))))
    d_nil)))
set_option maxHeartbeats 8000000 in
theorem ok_Group__init {f : Addr} {fd : FuncData} {dvs : List V} (F : FunD K "__init__" "Group.__init__" (defArgs s_Group__init) (defBody s_Group__init) (defScope s_Group__init) dvs [] f fd) (T : Txt K mg) (C_want_name : Cal P w K mg base 3 "want_name" 1 m_want_name) (C_copied_spans : Cal P w K mg base 5 "copied_spans" 2 m_copied_spans) (C_want_number : Cal P w K mg base 3 "want_number" 3 m_want_number) (CF : Cfs K mg) : FnOk P w K mg base (L2.CX P w) 6 f fd ["self", "name", "spans", "least", "most", "late_guests", "late_nights"] (spF K 7 m_Group__init) :=
  fn_defD (k := 5) F sc_Group__init fun cdv A outer s H E hr => by
    exact ((d_cons (d_expr (d_call C_want_name (hr.mono (by decide)) (takes_of rfl rfl rfl rfl) rfl (d_acons (d_name 1) d_anil) rfl (len_cons (fun _ _ _ h => len_nil h))))
    (d_cons (d_set 7 (d_call C_copied_spans (hr.mono (by decide)) (takes_of rfl rfl rfl rfl) rfl (d_acons (d_name 2) (d_acons (d_glI T.c_MOST_STAYS) d_anil)) rfl (len_cons (len_cons (fun _ _ _ h => len_nil h)))) sc_Group__init.nd)
    (d_cons (d_expr (d_call C_want_number (hr.mono (by decide)) (takes_of rfl rfl rfl rfl) rfl (d_acons (d_name 4) (d_acons d_int (d_acons (d_callB call_len s_len T.b_len (by decide +kernel) (d_acons (d_name 7) d_anil)) d_anil))) rfl (len_cons (len_cons (len_cons (fun _ _ _ h => len_nil h))))))
    (d_cons (d_expr (d_call C_want_number (hr.mono (by decide)) (takes_of rfl rfl rfl rfl) rfl (d_acons (d_name 3) (d_acons d_int (d_acons (d_name 4) d_anil))) rfl (len_cons (len_cons (len_cons (fun _ _ _ h => len_nil h))))))
    (d_cons (d_expr (d_call C_want_number (hr.mono (by decide)) (takes_of rfl rfl rfl rfl) rfl (d_acons (d_name 5) (d_acons d_int (d_acons (d_name 4) d_anil))) rfl (len_cons (len_cons (len_cons (fun _ _ _ h => len_nil h))))))
    (d_cons (d_expr (d_call C_want_number (hr.mono (by decide)) (takes_of rfl rfl rfl rfl) rfl (d_acons (d_name 6) (d_acons d_int (d_acons (d_glI T.c_MOST_LATE_NIGHTS) d_anil))) rfl (len_cons (len_cons (len_cons (fun _ _ _ h => len_nil h))))))
    (d_cons (d_setI CF.fld_Group_name (d_name 1) (d_name 0))
    (d_cons (d_setI CF.fld_Group_spans (d_name 7) (d_name 0))
    (d_cons (d_setI CF.fld_Group_least (d_name 3) (d_name 0))
    (d_cons (d_setI CF.fld_Group_most (d_name 4) (d_name 0))
    (d_cons (d_setI CF.fld_Group_late_guests (d_name 5) (d_name 0))
    (d_one (d_setI CF.fld_Group_late_nights (d_name 6) (d_name 0)))))))))))))))
set_option maxHeartbeats 8000000 in
theorem ok_law {f cT : Addr} {fd : FuncData} (F : Fun K "law" "law" s_law f fd) (T : Txt K mg) (hcT : fd.code = .ref cT) (TB : LamX.TabB base mg cT TabA.P) (C__law_taken : Cal P w K mg base 1 "_law_taken" 2 m__law_taken) (C__law_spans : Cal P w K mg base 3 "_law_spans" 4 m__law_spans) (C__law_handed : Cal P w K mg base 3 "_law_handed" 2 m__law_handed) (C__law_subset : Cal P w K mg base 2 "_law_subset" 2 m__law_subset) (C__law_pick : Cal P w K mg base 2 "_law_pick" 2 m__law_pick) (C__law_refused : Cal P w K mg base 7 "_law_refused" 3 m__law_refused) (C__law_name : Cal P w K mg base 3 "_law_name" 1 m__law_name) (C__law_if : Cal P w K mg base 1 "_law_if" 2 m__law_if) (C__law_alike : Cal P w K mg base 9 "_law_alike" 2 (m__law_alike 8)) (C_pay_if : Cal P w K mg base 2 "pay_if" 2 m_pay_if) (C_least_for : Cal P w K mg base 5 "least_for" 3 m_least_for) (C_all_sure : Cal P w K mg base 7 "all_sure" 2 m_all_sure) (C_sure_request : Cal P w K mg base 1 "sure_request" 2 m_sure_request) (C__law_subsets : Cal P w K mg base 1 "_law_subsets" 1 m__law_subsets) (C_sure_pay : Cal P w K mg base 6 "sure_pay" 2 m_sure_pay) (C_greatest_group_pay : Cal P w K mg base 6 "greatest_group_pay" 2 m_greatest_group_pay) (C_pay_spread : Cal P w K mg base 7 "pay_spread" 2 m_pay_spread) (C_poorest_comers : Cal P w K mg base 5 "poorest_comers" 2 m_poorest_comers) (C_richest_comers : Cal P w K mg base 5 "richest_comers" 2 m_richest_comers) (C_gains_of : Cal P w K mg base 1 "gains_of" 1 m_gains_of) (C_fees_of : Cal P w K mg base 1 "fees_of" 1 m_fees_of) (C__law_mixed : Cal P w K mg base 2 "_law_mixed" 2 m__law_mixed) (K_Group__init_2 : MakT P w K mg base 6 "Group" 7 [(.int 0), (.int 0)] m_Group__init) (CF : Cfs K mg) : FnOk P w K mg base (L2.CX P w) 10 f fd ["script"] (spF K 1 m_law) :=
  fn_defT (k := 9) F sc_law hcT fun A outer s H E hr => by
    exact ((d_cons (d_set 1 (d_lst true (d_acons (d_name 0) (d_acons d_int (d_acons d_int (d_acons d_int d_anil))))) sc_law.nd)
    (d_cons (d_set 2 (d_cmp (op_eqD hr.units) s_eq (d_call C__law_taken (hr.mono (by decide)) (takes_of rfl rfl rfl rfl) rfl (d_acons (d_name 1) (d_acons d_int d_anil)) rfl (len_cons (len_cons (fun _ _ _ h => len_nil h)))) d_int (nomark _)) sc_law.nd)
    (d_cons (d_set 3 (d_call C__law_taken (hr.mono (by decide)) (takes_of rfl rfl rfl rfl) rfl (d_acons (d_name 1) (d_acons (d_ix ix_seq s_ix (d_lst false (d_acons d_int (d_acons d_int d_anil))) (d_callTy call_int1 s_int T.b_int (by decide +kernel) (d_acons (d_name 2) d_anil)) fun _ _ => rfl) d_anil)) rfl (len_cons (len_cons (fun _ _ _ h => len_nil h)))) sc_law.nd)
    (d_cons (d_set 4 (d_call C__law_spans (hr.mono (by decide)) (takes_of rfl rfl rfl rfl) rfl (d_acons (d_name 1) (d_acons (d_name 3) (d_acons d_int (d_acons d_int d_anil)))) rfl (len_cons (len_cons (len_cons (len_cons (fun _ _ _ h => len_nil h)))))) sc_law.nd)
    (d_cons (d_set 5 (d_call C__law_taken (hr.mono (by decide)) (takes_of rfl rfl rfl rfl) rfl (d_acons (d_name 1) (d_acons (d_op op_addA (s_add false) (d_name 3) d_int) d_anil)) rfl (len_cons (len_cons (fun _ _ _ h => len_nil h)))) sc_law.nd)
    (d_cons (d_set 6 (d_call C__law_taken (hr.mono (by decide)) (takes_of rfl rfl rfl rfl) rfl (d_acons (d_name 1) (d_acons (d_op op_addA (s_add false) (d_name 5) d_int) d_anil)) rfl (len_cons (len_cons (fun _ _ _ h => len_nil h)))) sc_law.nd)
    (d_cons (d_set 7 (d_make false K_Group__init_2 (hr.mono (by decide)) (takes_of rfl rfl rfl rfl) rfl (d_acons (d_call C__law_name (hr.mono (by decide)) (takes_of rfl rfl rfl rfl) rfl (d_acons (d_name 1) d_anil) rfl (len_cons (fun _ _ _ h => len_nil h))) (d_acons (d_name 4) (d_acons (d_name 6) (d_acons (d_name 5) d_anil)))) rfl (len_cons (len_cons (len_cons (len_cons (fun _ _ _ h => len_nil h)))))) sc_law.nd)
    (d_cons (d_asg (d_tup (d_acons (d_call C__law_pick (hr.mono (by decide)) (takes_of rfl rfl rfl rfl) rfl (d_acons (d_name 1) (d_acons (d_lst false (d_acons d_int (d_acons d_int (d_acons d_int d_anil)))) d_anil)) rfl (len_cons (len_cons (fun _ _ _ h => len_nil h)))) (d_acons (d_lst true d_anil) d_anil))) (g_tup 2 rfl (g_cons (g_name 20 sc_law.nd) (g_cons (g_name 21 sc_law.nd) g_nil))))
    (d_cons (d_for (passes_of rfl) rfl (i_rng1 T.b_range (d_acons (d_name 3) d_anil)) (g_name 8 sc_law.nd)
    (d_cons (d_set 22 (d_call C__law_taken (hr.mono (by decide)) (takes_of rfl rfl rfl rfl) rfl (d_acons (d_name 1) (d_acons (d_op op_addA (s_add false) (d_name 20) d_int) d_anil)) rfl (len_cons (len_cons (fun _ _ _ h => len_nil h)))) sc_law.nd)
    (d_one (d_expr (d_mthL PySem.F.slot_list_append PySem.F.type_list_append mt_append s_append (d_name 21) (d_acons (d_tup (d_acons (d_name 22) (d_acons (d_call C__law_taken (hr.mono (by decide)) (takes_of rfl rfl rfl rfl) rfl (d_acons (d_name 1) (d_acons (d_op op_addA (s_add false) (d_name 22) d_int) d_anil)) rfl (len_cons (len_cons (fun _ _ _ h => len_nil h)))) d_anil))) d_anil))))))
    (d_cons (d_set 9 (d_call C__law_handed (hr.mono (by decide)) (takes_of rfl rfl rfl rfl) rfl (d_acons (d_name 1) (d_acons (d_nameF 21) d_anil)) rfl (len_cons (len_cons (fun _ _ _ h => len_nil h)))) sc_law.nd)
    (d_cons (d_set 10 (d_lc false (ow := [("pay", 22), ("fee", 26)]) rfl sc_law.nd (i_seq (d_nameF 21)) (blkOk_by (N := N_law) (sc := defScope s_law) (by decide +kernel)) (fun _ _ _ _ _ => (g_tupK (K := K) 2 rfl (g_cons (g_name 22 sc_law.nd) (g_cons (g_name 26 sc_law.nd) g_nil)))) (fun _ _ _ _ _ => d_ts0) (fun _ _ _ _ _ => (d_op op_sub s_sub (d_name 22) (d_name 26)))) sc_law.nd)
    (d_cons (d_set 11 (d_callB cr_sortedI (s_sortI false) T.b_sorted (by decide +kernel) (d_acons (d_slA false (d_sortL false 0 hr T.b_sorted (d_acons (d_listRg1 false rfl T.b_list T.b_range (d_name 3)) d_anil) TB rfl (k_tup (k_ix (k_var 10 rfl rfl) (k_prm rfl) fun _ _ => rfl) (k_prm rfl)) rfl rfl rfl rfl rfl rfl rfl rfl (fun _ _ _ _ _ _ => rfl)) d_o0 (d_o1 (d_name 6))) d_anil)) sc_law.nd)
    (d_cons (d_set 12 (d_callB cr_sortedI (s_sortI false) T.b_sorted (by decide +kernel) (d_acons (d_slA false (d_sortL false 0 hr T.b_sorted (d_acons (d_listRg1 false rfl T.b_list T.b_range (d_name 3)) d_anil) TB rfl (k_tup (k_sub k_int (k_ix (k_var 10 rfl rfl) (k_prm rfl) fun _ _ => rfl)) (k_prm rfl)) rfl rfl rfl rfl rfl rfl rfl rfl (fun _ _ _ _ _ _ => rfl)) d_o0 (d_o1 (d_name 5))) d_anil)) sc_law.nd)
    (d_cons (d_parH 23 24 (fun h => ps_par (by rfl) sc_law.nd rfl rfl (by decide) rfl rfl h (by rfl)) (d_acons (d_call C__law_if (hr.mono (by decide)) (takes_of rfl rfl rfl rfl) rfl (d_acons (d_nameF 21) (d_acons (d_name 11) d_anil)) rfl (len_cons (len_cons (fun _ _ _ h => len_nil h)))) (d_acons (d_call C__law_if (hr.mono (by decide)) (takes_of rfl rfl rfl rfl) rfl (d_acons (d_nameF 21) (d_acons (d_name 12) d_anil)) rfl (len_cons (len_cons (fun _ _ _ h => len_nil h)))) d_anil)))
    (d_cons (d_if (d_not (d_tst (d_name 2)))
    (d_cons (d_setLc 25 false (ow := [("some", 13)]) rfl sc_law.nd (i_seq (d_call C__law_subsets (hr.mono (by decide)) (takes_of rfl rfl rfl rfl) rfl (d_acons (d_name 3) d_anil) rfl (len_cons (fun _ _ _ h => len_nil h)))) (blkOk_by (N := N_law) (sc := defScope s_law) (by decide +kernel)) (fun _ _ _ _ _ => (g_name 13 sc_law.nd)) (fun _ _ _ _ _ => (d_ts1 (d_tchain op_le op_le s_le s_le (d_name 6) (d_callB call_len s_len T.b_len (by decide +kernel) (d_acons (d_name 13) d_anil)) (d_name 5)))) (fun _ _ _ _ _ => (d_call C__law_if (hr.mono (by decide)) takes0 rfl (d_acons (d_nameF 21) (d_acons (d_name 13) d_anil)) rfl (len_cons (len_cons (fun _ _ _ h => len_nil h))))))
    (d_one (d_if (d_tcmp (op_neD hr.units) s_ne (d_tup (d_acons (d_callB (cr_min rfl) s_min1 T.b_min (by decide +kernel) (d_acons (d_name 25) d_anil)) (d_acons (d_callB (cr_max rfl) s_max1 T.b_max (by decide +kernel) (d_acons (d_name 25) d_anil)) d_anil))) (d_tup (d_acons (d_name 23) (d_acons (d_name 24) d_anil))) (nomark _))
    (d_one (d_ret d_bl))
    d_nil)))
    d_nil)
    (d_cons (d_if (d_not (d_tst (d_call C__law_alike (hr.mono (by decide)) (takes_of rfl rfl rfl rfl) rfl (d_acons (d_tup (d_acons (d_call C_sure_pay (hr.mono (by decide)) (takes_of rfl rfl rfl rfl) rfl (d_acons (d_name 7) (d_acons (d_name 9) d_anil)) rfl (len_cons (len_cons (fun _ _ _ h => len_nil h)))) (d_acons (d_call C_greatest_group_pay (hr.mono (by decide)) (takes_of rfl rfl rfl rfl) rfl (d_acons (d_name 7) (d_acons (d_name 9) d_anil)) rfl (len_cons (len_cons (fun _ _ _ h => len_nil h)))) (d_acons (d_call C_pay_spread (hr.mono (by decide)) (takes_of rfl rfl rfl rfl) rfl (d_acons (d_name 7) (d_acons (d_name 9) d_anil)) rfl (len_cons (len_cons (fun _ _ _ h => len_nil h)))) d_anil)))) (d_acons (d_tup (d_acons (d_name 23) (d_acons (d_name 24) (d_acons (d_op op_sub s_sub (d_name 24) (d_name 23)) d_anil)))) d_anil)) rfl (len_cons (len_cons (fun _ _ _ h => len_nil h))))))
    (d_one (d_ret d_bl))
    d_nil)
    (d_cons (d_if (d_not (d_tst (d_call C__law_alike (hr.mono (by decide)) (takes_of rfl rfl rfl rfl) rfl (d_acons (d_tup (d_acons (d_call C_poorest_comers (hr.mono (by decide)) (takes_of rfl rfl rfl rfl) rfl (d_acons (d_name 7) (d_acons (d_name 9) d_anil)) rfl (len_cons (len_cons (fun _ _ _ h => len_nil h)))) (d_acons (d_call C_richest_comers (hr.mono (by decide)) (takes_of rfl rfl rfl rfl) rfl (d_acons (d_name 7) (d_acons (d_name 9) d_anil)) rfl (len_cons (len_cons (fun _ _ _ h => len_nil h)))) d_anil))) (d_acons (d_tup (d_acons (d_callTy call_tuple_of s_tuple T.b_tuple (by decide +kernel) (d_acons (d_name 11) d_anil)) (d_acons (d_callTy call_tuple_of s_tuple T.b_tuple (by decide +kernel) (d_acons (d_name 12) d_anil)) d_anil))) d_anil)) rfl (len_cons (len_cons (fun _ _ _ h => len_nil h))))))
    (d_one (d_ret d_bl))
    d_nil)
    (d_cons (d_if (d_not (d_tst (d_call C__law_alike (hr.mono (by decide)) (takes_of rfl rfl rfl rfl) rfl (d_acons (d_tup (d_acons (d_call C_gains_of (hr.mono (by decide)) (takes_of rfl rfl rfl rfl) rfl (d_acons (d_name 9) d_anil) rfl (len_cons (fun _ _ _ h => len_nil h))) (d_acons (d_call C_fees_of (hr.mono (by decide)) (takes_of rfl rfl rfl rfl) rfl (d_acons (d_name 9) d_anil) rfl (len_cons (fun _ _ _ h => len_nil h))) d_anil))) (d_acons (d_tup (d_acons (d_callTy call_tuple_of s_tuple T.b_tuple (by decide +kernel) (d_acons (d_name 10) d_anil)) (d_acons (d_callB (cr_sumA rfl) s_sumA T.b_sum (by decide +kernel) (d_acons (d_lc false (ow := [("pay", 22), ("fee", 26)]) rfl sc_law.nd (i_seq (d_nameF 21)) (blkOk_by (N := N_law) (sc := defScope s_law) (by decide +kernel)) (fun _ _ _ _ _ => (g_tupK (K := K) 2 rfl (g_cons (g_name 22 sc_law.nd) (g_cons (g_name 26 sc_law.nd) g_nil)))) (fun _ _ _ _ _ => d_ts0) (fun _ _ _ _ _ => (d_name 26))) d_anil)) d_anil))) d_anil)) rfl (len_cons (len_cons (fun _ _ _ h => len_nil h))))))
    (d_one (d_ret d_bl))
    d_nil)
    (d_cons (d_set 13 (d_call C__law_subset (hr.mono (by decide)) (takes_of rfl rfl rfl rfl) rfl (d_acons (d_name 1) (d_acons (d_name 3) d_anil)) rfl (len_cons (len_cons (fun _ _ _ h => len_nil h)))) sc_law.nd)
    (d_cons (d_if (d_not (d_tst (d_call C__law_alike (hr.mono (by decide)) (takes_of rfl rfl rfl rfl) rfl (d_acons (d_call C_pay_if (hr.mono (by decide)) (takes_of rfl rfl rfl rfl) rfl (d_acons (d_name 9) (d_acons (d_call C__law_mixed (hr.mono (by decide)) (takes_of rfl rfl rfl rfl) rfl (d_acons (d_name 1) (d_acons (d_name 13) d_anil)) rfl (len_cons (len_cons (fun _ _ _ h => len_nil h)))) d_anil)) rfl (len_cons (len_cons (fun _ _ _ h => len_nil h)))) (d_acons (d_call C__law_if (hr.mono (by decide)) (takes_of rfl rfl rfl rfl) rfl (d_acons (d_nameF 21) (d_acons (d_name 13) d_anil)) rfl (len_cons (len_cons (fun _ _ _ h => len_nil h)))) d_anil)) rfl (len_cons (len_cons (fun _ _ _ h => len_nil h))))))
    (d_one (d_ret d_bl))
    d_nil)
    (d_cons (d_set 14 (d_call C__law_pick (hr.mono (by decide)) (takes_of rfl rfl rfl rfl) rfl (d_acons (d_name 1) (d_acons (d_lst false (d_acons (d_name 23) (d_acons (d_op op_addA (s_add false) (d_name 23) d_int) (d_acons (d_name 24) (d_acons (d_op op_addA (s_add false) (d_name 24) d_int) (d_acons d_int (d_acons (d_call C__law_taken (hr.mono (by decide)) (takes_of rfl rfl rfl rfl) rfl (d_acons (d_name 1) (d_acons (d_op op_addA (s_add false) (d_op op_mulA (s_mul false) d_int (d_name 20)) d_int) d_anil)) rfl (len_cons (len_cons (fun _ _ _ h => len_nil h)))) d_anil))))))) d_anil)) rfl (len_cons (len_cons (fun _ _ _ h => len_nil h)))) sc_law.nd)
    (d_cons (d_set 15 (d_lc false (ow := [("number", 27)]) rfl sc_law.nd (i_rng1 T.b_range (d_acons (d_op op_addA (s_add false) (d_name 5) d_int) d_anil)) (blkOk_by (N := N_law) (sc := defScope s_law) (by decide +kernel)) (fun _ _ _ _ _ => (g_name 27 sc_law.nd)) (fun _ _ _ _ _ => d_ts0) (fun _ _ _ _ _ => (d_call C__law_if (hr.mono (by decide)) takes0 rfl (d_acons (d_nameF 21) (d_acons (d_slA false (d_sortL false 0 hr T.b_sorted (d_acons (d_listRg1 false rfl T.b_list T.b_range (d_name 3)) d_anil) TB rfl (k_tup (k_ix (k_var 10 rfl rfl) (k_prm rfl) fun _ _ => rfl) (k_prm rfl)) rfl rfl rfl rfl rfl rfl rfl rfl (fun _ _ _ _ _ _ => rfl)) d_o0 (d_o1 (d_name 27))) d_anil)) rfl (len_cons (len_cons (fun _ _ _ h => len_nil h)))))) sc_law.nd)
    (d_cons (d_setLc 16 false (ow := [("number", 27)]) rfl sc_law.nd (i_rng1 T.b_range (d_acons (d_op op_addA (s_add false) (d_name 5) d_int) d_anil)) (blkOk_by (N := N_law) (sc := defScope s_law) (by decide +kernel)) (fun _ _ _ _ _ => (g_name 27 sc_law.nd)) (fun _ _ _ _ _ => (d_ts1 (d_tcmp op_ge s_ge (d_ix ix_seq s_ix (d_name 15) (d_name 27) fun _ _ => rfl) (d_name 14) (nomark _)))) (fun _ _ _ _ _ => (d_name 27)))
    (d_cons (d_if (d_not (d_tst (d_call C__law_alike (hr.mono (by decide)) (takes_of rfl rfl rfl rfl) rfl (d_acons (d_call C_least_for (hr.mono (by decide)) (takes_of rfl rfl rfl rfl) rfl (d_acons (d_name 7) (d_acons (d_name 9) (d_acons (d_name 14) d_anil))) rfl (len_cons (len_cons (len_cons (fun _ _ _ h => len_nil h))))) (d_acons (d_ix ix_seq s_ix (d_op op_addA (s_add false) (d_name 16) (d_lst false (d_acons d_non d_anil))) d_int fun _ _ => rfl) d_anil)) rfl (len_cons (len_cons (fun _ _ _ h => len_nil h))))))
    (d_one (d_ret d_bl))
    d_nil)
    (d_cons (d_set 17 (d_make false K_Group__init_2 (hr.mono (by decide)) (takes_of rfl rfl rfl rfl) rfl (d_acons d_str (d_acons (d_name 4) (d_acons d_int (d_acons (d_name 3) d_anil)))) rfl (len_cons (len_cons (len_cons (len_cons (fun _ _ _ h => len_nil h)))))) sc_law.nd)
    (d_cons (d_if (d_not (d_tst (d_call C__law_alike (hr.mono (by decide)) (takes_of rfl rfl rfl rfl) rfl (d_acons (d_call C_all_sure (hr.mono (by decide)) (takes_of rfl rfl rfl rfl) rfl (d_acons (d_tup (d_acons (d_name 7) (d_acons (d_name 17) d_anil))) (d_acons (d_lst false (d_acons (d_name 9) (d_acons (d_nameF 21) d_anil))) d_anil)) rfl (len_cons (len_cons (fun _ _ _ h => len_nil h)))) (d_acons (d_op op_addA (s_add false) (d_name 23) (d_callB (cr_sumA rfl) s_sumA T.b_sum (by decide +kernel) (d_acons (d_lc false (ow := [("pay", 22), ("fee", 26)]) rfl sc_law.nd (i_seq (d_nameF 21)) (blkOk_by (N := N_law) (sc := defScope s_law) (by decide +kernel)) (fun _ _ _ _ _ => (g_tupK (K := K) 2 rfl (g_cons (g_name 22 sc_law.nd) (g_cons (g_name 26 sc_law.nd) g_nil)))) (fun _ _ _ _ _ => d_ts0) (fun _ _ _ _ _ => (d_name 26))) d_anil))) d_anil)) rfl (len_cons (len_cons (fun _ _ _ h => len_nil h))))))
    (d_one (d_ret d_bl))
    d_nil)
    (d_cons (d_parH 22 26 (fun h => ps_par (by rfl) sc_law.nd rfl rfl (by decide) rfl rfl h (by rfl)) (d_acons (d_call C__law_taken (hr.mono (by decide)) (takes_of rfl rfl rfl rfl) rfl (d_acons (d_name 1) (d_acons d_int d_anil)) rfl (len_cons (len_cons (fun _ _ _ h => len_nil h)))) (d_acons (d_call C__law_taken (hr.mono (by decide)) (takes_of rfl rfl rfl rfl) rfl (d_acons (d_name 1) (d_acons d_int d_anil)) rfl (len_cons (len_cons (fun _ _ _ h => len_nil h)))) d_anil)))
    (d_cons (d_if (d_not (d_tst (d_call C__law_alike (hr.mono (by decide)) (takes_of rfl rfl rfl rfl) rfl (d_acons (d_call C_sure_request (hr.mono (by decide)) (takes_of rfl rfl rfl rfl) rfl (d_acons (d_name 22) (d_acons (d_name 26) d_anil)) rfl (len_cons (len_cons (fun _ _ _ h => len_nil h)))) (d_acons (d_callB (call_min2 rfl) s_min2 T.b_min (by decide +kernel) (d_acons (d_name 22) (d_acons (d_name 26) d_anil))) d_anil)) rfl (len_cons (len_cons (fun _ _ _ h => len_nil h))))))
    (d_one (d_ret d_bl))
    d_nil)
    (d_cons (d_if (PW.pt (d_or (d_not (d_tst (d_call C__law_refused (hr.mono (by decide)) (takes_of rfl rfl rfl rfl) rfl (d_acons (d_name 7) (d_acons (d_op op_addA (s_add false) (d_name 21) (d_lst false (d_acons (d_tup (d_acons d_int (d_acons d_int d_anil))) d_anil))) (d_acons d_non d_anil))) rfl (len_cons (len_cons (len_cons (fun _ _ _ h => len_nil h))))))) (d_or1 (d_not (d_tst (d_call C__law_refused (hr.mono (by decide)) (takes_of rfl rfl rfl rfl) rfl (d_acons (d_name 7) (d_acons d_non (d_acons d_non d_anil))) rfl (len_cons (len_cons (len_cons (fun _ _ _ h => len_nil h))))))))))
    (d_one (d_ret d_bl))
    d_nil)
    (d_cons (d_if (d_tcmp (op_eqD hr.units) s_eq (d_name 3) d_int (nomark _))
    (d_one (d_ret d_bl))
    d_nil)
    (d_cons (d_set 18 (d_call C__law_taken (hr.mono (by decide)) (takes_of rfl rfl rfl rfl) rfl (d_acons (d_name 1) (d_acons (d_name 3) d_anil)) rfl (len_cons (len_cons (fun _ _ _ h => len_nil h)))) sc_law.nd)
    (d_cons (d_set 19 (d_call C__law_pick (hr.mono (by decide)) (takes_of rfl rfl rfl rfl) rfl (d_acons (d_name 1) (d_acons (d_lst false (d_acons (d_tup (d_acons d_int (d_acons d_int d_anil))) (d_acons (d_tup (d_acons d_int (d_acons d_int d_anil))) (d_acons (d_tup (d_acons d_int (d_acons (d_un un_neg s_neg d_int) d_anil))) (d_acons (d_tup (d_acons d_int (d_acons d_bl d_anil))) (d_acons (d_tup (d_acons d_int d_anil)) (d_acons d_non (d_acons d_str d_anil)))))))) d_anil)) rfl (len_cons (len_cons (fun _ _ _ h => len_nil h)))) sc_law.nd)
    (d_one (d_ret (d_call C__law_refused (hr.mono (by decide)) (takes_of rfl rfl rfl rfl) rfl (d_acons (d_name 7) (d_acons (d_op op_addA (s_add false) (d_op op_addA (s_add false) (d_slA false (d_name 21) d_o0 (d_o1 (d_name 18))) (d_lst false (d_acons (d_name 19) d_anil))) (d_slA false (d_name 21) (d_o1 (d_op op_addA (s_add false) (d_name 18) d_int)) d_o0)) (d_acons (d_name 18) d_anil))) rfl (len_cons (len_cons (len_cons (fun _ _ _ h => len_nil h))))))))))))))))))))))))))))))))))))))))
end
set_option maxHeartbeats 8000000 in
theorem all_mk {l : PySem.W.OpenLaw} {w : World} {K : PySem.W.Frag} {h : Heap} {mg : Str → Option Value} {fa : Addr} (X : K.In h) (G : h.Ns mainGlobals mg) (hfa : mg "law" = some (.ref fa))
    {c0 : Addr} {t_FIGURES : Tok} {t_LAST_NIGHT : Tok} {t_LETTERS : Tok} {t_LONGEST_NAME : Tok} {t_MOST_LATE_NIGHTS : Tok} {t_MOST_PAY : Tok} {t_MOST_STAYS : Tok} {f0 : Addr} {od0 an0 : Option Addr} {sl0 : Array (Option Value)} {oc0 kV0 dc0 pm0 cd0 ct0 : Value} {f1 : Addr} {od1 an1 : Option Addr} {sl1 : Array (Option Value)} {oc1 kV1 dc1 pm1 cd1 ct1 : Value} {f2 : Addr} {od2 an2 : Option Addr} {sl2 : Array (Option Value)} {oc2 kV2 dc2 pm2 cd2 ct2 : Value} {f3 : Addr} {od3 an3 : Option Addr} {sl3 : Array (Option Value)} {oc3 kV3 dc3 pm3 cd3 ct3 : Value} {f4 : Addr} {od4 an4 : Option Addr} {sl4 : Array (Option Value)} {oc4 kV4 dc4 pm4 cd4 ct4 : Value} {f5 : Addr} {od5 an5 : Option Addr} {sl5 : Array (Option Value)} {oc5 kV5 dc5 pm5 cd5 ct5 : Value} {f6 : Addr} {od6 an6 : Option Addr} {sl6 : Array (Option Value)} {oc6 kV6 dc6 pm6 cd6 ct6 : Value} {f7 : Addr} {od7 an7 : Option Addr} {sl7 : Array (Option Value)} {oc7 kV7 dc7 pm7 cd7 ct7 : Value} {f8 : Addr} {od8 an8 : Option Addr} {sl8 : Array (Option Value)} {oc8 kV8 dc8 pm8 cd8 ct8 : Value} {f9 : Addr} {od9 an9 : Option Addr} {sl9 : Array (Option Value)} {oc9 kV9 dc9 pm9 cd9 ct9 : Value} {f10 : Addr} {od10 an10 : Option Addr} {sl10 : Array (Option Value)} {oc10 kV10 dc10 pm10 cd10 ct10 : Value} {f11 : Addr} {od11 an11 : Option Addr} {sl11 : Array (Option Value)} {oc11 kV11 dc11 pm11 cd11 ct11 : Value} {f12 : Addr} {od12 an12 : Option Addr} {sl12 : Array (Option Value)} {oc12 kV12 dc12 pm12 cd12 ct12 : Value} {f13 : Addr} {od13 an13 : Option Addr} {sl13 : Array (Option Value)} {oc13 kV13 dc13 pm13 cd13 ct13 : Value} {f14 : Addr} {od14 an14 : Option Addr} {sl14 : Array (Option Value)} {oc14 kV14 dc14 pm14 cd14 ct14 : Value} {f15 : Addr} {od15 an15 : Option Addr} {sl15 : Array (Option Value)} {oc15 kV15 dc15 pm15 cd15 ct15 : Value} {f16 : Addr} {od16 an16 : Option Addr} {sl16 : Array (Option Value)} {oc16 kV16 dc16 pm16 cd16 ct16 : Value} {f17 : Addr} {od17 an17 : Option Addr} {sl17 : Array (Option Value)} {oc17 kV17 dc17 pm17 cd17 ct17 : Value} {f18 : Addr} {od18 an18 : Option Addr} {sl18 : Array (Option Value)} {oc18 kV18 dc18 pm18 cd18 ct18 : Value} {f19 : Addr} {od19 an19 : Option Addr} {sl19 : Array (Option Value)} {oc19 kV19 dc19 pm19 cd19 ct19 : Value} {f20 : Addr} {od20 an20 : Option Addr} {sl20 : Array (Option Value)} {oc20 kV20 dc20 pm20 cd20 ct20 : Value} {f21 : Addr} {od21 an21 : Option Addr} {sl21 : Array (Option Value)} {oc21 kV21 dc21 pm21 cd21 ct21 : Value} {f22 : Addr} {od22 an22 : Option Addr} {sl22 : Array (Option Value)} {oc22 kV22 dc22 pm22 cd22 ct22 : Value} {f23 : Addr} {od23 an23 : Option Addr} {sl23 : Array (Option Value)} {oc23 kV23 dc23 pm23 cd23 ct23 : Value} {f24 : Addr} {od24 an24 : Option Addr} {sl24 : Array (Option Value)} {oc24 kV24 dc24 pm24 cd24 ct24 : Value} {f25 : Addr} {od25 an25 : Option Addr} {sl25 : Array (Option Value)} {oc25 kV25 dc25 pm25 cd25 ct25 : Value} {f26 : Addr} {od26 an26 : Option Addr} {sl26 : Array (Option Value)} {oc26 kV26 dc26 pm26 cd26 ct26 : Value} {f27 : Addr} {od27 an27 : Option Addr} {sl27 : Array (Option Value)} {oc27 kV27 dc27 pm27 cd27 ct27 : Value} {f28 : Addr} {od28 an28 : Option Addr} {sl28 : Array (Option Value)} {oc28 kV28 dc28 pm28 cd28 ct28 : Value} {f29 : Addr} {od29 an29 : Option Addr} {sl29 : Array (Option Value)} {oc29 kV29 dc29 pm29 cd29 ct29 : Value} {f30 : Addr} {od30 an30 : Option Addr} {sl30 : Array (Option Value)} {oc30 kV30 dc30 pm30 cd30 ct30 : Value} {f31 : Addr} {od31 an31 : Option Addr} {sl31 : Array (Option Value)} {oc31 kV31 dc31 pm31 cd31 ct31 : Value} {f32 : Addr} {od32 an32 : Option Addr} {sl32 : Array (Option Value)} {oc32 kV32 dc32 pm32 cd32 ct32 : Value} {f33 : Addr} {od33 an33 : Option Addr} {sl33 : Array (Option Value)} {oc33 kV33 dc33 pm33 cd33 ct33 : Value} {f34 : Addr} {od34 an34 : Option Addr} {sl34 : Array (Option Value)} {oc34 kV34 dc34 pm34 cd34 ct34 : Value} {f35 : Addr} {od35 an35 : Option Addr} {sl35 : Array (Option Value)} {oc35 kV35 dc35 pm35 cd35 ct35 : Value} {f36 : Addr} {od36 an36 : Option Addr} {sl36 : Array (Option Value)} {oc36 kV36 dc36 pm36 cd36 ct36 : Value} {f37 : Addr} {od37 an37 : Option Addr} {sl37 : Array (Option Value)} {oc37 kV37 dc37 pm37 cd37 ct37 : Value} {f38 : Addr} {od38 an38 : Option Addr} {sl38 : Array (Option Value)} {oc38 kV38 dc38 pm38 cd38 ct38 : Value} {f39 : Addr} {od39 an39 : Option Addr} {sl39 : Array (Option Value)} {oc39 kV39 dc39 pm39 cd39 ct39 : Value} {f40 : Addr} {od40 an40 : Option Addr} {sl40 : Array (Option Value)} {oc40 kV40 dc40 pm40 cd40 ct40 : Value} {f41 : Addr} {od41 an41 : Option Addr} {sl41 : Array (Option Value)} {oc41 kV41 dc41 pm41 cd41 ct41 : Value} {T41 : Addr} {oT41 : Option Addr} {nT41 : Nat} {sT41 : Array (Option Value)} {te41_0 : Tok} {te41_1 : Tok} {f42 : Addr} {od42 an42 : Option Addr} {sl42 : Array (Option Value)} {oc42 kV42 dc42 pm42 ct42 : Value} {cT PT : Addr} {eT : Value} {dT : Option Addr} {vsT : Array Value} {sT : Array (Option Value)} {e_BadItem : Addr} {e_BadName : Addr} {e_BadNumber : Addr} {e_TooMany : Addr} {nm_BadItem qn_BadItem : Str} {ns_BadItem : Addr} {bs_BadItem bm_BadItem : List Value} {sn_BadItem : List Str} {sub_BadItem : List Value} {ab_BadItem : Bool} {col_BadItem : Option Bool} {dd_BadItem : Option Addr} {k0_BadItem k1_BadItem k2_BadItem k3_BadItem k5_BadItem : Option Value} {fi_BadItem : Addr} {odi_BadItem ani_BadItem : Option Addr} {sli_BadItem : Array (Option Value)} {oci_BadItem kVi_BadItem dci_BadItem pmi_BadItem cdi_BadItem cti_BadItem : Value} {nm_BadName qn_BadName : Str} {ns_BadName : Addr} {bs_BadName bm_BadName : List Value} {sn_BadName : List Str} {sub_BadName : List Value} {ab_BadName : Bool} {col_BadName : Option Bool} {dd_BadName : Option Addr} {k0_BadName k1_BadName k2_BadName k3_BadName k5_BadName : Option Value} {fi_BadName : Addr} {odi_BadName ani_BadName : Option Addr} {sli_BadName : Array (Option Value)} {oci_BadName kVi_BadName dci_BadName pmi_BadName cdi_BadName cti_BadName : Value} {nm_BadNumber qn_BadNumber : Str} {ns_BadNumber : Addr} {bs_BadNumber bm_BadNumber : List Value} {sn_BadNumber : List Str} {sub_BadNumber : List Value} {ab_BadNumber : Bool} {col_BadNumber : Option Bool} {dd_BadNumber : Option Addr} {k0_BadNumber k1_BadNumber k2_BadNumber k3_BadNumber k5_BadNumber : Option Value} {fi_BadNumber : Addr} {odi_BadNumber ani_BadNumber : Option Addr} {sli_BadNumber : Array (Option Value)} {oci_BadNumber kVi_BadNumber dci_BadNumber pmi_BadNumber cdi_BadNumber cti_BadNumber : Value} {nm_TooMany qn_TooMany : Str} {ns_TooMany : Addr} {bs_TooMany bm_TooMany : List Value} {sn_TooMany : List Str} {sub_TooMany : List Value} {ab_TooMany : Bool} {col_TooMany : Option Bool} {dd_TooMany : Option Addr} {k0_TooMany k1_TooMany k2_TooMany k3_TooMany k5_TooMany : Option Value} {fi_TooMany : Addr} {odi_TooMany ani_TooMany : Option Addr} {sli_TooMany : Array (Option Value)} {oci_TooMany kVi_TooMany dci_TooMany pmi_TooMany cdi_TooMany cti_TooMany : Value}
    (ca0 : PySem.W.nsIn K mainGlobals "Group" = some (some (.ref c0)))
    (cg0 : PySem.W.plainGet K c0 Str.empty = true)
    (ch0 : PySem.W.hasDictIn K c0 = true)
    (cp0 : PySem.W.plainOver K c0 = true)
    (cs0 : PySem.W.findIn K (.ref c0) "__setattr__" = some (some (.builtin "object.__setattr__")))
    (cm0 : PySem.W.makesIn K c0 = true)
    (ck0 : PySem.W.keepIn K (.ref c0) = true)
    (cc0 : PySem.W.findIn K (.ref c0) "__class__" = some (some (.builtin "object.__class__")))
    (co0 : PySem.W.mroIn K c0 (.type "object") = some true)
    (kk1 : PySem.W.specialIn K (.builtin "object.__class__") "__get__" = some (some (.builtin "getset_descriptor.__get__")))
    (kk2 : PySem.W.takesIn K (.builtin "object.__class__") = some true)
    (ct0_NoneType : PySem.W.subIn K (.type "NoneType") (.ref c0) = some false)
    (ct0_bool : PySem.W.subIn K (.type "bool") (.ref c0) = some false)
    (ct0_int : PySem.W.subIn K (.type "int") (.ref c0) = some false)
    (ct0_str : PySem.W.subIn K (.type "str") (.ref c0) = some false)
    (ct0_list : PySem.W.subIn K (.type "list") (.ref c0) = some false)
    (ct0_tuple : PySem.W.subIn K (.type "tuple") (.ref c0) = some false)
    (ct0_dict : PySem.W.subIn K (.type "dict") (.ref c0) = some false)
    (ci0 : PySem.W.isClsIn K c0 = true)
    (cy0 : PySem.W.typeIn K (.ref c0) = some (.type "type"))
    (cu0 : PySem.W.subIn K (.ref c0) (.ref c0) = some true)
    (cf_Group_least : PySem.W.findIn K (.ref c0) "least" = some none)
    (cf_Group_most : PySem.W.findIn K (.ref c0) "most" = some none)
    (cf_Group_late_nights : PySem.W.findIn K (.ref c0) "late_nights" = some none)
    (cf_Group_late_guests : PySem.W.findIn K (.ref c0) "late_guests" = some none)
    (cf_Group_spans : PySem.W.findIn K (.ref c0) "spans" = some none)
    (cf_Group_name : PySem.W.findIn K (.ref c0) "name" = some none)
    (q_FIGURES : PySem.W.nsIn K mainGlobals "FIGURES" = some (some (.str "0123456789" t_FIGURES)))
    (q_LAST_NIGHT : PySem.W.nsIn K mainGlobals "LAST_NIGHT" = some (some (.int 36524 t_LAST_NIGHT)))
    (q_LETTERS : PySem.W.nsIn K mainGlobals "LETTERS" = some (some (.str "abcdefghijklmnopqrstuvwxyz" t_LETTERS)))
    (q_LONGEST_NAME : PySem.W.nsIn K mainGlobals "LONGEST_NAME" = some (some (.int 12 t_LONGEST_NAME)))
    (q_MOST_LATE_NIGHTS : PySem.W.nsIn K mainGlobals "MOST_LATE_NIGHTS" = some (some (.int 7 t_MOST_LATE_NIGHTS)))
    (q_MOST_PAY : PySem.W.nsIn K mainGlobals "MOST_PAY" = some (some (.int 99999 t_MOST_PAY)))
    (q_MOST_STAYS : PySem.W.nsIn K mainGlobals "MOST_STAYS" = some (some (.int 30 t_MOST_STAYS)))
    (z_all : PySem.W.nsIn K mainGlobals "all" = some none)
    (z_bool : PySem.W.nsIn K mainGlobals "bool" = some none)
    (z_enumerate : PySem.W.nsIn K mainGlobals "enumerate" = some none)
    (z_int : PySem.W.nsIn K mainGlobals "int" = some none)
    (z_isinstance : PySem.W.nsIn K mainGlobals "isinstance" = some none)
    (z_len : PySem.W.nsIn K mainGlobals "len" = some none)
    (z_list : PySem.W.nsIn K mainGlobals "list" = some none)
    (z_max : PySem.W.nsIn K mainGlobals "max" = some none)
    (z_min : PySem.W.nsIn K mainGlobals "min" = some none)
    (z_range : PySem.W.nsIn K mainGlobals "range" = some none)
    (z_sorted : PySem.W.nsIn K mainGlobals "sorted" = some none)
    (z_str : PySem.W.nsIn K mainGlobals "str" = some none)
    (z_sum : PySem.W.nsIn K mainGlobals "sum" = some none)
    (z_tuple : PySem.W.nsIn K mainGlobals "tuple" = some none)
    (z_zip : PySem.W.nsIn K mainGlobals "zip" = some none)
    (a0 : PySem.W.nsIn K mainGlobals "_law_taken" = some (some (.ref f0)))
    (l0 : K.lookup f0 = some ⟨oc0, od0, .func (PySem.W.fnOf "_law_taken" "_law_taken" (defArgs s__law_taken) (defBody s__law_taken) (defScope s__law_taken) .none kV0 dc0 pm0 an0 cd0 ct0), sl0⟩)
    (c0_ : PySem.W.codeIn K cd0 "_law_taken" = true)
    (k0 : PySem.W.keepIn K (.ref f0) = true)
    (a1 : PySem.W.nsIn K mainGlobals "_law_span" = some (some (.ref f1)))
    (l1 : K.lookup f1 = some ⟨oc1, od1, .func (PySem.W.fnOf "_law_span" "_law_span" (defArgs s__law_span) (defBody s__law_span) (defScope s__law_span) .none kV1 dc1 pm1 an1 cd1 ct1), sl1⟩)
    (c1_ : PySem.W.codeIn K cd1 "_law_span" = true)
    (k1 : PySem.W.keepIn K (.ref f1) = true)
    (a2 : PySem.W.nsIn K mainGlobals "_law_spans" = some (some (.ref f2)))
    (l2 : K.lookup f2 = some ⟨oc2, od2, .func (PySem.W.fnOf "_law_spans" "_law_spans" (defArgs s__law_spans) (defBody s__law_spans) (defScope s__law_spans) .none kV2 dc2 pm2 an2 cd2 ct2), sl2⟩)
    (c2_ : PySem.W.codeIn K cd2 "_law_spans" = true)
    (k2 : PySem.W.keepIn K (.ref f2) = true)
    (a3 : PySem.W.nsIn K mainGlobals "_law_mixed" = some (some (.ref f3)))
    (l3 : K.lookup f3 = some ⟨oc3, od3, .func (PySem.W.fnOf "_law_mixed" "_law_mixed" (defArgs s__law_mixed) (defBody s__law_mixed) (defScope s__law_mixed) .none kV3 dc3 pm3 an3 cd3 ct3), sl3⟩)
    (c3_ : PySem.W.codeIn K cd3 "_law_mixed" = true)
    (k3 : PySem.W.keepIn K (.ref f3) = true)
    (a4 : PySem.W.nsIn K mainGlobals "_law_handed" = some (some (.ref f4)))
    (l4 : K.lookup f4 = some ⟨oc4, od4, .func (PySem.W.fnOf "_law_handed" "_law_handed" (defArgs s__law_handed) (defBody s__law_handed) (defScope s__law_handed) .none kV4 dc4 pm4 an4 cd4 ct4), sl4⟩)
    (c4_ : PySem.W.codeIn K cd4 "_law_handed" = true)
    (k4 : PySem.W.keepIn K (.ref f4) = true)
    (a5 : PySem.W.nsIn K mainGlobals "_law_subset" = some (some (.ref f5)))
    (l5 : K.lookup f5 = some ⟨oc5, od5, .func (PySem.W.fnOf "_law_subset" "_law_subset" (defArgs s__law_subset) (defBody s__law_subset) (defScope s__law_subset) .none kV5 dc5 pm5 an5 cd5 ct5), sl5⟩)
    (c5_ : PySem.W.codeIn K cd5 "_law_subset" = true)
    (k5 : PySem.W.keepIn K (.ref f5) = true)
    (a6 : PySem.W.nsIn K mainGlobals "_law_pick" = some (some (.ref f6)))
    (l6 : K.lookup f6 = some ⟨oc6, od6, .func (PySem.W.fnOf "_law_pick" "_law_pick" (defArgs s__law_pick) (defBody s__law_pick) (defScope s__law_pick) .none kV6 dc6 pm6 an6 cd6 ct6), sl6⟩)
    (c6_ : PySem.W.codeIn K cd6 "_law_pick" = true)
    (k6 : PySem.W.keepIn K (.ref f6) = true)
    (a7 : PySem.W.nsIn K mainGlobals "gains_of" = some (some (.ref f7)))
    (l7 : K.lookup f7 = some ⟨oc7, od7, .func (PySem.W.fnOf "gains_of" "gains_of" (defArgs s_gains_of) (defBody s_gains_of) (defScope s_gains_of) .none kV7 dc7 pm7 an7 cd7 ct7), sl7⟩)
    (c7_ : PySem.W.codeIn K cd7 "gains_of" = true)
    (k7 : PySem.W.keepIn K (.ref f7) = true)
    (a8 : PySem.W.nsIn K mainGlobals "fees_of" = some (some (.ref f8)))
    (l8 : K.lookup f8 = some ⟨oc8, od8, .func (PySem.W.fnOf "fees_of" "fees_of" (defArgs s_fees_of) (defBody s_fees_of) (defScope s_fees_of) .none kV8 dc8 pm8 an8 cd8 ct8), sl8⟩)
    (c8_ : PySem.W.codeIn K cd8 "fees_of" = true)
    (k8 : PySem.W.keepIn K (.ref f8) = true)
    (a9 : PySem.W.nsIn K mainGlobals "pay_if" = some (some (.ref f9)))
    (l9 : K.lookup f9 = some ⟨oc9, od9, .func (PySem.W.fnOf "pay_if" "pay_if" (defArgs s_pay_if) (defBody s_pay_if) (defScope s_pay_if) .none kV9 dc9 pm9 an9 cd9 ct9), sl9⟩)
    (c9_ : PySem.W.codeIn K cd9 "pay_if" = true)
    (k9 : PySem.W.keepIn K (.ref f9) = true)
    (a10 : PySem.W.nsIn K mainGlobals "is_sequence" = some (some (.ref f10)))
    (l10 : K.lookup f10 = some ⟨oc10, od10, .func (PySem.W.fnOf "is_sequence" "is_sequence" (defArgs s_is_sequence) (defBody s_is_sequence) (defScope s_is_sequence) .none kV10 dc10 pm10 an10 cd10 ct10), sl10⟩)
    (c10_ : PySem.W.codeIn K cd10 "is_sequence" = true)
    (k10 : PySem.W.keepIn K (.ref f10) = true)
    (a11 : PySem.W.nsIn K mainGlobals "want_sequence" = some (some (.ref f11)))
    (l11 : K.lookup f11 = some ⟨oc11, od11, .func (PySem.W.fnOf "want_sequence" "want_sequence" (defArgs s_want_sequence) (defBody s_want_sequence) (defScope s_want_sequence) .none kV11 dc11 pm11 an11 cd11 ct11), sl11⟩)
    (c11_ : PySem.W.codeIn K cd11 "want_sequence" = true)
    (k11 : PySem.W.keepIn K (.ref f11) = true)
    (a12 : PySem.W.nsIn K mainGlobals "first_wrong" = some (some (.ref f12)))
    (l12 : K.lookup f12 = some ⟨oc12, od12, .func (PySem.W.fnOf "first_wrong" "first_wrong" (defArgs s_first_wrong) (defBody s_first_wrong) (defScope s_first_wrong) .none kV12 dc12 pm12 an12 cd12 ct12), sl12⟩)
    (c12_ : PySem.W.codeIn K cd12 "first_wrong" = true)
    (k12 : PySem.W.keepIn K (.ref f12) = true)
    (a13 : PySem.W.nsIn K mainGlobals "want_right" = some (some (.ref f13)))
    (l13 : K.lookup f13 = some ⟨oc13, od13, .func (PySem.W.fnOf "want_right" "want_right" (defArgs s_want_right) (defBody s_want_right) (defScope s_want_right) .none kV13 dc13 pm13 an13 cd13 ct13), sl13⟩)
    (c13_ : PySem.W.codeIn K cd13 "want_right" = true)
    (k13 : PySem.W.keepIn K (.ref f13) = true)
    (a14 : PySem.W.nsIn K mainGlobals "is_row" = some (some (.ref f14)))
    (l14 : K.lookup f14 = some ⟨oc14, od14, .func (PySem.W.fnOf "is_row" "is_row" (defArgs s_is_row) (defBody s_is_row) (defScope s_is_row) .none kV14 dc14 pm14 an14 cd14 ct14), sl14⟩)
    (c14_ : PySem.W.codeIn K cd14 "is_row" = true)
    (k14 : PySem.W.keepIn K (.ref f14) = true)
    (a15 : PySem.W.nsIn K mainGlobals "is_whole" = some (some (.ref f15)))
    (l15 : K.lookup f15 = some ⟨oc15, od15, .func (PySem.W.fnOf "is_whole" "is_whole" (defArgs s_is_whole) (defBody s_is_whole) (defScope s_is_whole) .none kV15 dc15 pm15 an15 cd15 ct15), sl15⟩)
    (c15_ : PySem.W.codeIn K cd15 "is_whole" = true)
    (k15 : PySem.W.keepIn K (.ref f15) = true)
    (a16 : PySem.W.nsIn K mainGlobals "is_between" = some (some (.ref f16)))
    (l16 : K.lookup f16 = some ⟨oc16, od16, .func (PySem.W.fnOf "is_between" "is_between" (defArgs s_is_between) (defBody s_is_between) (defScope s_is_between) .none kV16 dc16 pm16 an16 cd16 ct16), sl16⟩)
    (c16_ : PySem.W.codeIn K cd16 "is_between" = true)
    (k16 : PySem.W.keepIn K (.ref f16) = true)
    (a17 : PySem.W.nsIn K mainGlobals "is_offer" = some (some (.ref f17)))
    (l17 : K.lookup f17 = some ⟨oc17, od17, .func (PySem.W.fnOf "is_offer" "is_offer" (defArgs s_is_offer) (defBody s_is_offer) (defScope s_is_offer) .none kV17 dc17 pm17 an17 cd17 ct17), sl17⟩)
    (c17_ : PySem.W.codeIn K cd17 "is_offer" = true)
    (k17 : PySem.W.keepIn K (.ref f17) = true)
    (a18 : PySem.W.findIn K (.ref c0) "__len__" = some (some (.ref f18)))
    (n18 : PySem.W.isFn K (.ref f18) = true)
    (l18 : K.lookup f18 = some ⟨oc18, od18, .func (PySem.W.fnOf "__len__" "Group.__len__" (defArgs s_Group__len) (defBody s_Group__len) (defScope s_Group__len) .none kV18 dc18 pm18 an18 cd18 ct18), sl18⟩)
    (c18_ : PySem.W.codeIn K cd18 "Group.__len__" = true)
    (k18 : PySem.W.keepIn K (.ref f18) = true)
    (a19 : PySem.W.nsIn K mainGlobals "want_offers" = some (some (.ref f19)))
    (l19 : K.lookup f19 = some ⟨oc19, od19, .func (PySem.W.fnOf "want_offers" "want_offers" (defArgs s_want_offers) (defBody s_want_offers) (defScope s_want_offers) .none kV19 dc19 pm19 an19 cd19 ct19), sl19⟩)
    (c19_ : PySem.W.codeIn K cd19 "want_offers" = true)
    (k19 : PySem.W.keepIn K (.ref f19) = true)
    (a20 : PySem.W.nsIn K mainGlobals "by_gains" = some (some (.ref f20)))
    (l20 : K.lookup f20 = some ⟨oc20, od20, .func (PySem.W.fnOf "by_gains" "by_gains" (defArgs s_by_gains) (defBody s_by_gains) (defScope s_by_gains) .none kV20 dc20 pm20 an20 cd20 ct20), sl20⟩)
    (c20_ : PySem.W.codeIn K cd20 "by_gains" = true)
    (k20 : PySem.W.keepIn K (.ref f20) = true)
    (a21 : PySem.W.nsIn K mainGlobals "poorest_comers" = some (some (.ref f21)))
    (l21 : K.lookup f21 = some ⟨oc21, od21, .func (PySem.W.fnOf "poorest_comers" "poorest_comers" (defArgs s_poorest_comers) (defBody s_poorest_comers) (defScope s_poorest_comers) .none kV21 dc21 pm21 an21 cd21 ct21), sl21⟩)
    (c21_ : PySem.W.codeIn K cd21 "poorest_comers" = true)
    (k21 : PySem.W.keepIn K (.ref f21) = true)
    (a22 : PySem.W.nsIn K mainGlobals "sure_pay" = some (some (.ref f22)))
    (l22 : K.lookup f22 = some ⟨oc22, od22, .func (PySem.W.fnOf "sure_pay" "sure_pay" (defArgs s_sure_pay) (defBody s_sure_pay) (defScope s_sure_pay) .none kV22 dc22 pm22 an22 cd22 ct22), sl22⟩)
    (c22_ : PySem.W.codeIn K cd22 "sure_pay" = true)
    (k22 : PySem.W.keepIn K (.ref f22) = true)
    (a23 : PySem.W.nsIn K mainGlobals "richest_comers" = some (some (.ref f23)))
    (l23 : K.lookup f23 = some ⟨oc23, od23, .func (PySem.W.fnOf "richest_comers" "richest_comers" (defArgs s_richest_comers) (defBody s_richest_comers) (defScope s_richest_comers) .none kV23 dc23 pm23 an23 cd23 ct23), sl23⟩)
    (c23_ : PySem.W.codeIn K cd23 "richest_comers" = true)
    (k23 : PySem.W.keepIn K (.ref f23) = true)
    (a24 : PySem.W.nsIn K mainGlobals "greatest_group_pay" = some (some (.ref f24)))
    (l24 : K.lookup f24 = some ⟨oc24, od24, .func (PySem.W.fnOf "greatest_group_pay" "greatest_group_pay" (defArgs s_greatest_group_pay) (defBody s_greatest_group_pay) (defScope s_greatest_group_pay) .none kV24 dc24 pm24 an24 cd24 ct24), sl24⟩)
    (c24_ : PySem.W.codeIn K cd24 "greatest_group_pay" = true)
    (k24 : PySem.W.keepIn K (.ref f24) = true)
    (a25 : PySem.W.nsIn K mainGlobals "_law_whole" = some (some (.ref f25)))
    (l25 : K.lookup f25 = some ⟨oc25, od25, .func (PySem.W.fnOf "_law_whole" "_law_whole" (defArgs s__law_whole) (defBody s__law_whole) (defScope s__law_whole) .none kV25 dc25 pm25 an25 cd25 ct25), sl25⟩)
    (c25_ : PySem.W.codeIn K cd25 "_law_whole" = true)
    (k25 : PySem.W.keepIn K (.ref f25) = true)
    (a26 : PySem.W.nsIn K mainGlobals "least_for" = some (some (.ref f26)))
    (l26 : K.lookup f26 = some ⟨oc26, od26, .func (PySem.W.fnOf "least_for" "least_for" (defArgs s_least_for) (defBody s_least_for) (defScope s_least_for) .none kV26 dc26 pm26 an26 cd26 ct26), sl26⟩)
    (c26_ : PySem.W.codeIn K cd26 "least_for" = true)
    (k26 : PySem.W.keepIn K (.ref f26) = true)
    (a27 : PySem.W.nsIn K mainGlobals "_law_refused" = some (some (.ref f27)))
    (l27 : K.lookup f27 = some ⟨oc27, od27, .func (PySem.W.fnOf "_law_refused" "_law_refused" (defArgs s__law_refused) (defBody s__law_refused) (defScope s__law_refused) .none kV27 dc27 pm27 an27 cd27 ct27), sl27⟩)
    (c27_ : PySem.W.codeIn K cd27 "_law_refused" = true)
    (k27 : PySem.W.keepIn K (.ref f27) = true)
    (a28 : PySem.W.nsIn K mainGlobals "_law_name" = some (some (.ref f28)))
    (l28 : K.lookup f28 = some ⟨oc28, od28, .func (PySem.W.fnOf "_law_name" "_law_name" (defArgs s__law_name) (defBody s__law_name) (defScope s__law_name) .none kV28 dc28 pm28 an28 cd28 ct28), sl28⟩)
    (c28_ : PySem.W.codeIn K cd28 "_law_name" = true)
    (k28 : PySem.W.keepIn K (.ref f28) = true)
    (a29 : PySem.W.nsIn K mainGlobals "_law_if" = some (some (.ref f29)))
    (l29 : K.lookup f29 = some ⟨oc29, od29, .func (PySem.W.fnOf "_law_if" "_law_if" (defArgs s__law_if) (defBody s__law_if) (defScope s__law_if) .none kV29 dc29 pm29 an29 cd29 ct29), sl29⟩)
    (c29_ : PySem.W.codeIn K cd29 "_law_if" = true)
    (k29 : PySem.W.keepIn K (.ref f29) = true)
    (a30 : PySem.W.nsIn K mainGlobals "_law_alike" = some (some (.ref f30)))
    (l30 : K.lookup f30 = some ⟨oc30, od30, .func (PySem.W.fnOf "_law_alike" "_law_alike" (defArgs s__law_alike) (defBody s__law_alike) (defScope s__law_alike) .none kV30 dc30 pm30 an30 cd30 ct30), sl30⟩)
    (c30_ : PySem.W.codeIn K cd30 "_law_alike" = true)
    (k30 : PySem.W.keepIn K (.ref f30) = true)
    (a31 : PySem.W.nsIn K mainGlobals "all_sure" = some (some (.ref f31)))
    (l31 : K.lookup f31 = some ⟨oc31, od31, .func (PySem.W.fnOf "all_sure" "all_sure" (defArgs s_all_sure) (defBody s_all_sure) (defScope s_all_sure) .none kV31 dc31 pm31 an31 cd31 ct31), sl31⟩)
    (c31_ : PySem.W.codeIn K cd31 "all_sure" = true)
    (k31 : PySem.W.keepIn K (.ref f31) = true)
    (a32 : PySem.W.nsIn K mainGlobals "sure_request" = some (some (.ref f32)))
    (l32 : K.lookup f32 = some ⟨oc32, od32, .func (PySem.W.fnOf "sure_request" "sure_request" (defArgs s_sure_request) (defBody s_sure_request) (defScope s_sure_request) .none kV32 dc32 pm32 an32 cd32 ct32), sl32⟩)
    (c32_ : PySem.W.codeIn K cd32 "sure_request" = true)
    (k32 : PySem.W.keepIn K (.ref f32) = true)
    (a33 : PySem.W.nsIn K mainGlobals "_law_subsets" = some (some (.ref f33)))
    (l33 : K.lookup f33 = some ⟨oc33, od33, .func (PySem.W.fnOf "_law_subsets" "_law_subsets" (defArgs s__law_subsets) (defBody s__law_subsets) (defScope s__law_subsets) .none kV33 dc33 pm33 an33 cd33 ct33), sl33⟩)
    (c33_ : PySem.W.codeIn K cd33 "_law_subsets" = true)
    (k33 : PySem.W.keepIn K (.ref f33) = true)
    (a34 : PySem.W.nsIn K mainGlobals "pay_spread" = some (some (.ref f34)))
    (l34 : K.lookup f34 = some ⟨oc34, od34, .func (PySem.W.fnOf "pay_spread" "pay_spread" (defArgs s_pay_spread) (defBody s_pay_spread) (defScope s_pay_spread) .none kV34 dc34 pm34 an34 cd34 ct34), sl34⟩)
    (c34_ : PySem.W.codeIn K cd34 "pay_spread" = true)
    (k34 : PySem.W.keepIn K (.ref f34) = true)
    (a35 : PySem.W.nsIn K mainGlobals "is_name" = some (some (.ref f35)))
    (l35 : K.lookup f35 = some ⟨oc35, od35, .func (PySem.W.fnOf "is_name" "is_name" (defArgs s_is_name) (defBody s_is_name) (defScope s_is_name) .none kV35 dc35 pm35 an35 cd35 ct35), sl35⟩)
    (c35_ : PySem.W.codeIn K cd35 "is_name" = true)
    (k35 : PySem.W.keepIn K (.ref f35) = true)
    (a36 : PySem.W.nsIn K mainGlobals "want_name" = some (some (.ref f36)))
    (l36 : K.lookup f36 = some ⟨oc36, od36, .func (PySem.W.fnOf "want_name" "want_name" (defArgs s_want_name) (defBody s_want_name) (defScope s_want_name) .none kV36 dc36 pm36 an36 cd36 ct36), sl36⟩)
    (c36_ : PySem.W.codeIn K cd36 "want_name" = true)
    (k36 : PySem.W.keepIn K (.ref f36) = true)
    (a37 : PySem.W.nsIn K mainGlobals "is_night" = some (some (.ref f37)))
    (l37 : K.lookup f37 = some ⟨oc37, od37, .func (PySem.W.fnOf "is_night" "is_night" (defArgs s_is_night) (defBody s_is_night) (defScope s_is_night) .none kV37 dc37 pm37 an37 cd37 ct37), sl37⟩)
    (c37_ : PySem.W.codeIn K cd37 "is_night" = true)
    (k37 : PySem.W.keepIn K (.ref f37) = true)
    (a38 : PySem.W.nsIn K mainGlobals "is_span" = some (some (.ref f38)))
    (l38 : K.lookup f38 = some ⟨oc38, od38, .func (PySem.W.fnOf "is_span" "is_span" (defArgs s_is_span) (defBody s_is_span) (defScope s_is_span) .none kV38 dc38 pm38 an38 cd38 ct38), sl38⟩)
    (c38_ : PySem.W.codeIn K cd38 "is_span" = true)
    (k38 : PySem.W.keepIn K (.ref f38) = true)
    (a39 : PySem.W.nsIn K mainGlobals "copied_spans" = some (some (.ref f39)))
    (l39 : K.lookup f39 = some ⟨oc39, od39, .func (PySem.W.fnOf "copied_spans" "copied_spans" (defArgs s_copied_spans) (defBody s_copied_spans) (defScope s_copied_spans) .none kV39 dc39 pm39 an39 cd39 ct39), sl39⟩)
    (c39_ : PySem.W.codeIn K cd39 "copied_spans" = true)
    (k39 : PySem.W.keepIn K (.ref f39) = true)
    (a40 : PySem.W.nsIn K mainGlobals "want_number" = some (some (.ref f40)))
    (l40 : K.lookup f40 = some ⟨oc40, od40, .func (PySem.W.fnOf "want_number" "want_number" (defArgs s_want_number) (defBody s_want_number) (defScope s_want_number) .none kV40 dc40 pm40 an40 cd40 ct40), sl40⟩)
    (c40_ : PySem.W.codeIn K cd40 "want_number" = true)
    (k40 : PySem.W.keepIn K (.ref f40) = true)
    (a41 : PySem.W.findIn K (.ref c0) "__init__" = some (some (.ref f41)))
    (n41 : PySem.W.isFn K (.ref f41) = true)
    (l41 : K.lookup f41 = some ⟨oc41, od41, .func (PySem.W.fnOf "__init__" "Group.__init__" (defArgs s_Group__init) (defBody s_Group__init) (defScope s_Group__init) (.ref T41) kV41 dc41 pm41 an41 cd41 ct41), sl41⟩)
    (c41_ : PySem.W.codeIn K cd41 "Group.__init__" = true)
    (k41 : PySem.W.keepIn K (.ref f41) = true)
    (d41 : K.lookup T41 = some ⟨.type "tuple", oT41, .seq #[.int 0 te41_0, .int 0 te41_1] nT41, sT41⟩)
    (a42 : PySem.W.nsIn K mainGlobals "law" = some (some (.ref f42)))
    (l42 : K.lookup f42 = some ⟨oc42, od42, .func (PySem.W.fnOf "law" "law" (defArgs s_law) (defBody s_law) (defScope s_law) .none kV42 dc42 pm42 an42 (.ref cT) ct42), sl42⟩)
    (c42_ : PySem.W.codeIn K (.ref cT) "law" = true)
    (lc_ : K.lookup cT = some ⟨eT, dT, .fields vsT, sT⟩)
    (lp_ : vsT[11]? = some (.ref PT))
    (ln_ : K.lookup PT = none)
    (k42 : PySem.W.keepIn K (.ref f42) = true)
    (ea_BadItem : PySem.W.nsIn K mainGlobals "BadItem" = some (some (.ref e_BadItem)))
    (ea_BadName : PySem.W.nsIn K mainGlobals "BadName" = some (some (.ref e_BadName)))
    (ea_BadNumber : PySem.W.nsIn K mainGlobals "BadNumber" = some (some (.ref e_BadNumber)))
    (ea_TooMany : PySem.W.nsIn K mainGlobals "TooMany" = some (some (.ref e_TooMany)))
    (eo_BadItem : K.lookup e_BadItem = some (excClassObj nm_BadItem qn_BadItem e_BadItem ns_BadItem bs_BadItem bm_BadItem true sn_BadItem sub_BadItem ab_BadItem col_BadItem dd_BadItem k0_BadItem k1_BadItem k2_BadItem k3_BadItem k5_BadItem "ValueError.__new__"))
    (er_BadItem : PySem.HandSPX.refsVE bm_BadItem = true)
    (es_BadItem : PySem.W.findIn K (.ref e_BadItem) "__setattr__" = some (some (.builtin "object.__setattr__")))
    (ee_BadItem : PySem.W.subIn K (.ref e_BadItem) (.type "BaseException") = some true)
    (et_BadItem : PySem.W.typeIn K (.ref e_BadItem) = some (.type "type"))
    (ek_BadItem : PySem.W.keepIn K (.ref e_BadItem) = true)
    (ei_BadItem : PySem.W.findIn K (.ref e_BadItem) "__init__" = some (some (.ref fi_BadItem)))
    (ef_BadItem : PySem.W.typeIn K (.ref fi_BadItem) = some (.type "function"))
    (el_BadItem : K.lookup fi_BadItem = some ⟨oci_BadItem, odi_BadItem, .func (PySem.W.fnOf "__init__" "BadItem.__init__" (defArgs s_BadItem__init) (defBody s_BadItem__init) (defScope s_BadItem__init) .none kVi_BadItem dci_BadItem pmi_BadItem ani_BadItem cdi_BadItem cti_BadItem), sli_BadItem⟩)
    (ec_BadItem : PySem.W.codeIn K cdi_BadItem "BadItem.__init__" = true)
    (ekf_BadItem : PySem.W.keepIn K (.ref fi_BadItem) = true)
    (eh_BadItem : PySem.W.findIn K (.ref e_BadItem) "index" = some none)
    (eo_BadName : K.lookup e_BadName = some (excClassObj nm_BadName qn_BadName e_BadName ns_BadName bs_BadName bm_BadName true sn_BadName sub_BadName ab_BadName col_BadName dd_BadName k0_BadName k1_BadName k2_BadName k3_BadName k5_BadName "ValueError.__new__"))
    (er_BadName : PySem.HandSPX.refsVE bm_BadName = true)
    (es_BadName : PySem.W.findIn K (.ref e_BadName) "__setattr__" = some (some (.builtin "object.__setattr__")))
    (ee_BadName : PySem.W.subIn K (.ref e_BadName) (.type "BaseException") = some true)
    (et_BadName : PySem.W.typeIn K (.ref e_BadName) = some (.type "type"))
    (ek_BadName : PySem.W.keepIn K (.ref e_BadName) = true)
    (ei_BadName : PySem.W.findIn K (.ref e_BadName) "__init__" = some (some (.ref fi_BadName)))
    (ef_BadName : PySem.W.typeIn K (.ref fi_BadName) = some (.type "function"))
    (el_BadName : K.lookup fi_BadName = some ⟨oci_BadName, odi_BadName, .func (PySem.W.fnOf "__init__" "BadName.__init__" (defArgs s_BadName__init) (defBody s_BadName__init) (defScope s_BadName__init) .none kVi_BadName dci_BadName pmi_BadName ani_BadName cdi_BadName cti_BadName), sli_BadName⟩)
    (ec_BadName : PySem.W.codeIn K cdi_BadName "BadName.__init__" = true)
    (ekf_BadName : PySem.W.keepIn K (.ref fi_BadName) = true)
    (eh_BadName : PySem.W.findIn K (.ref e_BadName) "value" = some none)
    (eo_BadNumber : K.lookup e_BadNumber = some (excClassObj nm_BadNumber qn_BadNumber e_BadNumber ns_BadNumber bs_BadNumber bm_BadNumber true sn_BadNumber sub_BadNumber ab_BadNumber col_BadNumber dd_BadNumber k0_BadNumber k1_BadNumber k2_BadNumber k3_BadNumber k5_BadNumber "ValueError.__new__"))
    (er_BadNumber : PySem.HandSPX.refsVE bm_BadNumber = true)
    (es_BadNumber : PySem.W.findIn K (.ref e_BadNumber) "__setattr__" = some (some (.builtin "object.__setattr__")))
    (ee_BadNumber : PySem.W.subIn K (.ref e_BadNumber) (.type "BaseException") = some true)
    (et_BadNumber : PySem.W.typeIn K (.ref e_BadNumber) = some (.type "type"))
    (ek_BadNumber : PySem.W.keepIn K (.ref e_BadNumber) = true)
    (ei_BadNumber : PySem.W.findIn K (.ref e_BadNumber) "__init__" = some (some (.ref fi_BadNumber)))
    (ef_BadNumber : PySem.W.typeIn K (.ref fi_BadNumber) = some (.type "function"))
    (el_BadNumber : K.lookup fi_BadNumber = some ⟨oci_BadNumber, odi_BadNumber, .func (PySem.W.fnOf "__init__" "BadNumber.__init__" (defArgs s_BadNumber__init) (defBody s_BadNumber__init) (defScope s_BadNumber__init) .none kVi_BadNumber dci_BadNumber pmi_BadNumber ani_BadNumber cdi_BadNumber cti_BadNumber), sli_BadNumber⟩)
    (ec_BadNumber : PySem.W.codeIn K cdi_BadNumber "BadNumber.__init__" = true)
    (ekf_BadNumber : PySem.W.keepIn K (.ref fi_BadNumber) = true)
    (eh_BadNumber : PySem.W.findIn K (.ref e_BadNumber) "value" = some none)
    (eo_TooMany : K.lookup e_TooMany = some (excClassObj nm_TooMany qn_TooMany e_TooMany ns_TooMany bs_TooMany bm_TooMany true sn_TooMany sub_TooMany ab_TooMany col_TooMany dd_TooMany k0_TooMany k1_TooMany k2_TooMany k3_TooMany k5_TooMany "ValueError.__new__"))
    (er_TooMany : PySem.HandSPX.refsVE bm_TooMany = true)
    (es_TooMany : PySem.W.findIn K (.ref e_TooMany) "__setattr__" = some (some (.builtin "object.__setattr__")))
    (ee_TooMany : PySem.W.subIn K (.ref e_TooMany) (.type "BaseException") = some true)
    (et_TooMany : PySem.W.typeIn K (.ref e_TooMany) = some (.type "type"))
    (ek_TooMany : PySem.W.keepIn K (.ref e_TooMany) = true)
    (ei_TooMany : PySem.W.findIn K (.ref e_TooMany) "__init__" = some (some (.ref fi_TooMany)))
    (ef_TooMany : PySem.W.typeIn K (.ref fi_TooMany) = some (.type "function"))
    (el_TooMany : K.lookup fi_TooMany = some ⟨oci_TooMany, odi_TooMany, .func (PySem.W.fnOf "__init__" "TooMany.__init__" (defArgs s_TooMany__init) (defBody s_TooMany__init) (defScope s_TooMany__init) .none kVi_TooMany dci_TooMany pmi_TooMany ani_TooMany cdi_TooMany cti_TooMany), sli_TooMany⟩)
    (ec_TooMany : PySem.W.codeIn K cdi_TooMany "TooMany.__init__" = true)
    (ekf_TooMany : PySem.W.keepIn K (.ref fi_TooMany) = true)
    (eh_TooMany : PySem.W.findIn K (.ref e_TooMany) "limit" = some none)
    (eq_BadItem : PySem.W.subIn K (.ref e_BadItem) (.type "BaseException") = some true)
    (ek2_BadItem : PySem.W.isClsIn K e_BadItem = true)
    (ek3_BadItem : PySem.W.typeIn K (.ref e_BadItem) = some (.type "type"))
    (ek1_BadItem_BadItem : PySem.W.subIn K (.ref e_BadItem) (.ref e_BadItem) = some true)
    (ek1_BadName_BadItem : PySem.W.subIn K (.ref e_BadName) (.ref e_BadItem) = some false)
    (ek1_BadNumber_BadItem : PySem.W.subIn K (.ref e_BadNumber) (.ref e_BadItem) = some false)
    (ek1_TooMany_BadItem : PySem.W.subIn K (.ref e_TooMany) (.ref e_BadItem) = some false)
    (eb1_BadItem_index : PySem.W.findIn K (.ref e_BadItem) "__getattribute__" = some (some (.builtin "BaseException.__getattribute__")))
    (eb2_BadItem_index : PySem.W.findIn K (.ref e_BadItem) "__getattr__" = some none)
    (eb3_BadItem_index : PySem.W.hasDictIn K e_BadItem = true)
    (en_BadItem_index : PySem.W.findIn K (.ref e_BadItem) "index" = some none)
    : ∃ (fd : FuncData) (c P : Addr), (∀ (s : Shared) (u : Value), BindsTo s fd ⟨[u], []⟩ [("script", u)]) ∧ TabK K mg "law" c P ∧ ∀ base : Heap, K.In base → base.Ns mainGlobals mg → LamX.TabB base mg c P → FnOk l.prog w K mg base (L2.CX l.prog w) 10 fa fd ["script"] (spF K 1 (@m_law ⟨P⟩)) := by
  have e := hfa.symm.trans (PySem.W.mg_of X G a42)
  cases e
  have v0 : clsV K "Group" = .ref c0 := clsV_of ca0
  have g0 : mg "Group" = some (.ref c0) := PySem.W.mg_of X G ca0
  have cl0 : Cls K c0 := ⟨cg0, ch0, cp0, cs0⟩
  have cx0 : ClsX K "Group" := ⟨c0, v0, cl0, cc0, kk1, kk2, co0⟩
  have ty0 : ∀ T ∈ tys0, ∀ Ca, clsV K "Group" = .ref Ca → PySem.W.subIn K (.type T) (.ref Ca) = some false := fun T hT Ca hC => by
    rw [v0] at hC
    cases hC
    simp only [tys0, List.mem_cons, List.not_mem_nil, or_false] at hT
    rcases hT with rfl | rfl | rfl | rfl | rfl | rfl | rfl <;> assumption
  have ot0 : ∀ C' ∈ ([] : List Str), ClsX K C' ∧ ∀ Ca Cb, clsV K "Group" = .ref Ca → clsV K C' = .ref Cb → PySem.W.subIn K (.ref Cb) (.ref Ca) = some false ∧ Cb ≠ Ca := fun C' hC' => by cases hC'
  have CF : Cfs K mg := ⟨⟨c0, v0, cl0, cf_Group_least⟩, ⟨c0, v0, cl0, cf_Group_most⟩, ⟨c0, v0, cl0, cf_Group_late_nights⟩, ⟨c0, v0, cl0, cf_Group_late_guests⟩, ⟨c0, v0, cl0, cf_Group_spans⟩, ⟨c0, v0, cl0, cf_Group_name⟩, ⟨⟨c0, v0, g0, ci0, cy0, cu0⟩, cx0, ty0, ot0⟩⟩
  have T : Txt K mg := ⟨PySem.W.mg_none_of X G z_all, PySem.W.mg_none_of X G z_bool, PySem.W.mg_none_of X G z_enumerate, PySem.W.mg_none_of X G z_int, PySem.W.mg_none_of X G z_isinstance, PySem.W.mg_none_of X G z_len, PySem.W.mg_none_of X G z_list, PySem.W.mg_none_of X G z_max, PySem.W.mg_none_of X G z_min, PySem.W.mg_none_of X G z_range, PySem.W.mg_none_of X G z_sorted, PySem.W.mg_none_of X G z_str, PySem.W.mg_none_of X G z_sum, PySem.W.mg_none_of X G z_tuple, PySem.W.mg_none_of X G z_zip, ⟨_, PySem.W.mg_of X G q_FIGURES⟩, ⟨_, PySem.W.mg_of X G q_LAST_NIGHT⟩, ⟨_, PySem.W.mg_of X G q_LETTERS⟩, ⟨_, PySem.W.mg_of X G q_LONGEST_NAME⟩, ⟨_, PySem.W.mg_of X G q_MOST_LATE_NIGHTS⟩, ⟨_, PySem.W.mg_of X G q_MOST_PAY⟩, ⟨_, PySem.W.mg_of X G q_MOST_STAYS⟩⟩
  have F0 := fun_mk (st := s__law_taken) l0 c0_ k0
  have B0 := F0.binds (ps := ["row", "many"]) fun _ _ _ _ _ _ us hl => match us, hl with | [_, _], _ => rfl
  have F1 := fun_mk (st := s__law_span) l1 c1_ k1
  have B1 := F1.binds (ps := ["row", "top", "longest"]) fun _ _ _ _ _ _ us hl => match us, hl with | [_, _, _], _ => rfl
  have F2 := fun_mk (st := s__law_spans) l2 c2_ k2
  have B2 := F2.binds (ps := ["row", "many", "top", "longest"]) fun _ _ _ _ _ _ us hl => match us, hl with | [_, _, _, _], _ => rfl
  have F3 := fun_mk (st := s__law_mixed) l3 c3_ k3
  have B3 := F3.binds (ps := ["row", "value"]) fun _ _ _ _ _ _ us hl => match us, hl with | [_, _], _ => rfl
  have F4 := fun_mk (st := s__law_handed) l4 c4_ k4
  have B4 := F4.binds (ps := ["row", "spans"]) fun _ _ _ _ _ _ us hl => match us, hl with | [_, _], _ => rfl
  have F5 := fun_mk (st := s__law_subset) l5 c5_ k5
  have B5 := F5.binds (ps := ["row", "many"]) fun _ _ _ _ _ _ us hl => match us, hl with | [_, _], _ => rfl
  have F6 := fun_mk (st := s__law_pick) l6 c6_ k6
  have B6 := F6.binds (ps := ["row", "kinds"]) fun _ _ _ _ _ _ us hl => match us, hl with | [_, _], _ => rfl
  have F7 := fun_mk (st := s_gains_of) l7 c7_ k7
  have B7 := F7.binds (ps := ["offers"]) fun _ _ _ _ _ _ us hl => match us, hl with | [_], _ => rfl
  have F8 := fun_mk (st := s_fees_of) l8 c8_ k8
  have B8 := F8.binds (ps := ["offers"]) fun _ _ _ _ _ _ us hl => match us, hl with | [_], _ => rfl
  have F9 := fun_mk (st := s_pay_if) l9 c9_ k9
  have B9 := F9.binds (ps := ["offers", "comers"]) fun _ _ _ _ _ _ us hl => match us, hl with | [_, _], _ => rfl
  have F10 := fun_mk (st := s_is_sequence) l10 c10_ k10
  have B10 := F10.binds (ps := ["value"]) fun _ _ _ _ _ _ us hl => match us, hl with | [_], _ => rfl
  have F11 := fun_mk (st := s_want_sequence) l11 c11_ k11
  have B11 := F11.binds (ps := ["value"]) fun _ _ _ _ _ _ us hl => match us, hl with | [_], _ => rfl
  have F12 := fun_mk (st := s_first_wrong) l12 c12_ k12
  have B12 := F12.binds (ps := ["marks"]) fun _ _ _ _ _ _ us hl => match us, hl with | [_], _ => rfl
  have F13 := fun_mk (st := s_want_right) l13 c13_ k13
  have B13 := F13.binds (ps := ["marks", "limit"]) fun _ _ _ _ _ _ us hl => match us, hl with | [_, _], _ => rfl
  have F14 := fun_mk (st := s_is_row) l14 c14_ k14
  have B14 := F14.binds (ps := ["value", "size"]) fun _ _ _ _ _ _ us hl => match us, hl with | [_, _], _ => rfl
  have F15 := fun_mk (st := s_is_whole) l15 c15_ k15
  have B15 := F15.binds (ps := ["value"]) fun _ _ _ _ _ _ us hl => match us, hl with | [_], _ => rfl
  have F16 := fun_mk (st := s_is_between) l16 c16_ k16
  have B16 := F16.binds (ps := ["value", "least", "most"]) fun _ _ _ _ _ _ us hl => match us, hl with | [_, _, _], _ => rfl
  have F17 := fun_mk (st := s_is_offer) l17 c17_ k17
  have B17 := F17.binds (ps := ["value"]) fun _ _ _ _ _ _ us hl => match us, hl with | [_], _ => rfl
  have F18 := fun_mk (st := s_Group__len) l18 c18_ k18
  have B18 := F18.binds (ps := ["self"]) fun _ _ _ _ _ _ us hl => match us, hl with | [_], _ => rfl
  have F19 := fun_mk (st := s_want_offers) l19 c19_ k19
  have B19 := F19.binds (ps := ["group", "offers"]) fun _ _ _ _ _ _ us hl => match us, hl with | [_, _], _ => rfl
  have F20 := fun_mk (st := s_by_gains) l20 c20_ k20
  have B20 := F20.binds (ps := ["offers"]) fun _ _ _ _ _ _ us hl => match us, hl with | [_], _ => rfl
  have F21 := fun_mk (st := s_poorest_comers) l21 c21_ k21
  have B21 := F21.binds (ps := ["group", "offers"]) fun _ _ _ _ _ _ us hl => match us, hl with | [_, _], _ => rfl
  have F22 := fun_mk (st := s_sure_pay) l22 c22_ k22
  have B22 := F22.binds (ps := ["group", "offers"]) fun _ _ _ _ _ _ us hl => match us, hl with | [_, _], _ => rfl
  have F23 := fun_mk (st := s_richest_comers) l23 c23_ k23
  have B23 := F23.binds (ps := ["group", "offers"]) fun _ _ _ _ _ _ us hl => match us, hl with | [_, _], _ => rfl
  have F24 := fun_mk (st := s_greatest_group_pay) l24 c24_ k24
  have B24 := F24.binds (ps := ["group", "offers"]) fun _ _ _ _ _ _ us hl => match us, hl with | [_, _], _ => rfl
  have F25 := fun_mk (st := s__law_whole) l25 c25_ k25
  have B25 := F25.binds (ps := ["value"]) fun _ _ _ _ _ _ us hl => match us, hl with | [_], _ => rfl
  have F26 := fun_mk (st := s_least_for) l26 c26_ k26
  have B26 := F26.binds (ps := ["group", "offers", "wanted"]) fun _ _ _ _ _ _ us hl => match us, hl with | [_, _, _], _ => rfl
  have F27 := fun_mk (st := s__law_refused) l27 c27_ k27
  have B27 := F27.binds (ps := ["group", "offers", "index"]) fun _ _ _ _ _ _ us hl => match us, hl with | [_, _, _], _ => rfl
  have F28 := fun_mk (st := s__law_name) l28 c28_ k28
  have B28 := F28.binds (ps := ["row"]) fun _ _ _ _ _ _ us hl => match us, hl with | [_], _ => rfl
  have F29 := fun_mk (st := s__law_if) l29 c29_ k29
  have B29 := F29.binds (ps := ["offers", "comers"]) fun _ _ _ _ _ _ us hl => match us, hl with | [_, _], _ => rfl
  have F30 := fun_mk (st := s__law_alike) l30 c30_ k30
  have B30 := F30.binds (ps := ["found", "due"]) fun _ _ _ _ _ _ us hl => match us, hl with | [_, _], _ => rfl
  have F31 := fun_mk (st := s_all_sure) l31 c31_ k31
  have B31 := F31.binds (ps := ["groups", "offers"]) fun _ _ _ _ _ _ us hl => match us, hl with | [_, _], _ => rfl
  have F32 := fun_mk (st := s_sure_request) l32 c32_ k32
  have B32 := F32.binds (ps := ["pay", "fee"]) fun _ _ _ _ _ _ us hl => match us, hl with | [_, _], _ => rfl
  have F33 := fun_mk (st := s__law_subsets) l33 c33_ k33
  have B33 := F33.binds (ps := ["many"]) fun _ _ _ _ _ _ us hl => match us, hl with | [_], _ => rfl
  have F34 := fun_mk (st := s_pay_spread) l34 c34_ k34
  have B34 := F34.binds (ps := ["group", "offers"]) fun _ _ _ _ _ _ us hl => match us, hl with | [_, _], _ => rfl
  have F35 := fun_mk (st := s_is_name) l35 c35_ k35
  have B35 := F35.binds (ps := ["value"]) fun _ _ _ _ _ _ us hl => match us, hl with | [_], _ => rfl
  have F36 := fun_mk (st := s_want_name) l36 c36_ k36
  have B36 := F36.binds (ps := ["value"]) fun _ _ _ _ _ _ us hl => match us, hl with | [_], _ => rfl
  have F37 := fun_mk (st := s_is_night) l37 c37_ k37
  have B37 := F37.binds (ps := ["value"]) fun _ _ _ _ _ _ us hl => match us, hl with | [_], _ => rfl
  have F38 := fun_mk (st := s_is_span) l38 c38_ k38
  have B38 := F38.binds (ps := ["value"]) fun _ _ _ _ _ _ us hl => match us, hl with | [_], _ => rfl
  have F39 := fun_mk (st := s_copied_spans) l39 c39_ k39
  have B39 := F39.binds (ps := ["value", "limit"]) fun _ _ _ _ _ _ us hl => match us, hl with | [_, _], _ => rfl
  have F40 := fun_mk (st := s_want_number) l40 c40_ k40
  have B40 := F40.binds (ps := ["value", "least", "most"]) fun _ _ _ _ _ _ us hl => match us, hl with | [_, _, _], _ => rfl
  have F41 := funD_mk (st := s_Group__init) (its := [.int 0 te41_0, .int 0 te41_1]) (dvs := [V.int 0, V.int 0]) l41 c41_ k41 d41 (.cons ⟨_, rfl⟩ (.cons ⟨_, rfl⟩ .nil)) (by simp)
  have B41 : Dfl K _ ["self", "name", "spans", "least", "most", "late_guests", "late_nights"] [] := Dfl.of F41 7 2 (by simp) rfl (fun _ _ => .nil) fun _ _ _ _ _ _ _ us its h1 h2 => match us, its, h1, h2 with | [_, _, _, _, _, _, _], [_, _], _, _ => ⟨_, rfl, rfl⟩
  have B41_1 : Dfl K _ ["self", "name", "spans", "least", "most", "late_guests", "late_nights"] [(.int 0)] := Dfl.of F41 6 1 (by simp) rfl (fun _ _ => (.cons (.int _) .nil)) fun _ _ _ _ _ _ _ us its h1 h2 => match us, its, h1, h2 with | [_, _, _, _, _, _], [_, _], _, _ => ⟨_, rfl, rfl⟩
  have B41_2 : Dfl K _ ["self", "name", "spans", "least", "most", "late_guests", "late_nights"] [(.int 0), (.int 0)] := Dfl.of F41 5 0 (by simp) rfl (fun _ _ => (.cons (.int _) (.cons (.int _) .nil))) fun _ _ _ _ _ _ _ us its h1 h2 => match us, its, h1, h2 with | [_, _, _, _, _], [_, _], _, _ => ⟨_, rfl, rfl⟩
  have F42 := fun_mk (st := s_law) l42 c42_ k42
  have ve_BadItem : clsV K "BadItem" = .ref e_BadItem := clsV_of ea_BadItem
  have ge_BadItem : mg "BadItem" = some (.ref e_BadItem) := PySem.W.mg_of X G ea_BadItem
  have ve_BadName : clsV K "BadName" = .ref e_BadName := clsV_of ea_BadName
  have ge_BadName : mg "BadName" = some (.ref e_BadName) := PySem.W.mg_of X G ea_BadName
  have ve_BadNumber : clsV K "BadNumber" = .ref e_BadNumber := clsV_of ea_BadNumber
  have ge_BadNumber : mg "BadNumber" = some (.ref e_BadNumber) := PySem.W.mg_of X G ea_BadNumber
  have ve_TooMany : clsV K "TooMany" = .ref e_TooMany := clsV_of ea_TooMany
  have ge_TooMany : mg "TooMany" = some (.ref e_TooMany) := PySem.W.mg_of X G ea_TooMany
  have OE_BadItem : OexC K e_BadItem := ⟨⟨_, _, _, _, _, _, _, _, _, _, _, _, _, _, _, eo_BadItem, er_BadItem⟩, es_BadItem, ee_BadItem, et_BadItem, ek_BadItem⟩
  have FE_BadItem := fun_mk (st := s_BadItem__init) el_BadItem ec_BadItem ekf_BadItem
  have BE_BadItem := FE_BadItem.binds (ps := ["self", "index"]) fun _ _ _ _ _ _ us hl => match us, hl with | [_, _], _ => rfl
  have OE_BadName : OexC K e_BadName := ⟨⟨_, _, _, _, _, _, _, _, _, _, _, _, _, _, _, eo_BadName, er_BadName⟩, es_BadName, ee_BadName, et_BadName, ek_BadName⟩
  have FE_BadName := fun_mk (st := s_BadName__init) el_BadName ec_BadName ekf_BadName
  have BE_BadName := FE_BadName.binds (ps := ["self", "value"]) fun _ _ _ _ _ _ us hl => match us, hl with | [_, _], _ => rfl
  have OE_BadNumber : OexC K e_BadNumber := ⟨⟨_, _, _, _, _, _, _, _, _, _, _, _, _, _, _, eo_BadNumber, er_BadNumber⟩, es_BadNumber, ee_BadNumber, et_BadNumber, ek_BadNumber⟩
  have FE_BadNumber := fun_mk (st := s_BadNumber__init) el_BadNumber ec_BadNumber ekf_BadNumber
  have BE_BadNumber := FE_BadNumber.binds (ps := ["self", "value"]) fun _ _ _ _ _ _ us hl => match us, hl with | [_, _], _ => rfl
  have OE_TooMany : OexC K e_TooMany := ⟨⟨_, _, _, _, _, _, _, _, _, _, _, _, _, _, _, eo_TooMany, er_TooMany⟩, es_TooMany, ee_TooMany, et_TooMany, ek_TooMany⟩
  have FE_TooMany := fun_mk (st := s_TooMany__init) el_TooMany ec_TooMany ekf_TooMany
  have BE_TooMany := FE_TooMany.binds (ps := ["self", "limit"]) fun _ _ _ _ _ _ us hl => match us, hl with | [_, _], _ => rfl
  have em_BadItem_BadItem : PySem.W.exmOne K (.ref e_BadItem) (.ref e_BadItem) = some true := exm_of ek2_BadItem ek3_BadItem ek1_BadItem_BadItem eq_BadItem
  have em_BadName_BadItem : PySem.W.exmOne K (.ref e_BadName) (.ref e_BadItem) = some false := exm_of ek2_BadItem ek3_BadItem ek1_BadName_BadItem eq_BadItem
  have em_BadNumber_BadItem : PySem.W.exmOne K (.ref e_BadNumber) (.ref e_BadItem) = some false := exm_of ek2_BadItem ek3_BadItem ek1_BadNumber_BadItem eq_BadItem
  have em_TooMany_BadItem : PySem.W.exmOne K (.ref e_TooMany) (.ref e_BadItem) = some false := exm_of ek2_BadItem ek3_BadItem ek1_TooMany_BadItem eq_BadItem
  have tE_BadItem : ∀ C b, tst_BadItem C = some b → PySem.W.exmOne K (clsV K C) (clsV K "BadItem") = some b := fun C b h => by
    unfold tst_BadItem at h
    (repeat' split at h) <;> first | (cases h; done) | (cases h; subst_vars; simp only [ve_BadItem, ve_BadName, ve_BadNumber, ve_TooMany]; assumption)
  have EX : Errs K mg := ⟨by rw [ve_BadItem]; exact ge_BadItem, tE_BadItem, ⟨e_BadItem, ve_BadItem, ⟨eb1_BadItem_index, eb2_BadItem_index, eq_BadItem, eb3_BadItem_index⟩, en_BadItem_index⟩⟩
  refine ⟨PySem.W.fnOf "law" "law" (defArgs s_law) (defBody s_law) (defScope s_law) .none kV42 dc42 pm42 an42 (.ref cT) ct42, cT, PT, fun s v => .of_eq rfl, ⟨⟨fa, oc42, od42, _, sl42, eT, dT, vsT, sT, PySem.W.mg_of X G a42, l42, rfl, lc_, lp_⟩, ln_⟩, fun base _ _ TB => ?_⟩
  letI : TabA := ⟨PT⟩
  have X_BadItem : ExcTx l.prog w K mg base "BadItem" 1 ["index"] := ⟨e_BadItem, fi_BadItem, _, _, ve_BadItem, ge_BadItem, OE_BadItem, ei_BadItem, ef_BadItem, BE_BadItem, init_one FE_BadItem sc_BadItem__init rfl OE_BadItem eh_BadItem rfl (fun _ _ _ _ _ _ => ⟨pe_var rfl (Or.inl rfl), pe_var rfl (Or.inl rfl)⟩) (fun _ _ => rfl)⟩
  have X_BadName : ExcTx l.prog w K mg base "BadName" 1 ["value"] := ⟨e_BadName, fi_BadName, _, _, ve_BadName, ge_BadName, OE_BadName, ei_BadName, ef_BadName, BE_BadName, init_one FE_BadName sc_BadName__init rfl OE_BadName eh_BadName rfl (fun _ _ _ _ _ _ => ⟨pe_var rfl (Or.inl rfl), pe_var rfl (Or.inl rfl)⟩) (fun _ _ => rfl)⟩
  have X_BadNumber : ExcTx l.prog w K mg base "BadNumber" 1 ["value"] := ⟨e_BadNumber, fi_BadNumber, _, _, ve_BadNumber, ge_BadNumber, OE_BadNumber, ei_BadNumber, ef_BadNumber, BE_BadNumber, init_one FE_BadNumber sc_BadNumber__init rfl OE_BadNumber eh_BadNumber rfl (fun _ _ _ _ _ _ => ⟨pe_var rfl (Or.inl rfl), pe_var rfl (Or.inl rfl)⟩) (fun _ _ => rfl)⟩
  have X_TooMany : ExcTx l.prog w K mg base "TooMany" 1 ["limit"] := ⟨e_TooMany, fi_TooMany, _, _, ve_TooMany, ge_TooMany, OE_TooMany, ei_TooMany, ef_TooMany, BE_TooMany, init_one FE_TooMany sc_TooMany__init rfl OE_TooMany eh_TooMany rfl (fun _ _ _ _ _ _ => ⟨pe_var rfl (Or.inl rfl), pe_var rfl (Or.inl rfl)⟩) (fun _ _ => rfl)⟩
  have O0 := ok__law_taken F0 T CF (P := l.prog) (w := w) (base := base)
  have C__law_taken : Cal l.prog w K mg base 1 "_law_taken" 2 m__law_taken := ⟨_, _, _, PySem.W.mg_of X G a0, k0, B0, rfl, O0⟩
  have O1 := ok__law_span F1 T C__law_taken CF (P := l.prog) (w := w) (base := base)
  have C__law_span : Cal l.prog w K mg base 2 "_law_span" 3 m__law_span := ⟨_, _, _, PySem.W.mg_of X G a1, k1, B1, rfl, O1⟩
  have O2 := ok__law_spans F2 T C__law_span CF (P := l.prog) (w := w) (base := base)
  have C__law_spans : Cal l.prog w K mg base 3 "_law_spans" 4 m__law_spans := ⟨_, _, _, PySem.W.mg_of X G a2, k2, B2, rfl, O2⟩
  have O3 := ok__law_mixed F3 T C__law_taken CF (P := l.prog) (w := w) (base := base)
  have C__law_mixed : Cal l.prog w K mg base 2 "_law_mixed" 2 m__law_mixed := ⟨_, _, _, PySem.W.mg_of X G a3, k3, B3, rfl, O3⟩
  have O4 := ok__law_handed F4 T C__law_mixed CF (P := l.prog) (w := w) (base := base)
  have C__law_handed : Cal l.prog w K mg base 3 "_law_handed" 2 m__law_handed := ⟨_, _, _, PySem.W.mg_of X G a4, k4, B4, rfl, O4⟩
  have O5 := ok__law_subset F5 T C__law_taken CF (P := l.prog) (w := w) (base := base)
  have C__law_subset : Cal l.prog w K mg base 2 "_law_subset" 2 m__law_subset := ⟨_, _, _, PySem.W.mg_of X G a5, k5, B5, rfl, O5⟩
  have O6 := ok__law_pick F6 T C__law_taken CF (P := l.prog) (w := w) (base := base)
  have C__law_pick : Cal l.prog w K mg base 2 "_law_pick" 2 m__law_pick := ⟨_, _, _, PySem.W.mg_of X G a6, k6, B6, rfl, O6⟩
  have O7 := ok_gains_of F7 T CF (P := l.prog) (w := w) (base := base)
  have C_gains_of : Cal l.prog w K mg base 1 "gains_of" 1 m_gains_of := ⟨_, _, _, PySem.W.mg_of X G a7, k7, B7, rfl, O7⟩
  have O8 := ok_fees_of F8 T CF (P := l.prog) (w := w) (base := base)
  have C_fees_of : Cal l.prog w K mg base 1 "fees_of" 1 m_fees_of := ⟨_, _, _, PySem.W.mg_of X G a8, k8, B8, rfl, O8⟩
  have O9 := ok_pay_if F9 T C_gains_of C_fees_of CF (P := l.prog) (w := w) (base := base)
  have C_pay_if : Cal l.prog w K mg base 2 "pay_if" 2 m_pay_if := ⟨_, _, _, PySem.W.mg_of X G a9, k9, B9, rfl, O9⟩
  have O10 := ok_is_sequence F10 T CF (P := l.prog) (w := w) (base := base)
  have C_is_sequence : Cal l.prog w K mg base 1 "is_sequence" 1 m_is_sequence := ⟨_, _, _, PySem.W.mg_of X G a10, k10, B10, rfl, O10⟩
  have O11 := ok_want_sequence F11 T C_is_sequence X_BadItem CF (P := l.prog) (w := w) (base := base)
  have C_want_sequence : Cal l.prog w K mg base 3 "want_sequence" 1 m_want_sequence := ⟨_, _, _, PySem.W.mg_of X G a11, k11, B11, rfl, O11⟩
  have O12 := ok_first_wrong F12 T CF (P := l.prog) (w := w) (base := base)
  have C_first_wrong : Cal l.prog w K mg base 1 "first_wrong" 1 m_first_wrong := ⟨_, _, _, PySem.W.mg_of X G a12, k12, B12, rfl, O12⟩
  have O13 := ok_want_right F13 T C_first_wrong X_BadItem X_TooMany CF (P := l.prog) (w := w) (base := base)
  have C_want_right : Cal l.prog w K mg base 3 "want_right" 2 m_want_right := ⟨_, _, _, PySem.W.mg_of X G a13, k13, B13, rfl, O13⟩
  have O14 := ok_is_row F14 T C_is_sequence CF (P := l.prog) (w := w) (base := base)
  have C_is_row : Cal l.prog w K mg base 2 "is_row" 2 m_is_row := ⟨_, _, _, PySem.W.mg_of X G a14, k14, B14, rfl, O14⟩
  have O15 := ok_is_whole F15 T CF (P := l.prog) (w := w) (base := base)
  have C_is_whole : Cal l.prog w K mg base 1 "is_whole" 1 m_is_whole := ⟨_, _, _, PySem.W.mg_of X G a15, k15, B15, rfl, O15⟩
  have O16 := ok_is_between F16 T C_is_whole CF (P := l.prog) (w := w) (base := base)
  have C_is_between : Cal l.prog w K mg base 2 "is_between" 3 m_is_between := ⟨_, _, _, PySem.W.mg_of X G a16, k16, B16, rfl, O16⟩
  have O17 := ok_is_offer F17 T C_is_row C_is_between CF (P := l.prog) (w := w) (base := base)
  have C_is_offer : Cal l.prog w K mg base 3 "is_offer" 1 m_is_offer := ⟨_, _, _, PySem.W.mg_of X G a17, k17, B17, rfl, O17⟩
  have O18 := ok_Group__len F18 T CF (P := l.prog) (w := w) (base := base)
  have M_Group__len : MetT l.prog w K mg base 1 "Group" "__len__" 1 [] m_Group__len := ⟨_, _, _, _, v0, cl0, ⟨a18, n18, k18⟩, (Dfl.none B18), rfl, O18⟩
  have D_Group__len : DunT l.prog w K mg base 1 "Group" "__len__" 1 m_Group__len := ⟨_, _, _, _, v0, a18, n18, B18, rfl, O18⟩
  have O19 := ok_want_offers F19 T C_want_sequence C_want_right C_is_offer D_Group__len X_BadItem CF (P := l.prog) (w := w) (base := base)
  have C_want_offers : Cal l.prog w K mg base 4 "want_offers" 2 m_want_offers := ⟨_, _, _, PySem.W.mg_of X G a19, k19, B19, rfl, O19⟩
  have O20 := ok_by_gains F20 T C_gains_of CF (P := l.prog) (w := w) (base := base)
  have C_by_gains : Cal l.prog w K mg base 2 "by_gains" 1 m_by_gains := ⟨_, _, _, PySem.W.mg_of X G a20, k20, B20, rfl, O20⟩
  have O21 := ok_poorest_comers F21 T C_want_offers C_by_gains CF (P := l.prog) (w := w) (base := base)
  have C_poorest_comers : Cal l.prog w K mg base 5 "poorest_comers" 2 m_poorest_comers := ⟨_, _, _, PySem.W.mg_of X G a21, k21, B21, rfl, O21⟩
  have O22 := ok_sure_pay F22 T C_pay_if C_poorest_comers CF (P := l.prog) (w := w) (base := base)
  have C_sure_pay : Cal l.prog w K mg base 6 "sure_pay" 2 m_sure_pay := ⟨_, _, _, PySem.W.mg_of X G a22, k22, B22, rfl, O22⟩
  have O23 := ok_richest_comers F23 T C_want_offers C_gains_of CF (P := l.prog) (w := w) (base := base)
  have C_richest_comers : Cal l.prog w K mg base 5 "richest_comers" 2 m_richest_comers := ⟨_, _, _, PySem.W.mg_of X G a23, k23, B23, rfl, O23⟩
  have O24 := ok_greatest_group_pay F24 T C_pay_if C_richest_comers CF (P := l.prog) (w := w) (base := base)
  have C_greatest_group_pay : Cal l.prog w K mg base 6 "greatest_group_pay" 2 m_greatest_group_pay := ⟨_, _, _, PySem.W.mg_of X G a24, k24, B24, rfl, O24⟩
  have O25 := ok__law_whole F25 T CF (P := l.prog) (w := w) (base := base)
  have H__law_whole : CalQ l.prog w K mg base 1 "_law_whole" 1 m__law_whole := ⟨_, _, _, PySem.W.mg_of X G a25, k25, B25, rfl, okq__law_whole F25 T⟩
  have C__law_whole : Cal l.prog w K mg base 1 "_law_whole" 1 m__law_whole := ⟨_, _, _, PySem.W.mg_of X G a25, k25, B25, rfl, O25⟩
  have O26 := ok_least_for F26 T C_want_offers C_by_gains C_pay_if CF (P := l.prog) (w := w) (base := base)
  have C_least_for : Cal l.prog w K mg base 5 "least_for" 3 m_least_for := ⟨_, _, _, PySem.W.mg_of X G a26, k26, B26, rfl, O26⟩
  have O27 := ok__law_refused F27 T H__law_whole C_sure_pay C_greatest_group_pay C_poorest_comers C_richest_comers C_least_for EX CF (P := l.prog) (w := w) (base := base)
  have C__law_refused : Cal l.prog w K mg base 7 "_law_refused" 3 m__law_refused := ⟨_, _, _, PySem.W.mg_of X G a27, k27, B27, rfl, O27⟩
  have O28 := ok__law_name F28 T C__law_pick C__law_taken CF (P := l.prog) (w := w) (base := base)
  have C__law_name : Cal l.prog w K mg base 3 "_law_name" 1 m__law_name := ⟨_, _, _, PySem.W.mg_of X G a28, k28, B28, rfl, O28⟩
  have O29 := ok__law_if F29 T CF (P := l.prog) (w := w) (base := base)
  have C__law_if : Cal l.prog w K mg base 1 "_law_if" 2 m__law_if := ⟨_, _, _, PySem.W.mg_of X G a29, k29, B29, rfl, O29⟩
  have O30 := (ok__law_alike F30 T (PySem.W.mg_of X G a30) B30 CF 8 (P := l.prog) (w := w) (base := base)).mono (k := 9) (by decide)
  have C__law_alike : Cal l.prog w K mg base 9 "_law_alike" 2 (m__law_alike 8) := ⟨_, _, _, PySem.W.mg_of X G a30, k30, B30, rfl, O30⟩
  have O31 := ok_all_sure F31 T C_sure_pay CF (P := l.prog) (w := w) (base := base)
  have C_all_sure : Cal l.prog w K mg base 7 "all_sure" 2 m_all_sure := ⟨_, _, _, PySem.W.mg_of X G a31, k31, B31, rfl, O31⟩
  have O32 := ok_sure_request F32 T CF (P := l.prog) (w := w) (base := base)
  have C_sure_request : Cal l.prog w K mg base 1 "sure_request" 2 m_sure_request := ⟨_, _, _, PySem.W.mg_of X G a32, k32, B32, rfl, O32⟩
  have O33 := ok__law_subsets F33 T CF (P := l.prog) (w := w) (base := base)
  have C__law_subsets : Cal l.prog w K mg base 1 "_law_subsets" 1 m__law_subsets := ⟨_, _, _, PySem.W.mg_of X G a33, k33, B33, rfl, O33⟩
  have O34 := ok_pay_spread F34 T C_greatest_group_pay C_sure_pay CF (P := l.prog) (w := w) (base := base)
  have C_pay_spread : Cal l.prog w K mg base 7 "pay_spread" 2 m_pay_spread := ⟨_, _, _, PySem.W.mg_of X G a34, k34, B34, rfl, O34⟩
  have O35 := ok_is_name F35 T CF (P := l.prog) (w := w) (base := base)
  have C_is_name : Cal l.prog w K mg base 1 "is_name" 1 m_is_name := ⟨_, _, _, PySem.W.mg_of X G a35, k35, B35, rfl, O35⟩
  have O36 := ok_want_name F36 T C_is_name X_BadName CF (P := l.prog) (w := w) (base := base)
  have C_want_name : Cal l.prog w K mg base 3 "want_name" 1 m_want_name := ⟨_, _, _, PySem.W.mg_of X G a36, k36, B36, rfl, O36⟩
  have O37 := ok_is_night F37 T C_is_between CF (P := l.prog) (w := w) (base := base)
  have C_is_night : Cal l.prog w K mg base 3 "is_night" 1 m_is_night := ⟨_, _, _, PySem.W.mg_of X G a37, k37, B37, rfl, O37⟩
  have O38 := ok_is_span F38 T C_is_row C_is_night C_is_between CF (P := l.prog) (w := w) (base := base)
  have C_is_span : Cal l.prog w K mg base 4 "is_span" 1 m_is_span := ⟨_, _, _, PySem.W.mg_of X G a38, k38, B38, rfl, O38⟩
  have O39 := ok_copied_spans F39 T C_want_sequence C_want_right C_is_span CF (P := l.prog) (w := w) (base := base)
  have C_copied_spans : Cal l.prog w K mg base 5 "copied_spans" 2 m_copied_spans := ⟨_, _, _, PySem.W.mg_of X G a39, k39, B39, rfl, O39⟩
  have O40 := ok_want_number F40 T C_is_between X_BadNumber CF (P := l.prog) (w := w) (base := base)
  have C_want_number : Cal l.prog w K mg base 3 "want_number" 3 m_want_number := ⟨_, _, _, PySem.W.mg_of X G a40, k40, B40, rfl, O40⟩
  have O41 := ok_Group__init F41 T C_want_name C_copied_spans C_want_number CF (P := l.prog) (w := w) (base := base)
  have K_Group__init : MakT l.prog w K mg base 6 "Group" 7 [] m_Group__init := ⟨_, _, _, _, v0, g0, ⟨cm0, a41, n41, ck0⟩, B41, rfl, O41⟩
  have K_Group__init_1 : MakT l.prog w K mg base 6 "Group" 7 [(.int 0)] m_Group__init := ⟨_, _, _, _, v0, g0, ⟨cm0, a41, n41, ck0⟩, B41_1, rfl, O41⟩
  have K_Group__init_2 : MakT l.prog w K mg base 6 "Group" 7 [(.int 0), (.int 0)] m_Group__init := ⟨_, _, _, _, v0, g0, ⟨cm0, a41, n41, ck0⟩, B41_2, rfl, O41⟩
  exact ok_law F42 T rfl TB C__law_taken C__law_spans C__law_handed C__law_subset C__law_pick C__law_refused C__law_name C__law_if C__law_alike C_pay_if C_least_for C_all_sure C_sure_request C__law_subsets C_sure_pay C_greatest_group_pay C_pay_spread C_poorest_comers C_richest_comers C_gains_of C_fees_of C__law_mixed K_Group__init_2 CF
end Lw

/-! from k23E.lean -/
open PySem PySem.W PyProof.Rows in
set_option maxRecDepth 100000 in
set_option maxHeartbeats 0 in
theorem PySem.Challenge.cw_keptnights_k23_whole_sure_income_holds : PySem.Challenge.rw_keptnights_k23_whole_sure_income.Holds := by
  w_on; o_law; k_head; (case hw => w_witness2)
  k_fill
  refine DL.walk_DLT (l := PySem.Challenge.rw_keptnights_k23_whole_sure_income) (n := 63) (k := 10) (x := "script") "law" "law.<locals>.<lambda>" (fun P => @Lw.m_law ⟨P⟩) rfl (by decide) rfl ⟨rfl, by decide, by decide⟩ rfl (fun w h Y => PySem.W.km_in_of Y) ?F (fun P ns h => @Lw.law_true ⟨P⟩ ns h)
  case F =>
    intro w mg fa h KX G hmg
    refine' Lw.all_mk KX G hmg ?ca0 ?cg0 ?ch0 ?cp0 ?cs0 ?cm0 ?ck0 ?cc0 ?co0 ?kk1 ?kk2 ?ct0_NoneType ?ct0_bool ?ct0_int ?ct0_str ?ct0_list ?ct0_tuple ?ct0_dict ?ci0 ?cy0 ?cu0 ?cf_Group_least ?cf_Group_most ?cf_Group_late_nights ?cf_Group_late_guests ?cf_Group_spans ?cf_Group_name ?q_FIGURES ?q_LAST_NIGHT ?q_LETTERS ?q_LONGEST_NAME ?q_MOST_LATE_NIGHTS ?q_MOST_PAY ?q_MOST_STAYS ?z_all ?z_bool ?z_enumerate ?z_int ?z_isinstance ?z_len ?z_list ?z_max ?z_min ?z_range ?z_sorted ?z_str ?z_sum ?z_tuple ?z_zip ?a0 ?l0 ?c0_ ?k0 ?a1 ?l1 ?c1_ ?k1 ?a2 ?l2 ?c2_ ?k2 ?a3 ?l3 ?c3_ ?k3 ?a4 ?l4 ?c4_ ?k4 ?a5 ?l5 ?c5_ ?k5 ?a6 ?l6 ?c6_ ?k6 ?a7 ?l7 ?c7_ ?k7 ?a8 ?l8 ?c8_ ?k8 ?a9 ?l9 ?c9_ ?k9 ?a10 ?l10 ?c10_ ?k10 ?a11 ?l11 ?c11_ ?k11 ?a12 ?l12 ?c12_ ?k12 ?a13 ?l13 ?c13_ ?k13 ?a14 ?l14 ?c14_ ?k14 ?a15 ?l15 ?c15_ ?k15 ?a16 ?l16 ?c16_ ?k16 ?a17 ?l17 ?c17_ ?k17 ?a18 ?n18 ?l18 ?c18_ ?k18 ?a19 ?l19 ?c19_ ?k19 ?a20 ?l20 ?c20_ ?k20 ?a21 ?l21 ?c21_ ?k21 ?a22 ?l22 ?c22_ ?k22 ?a23 ?l23 ?c23_ ?k23 ?a24 ?l24 ?c24_ ?k24 ?a25 ?l25 ?c25_ ?k25 ?a26 ?l26 ?c26_ ?k26 ?a27 ?l27 ?c27_ ?k27 ?a28 ?l28 ?c28_ ?k28 ?a29 ?l29 ?c29_ ?k29 ?a30 ?l30 ?c30_ ?k30 ?a31 ?l31 ?c31_ ?k31 ?a32 ?l32 ?c32_ ?k32 ?a33 ?l33 ?c33_ ?k33 ?a34 ?l34 ?c34_ ?k34 ?a35 ?l35 ?c35_ ?k35 ?a36 ?l36 ?c36_ ?k36 ?a37 ?l37 ?c37_ ?k37 ?a38 ?l38 ?c38_ ?k38 ?a39 ?l39 ?c39_ ?k39 ?a40 ?l40 ?c40_ ?k40 ?a41 ?n41 ?l41 ?c41_ ?k41 ?d41 ?a42 ?l42 ?c42_ ?lc_ ?lp_ ?ln_ ?k42 ?ea_BadItem ?ea_BadName ?ea_BadNumber ?ea_TooMany ?eo_BadItem ?er_BadItem ?es_BadItem ?ee_BadItem ?et_BadItem ?ek_BadItem ?ei_BadItem ?ef_BadItem ?el_BadItem ?ec_BadItem ?ekf_BadItem ?eh_BadItem ?eo_BadName ?er_BadName ?es_BadName ?ee_BadName ?et_BadName ?ek_BadName ?ei_BadName ?ef_BadName ?el_BadName ?ec_BadName ?ekf_BadName ?eh_BadName ?eo_BadNumber ?er_BadNumber ?es_BadNumber ?ee_BadNumber ?et_BadNumber ?ek_BadNumber ?ei_BadNumber ?ef_BadNumber ?el_BadNumber ?ec_BadNumber ?ekf_BadNumber ?eh_BadNumber ?eo_TooMany ?er_TooMany ?es_TooMany ?ee_TooMany ?et_TooMany ?ek_TooMany ?ei_TooMany ?ef_TooMany ?el_TooMany ?ec_TooMany ?ekf_TooMany ?eh_TooMany ?eq_BadItem ?ek2_BadItem ?ek3_BadItem ?ek1_BadItem_BadItem ?ek1_BadName_BadItem ?ek1_BadNumber_BadItem ?ek1_TooMany_BadItem ?eb1_BadItem_index ?eb2_BadItem_index ?eb3_BadItem_index ?en_BadItem_index
    (case ca0 => k_is)
    (case cg0 => k_is)
    (case ch0 => k_is)
    (case cp0 => k_is)
    (case cs0 => k_is)
    (case cm0 => k_is)
    (case ck0 => k_is)
    (case cc0 => k_is)
    (case co0 => k_is)
    (case kk1 => k_is)
    (case kk2 => k_is)
    (case ct0_NoneType => k_is)
    (case ct0_bool => k_is)
    (case ct0_int => k_is)
    (case ct0_str => k_is)
    (case ct0_list => k_is)
    (case ct0_tuple => k_is)
    (case ct0_dict => k_is)
    (case ci0 => k_is)
    (case cy0 => k_is)
    (case cu0 => k_is)
    (case cf_Group_least => k_is)
    (case cf_Group_most => k_is)
    (case cf_Group_late_nights => k_is)
    (case cf_Group_late_guests => k_is)
    (case cf_Group_spans => k_is)
    (case cf_Group_name => k_is)
    (case q_FIGURES => k_is)
    (case q_LAST_NIGHT => k_is)
    (case q_LETTERS => k_is)
    (case q_LONGEST_NAME => k_is)
    (case q_MOST_LATE_NIGHTS => k_is)
    (case q_MOST_PAY => k_is)
    (case q_MOST_STAYS => k_is)
    (case z_all => k_is)
    (case z_bool => k_is)
    (case z_enumerate => k_is)
    (case z_int => k_is)
    (case z_isinstance => k_is)
    (case z_len => k_is)
    (case z_list => k_is)
    (case z_max => k_is)
    (case z_min => k_is)
    (case z_range => k_is)
    (case z_sorted => k_is)
    (case z_str => k_is)
    (case z_sum => k_is)
    (case z_tuple => k_is)
    (case z_zip => k_is)
    (case a0 => k_is)
    (case l0 => k_is)
    (case c0_ => k_is)
    (case k0 => k_is)
    (case a1 => k_is)
    (case l1 => k_is)
    (case c1_ => k_is)
    (case k1 => k_is)
    (case a2 => k_is)
    (case l2 => k_is)
    (case c2_ => k_is)
    (case k2 => k_is)
    (case a3 => k_is)
    (case l3 => k_is)
    (case c3_ => k_is)
    (case k3 => k_is)
    (case a4 => k_is)
    (case l4 => k_is)
    (case c4_ => k_is)
    (case k4 => k_is)
    (case a5 => k_is)
    (case l5 => k_is)
    (case c5_ => k_is)
    (case k5 => k_is)
    (case a6 => k_is)
    (case l6 => k_is)
    (case c6_ => k_is)
    (case k6 => k_is)
    (case a7 => k_is)
    (case l7 => k_is)
    (case c7_ => k_is)
    (case k7 => k_is)
    (case a8 => k_is)
    (case l8 => k_is)
    (case c8_ => k_is)
    (case k8 => k_is)
    (case a9 => k_is)
    (case l9 => k_is)
    (case c9_ => k_is)
    (case k9 => k_is)
    (case a10 => k_is)
    (case l10 => k_is)
    (case c10_ => k_is)
    (case k10 => k_is)
    (case a11 => k_is)
    (case l11 => k_is)
    (case c11_ => k_is)
    (case k11 => k_is)
    (case a12 => k_is)
    (case l12 => k_is)
    (case c12_ => k_is)
    (case k12 => k_is)
    (case a13 => k_is)
    (case l13 => k_is)
    (case c13_ => k_is)
    (case k13 => k_is)
    (case a14 => k_is)
    (case l14 => k_is)
    (case c14_ => k_is)
    (case k14 => k_is)
    (case a15 => k_is)
    (case l15 => k_is)
    (case c15_ => k_is)
    (case k15 => k_is)
    (case a16 => k_is)
    (case l16 => k_is)
    (case c16_ => k_is)
    (case k16 => k_is)
    (case a17 => k_is)
    (case l17 => k_is)
    (case c17_ => k_is)
    (case k17 => k_is)
    (case a18 => k_is)
    (case n18 => k_is)
    (case l18 => k_is)
    (case c18_ => k_is)
    (case k18 => k_is)
    (case a19 => k_is)
    (case l19 => k_is)
    (case c19_ => k_is)
    (case k19 => k_is)
    (case a20 => k_is)
    (case l20 => k_is)
    (case c20_ => k_is)
    (case k20 => k_is)
    (case a21 => k_is)
    (case l21 => k_is)
    (case c21_ => k_is)
    (case k21 => k_is)
    (case a22 => k_is)
    (case l22 => k_is)
    (case c22_ => k_is)
    (case k22 => k_is)
    (case a23 => k_is)
    (case l23 => k_is)
    (case c23_ => k_is)
    (case k23 => k_is)
    (case a24 => k_is)
    (case l24 => k_is)
    (case c24_ => k_is)
    (case k24 => k_is)
    (case a25 => k_is)
    (case l25 => k_is)
    (case c25_ => k_is)
    (case k25 => k_is)
    (case a26 => k_is)
    (case l26 => k_is)
    (case c26_ => k_is)
    (case k26 => k_is)
    (case a27 => k_is)
    (case l27 => k_is)
    (case c27_ => k_is)
    (case k27 => k_is)
    (case a28 => k_is)
    (case l28 => k_is)
    (case c28_ => k_is)
    (case k28 => k_is)
    (case a29 => k_is)
    (case l29 => k_is)
    (case c29_ => k_is)
    (case k29 => k_is)
    (case a30 => k_is)
    (case l30 => k_is)
    (case c30_ => k_is)
    (case k30 => k_is)
    (case a31 => k_is)
    (case l31 => k_is)
    (case c31_ => k_is)
    (case k31 => k_is)
    (case a32 => k_is)
    (case l32 => k_is)
    (case c32_ => k_is)
    (case k32 => k_is)
    (case a33 => k_is)
    (case l33 => k_is)
    (case c33_ => k_is)
    (case k33 => k_is)
    (case a34 => k_is)
    (case l34 => k_is)
    (case c34_ => k_is)
    (case k34 => k_is)
    (case a35 => k_is)
    (case l35 => k_is)
    (case c35_ => k_is)
    (case k35 => k_is)
    (case a36 => k_is)
    (case l36 => k_is)
    (case c36_ => k_is)
    (case k36 => k_is)
    (case a37 => k_is)
    (case l37 => k_is)
    (case c37_ => k_is)
    (case k37 => k_is)
    (case a38 => k_is)
    (case l38 => k_is)
    (case c38_ => k_is)
    (case k38 => k_is)
    (case a39 => k_is)
    (case l39 => k_is)
    (case c39_ => k_is)
    (case k39 => k_is)
    (case a40 => k_is)
    (case l40 => k_is)
    (case c40_ => k_is)
    (case k40 => k_is)
    (case a41 => k_is)
    (case n41 => k_is)
    (case l41 => k_is)
    (case c41_ => k_is)
    (case k41 => k_is)
    (case d41 => k_is)
    (case a42 => k_is)
    (case l42 => k_is)
    (case c42_ => k_is)
    (case lc_ => k_is)
    (case lp_ => rfl)
    (case ln_ => first | rfl | k_is | decide)
    (case k42 => k_is)
    (case ea_BadItem => k_is)
    (case ea_BadName => k_is)
    (case ea_BadNumber => k_is)
    (case ea_TooMany => k_is)
    (case eo_BadItem => k_is)
    (case er_BadItem => rfl)
    (case es_BadItem => k_is)
    (case ee_BadItem => k_is)
    (case et_BadItem => k_is)
    (case ek_BadItem => k_is)
    (case ei_BadItem => k_is)
    (case ef_BadItem => k_is)
    (case el_BadItem => k_is)
    (case ec_BadItem => k_is)
    (case ekf_BadItem => k_is)
    (case eh_BadItem => k_is)
    (case eo_BadName => k_is)
    (case er_BadName => rfl)
    (case es_BadName => k_is)
    (case ee_BadName => k_is)
    (case et_BadName => k_is)
    (case ek_BadName => k_is)
    (case ei_BadName => k_is)
    (case ef_BadName => k_is)
    (case el_BadName => k_is)
    (case ec_BadName => k_is)
    (case ekf_BadName => k_is)
    (case eh_BadName => k_is)
    (case eo_BadNumber => k_is)
    (case er_BadNumber => rfl)
    (case es_BadNumber => k_is)
    (case ee_BadNumber => k_is)
    (case et_BadNumber => k_is)
    (case ek_BadNumber => k_is)
    (case ei_BadNumber => k_is)
    (case ef_BadNumber => k_is)
    (case el_BadNumber => k_is)
    (case ec_BadNumber => k_is)
    (case ekf_BadNumber => k_is)
    (case eh_BadNumber => k_is)
    (case eo_TooMany => k_is)
    (case er_TooMany => rfl)
    (case es_TooMany => k_is)
    (case ee_TooMany => k_is)
    (case et_TooMany => k_is)
    (case ek_TooMany => k_is)
    (case ei_TooMany => k_is)
    (case ef_TooMany => k_is)
    (case el_TooMany => k_is)
    (case ec_TooMany => k_is)
    (case ekf_TooMany => k_is)
    (case eh_TooMany => k_is)
    (case eq_BadItem => k_is)
    (case ek2_BadItem => k_is)
    (case ek3_BadItem => k_is)
    (case ek1_BadItem_BadItem => k_is)
    (case ek1_BadName_BadItem => k_is)
    (case ek1_BadNumber_BadItem => k_is)
    (case ek1_TooMany_BadItem => k_is)
    (case eb1_BadItem_index => k_is)
    (case eb2_BadItem_index => k_is)
    (case eb3_BadItem_index => k_is)
    (case en_BadItem_index => k_is)
