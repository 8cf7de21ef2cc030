import PyProof.Rows.All
import Wide.All
import OpenK.AllK
import Wide.FinOn
import HandS.Comp
import HandS.ForMost
import HandS.IsInst
import HandS.Gcd
import HandS.Wide
import HandS.WideMore
import HandS.Zip
import HandS.Flow
import HandS.Lambda
import HandS.Exc
import HandS.NoneIn
import HandS.Style
import HandS.Conv
import PyProof.ReprLen
import PyProof.StrLawsRepr
import HandS.Text
import KE.KDictZip
import KE.KDictList
import HandS.Iter
import HandS.Keys
import KE.GoesMore
import PyProof.EnumMake
import HandS.TupLe
import HandS.Deep
import KE.IntTextText
import HandS.ExcIs
import HandS.ExcValue
import KE.KIsAll
import KE.KTryMore
import HandS.EndTab
import OpenK.KWalk
import HandS.SlotsOwn
import HandS.NamedTupGet
import HandS.DictComp
import HandS.Spec
import KE.SortData
import KE.KDictPairs
import HandS.TupAny
import HandS.Property
import PySem.Challenge.RW_allitreaches_k09_whole_lots_of_boxes

set_option Elab.async false
set_option linter.all false
set_option maxRecDepth 100000
set_option maxHeartbeats 1000000
namespace DW
open PySem PySem.Spec PyProof.Rows L2
/-! ### a list comprehension of several clauses: each clause by itself -/
abbrev Nd (elt : Expr) (cs : List Comprehension) (scope : Scope) (pos : Pos) : Expr := .ListComp elt cs scope pos
def tnO (e : Expr) (d : Nat) (p : Pos) (t nx : Expr) (it acc : Value) (en : Env) : Sem Fin := do
  standAt p
  match ← pyNext it with
  | none => pure (.done .next)
  | some v =>
    letOwnedTupleGo t it v
    assign t en v
    let y ← eval nx en
    standAt nx.pos
    let y ← foldedSetIterable nx en y
    let _ ← runOwn (.compStart e (d + 1) (← holding [y] (pyIter y)) acc en) en
    again (.compLoop e d it acc en)
def tnL (e elt : Expr) (d : Nat) (p : Pos) (t : Expr) (tests : List Expr) (it acc : Value) (en : Env) : Sem Fin := do
  standAt p
  match ← pyNext it with
  | none => pure (.done .next)
  | some v =>
    letOwnedTupleGo t it v
    assign t en v
    let mut go := true
    for q in tests do
      if go then go ← isTrue q en (eval q en)
    if go then
      (do let _ ← call (.builtin "list.append") [acc, ← eval elt en])
    again (.compLoop e d it acc en)
section
variable {P : Program} {w : World} {A : Around} {elt t t1 i nx : Expr} {cs : List Comprehension} {tests tests1 : List Expr} {scope : Scope} {pos : Pos} {it acc : Value} {en : Env} {d : Nat}
theorem turn_o (h0 : cs[d]? = some ⟨t, i, [], 0⟩) (h1 : cs[d + 1]? = some ⟨t1, nx, tests1, 0⟩) : compTurn (Nd elt cs scope pos) d it acc en = tnO (Nd elt cs scope pos) d i.pos t nx it acc en := by
  unfold compTurn tnO
  dsimp only [Nd]
  rw [h0]
  dsimp only
  rw [h1]
  rfl
theorem turn_l (h0 : cs[d]? = some ⟨t, i, tests, 0⟩) (h1 : cs[d + 1]? = none) : compTurn (Nd elt cs scope pos) d it acc en = tnL (Nd elt cs scope pos) elt d i.pos t tests it acc en := by
  unfold compTurn tnL
  dsimp only [Nd]
  rw [h0]
  dsimp only
  rw [h1]
  rfl
/-- what is left to do in a turn, behind the target's store -/
abbrev Act := (Shared → Prop) → (Result → Shared → Prop) → Shared → Prop
abbrev er (P : Program) (w : World) (A : Around) (en : Env) (R : Result → Shared → Prop) : Value → Shared → Prop := notedBy (model P w) A en fun e s' => R (.error e) s'
def actO (P : Program) (w : World) (A : Around) (e : Expr) (d : Nat) (nx : Expr) (acc : Value) (en : Env) : Act := fun K R s =>
  wpAny (model P w) A (eval nx en) (fun y s4 => wpAny (model P w) A (pyIter y) (fun j s5 =>
    codeAny (model P w) A (.compStart e d j acc en) (fun r s6 => match r with | .ok _ => K s6 | .error _ => False) s5) (er P w A en R) s4) (er P w A en R) s
def actL (P : Program) (w : World) (A : Around) (elt : Expr) (tests : List Expr) (acc : Value) (en : Env) : Act := fun K R s =>
  wpAny (model P w) A (forIn tests true fun q g => if g = true then do let go ← isTrue q en (eval q en); pure (ForInStep.yield go) else pure (ForInStep.yield g)) (fun go s4 =>
    if go = true then wpAny (model P w) A (eval elt en) (fun y s5 => wpAny (model P w) A (call (.builtin "list.append") [acc, y]) (fun _ s6 => K s6) (er P w A en R) s5) (er P w A en R) s4 else K s4) (er P w A en R) s
def Rule (P : Program) (w : World) (A : Around) (e t : Expr) (d : Nat) (acc : Value) (en : Env) (act : Act) : Prop := ∀ (it : Value) (R : Result → Shared → Prop) (I : Nat → Shared → Prop),
  (∀ n s, I n s → wpAny (model P w) A (pyNext it) (fun r s1 => match r with
      | none => R (.ok .next) s1
      | some v => wpAny (model P w) A (letOwnedTupleGo t it v) (fun _ s2 => wpAny (model P w) A (assign t en v) (fun _ s3 => act (fun s' => ∃ m, m < n ∧ I m s') R s3) (er P w A en R) s2) (er P w A en R) s1) (er P w A en R) s) →
  ∀ n s, I n s → codeAny (model P w) A (.compLoop e d it acc en) R s
theorem rule_o (h0 : cs[d]? = some ⟨t, i, [], 0⟩) (h1 : cs[d + 1]? = some ⟨t1, nx, tests1, 0⟩) (hs : ∀ y, foldedSetIterable nx en y = pure y) : Rule P w A (Nd elt cs scope pos) t d acc en (actO P w A (Nd elt cs scope pos) (d + 1) nx acc en) := by
  intro it R I turn n s h
  refine codeAny_loop rfl I (fun n s hI => ?_) n h
  show wpAny _ A ((compTurn (Nd elt cs scope pos) d it acc en).onRaise (fun x => do noteFrame x en; theTreesLotGoes x)) _ _ s
  refine wpAny_noted ?_
  rw [turn_o h0 h1]
  unfold tnO
  refine wpAny_bind (wpAny_standAt (wpAny_bind (wpAny_mono (turn n s hI) (fun r s1 z1 => ?_) fun _ _ z => z)))
  cases r with
  | none => exact wpAny_pure z1
  | some v =>
    refine wpAny_bind (wpAny_mono z1 (fun _ s2 z2 => ?_) fun _ _ z => z)
    refine wpAny_bind (wpAny_mono z2 (fun _ s3 z3 => ?_) fun _ _ z => z)
    refine wpAny_bind (wpAny_mono z3 (fun y s4 z4 => ?_) fun _ _ z => z)
    refine wpAny_bind (wpAny_standAt (wpAny_bind (wpAny_of_eq (hs y) (wpAny_bind (wpAny_holding (wpAny_mono z4 (fun j s5 z5 => ?_) fun _ _ z => z))))))
    refine wpAny_bind (wpAny_runOwn ?_)
    rw [Around.mark_none]
    refine codeAny_mono z5 fun r s' hr => ?_
    cases r with
    | ok f => first | exact wpAny_pure ⟨rfl, hr⟩ | exact wpAny_bind (wpAny_pure (wpAny_pure ⟨rfl, hr⟩))
    | error e => exact hr.elim
theorem rule_l (h0 : cs[d]? = some ⟨t, i, tests, 0⟩) (h1 : cs[d + 1]? = none) : Rule P w A (Nd elt cs scope pos) t d acc en (actL P w A elt tests acc en) := by
  intro it R I turn n s h
  refine codeAny_loop rfl I (fun n s hI => ?_) n h
  show wpAny _ A ((compTurn (Nd elt cs scope pos) d it acc en).onRaise (fun x => do noteFrame x en; theTreesLotGoes x)) _ _ s
  refine wpAny_noted ?_
  rw [turn_l h0 h1]
  unfold tnL
  refine wpAny_bind (wpAny_standAt (wpAny_bind (wpAny_mono (turn n s hI) (fun r s1 z1 => ?_) fun _ _ z => z)))
  cases r with
  | none => exact wpAny_pure z1
  | some v =>
    refine wpAny_bind (wpAny_mono z1 (fun _ s2 z2 => ?_) fun _ _ z => z)
    refine wpAny_bind (wpAny_mono z2 (fun _ s3 z3 => wpAny_bind (wpAny_mono z3 (fun go s4 z4 => ?_) fun _ _ z => z)) fun _ _ z => z)
    cases go with
    | false => exact wpAny_pure ⟨rfl, z4⟩
    | true => exact wpAny_bind (wpAny_bind (wpAny_mono z4 (fun y s5 z5 => wpAny_bind (wpAny_mono z5 (fun _ s6 z6 => wpAny_pure (wpAny_pure ⟨rfl, z6⟩)) fun _ _ z => z)) fun _ _ z => z))
theorem start_k {R : Result → Shared → Prop} {s : Shared} (h0 : cs[d]? = some ⟨t, i, tests, 0⟩) (hl : codeAny (model P w) A (.compLoop (Nd elt cs scope pos) d it acc en) R s)
    (h : wpAny (model P w) A (pyIter it) (fun j s' => codeAny (model P w) A (.compLoop (Nd elt cs scope pos) d j acc en) R s') (er P w A en R) s) : codeAny (model P w) A (.compStart (Nd elt cs scope pos) d it acc en) R s := by
  refine codeAny_of_tree ?_
  show wpAny _ _ ((compStart (Nd elt cs scope pos) d it acc en).onRaise (fun x => do noteFrame x en; standAt theWindowsPlace)) _ _ s
  refine wpAny_notedAt ?_
  unfold compStart
  rw [show clausesOf (Nd elt cs scope pos) = cs from rfl, h0]
  show wpAny _ _ (ask >>= _) _ _ s
  refine wpAny_bind (wpAny_askSetting (wpAny_ite ?_))
  split
  · first
      | exact wpAny_bind (wpAny_pure (wpAny_pure (And.intro rfl hl)))
      | exact wpAny_pure (And.intro rfl hl)
  · refine wpAny_bind (wpAny_rule ?_)
    show wpAny _ _ (standAt i.pos >>= _) _ _ s
    exact wpAny_bind (wpAny_standAt (wpAny_bind (wpAny_mono h (fun j s' z => wpAny_pure (And.intro rfl z)) fun _ _ z => z)))
end
end DW

set_option Elab.async false
set_option linter.all false
set_option maxRecDepth 100000
set_option maxHeartbeats 1000000
/-! Readings over data alone: what an expression, a block is worth, without the heap. -/
namespace DW
open PySem PySem.Spec PyProof.Rows L2

/-- what a name holds: data, or a bare value (a list that changes, a class, a def) -/
inductive Dat where
  | d (x : PyData)
  | r (v : V)
  /-- a caught error of the class at C, its value; the tuple of it and None -/
  | e (C : Addr) (x : PyData)
  | pe (C : Addr) (x : PyData)
  /-- a lambda at f, its code object at c of the name q, what its names stand for -/
  | clo (f c : Addr) (q : Str) (σ : List (Option V)) (env : List (Option PyData))
  /-- a dict that never changes, its keys tuples of ints, its values True -/
  | k (ks : List (List Int))
  /-- an instance of the class at C that never changes: its attributes, each by what is true of it -/
  | o (C : Addr) (fs : List (Str × (Hp → V → Prop)))
/-- the tables of code objects of the defs that make lambdas: each with its lambdas' name -/
class TabsC where
  T : List (Addr × Str)
variable [TabsC]
def NT (a : Addr) : Prop := a ∉ (TabsC.T).map (·.1)
instance (a : Addr) : Decidable (NT a) := by unfold NT; infer_instance
/-- a caught error at a, of the class at C, its own dict at d -/
def ExT (C d a : Addr) : HO := .ext fun h => ∃ oe, h.get? a = some oe ∧ Zc (.ref C) (some d) oe ∧ ∃ vs, oe.data = .fields vs
abbrev DEnv := List (Option Dat)
/-- the pot (if one is there), how often it was drawn from at most, the lists that change -/
structure Me where
  p : Option Addr
  n : Nat
  ls : List (Addr × List PyData)
def Me.own (m : Me) (a : Addr) (xs : List PyData) : Me := { m with ls := (a, xs) :: m.ls }
/-- j times more drawn -/
def Me.drawn (m : Me) (j : Nat) : Me := { m with n := m.n + j }
def Me.hd (m : Me) (a : Addr) : Prop := m.p = some a ∨ a ∈ m.ls.map (·.1)
instance (m : Me) (a : Addr) : Decidable (m.hd a) := by unfold Me.hd; infer_instance
/-- no table of code objects -/
def NTb (o : HO) : Prop := ∀ ps, o ≠ .tbl ps
def noTb : Option HO → Option HO
  | some (.tbl _) => none
  | o => o
theorem noTb_some {u : Option HO} {o : HO} (h : noTb u = some o) : u = some o ∧ NTb o := by
  unfold noTb at h
  split at h
  · cases h
  · rename_i n
    subst h
    exact ⟨rfl, fun ps e => n ps (by rw [e])⟩
theorem noTb_of {o : HO} (h : NTb o) : noTb (some o) = some o := by
  unfold noTb
  split
  · rename_i ps e
    exact absurd (Option.some.inj e) (h ps)
  · rfl
def hid (m : Me) (H : Hp) : Hp := fun a => if m.hd a ∨ ¬ NT a then none else noTb (H a)
def Ext (m : Me) (H : Hp) (m' : Me) (H' : Hp) : Prop := Same (hid m H) (hid m' H')
theorem hid_some {m : Me} {H : Hp} {a : Addr} {o : HO} (h : hid m H a = some o) : ¬ m.hd a ∧ H a = some o := by
  unfold hid at h
  by_cases z : m.hd a ∨ ¬ NT a
  · rw [if_pos z] at h; cases h
  · rw [if_neg z] at h; exact ⟨fun q => z (.inl q), (noTb_some h).1⟩
theorem hid_nt {m : Me} {H : Hp} {a : Addr} {o : HO} (h : hid m H a = some o) : NT a := by
  unfold hid at h
  by_cases z : m.hd a ∨ ¬ NT a
  · rw [if_pos z] at h; cases h
  · exact Decidable.byContradiction fun q => z (.inr q)
theorem hid_nb {m : Me} {H : Hp} {a : Addr} {o : HO} (h : hid m H a = some o) : NTb o := by
  unfold hid at h
  by_cases z : m.hd a ∨ ¬ NT a
  · rw [if_pos z] at h; cases h
  · rw [if_neg z] at h; exact (noTb_some h).2
theorem hid_of {m : Me} {H : Hp} {a : Addr} {o : HO} (z : ¬ m.hd a) (h : H a = some o) (t : NT a) (n : NTb o := by intro _ q; cases q) : hid m H a = some o := by
  unfold hid
  rw [if_neg (fun q => q.elim z fun q => q t), h]
  exact noTb_of n
theorem hid_sub {m : Me} {H : Hp} : Same (hid m H) H := fun a o h => (hid_some h).2
theorem Ext.refl {m : Me} {H : Hp} : Ext m H m H := Same.refl _
theorem Ext.trans {m m1 m2 : Me} {H H1 H2 : Hp} (a : Ext m H m1 H1) (b : Ext m1 H1 m2 H2) : Ext m H m2 H2 := Same.trans a b
theorem Ext.of {m : Me} {H H' : Hp} (s : Same H H') : Ext m H m H' := fun a o h => by
  obtain ⟨z, e⟩ := hid_some h
  exact hid_of z (s a o e) (hid_nt h) (hid_nb h)

section
variable {K : PySem.W.Frag} {H H' : Hp} {m m' : Me} {v : V}
theorem seqT_mono {a : Addr} {xs : List V} (e : Same H H') (h : SqT K H a xs) : SqT K H' a xs := by
  rcases h with (h | ⟨o, h⟩) | h
  · exact .inl (.inl (e _ _ h))
  · exact .inl (.inr ⟨o, e _ _ h⟩)
  · exact .inr h
mutual
theorem dp_mono (e : Same H H') : ∀ (d : PyData) (v : V), Dp K H v d → Dp K H' v d
  | .none, _, .non => .non
  | .bool _, _, .bl b => .bl b
  | .int _, _, .int i => .int i
  | .str _, _, .str x => .str x
  | .list ds, _, .lst hs ha => .lst (e.seq hs) (dpAll_mono e ds _ ha)
  | .tuple ds, _, .tup hs ha => .tup (seqT_mono e hs) (dpAll_mono e ds _ ha)
theorem dpAll_mono (e : Same H H') : ∀ (ds : List PyData) (vs : List V), DpAll K H vs ds → DpAll K H' vs ds
  | [], _, .nil => .nil
  | d :: ds, _, .cons h t => .cons (dp_mono e d _ h) (dpAll_mono e ds _ t)
end
theorem dpAll_len : ∀ {ds : List PyData} {vs : List V}, DpAll K H vs ds → vs.length = ds.length
  | [], _, .nil => rfl
  | d :: ds, _, .cons h t => by rw [List.length_cons, List.length_cons, dpAll_len t]
theorem dpAll_get : ∀ {ds : List PyData} {vs : List V} {i : Nat} {x : PyData}, DpAll K H vs ds → ds[i]? = some x → ∃ v, vs[i]? = some v ∧ Dp K H v x
  | [], _, _, _, .nil, e => by simp at e
  | d :: ds, _, 0, _, .cons h t, e => by simp at e; subst e; exact ⟨_, rfl, h⟩
  | d :: ds, _, i + 1, x, .cons h t, e => by
    obtain ⟨v, h1, h2⟩ := dpAll_get (i := i) (x := x) t (by simpa using e)
    exact ⟨v, by simpa using h1, h2⟩
theorem dpAll_append : ∀ {ds es : List PyData} {vs ws : List V}, DpAll K H vs ds → DpAll K H ws es → DpAll K H (vs ++ ws) (ds ++ es)
  | [], _, _, _, .nil, s => s
  | d :: ds, _, _, _, .cons h t, s => .cons h (dpAll_append t s)
theorem dpAll_one {x : PyData} (h : Dp K H v x) : DpAll K H [v] [x] := .cons h .nil
theorem dpAll_set {x : PyData} (h : Dp K H v x) : ∀ {ds : List PyData} {vs : List V} (i : Nat), DpAll K H vs ds → DpAll K H (vs.set i v) (ds.set i x)
  | [], _, _, .nil => .nil
  | d :: ds, _, 0, .cons _ t => .cons h t
  | d :: ds, _, i + 1, .cons q t => .cons q (dpAll_set h i t)

/-- v is a caught error of the class at C, its value x -/
def DVe (K : PySem.W.Frag) (H : Hp) (v : V) (C : Addr) (x : PyData) : Prop := ∃ a dd u, v = .ref a ∧ H a = some (ExT C dd a) ∧ H dd = some (.xd [(("value" : Str), u)]) ∧ Dp K H u x
theorem DVe.mono {C : Addr} {x : PyData} (e : Same H H') (h : DVe K H v C x) : DVe K H' v C x := by
  obtain ⟨a, dd, u, h1, h2, h3, h4⟩ := h
  exact ⟨a, dd, u, h1, e _ _ h2, e _ _ h3, dp_mono e _ _ h4⟩
/-- the slots hold these data -/
def EnvD (K : PySem.W.Frag) (H : Hp) (σ : L2.St) (env : List (Option PyData)) : Prop := σ.length = env.length ∧ ∀ (i : Nat) (x : PyData), env[i]? = some (some x) → ∃ v, σ[i]? = some (some v) ∧ Dp K H v x
theorem EnvD.mono {σ : L2.St} {env : List (Option PyData)} (e : Same H H') (h : EnvD K H σ env) : EnvD K H' σ env := ⟨h.1, fun i x hi => by
  obtain ⟨v, h1, h2⟩ := h.2 i x hi
  exact ⟨v, h1, dp_mono e _ _ h2⟩⟩
/-- the hash of a tuple of ints -/
def tH (ks : List Int) : Int := reduceHash (Builtin.Tuple.tupleHashOf (ks.map hashInt))
def eT (x : List Int × Addr) : DictEntry := ⟨tH x.1, .ref x.2, .bool true⟩
/-- what is true of the object of such a dict -/
def DtAt (a : Addr) (xs : List (List Int × Addr)) (h : Heap) : Prop := (a == sysModules) = false ∧ xs.length ≤ sizeLine ∧ ∃ o es ep, h.get? a = some o ∧ o.ExactDict ∧ o.data = .dict es ep ∧ es.toList = xs.map eT ∧ (xs.map (·.1)).Nodup
/-- a dict at a, its keys tuples of ints at these addresses, its values True -/
def dtO (a : Addr) (xs : List (List Int × Addr)) : HO := .ext (DtAt a xs)
def IsKs (K : PySem.W.Frag) (ks : List (List Int)) (H : Hp) (v : V) : Prop := ∃ D xs, v = .ref D ∧ H D = some (dtO D xs) ∧ xs.map (·.1) = ks ∧ ∀ x ∈ xs, SqT K H x.2 (x.1.map V.int)
theorem IsKs.mono {K : PySem.W.Frag} {H H' : Hp} {v : V} {ks : List (List Int)} (e : Same H H') (h : IsKs K ks H v) : IsKs K ks H' v := by
  obtain ⟨D, xs, h1, h2, h3, h4⟩ := h
  exact ⟨D, xs, h1, e _ _ h2, h3, fun x hx => seqT_mono e (h4 x hx)⟩
/-- what stays true as long as nothing changes -/
def Stb (φ : Hp → V → Prop) : Prop := ∀ H H' v, Same H H' → φ H v → φ H' v
def DVo (H : Hp) (v : V) (C : Addr) (fs : List (Str × (Hp → V → Prop))) : Prop :=
  ∃ (y dx : Addr) (us : List (Str × V)), v = .ref y ∧ H y = some (.ins C dx us) ∧ (∀ p ∈ fs, Stb p.2 ∧ ∃ u, us.lookup p.1 = some u ∧ p.2 H u) ∧ ∀ f : Str, f ∉ fs.map (·.1) → us.lookup f = none
theorem DVo.mono {H H' : Hp} {v : V} {C : Addr} {fs : List (Str × (Hp → V → Prop))} (e : Same H H') (h : DVo H v C fs) : DVo H' v C fs := by
  obtain ⟨y, dx, us, h1, h2, h3, h4⟩ := h
  refine ⟨y, dx, us, h1, e _ _ h2, fun p hp => ?_, h4⟩
  obtain ⟨s, u, u1, u2⟩ := h3 p hp
  exact ⟨s, u, u1, s _ _ _ e u2⟩
/-- an attribute that is data, a dict, an instance -/
def vd (K : PySem.W.Frag) (x : PyData) : Hp → V → Prop := fun H u => Dp K H u x
def vk (K : PySem.W.Frag) (ks : List (List Int)) : Hp → V → Prop := fun H u => IsKs K ks H u
def vo (C : Addr) (fs : List (Str × (Hp → V → Prop))) : Hp → V → Prop := fun H u => DVo H u C fs
theorem vd_stb {K : PySem.W.Frag} {x : PyData} : Stb (vd K x) := fun _ _ v e h => dp_mono e x v h
theorem vk_stb {K : PySem.W.Frag} {ks : List (List Int)} : Stb (vk K ks) := fun _ _ _ e h => IsKs.mono e h
theorem vo_stb {C : Addr} {fs : List (Str × (Hp → V → Prop))} : Stb (vo C fs) := fun _ _ _ e h => DVo.mono e h
def DV (K : PySem.W.Frag) (m : Me) (H : Hp) (v : V) : Dat → Prop
  | .d x => Dp K (hid m H) v x
  | .r u => v = u
  | .e C x => DVe K (hid m H) v C x
  | .clo f c q σ env => v = .ref f ∧ hid m H c = some (LamX.CodeO c q) ∧ EnvD K (hid m H) σ env
  | .pe C x => ∃ p u, v = .ref p ∧ SqT K (hid m H) p [u, .non] ∧ DVe K (hid m H) u C x
  | .k ks => IsKs K ks (hid m H) v
  | .o C fs => DVo (hid m H) v C fs
theorem DV.mono {d : Dat} (e : Ext m H m' H') (h : DV K m H v d) : DV K m' H' v d := by
  cases d with
  | d x => exact dp_mono e x v h
  | r u => exact h
  | e C x => exact DVe.mono e h
  | clo f c q σ env => exact ⟨h.1, e _ _ h.2.1, h.2.2.mono e⟩
  | k ks => exact IsKs.mono e h
  | o C fs => exact DVo.mono e h
  | pe C x =>
    obtain ⟨p, u, h1, h2, h3⟩ := h
    exact ⟨p, u, h1, seqT_mono e h2, h3.mono e⟩
theorem dv_int {i : Int} : DV K m H (.int i) (.d (.int i)) := Dp.int i
theorem dv_bl {b : Bool} : DV K m H (.bl b) (.d (.bool b)) := Dp.bl b
theorem dv_non : DV K m H .non (.d .none) := Dp.non
theorem dv_str {x : Str} : DV K m H (.str x) (.d (.str x)) := Dp.str x
theorem dv_r {u : V} : DV K m H u (.r u) := rfl
inductive DVs (K : PySem.W.Frag) (m : Me) (H : Hp) : List V → List Dat → Prop
  | nil : DVs K m H [] []
  | cons {v : V} {d : Dat} {vs : List V} {ds : List Dat} : DV K m H v d → DVs K m H vs ds → DVs K m H (v :: vs) (d :: ds)
theorem DVs.mono (e : Ext m H m' H') : ∀ {vs : List V} {ds : List Dat}, DVs K m H vs ds → DVs K m' H' vs ds
  | _, _, .nil => .nil
  | _, _, .cons h t => .cons (h.mono e) (t.mono e)
theorem DVs.len : ∀ {vs : List V} {ds : List Dat}, DVs K m H vs ds → vs.length = ds.length
  | _, _, .nil => rfl
  | _, _, .cons _ t => by rw [List.length_cons, List.length_cons, t.len]
theorem DVs.data : ∀ {vs : List V} {ds : List PyData}, DVs K m H vs (ds.map .d) → DpAll K (hid m H) vs ds
  | _, [], .nil => .nil
  | _, d :: ds, .cons h t => .cons h t.data
theorem DVs.get : ∀ {vs : List V} {ds : List Dat} {i : Nat} {d : Dat}, DVs K m H vs ds → ds[i]? = some d → ∃ v, vs[i]? = some v ∧ DV K m H v d
  | _, _, _, _, .nil, e => by simp at e
  | _, _, 0, _, .cons h _, e => by simp at e; subst e; exact ⟨_, rfl, h⟩
  | _, _, i + 1, d, .cons _ t, e => by
    obtain ⟨v, h1, h2⟩ := DVs.get (i := i) (d := d) t (by simpa using e)
    exact ⟨v, by simpa using h1, h2⟩

structure PotAt (H : Hp) (a : Addr) (n : Nat) : Prop where
  at_ : ∃ x y k : Int, H a = some (.lst [.int x, .int y, .int k]) ∧ 0 ≤ x ∧ x.natAbs < 2 ^ 1000 ∧ 0 ≤ y ∧ y < 2 ^ 62 ∧ 0 ≤ k ∧ k ≤ n
structure MemOk (K : PySem.W.Frag) (m : Me) (H : Hp) : Prop where
  pot : ∀ a, m.p = some a → PotAt H a m.n
  own : ∀ a xs, (a, xs) ∈ m.ls → ∃ vs, H a = some (.lst vs) ∧ DpAll K (hid m H) vs xs
  sep : ∀ a, a ∈ m.ls.map (·.1) → m.p ≠ some a
  nd : (m.ls.map (·.1)).Nodup
  tab : LamX.Tabs TabsC.T H
theorem MemOk.new (h : MemOk K m H) {a : Addr} (e : H a = none) : NT a := fun q => by
  obtain ⟨p, hp, rfl⟩ := List.mem_map.mp q
  obtain ⟨ps, h1, _⟩ := h.tab p hp
  rw [e] at h1
  cases h1
theorem MemOk.mono (h : MemOk K m H) (s : Same H H') : MemOk K m H' := by
  refine ⟨fun a e => ?_, fun a xs hm => ?_, h.sep, h.nd, h.tab.ext s⟩
  · obtain ⟨x, y, k, e1, r⟩ := (h.pot a e).at_
    exact ⟨x, y, k, s _ _ e1, r⟩
  · obtain ⟨vs, e1, r⟩ := h.own a xs hm
    exact ⟨vs, s _ _ e1, dpAll_mono (Ext.of s) _ _ r⟩
/-- a hidden address is in use -/
theorem MemOk.used (h : MemOk K m H) {a : Addr} (z : m.hd a) : ∃ o, H a = some o := by
  rcases z with z | z
  · obtain ⟨x, y, k, e1, r⟩ := (h.pot a z).at_
    exact ⟨_, e1⟩
  · obtain ⟨q, hq, rfl⟩ := List.mem_map.mp z
    obtain ⟨vs, e1, r⟩ := h.own q.1 q.2 hq
    exact ⟨_, e1⟩
theorem MemOk.fresh (h : MemOk K m H) {a : Addr} (e : H a = none) : ¬ m.hd a := fun z => by
  obtain ⟨o, e1⟩ := h.used z
  rw [e] at e1; cases e1
def EnvOk (K : PySem.W.Frag) (m : Me) (H : Hp) (σ : L2.St) (env : DEnv) : Prop :=
  σ.length = env.length ∧ ∀ (i : Nat) (d : Dat), env[i]? = some (some d) → ∃ v, σ[i]? = some (some v) ∧ DV K m H v d
theorem EnvOk.mono {σ : L2.St} {env : DEnv} (h : EnvOk K m H σ env) (e : Ext m H m' H') : EnvOk K m' H' σ env :=
  ⟨h.1, fun i d hi => by
    obtain ⟨v, h1, h2⟩ := h.2 i d hi
    exact ⟨v, h1, h2.mono e⟩⟩
theorem EnvOk.set {σ : L2.St} {env : DEnv} {d : Dat} (h : EnvOk K m H σ env) (i : Nat) (hv : DV K m H v d) : EnvOk K m H (σ.set i (some v)) (env.set i (some d)) := by
  refine ⟨by rw [List.length_set, List.length_set]; exact h.1, fun j d' hj => ?_⟩
  by_cases hij : i = j
  · subst hij
    by_cases hl : i < env.length
    · rw [List.getElem?_set_self hl] at hj
      cases hj
      exact ⟨v, by rw [List.getElem?_set_self (by rw [h.1]; exact hl)], hv⟩
    · rw [List.getElem?_eq_none (by rw [List.length_set]; omega)] at hj
      cases hj
  · rw [List.getElem?_set_ne hij] at hj ⊢
    exact h.2 j d' hj
/-- what is a sequence -/
def seqOf (m : Me) : Dat → Option (List PyData)
  | .d (.tuple xs) => some xs
  | .d (.list xs) => some xs
  | .r (.ref l) => m.ls.lookup l
  | _ => none
theorem lookup_mem {α : Type} : ∀ {l : List (Addr × α)} {a : Addr} {x : α}, l.lookup a = some x → (a, x) ∈ l
  | [], _, _, h => by cases h
  | (b, y) :: r, a, x, h => by
    rw [List.lookup_cons] at h
    by_cases e : a = b
    · subst e
      simp at h
      subst h
      exact List.mem_cons_self
    · have e' : (a == b) = false := by simpa using e
      rw [e'] at h
      exact List.mem_cons_of_mem _ (lookup_mem h)
theorem MemOk.seq (hm : MemOk K m H) {d : Dat} {xs : List PyData} (hv : DV K m H v d) (h : seqOf m d = some xs) : ∃ a vs, v = .ref a ∧ (SqL K H a vs ∨ SqT K H a vs) ∧ DpAll K (hid m H) vs xs := by
  unfold seqOf at h
  split at h
  · cases h
    cases hv with
    | tup hs ha => exact ⟨_, _, rfl, .inr (seqT_mono hid_sub hs), ha⟩
  · cases h
    cases hv with
    | lst hs ha => exact ⟨_, _, rfl, .inl (hid_sub.seq hs), ha⟩
  · rename_i l
    obtain ⟨vs, e1, r⟩ := hm.own l xs (lookup_mem h)
    exact ⟨l, vs, hv, .inl (SqL.of e1), r⟩
  · cases h
end

/-! ### expressions -/
section
variable {X : Cx}
def tW (X : Cx) (e : Expr) : TE := fun σ H Q => ∀ pins s, Inv X pins σ H s → wpAny (model X.prog X.w) X.A (eval e X.env) (EP X pins σ Q) X.xe s
theorem peW {e : Expr} : PE X e (tW X e) := ⟨fun pins s _ _ _ I h => h pins s I⟩
def ttW (X : Cx) (e : Expr) : TT := fun σ H Q => ∀ pins s, Inv X pins σ H s → wpAny (model X.prog X.w) X.A (isTrue e X.env (eval e X.env)) (TP X pins σ Q) X.xe s
theorem ptW {e : Expr} : PT X e (ttW X e) := ⟨fun pins s _ _ _ I h => h pins s I⟩
def twW (X : Cx) (e : Expr) : TT := fun σ H Q => ∀ whole pins s, Inv X pins σ H s → wpAny (model X.prog X.w) X.A (isTrue e X.env whole) (TP X pins σ Q) X.xe s
theorem pwW {e : Expr} : PW X e (twW X e) := ⟨fun whole pins s _ _ _ I h => h whole pins s I⟩
def aW (X : Cx) (es : List Expr) : TA := fun σ H Q => ∀ pos pins s, Inv X pins σ H s → wpAny (model X.prog X.w) X.A (spliced (backTo pos (starEach es X.env))) (AP X pins σ Q) X.xe s
theorem paW {es : List Expr} : PA X es (aW X es) := ⟨fun pos pins s _ _ _ I h => h pos pins s I⟩

def wE (X : Cx) (e : Expr) (env : DEnv) (m : Me) (k : Dat → Me → Prop) : Prop :=
  ∀ (σ : L2.St) (H : Hp) (Q : VK), EnvOk X.K m H σ env → MemOk X.K m H → (∀ v d m' H', Ext m H m' H' → MemOk X.K m' H' → DV X.K m' H' v d → k d m' → Q v H') → tW X e σ H Q
def wT (X : Cx) (e : Expr) (env : DEnv) (m : Me) (k : Bool → Me → Prop) : Prop :=
  ∀ (σ : L2.St) (H : Hp) (Q : Bool → Hp → Prop), EnvOk X.K m H σ env → MemOk X.K m H → (∀ b m' H', Ext m H m' H' → MemOk X.K m' H' → k b m' → Q b H') → ttW X e σ H Q
def wW (X : Cx) (e : Expr) (env : DEnv) (m : Me) (k : Bool → Me → Prop) : Prop :=
  ∀ (σ : L2.St) (H : Hp) (Q : Bool → Hp → Prop), EnvOk X.K m H σ env → MemOk X.K m H → (∀ b m' H', Ext m H m' H' → MemOk X.K m' H' → k b m' → Q b H') → twW X e σ H Q
def wA (X : Cx) (es : List Expr) (env : DEnv) (m : Me) (k : List Dat → Me → Prop) : Prop :=
  ∀ (σ : L2.St) (H : Hp) (Q : List V → Hp → Prop), EnvOk X.K m H σ env → MemOk X.K m H → (∀ vs ds m' H', Ext m H m' H' → MemOk X.K m' H' → DVs X.K m' H' vs ds → k ds m' → Q vs H') → aW X es σ H Q

variable {env : DEnv} {m : Me} {k : Dat → Me → Prop} {kb : Bool → Me → Prop} {a b c e : Expr} {es : List Expr} {pos : Pos}
theorem wE_of {t : TE} (h : PE X e t) (hh : ∀ (σ : L2.St) (H : Hp) (Q : VK), EnvOk X.K m H σ env → MemOk X.K m H → (∀ v d m' H', Ext m H m' H' → MemOk X.K m' H' → DV X.K m' H' v d → k d m' → Q v H') → t σ H Q) : wE X e env m k :=
  fun σ H Q he hm hq pins s I => h.run pins s σ H Q I (hh σ H Q he hm hq)
theorem wT_of {t : TT} (h : PT X e t) (hh : ∀ (σ : L2.St) (H : Hp) (Q : Bool → Hp → Prop), EnvOk X.K m H σ env → MemOk X.K m H → (∀ b m' H', Ext m H m' H' → MemOk X.K m' H' → kb b m' → Q b H') → t σ H Q) : wT X e env m kb :=
  fun σ H Q he hm hq pins s I => h.run pins s σ H Q I (hh σ H Q he hm hq)
theorem wW_of {t : TT} (h : PW X e t) (hh : ∀ (σ : L2.St) (H : Hp) (Q : Bool → Hp → Prop), EnvOk X.K m H σ env → MemOk X.K m H → (∀ b m' H', Ext m H m' H' → MemOk X.K m' H' → kb b m' → Q b H') → t σ H Q) : wW X e env m kb :=
  fun σ H Q he hm hq whole pins s I => h.run whole pins s σ H Q I (hh σ H Q he hm hq)
theorem wE.mono {k' : Dat → Me → Prop} (h : wE X e env m k) (hk : ∀ d m', k d m' → k' d m') : wE X e env m k' :=
  fun σ H Q he hm hq => h σ H Q he hm fun v d m' H' x1 x2 x3 x4 => hq v d m' H' x1 x2 x3 (hk d m' x4)

/-- a value that is known, the heap as it is -/
theorem wE_c {v : V} {d : Dat} (h : PE X e (tC v)) (hd : ∀ H, DV X.K m H v d) (hk : k d m) : wE X e env m k :=
  wE_of h fun σ H Q he hm hq => hq v d m H Ext.refl hm (hd H) hk
theorem wE_var (i : Nat) {d : Dat} {x : Str} (hN : X.N[i]? = some x) (hv : Vis X.env.scope x) (he : env[i]? = some (some d)) (hk : k d m) (hd : (x == ("__debug__" : Str)) = false := by decide)
    (hcd : (x == ("__classdict__" : Str)) = false := by decide) : wE X (.Name x pos) env m k :=
  wE_of (pe_var hN hv hd hcd) fun σ H Q eo hm hq => by
    obtain ⟨v, h1, h2⟩ := eo.2 i d he
    exact ⟨v, h1, hq v d m H Ext.refl hm h2 hk⟩
theorem wE_int {i : Int} {j} (hk : k (.d (.int i)) m) : wE X (.Constant (.int i) j pos) env m k := wE_c pe_int (fun _ => dv_int) hk
theorem wE_bl {b : Bool} {j} (hk : k (.d (.bool b)) m) : wE X (.Constant (.bool b) j pos) env m k := wE_c pe_bl (fun _ => dv_bl) hk
theorem wE_non {j} (hk : k (.d .none) m) : wE X (.Constant .none j pos) env m k := wE_c pe_non (fun _ => dv_non) hk
theorem wE_str {x : Str} {j} (hk : k (.d (.str x)) m) : wE X (.Constant (.str x) j pos) env m k := wE_c pe_str (fun _ => dv_str) hk
/-- a built-in class by its name, as a value -/
theorem wE_ty {x : Str} {n : String} (hg : Gl X x) (hm : X.mg x = none) (hv : bootBuiltins x = some (.type n)) (hk : k (.r (.ty n)) m) (hn : x ≠ "__name__" := by decide) (hd : (x == ("__debug__" : Str)) = false := by decide) :
    wE X (.Name x pos) env m k := wE_c (v := .ty n) (pe_bltn hg hm hv rfl hn hd) (fun _ => dv_r) hk

/-- a two-place operation by values -/
def OpD (K : PySem.W.Frag) (r : R2) (f : Me → Dat → Dat → (Dat → Prop) → Prop) : Prop :=
  ∀ (m : Me) (H : Hp) (x y : V) (dx dy : Dat) (k : Dat → Prop) (Q : VK), MemOk K m H → DV K m H x dx → DV K m H y dy → f m dx dy k → (∀ v d H', Same H H' → DV K m H' v d → k d → Q v H') → r x y H Q
theorem binW {r : R2} {f : Me → Dat → Dat → (Dat → Prop) → Prop} (hf : OpD X.K r f) {σ : L2.St} {H : Hp} {Q : VK} (he : EnvOk X.K m H σ env) (hm : MemOk X.K m H)
    (hq : ∀ v d m' H', Ext m H m' H' → MemOk X.K m' H' → DV X.K m' H' v d → k d m' → Q v H') (h : wE X a env m fun dx m1 => wE X b env m1 fun dy m2 => f m2 dx dy fun d => k d m2) : tOp r (tW X a) (tW X b) σ H Q :=
  h σ H _ he hm fun x dx m1 H1 e1 hm1 v1 h1 => h1 σ H1 _ (he.mono e1) hm1 fun y dy m2 H2 e2 hm2 v2 h2 =>
    hf m2 H2 x y dx dy _ Q hm2 (v1.mono e2) v2 h2 fun v d H' s dv kd => hq v d m2 H' ((e1.trans e2).trans (Ext.of s)) (hm2.mono s) dv kd
theorem wE_op {op : Operator} {r : R2} {f : Me → Dat → Dat → (Dat → Prop) → Prop} (ho : OpR X (binaryOp op) r) (hf : OpD X.K r f) (h : wE X a env m fun dx m1 => wE X b env m1 fun dy m2 => f m2 dx dy fun d => k d m2) : wE X (.BinOp a op b pos) env m k :=
  wE_of (pe_op ho peW peW) fun σ H Q he hm hq => binW hf he hm hq h
theorem wE_cmp {op : CmpOp} {r : R2} {f : Me → Dat → Dat → (Dat → Prop) → Prop} (ho : OpR X (compareOp op) r) (hf : OpD X.K r f) (hb : behindInMarks op b = false) (h : wE X a env m fun dx m1 => wE X b env m1 fun dy m2 => f m2 dx dy fun d => k d m2) :
    wE X (.Compare a [op] [b] pos) env m k :=
  wE_of (pe_cmpR ho peW peW hb) fun σ H Q he hm hq => binW hf he hm hq h
theorem wT_cmp {op : CmpOp} {r : R2} {f : Me → Dat → Dat → (Dat → Prop) → Prop} (ho : OpR X (compareOp op) r) (hf : OpD X.K r f) (hb : behindInMarks op b = false)
    (h : wE X a env m fun dx m1 => wE X b env m1 fun dy m2 => f m2 dx dy fun d => ∃ c, d = .d (.bool c) ∧ kb c m2) : wT X (.Compare a [op] [b] pos) env m kb :=
  wT_of (pt_cmpR ho peW peW hb) fun σ H Q he hm hq => binW hf he hm (fun v d m' H' e1 hm1 dv ⟨c, e, kc⟩ => by
    subst e
    cases dv
    exact ⟨c, rfl, hq c m' H' e1 hm1 kc⟩) h
theorem wE_ix {r : R2} {f : Me → Dat → Dat → (Dat → Prop) → Prop} (hr : IxR X r) (hf : OpD X.K r f) (hs : PlainIx b) (h : wE X a env m fun dx m1 => wE X b env m1 fun dy m2 => f m2 dx dy fun d => k d m2) : wE X (.Subscript a b pos) env m k :=
  wE_of (pe_ix hr peW peW hs) fun σ H Q he hm hq => binW hf he hm hq h
/-- ints -/
def fI (C : Int → Int → Prop) (g : Int → Int → Dat) (_ : Me) (dx dy : Dat) (k : Dat → Prop) : Prop := ∃ i j, dx = .d (.int i) ∧ dy = .d (.int j) ∧ C i j ∧ k (g i j)
def fI0 (g : Int → Int → Dat) (_ : Me) (dx dy : Dat) (k : Dat → Prop) : Prop := ∃ i j, dx = .d (.int i) ∧ dy = .d (.int j) ∧ k (g i j)
theorem opD_I {K : PySem.W.Frag} {C : Int → Int → Prop} {g : Int → Int → V} {g' : Int → Int → Dat} (hg : ∀ i j m H, DV K m H (g i j) (g' i j)) : OpD K (rI C g) (fI C g') := fun m H x y dx dy k Q hm h1 h2 ⟨i, j, e1, e2, c, hk⟩ hq => by
  subst e1 e2
  cases h1
  cases h2
  exact ⟨i, j, rfl, rfl, c, hq _ _ H (Same.refl _) (hg i j m H) hk⟩
theorem opD_I0 {K : PySem.W.Frag} {g : Int → Int → V} {g' : Int → Int → Dat} (hg : ∀ i j m H, DV K m H (g i j) (g' i j)) : OpD K (rI0 g) (fI0 g') := fun m H x y dx dy k Q hm h1 h2 ⟨i, j, e1, e2, hk⟩ hq => by
  subst e1 e2
  cases h1
  cases h2
  exact ⟨i, j, rfl, rfl, hq _ _ H (Same.refl _) (hg i j m H) hk⟩
theorem wE_add (h : wE X a env m fun dx m1 => wE X b env m1 fun dy m2 => fI0 (fun i j => .d (.int (i + j))) m2 dx dy fun d => k d m2) : wE X (.BinOp a .Add b pos) env m k := wE_op op_add (opD_I0 fun i j _ _ => dv_int) h
theorem wE_sub (h : wE X a env m fun dx m1 => wE X b env m1 fun dy m2 => fI0 (fun i j => .d (.int (i - j))) m2 dx dy fun d => k d m2) : wE X (.BinOp a .Sub b pos) env m k := wE_op op_sub (opD_I0 fun i j _ _ => dv_int) h
theorem wE_mul (h : wE X a env m fun dx m1 => wE X b env m1 fun dy m2 => fI CMulW (fun i j => .d (.int (i * j))) m2 dx dy fun d => k d m2) : wE X (.BinOp a .Mult b pos) env m k := wE_op op_mulW (opD_I fun i j _ _ => dv_int) h
theorem wE_fdiv (h : wE X a env m fun dx m1 => wE X b env m1 fun dy m2 => fI CDivW (fun i j => .d (.int (i / j))) m2 dx dy fun d => k d m2) : wE X (.BinOp a .FloorDiv b pos) env m k := wE_op op_fdivW (opD_I fun i j _ _ => dv_int) h
theorem wE_fdivN (h : wE X a env m fun dx m1 => wE X b env m1 fun dy m2 => fI CDivN (fun i j => .d (.int (i.fdiv j))) m2 dx dy fun d => k d m2) : wE X (.BinOp a .FloorDiv b pos) env m k := wE_op op_fdivN (opD_I fun i j _ _ => dv_int) h
theorem wE_mod (h : wE X a env m fun dx m1 => wE X b env m1 fun dy m2 => fI (fun _ j => 0 < j) (fun i j => .d (.int (i % j))) m2 dx dy fun d => k d m2) : wE X (.BinOp a .Mod b pos) env m k := wE_op op_mod (opD_I fun i j _ _ => dv_int) h
theorem wE_pow (h : wE X a env m fun dx m1 => wE X b env m1 fun dy m2 => fI CPow (fun i j => .d (.int (i ^ j.toNat))) m2 dx dy fun d => k d m2) : wE X (.BinOp a .Pow b pos) env m k := wE_op op_pow (opD_I fun i j _ _ => dv_int) h
theorem wE_lt (h : wE X a env m fun dx m1 => wE X b env m1 fun dy m2 => fI0 (fun i j => .d (.bool (decide (i < j)))) m2 dx dy fun d => k d m2) : wE X (.Compare a [.Lt] [b] pos) env m k := wE_cmp op_lt (opD_I0 fun i j _ _ => dv_bl) (nomark _) h
theorem wE_le (h : wE X a env m fun dx m1 => wE X b env m1 fun dy m2 => fI0 (fun i j => .d (.bool (decide (i ≤ j)))) m2 dx dy fun d => k d m2) : wE X (.Compare a [.LtE] [b] pos) env m k := wE_cmp op_le (opD_I0 fun i j _ _ => dv_bl) (nomark _) h
theorem wE_gt (h : wE X a env m fun dx m1 => wE X b env m1 fun dy m2 => fI0 (fun i j => .d (.bool (decide (j < i)))) m2 dx dy fun d => k d m2) : wE X (.Compare a [.Gt] [b] pos) env m k := wE_cmp op_gt (opD_I0 fun i j _ _ => dv_bl) (nomark _) h
theorem wE_ge (h : wE X a env m fun dx m1 => wE X b env m1 fun dy m2 => fI0 (fun i j => .d (.bool (decide (j ≤ i)))) m2 dx dy fun d => k d m2) : wE X (.Compare a [.GtE] [b] pos) env m k := wE_cmp op_ge (opD_I0 fun i j _ _ => dv_bl) (nomark _) h
theorem wT_lt (h : wE X a env m fun dx m1 => wE X b env m1 fun dy m2 => fI0 (fun i j => .d (.bool (decide (i < j)))) m2 dx dy fun d => ∃ c, d = .d (.bool c) ∧ kb c m2) : wT X (.Compare a [.Lt] [b] pos) env m kb := wT_cmp op_lt (opD_I0 fun i j _ _ => dv_bl) (nomark _) h
theorem wT_le (h : wE X a env m fun dx m1 => wE X b env m1 fun dy m2 => fI0 (fun i j => .d (.bool (decide (i ≤ j)))) m2 dx dy fun d => ∃ c, d = .d (.bool c) ∧ kb c m2) : wT X (.Compare a [.LtE] [b] pos) env m kb := wT_cmp op_le (opD_I0 fun i j _ _ => dv_bl) (nomark _) h
theorem wT_gt (h : wE X a env m fun dx m1 => wE X b env m1 fun dy m2 => fI0 (fun i j => .d (.bool (decide (j < i)))) m2 dx dy fun d => ∃ c, d = .d (.bool c) ∧ kb c m2) : wT X (.Compare a [.Gt] [b] pos) env m kb := wT_cmp op_gt (opD_I0 fun i j _ _ => dv_bl) (nomark _) h
theorem wT_ge (h : wE X a env m fun dx m1 => wE X b env m1 fun dy m2 => fI0 (fun i j => .d (.bool (decide (j ≤ i)))) m2 dx dy fun d => ∃ c, d = .d (.bool c) ∧ kb c m2) : wT X (.Compare a [.GtE] [b] pos) env m kb := wT_cmp op_ge (opD_I0 fun i j _ _ => dv_bl) (nomark _) h
end
end DW

set_option Elab.async false
set_option linter.all false
set_option maxRecDepth 100000
set_option maxHeartbeats 1000000
namespace DW
variable [TabsC]
open PySem PySem.Spec PyProof.Rows L2

/-! ### defs where it is known that no repr is under way -/
structure RoomG (k : Nat) (A : Around) : Prop where
  room : Room k A
  gd : A.guards = some []
theorem RoomG.mono {j k : Nat} {A : Around} (r : RoomG k A) (h : j ≤ k) : RoomG j A := ⟨r.room.mono h, r.gd⟩
structure FnG (P : Program) (w : World) (K : PySem.W.Frag) (mg : Str → Option Value) (base : Heap) (CX : CXT) (k : Nat) (f : Addr) (fd : FuncData) (ps : List Str) (sp : Sp) : Prop where
  len : ∀ vs H Q E, sp vs H Q E → vs.length = ps.length
  go : ∀ (A : Around) (outer : List Env) (s : Shared) (H : Hp) (args : Args) (us : List Value) (vs : List V) (Q : VK) (E : XK),
    RoomG k A → Env0 P w K mg base A outer s H → BindsTo s fd args (ps.zip us) → Vals vs us → sp vs H Q E →
      codeAny (model P w) A (.call (.ref f) args) (CR CX outer P w H s Q E) s
section
variable {P : Program} {w : World} {K : PySem.W.Frag} {mg : Str → Option Value} {base : Heap} {CX : CXT}
theorem FnG.mono {j k : Nat} {f : Addr} {fd : FuncData} {ps : List Str} {sp : Sp} (F : FnG P w K mg base CX j f fd ps sp) (h : j ≤ k) : FnG P w K mg base CX k f fd ps sp :=
  ⟨F.len, fun A o s H args us vs Q E hr => F.go A o s H args us vs Q E (hr.mono h)⟩
/-- a def of the text: its body's reading -/
theorem fnG_of {x qual : Str} {st : Stmt} {f : Addr} {fd : FuncData} {N ps : List Str} {k : Nat} {sp : Sp} (F : Fun K x qual st f fd) (S : FnScope N ps (defScope st)) (hl : ∀ vs H Q E, sp vs H Q E → vs.length = ps.length)
    (hb : ∀ (cdv : Value) (A : Around) (outer : List Env) (s : Shared) (H : Hp) (vs : List V) (Q : VK) (E : XK), RoomG k (A.deeper (envOfC qual (defScope st) s.heap.objs.size f cdv)) → sp vs H Q E →
      ∃ t, PSs (cxOf CX P w K mg base N qual (defScope st) f cdv A outer s H E) (defBody st) t ∧ t { nx := fun _ H' => Q .non H', rt := Q } (start N vs) H) : FnG P w K mg base CX (k + 1) f fd ps sp := by
  obtain ⟨oc, od, kV, doc, pm, an, cdv, ct, osl, rfl, lk, hcd⟩ := F.ex
  refine ⟨hl, fun A outer s H args us vs Q E hr e0 hbn r hsp => ?_⟩
  have len := hl _ _ _ _ hsp
  have old : ∀ b o, base.get? b = some o → s.heap.get? b = some o := fun b o e => (e0.bs b o e).1
  have KX := e0.mod.kin.keeps old
  have par : ∀ y ∈ ps.zip us, (defScope st).names.lookup y.1 = some .local ∨
      ((defScope st).names.lookup y.1 = some .cell ∧ ((cellsFrom (s.heap.objs.size + 1) (defScope st).names []).lookup y.1).isSome = true) := by
    rintro ⟨n, v⟩ hy
    rcases S.par n (List.of_mem_zip hy).1 with q | q
    · exact .inl q
    · refine .inr ⟨q, ?_⟩
      exact PySem.W.cellsFrom_some _ _ _ (.inl q)
  have dpt := hr.room.depth
  refine codeAny_call_function dpt (KX _ _ lk) rfl S.co S.gen rfl (PySem.W.codeRec_of KX hcd) (hbn _ _ _ _ ?_)
  refine wpAny_newFunctionEnv_cells S.kind par fun env he s1 ic => ?_
  subst he
  refine ⟨(e0.mod.nolimit.keeps old).keeps ic.toInCall.keep, codeAny_func ?_⟩
  obtain ⟨t, ht, hq⟩ := hb cdv A outer s H vs Q E ⟨hr.room.deeper _, hr.gd⟩ hsp
  have I := inv_start (CX := CX) (P := P) (w := w) (mg := mg) (E := E) S hr.room.hd e0 len r ic
  refine wpAny_mono (ht.run [] s1 (start N vs) H _ I hq) (fun fl s' hs => ?_) (fun e s' hs => hs)
  cases fl with
  | next => obtain ⟨σ', H', J, q⟩ := hs; exact ⟨V.non, H', J.os, J.bare, J.base, J.hok, rfl, q⟩
  | brk => obtain ⟨_, _, _, q⟩ := hs; exact q.elim
  | cont => obtain ⟨_, _, _, q⟩ := hs; exact q.elim
  | ret u => obtain ⟨v, σ', H', J, rv, q⟩ := hs; exact ⟨v, H', J.os, J.bare, J.base, J.hok, rv, q⟩
end
section
variable {X : Cx} {CX : CXT} {k : Nat} {f : Addr} {fd : FuncData} {ps ks : List Str} {sp : Sp} {dvs : List V} {ds : List Value} {E : XK} {x : Str} {p pos : Pos} {e : Expr} {es : List Expr} {t tk : TA} {kws : List Keyword}
theorem runG {pins : List (Addr × Obj)} {σ : L2.St} {H : Hp} {s : Shared} {Q : VK} {args : Args} {us : List Value} {vs : List V} (F : FnG X.prog X.w X.K X.mg X.base CX k f fd ps sp) (hr : RoomG k X.A) (hx : Passes CX X E)
    (I : Inv X pins σ H s) (hb : us.length = ps.length → BindsTo s fd args (ps.zip us)) (r : Vals vs us) (h : sp vs H Q E) :
    wpAny (model X.prog X.w) X.A (call (.ref f) args.pos args.kw) (EP X pins σ Q) X.xe s := by
  have hl : us.length = ps.length := by rw [← r.length]; exact F.len _ _ _ _ h
  refine wpAny_call (codeAny_mono (F.go X.A X.stack s H _ us vs Q E hr I.env0 (hb hl) r h) fun res s' hq => ?_)
  match res, hq with
  | .error e, hq => exact hx pins σ H s e s' I hq
  | .ok (.ret u), hq => exact I.after hq
  | .ok .next, hq => exact hq.elim
  | .ok .brk, hq => exact hq.elim
  | .ok .cont, hq => exact hq.elim
theorem pe_callG (F : FnG X.prog X.w X.K X.mg X.base CX k f fd ps sp) (hr : RoomG k X.A) (hg : Gl X x) (hm : X.mg x = some (.ref f)) (hk : PySem.W.keepIn X.K (.ref f) = true) (hb : Binds X.K fd ps ds) (hd : Vals dvs ds) (hx : Passes CX X E)
    (ha : PA X (e :: es) t) (hdb : (x == ("__debug__" : Str)) = false := by decide) (he : starEach (e :: es) X.env = (false, eval e X.env) :: starEach es X.env := by rfl)
    (hpl : (backTo pos (starEach es X.env)).any (·.1) = false := by rfl) : PE X (.Call (.Name x p) (e :: es) [] pos) (tCall sp dvs E t) := by
  refine ⟨fun pins s σ H Q I h => wpAny_Call_Name_kw (ld_glob I hg hm ?_ hdb)⟩
  refine PySem.W.callWith_K (h₀ := X.base) I.ok.mod.kin hk (thn (ha.run pos pins s σ H _ I h) ?_) he hpl
  rintro us s1 ⟨vs, H1, I1, r, q⟩
  exact ⟨I1.kIn, runG (args := ⟨us, []⟩) F hr hx I1 (fun hl => hb s1 us I1.kIn hl) (r.append hd) q⟩
theorem pe_callKG {g : List Value → List Value → List Value} {gV : List V → List V → List V} (F : FnG X.prog X.w X.K X.mg X.base CX k f fd ps sp) (hr : RoomG k X.A) (hg : Gl X x) (hm : X.mg x = some (.ref f)) (hk : PySem.W.keepIn X.K (.ref f) = true)
    (hb : KBinds X.K fd ps ks g gV) (hx : Passes CX X E) (ha : PA X (e :: es) t) (hkw : PK X kws tk) (hall : (backToKw pos (keywordEach kws X.env)).all (·.1.isSome) = true := by rfl)
    (hks : (backToKw pos (keywordEach kws X.env)).filterMap (·.1) = ks := by rfl) (hdb : (x == ("__debug__" : Str)) = false := by decide) (he : starEach (e :: es) X.env = (false, eval e X.env) :: starEach es X.env := by rfl)
    (hpl : ((backTo pos (starEach (e :: es) X.env)).any (·.1) || (backToKw pos (keywordEach kws X.env)).any (·.1.isNone)) = false := by rfl) : PE X (.Call (.Name x p) (e :: es) kws pos) (tCallK sp gV E t tk) := by
  refine ⟨fun pins s σ H Q I h => wpAny_Call_Name_kw (ld_glob I hg hm ?_ hdb)⟩
  refine PySem.W.callWith_KW (h₀ := X.base) I.ok.mod.kin hk hall (thn (ha.run pos pins s σ H _ I h) ?_) hpl he
  rintro us s1 ⟨vs, H1, I1, r, q⟩
  refine thn (hkw.run pos pins s1 σ H1 _ I1 q) ?_
  rintro ws s2 ⟨zs, H2, I2, rz, q2⟩
  rw [hks]
  exact ⟨I2.kIn, runG (args := ⟨us, ks.zip ws⟩) F hr hx I2 (fun hl => hb.to s2 us ws I2.kIn hl) (hb.rel r rz) q2⟩
/-- f(k = v, ..) alone -/
theorem pe_callK0G {g : List Value → List Value → List Value} {gV : List V → List V → List V} (F : FnG X.prog X.w X.K X.mg X.base CX k f fd ps sp) (hr : RoomG k X.A) (hg : Gl X x) (hm : X.mg x = some (.ref f)) (hk : PySem.W.keepIn X.K (.ref f) = true)
    (hb : KBinds X.K fd ps ks g gV) (hx : Passes CX X E) (hkw : PK X kws tk) (hall : (backToKw pos (keywordEach kws X.env)).all (·.1.isSome) = true := by rfl)
    (hks : (backToKw pos (keywordEach kws X.env)).filterMap (·.1) = ks := by rfl) (hdb : (x == ("__debug__" : Str)) = false := by decide)
    (hpl : ((backTo pos (starEach [] X.env)).any (·.1) || (backToKw pos (keywordEach kws X.env)).any (·.1.isNone)) = false := by rfl) : PE X (.Call (.Name x p) [] kws pos) (tCallK sp gV E tNil tk) := by
  refine ⟨fun pins s σ H Q I h => wpAny_Call_Name_kw (ld_glob I hg hm ?_ hdb)⟩
  refine PySem.W.callWith_KW0 (h₀ := X.base) I.ok.mod.kin hk hall ?_ hpl
  refine thn (hkw.run pos pins s σ H _ I h) ?_
  rintro ws s2 ⟨zs, H2, I2, rz, q2⟩
  rw [hks]
  exact ⟨I2.kIn, runG (args := ⟨[], ks.zip ws⟩) F hr hx I2 (fun hl => hb.to s2 [] ws I2.kIn hl) (hb.rel .nil rz) q2⟩
end
end DW

set_option Elab.async false
set_option linter.all false
set_option maxRecDepth 100000
set_option maxHeartbeats 1000000
namespace DW
variable [TabsC]
open PySem PySem.Spec PyProof.Rows L2

section
variable {X : Cx} {env : DEnv} {m : Me} {k : Dat → Me → Prop} {kb : Bool → Me → Prop} {ka : List Dat → Me → Prop} {a b c e : Expr} {es : List Expr} {pos p : Pos} {x : Str}

/-! ### arguments, displays -/
theorem wA_of {t : TA} (h : PA X es t) (hh : ∀ (σ : L2.St) (H : Hp) (Q : List V → Hp → Prop), EnvOk X.K m H σ env → MemOk X.K m H → (∀ vs ds m' H', Ext m H m' H' → MemOk X.K m' H' → DVs X.K m' H' vs ds → ka ds m' → Q vs H') → t σ H Q) : wA X es env m ka :=
  fun σ H Q he hm hq pos pins s I => h.run pos pins s σ H Q I (hh σ H Q he hm hq)
theorem wA_nil (h : ka [] m) : wA X [] env m ka := wA_of pa_nil fun σ H Q he hm hq => hq [] [] m H Ext.refl hm .nil h
theorem wA_cons (h : wE X e env m fun d m1 => wA X es env m1 fun ds m2 => ka (d :: ds) m2) (hs : starEach (e :: es) X.env = (false, eval e X.env) :: starEach es X.env := by rfl) : wA X (e :: es) env m ka :=
  wA_of (pa_cons peW paW hs) fun σ H Q he hm hq => h σ H _ he hm fun v d m1 H1 e1 hm1 dv h1 => h1 σ H1 _ (he.mono e1) hm1 fun vs ds m2 H2 e2 hm2 dvs h2 =>
    hq (v :: vs) (d :: ds) m2 H2 (e1.trans e2) hm2 (.cons (dv.mono e2) dvs) h2
theorem same_new {H : Hp} {p : Addr} {o : HO} (h : H p = none) : Same H (upd H p o) := fun a u e => by
  rw [upd_ne (ne_of_none e h)]
  exact e
theorem szl {n : Nat} (h : n ≤ 10000000) : n ≤ sizeLine := Nat.le_trans h (by decide)
theorem wE_tup {x1} {xs : List PyData → Prop} (h : wA X es env m fun ds m1 => ∃ xs : List PyData, ds = xs.map .d ∧ xs.length ≤ 10000000 ∧ k (.d (.tuple xs)) m1) : wE X (.Tuple es x1 pos) env m k :=
  wE_of (pe_tup paW) fun σ H Q he hm hq => h σ H _ he hm fun vs ds m1 H1 e1 hm1 dvs ⟨xs, e, hl, hk⟩ => by
    subst e
    have da := dvs.data
    refine ⟨szl (by rw [dpAll_len da]; exact hl), fun p hp => ?_⟩
    have s := same_new (o := .tup vs) hp
    have z := hm1.fresh hp
    exact hq _ (.d (.tuple xs)) m1 _ (e1.trans (Ext.of s)) (hm1.mono s) (Dp.tup (SqT.of (hid_of z upd_same (hm1.new hp))) (dpAll_mono (Ext.of s) _ _ da)) hk
theorem wE_lst (h : wA X es env m fun ds m1 => ∃ xs : List PyData, ds = xs.map .d ∧ xs.length ≤ 10000000 ∧ k (.d (.list xs)) m1) : wE X (.List es pos) env m k :=
  wE_of (pe_lst paW) fun σ H Q he hm hq => h σ H _ he hm fun vs ds m1 H1 e1 hm1 dvs ⟨xs, e, hl, hk⟩ => by
    subst e
    have da := dvs.data
    refine ⟨szl (by rw [dpAll_len da]; exact hl), fun p hp => ?_⟩
    have s := same_new (o := .lst vs) hp
    have z := hm1.fresh hp
    exact hq _ (.d (.list xs)) m1 _ (e1.trans (Ext.of s)) (hm1.mono s) (Dp.lst (SqL.of (hid_of z upd_same (hm1.new hp))) (dpAll_mono (Ext.of s) _ _ da)) hk
/-- a list that will change -/
theorem own_ok {K : PySem.W.Frag} {H : Hp} {l : Addr} {vs : List V} {xs : List PyData} (hm : MemOk K m H) (hl : H l = none) (da : DpAll K (hid m H) vs xs) :
    MemOk K (m.own l xs) (upd H l (.lst vs)) ∧ Ext m H (m.own l xs) (upd H l (.lst vs)) := by
  have z := hm.fresh hl
  have ex : Ext m H (m.own l xs) (upd H l (.lst vs)) := fun a o e => by
    obtain ⟨z1, e1⟩ := hid_some e
    have ne : a ≠ l := ne_of_none e1 hl
    refine hid_of (fun q => ?_) (by rw [upd_ne ne]; exact e1) (hid_nt e) (hid_nb e)
    rcases q with q | q
    · exact z1 (.inl q)
    · rcases List.mem_cons.mp q with q | q
      · exact ne q
      · exact z1 (.inr q)
  refine ⟨⟨fun a ha => ?_, fun a ys hy => ?_, fun a ha => ?_, ?_, ?_⟩, ex⟩
  · obtain ⟨x, y, k, e1, r⟩ := (hm.pot a ha).at_
    exact ⟨x, y, k, by rw [upd_ne (ne_of_none e1 hl)]; exact e1, r⟩
  · rcases List.mem_cons.mp hy with q | q
    · cases q
      exact ⟨vs, upd_same, dpAll_mono ex _ _ da⟩
    · obtain ⟨ws, e1, r⟩ := hm.own a ys q
      exact ⟨ws, by rw [upd_ne (ne_of_none e1 hl)]; exact e1, dpAll_mono ex _ _ r⟩
  · rcases List.mem_cons.mp ha with q | q
    · subst q
      exact fun q => z (.inl q)
    · exact hm.sep a q
  · refine List.nodup_cons.mpr ⟨fun q => z (.inr q), hm.nd⟩
  · exact hm.tab.ext fun a o e => by rw [upd_ne (ne_of_none e hl)]; exact e
theorem wE_lstO (h : wA X es env m fun ds m1 => ∃ xs : List PyData, ds = xs.map .d ∧ xs.length ≤ 10000000 ∧ ∀ l, k (.r (.ref l)) (m1.own l xs)) : wE X (.List es pos) env m k :=
  wE_of (pe_lst paW) fun σ H Q he hm hq => h σ H _ he hm fun vs ds m1 H1 e1 hm1 dvs ⟨xs, e, hl, hk⟩ => by
    subst e
    have da := dvs.data
    refine ⟨szl (by rw [dpAll_len da]; exact hl), fun p hp => ?_⟩
    obtain ⟨o1, o2⟩ := own_ok hm1 hp da
    exact hq _ (.r (.ref p)) _ _ (e1.trans o2) o1 rfl (hk p)

/-! ### calls of what is built in -/
def CallD (K : PySem.W.Frag) (r : List V → Hp → VK → Prop) (f : Me → List Dat → (Dat → Prop) → Prop) : Prop :=
  ∀ (m : Me) (H : Hp) (vs : List V) (ds : List Dat) (k : Dat → Prop) (Q : VK), MemOk K m H → DVs K m H vs ds → f m ds k → (∀ v d H', Same H H' → DV K m H' v d → k d → Q v H') → r vs H Q
theorem callW {r : List V → Hp → VK → Prop} {f : Me → List Dat → (Dat → Prop) → Prop} (hf : CallD X.K r f) {σ : L2.St} {H : Hp} {Q : VK} (he : EnvOk X.K m H σ env) (hm : MemOk X.K m H)
    (hq : ∀ v d m' H', Ext m H m' H' → MemOk X.K m' H' → DV X.K m' H' v d → k d m' → Q v H') (h : wA X es env m fun ds m1 => f m1 ds fun d => k d m1) : tCB r (aW X es) σ H Q :=
  h σ H _ he hm fun vs ds m1 H1 e1 hm1 dvs h1 => hf m1 H1 vs ds _ Q hm1 dvs h1 fun v d H' s dv kd => hq v d m1 H' (e1.trans (Ext.of s)) (hm1.mono s) dv kd
theorem wE_callB {id : String} {r : List V → Hp → VK → Prop} {f : Me → List Dat → (Dat → Prop) → Prop} (hc : CallR X (.builtin id) r) (hf : CallD X.K r f) (hg : Gl X x) (hm0 : X.mg x = none) (hv : bootBuiltins x = some (.builtin id))
    (h : wA X (e :: es) env m fun ds m1 => f m1 ds fun d => k d m1) (hn : x ≠ "__name__" := by decide) (hdb : (x == ("__debug__" : Str)) = false := by decide)
    (hs : starEach (e :: es) X.env = (false, eval e X.env) :: starEach es X.env := by rfl) (hpl : (backTo pos (starEach es X.env)).any (·.1) = false := by rfl) : wE X (.Call (.Name x p) (e :: es) [] pos) env m k :=
  wE_of (pe_callB hc hg hm0 hv paW hn hdb hs hpl) fun σ H Q he hm hq => callW hf he hm hq h
theorem wE_callTy {T : String} {r : List V → Hp → VK → Prop} {f : Me → List Dat → (Dat → Prop) → Prop} (hc : CallR X (.type T) r) (hf : CallD X.K r f) (hg : Gl X x) (hm0 : X.mg x = none) (hv : bootBuiltins x = some (.type T))
    (h : wA X (e :: es) env m fun ds m1 => f m1 ds fun d => k d m1) (hn : x ≠ "__name__" := by decide) (hdb : (x == ("__debug__" : Str)) = false := by decide)
    (hs : starEach (e :: es) X.env = (false, eval e X.env) :: starEach es X.env := by rfl) (hpl : (backTo pos (starEach es X.env)).any (·.1) = false := by rfl) : wE X (.Call (.Name x p) (e :: es) [] pos) env m k :=
  wE_of (pe_callTy hc hg hm0 hv paW hn hdb hs hpl) fun σ H Q he hm hq => callW hf he hm hq h
theorem wE_callGB {id : String} {r : List V → Hp → VK → Prop} {f : Me → List Dat → (Dat → Prop) → Prop} (hc : CallR X (.builtin id) r) (hf : CallD X.K r f) (hg : Gl X x) (hm0 : X.mg x = some (.builtin id))
    (h : wA X (e :: es) env m fun ds m1 => f m1 ds fun d => k d m1) (hdb : (x == ("__debug__" : Str)) = false := by decide)
    (hs : starEach (e :: es) X.env = (false, eval e X.env) :: starEach es X.env := by rfl) (hpl : (backTo pos (starEach es X.env)).any (·.1) = false := by rfl) : wE X (.Call (.Name x p) (e :: es) [] pos) env m k :=
  wE_of (pe_callBfun hc hg hm0 paW hdb hs hpl) fun σ H Q he hm hq => callW hf he hm hq h

theorem dvs1 {K : PySem.W.Frag} {H : Hp} {vs : List V} {d : Dat} (h : DVs K m H vs [d]) : ∃ v, vs = [v] ∧ DV K m H v d := by
  cases h with
  | cons h t => cases t; exact ⟨_, rfl, h⟩
theorem dvs2 {K : PySem.W.Frag} {H : Hp} {vs : List V} {d d' : Dat} (h : DVs K m H vs [d, d']) : ∃ v v', vs = [v, v'] ∧ DV K m H v d ∧ DV K m H v' d' := by
  cases h with
  | cons h t => cases t with
    | cons h' t => cases t; exact ⟨_, _, rfl, h, h'⟩
theorem dpInts {K : PySem.W.Frag} {H : Hp} : ∀ {ns : List Int} {vs : List V}, DpAll K H vs (ns.map .int) → vs = ns.map .int
  | [], _, .nil => rfl
  | n :: ns, _, .cons (.int _) t => by rw [dpInts t]; rfl
theorem dpBools {K : PySem.W.Frag} {H : Hp} : ∀ {ns : List Bool} {vs : List V}, DpAll K H vs (ns.map .bool) → vs = ns.map .bl
  | [], _, .nil => rfl
  | n :: ns, _, .cons (.bl _) t => by rw [dpBools t]; rfl
theorem dpStrs {K : PySem.W.Frag} {H : Hp} : ∀ {ns : List Str} {vs : List V}, DpAll K H vs (ns.map .str) → vs = ns.map .str
  | [], _, .nil => rfl
  | n :: ns, _, .cons (.str _) t => by rw [dpStrs t]; rfl

def fLen (m : Me) (ds : List Dat) (k : Dat → Prop) : Prop := ∃ d, ds = [d] ∧ ((∃ xs, seqOf m d = some xs ∧ k (.d (.int xs.length))) ∨ ∃ s, d = .d (.str s) ∧ s.length ≤ 10000000 ∧ k (.d (.int s.length)))
theorem callD_len {K : PySem.W.Frag} : CallD K (fun xs H Q => ∃ x n, xs = [x] ∧ LenV K x H n ∧ Q (.int n) H) fLen := fun m H vs ds k Q hm dvs ⟨d, e, h⟩ hq => by
  subst e
  obtain ⟨v, rfl, dv⟩ := dvs1 dvs
  rcases h with ⟨xs, h, hk⟩ | ⟨s, e, hl, hk⟩
  · obtain ⟨a, ws, rfl, hs, da⟩ := hm.seq dv h
    have z := dpAll_len da
    refine ⟨_, xs.length, rfl, ?_, hq _ _ H (Same.refl _) dv_int hk⟩
    rcases hs with hs | hs
    · exact .inl ⟨ws, hs, z.symm⟩
    · exact .inr ⟨ws, hs, z.symm⟩
  · subst e
    cases dv
    exact ⟨_, s.length, rfl, ⟨szl hl, rfl⟩, hq _ _ H (Same.refl _) dv_int hk⟩
def fAll (_ : Me) (ds : List Dat) (k : Dat → Prop) : Prop := ∃ bs : List Bool, ds = [.d (.list (bs.map .bool))] ∧ k (.d (.bool (bs.all id)))
theorem callD_all {K : PySem.W.Frag} : CallD K (rAll K) fAll := fun m H vs ds k Q hm dvs ⟨bs, e, hk⟩ hq => by
  subst e
  obtain ⟨v, rfl, dv⟩ := dvs1 dvs
  cases dv with
  | lst hs ha =>
    have e := dpBools ha
    subst e
    exact ⟨_, bs, rfl, hid_sub.seq hs, hq _ _ H (Same.refl _) dv_bl hk⟩
def fAny (_ : Me) (ds : List Dat) (k : Dat → Prop) : Prop := ∃ bs : List Bool, ds = [.d (.list (bs.map .bool))] ∧ k (.d (.bool (bs.any id)))
theorem callD_any {K : PySem.W.Frag} : CallD K (rAny K) fAny := fun m H vs ds k Q hm dvs ⟨bs, e, hk⟩ hq => by
  subst e
  obtain ⟨v, rfl, dv⟩ := dvs1 dvs
  cases dv with
  | lst hs ha =>
    have e := dpBools ha
    subst e
    exact ⟨_, bs, rfl, hid_sub.seq hs, hq _ _ H (Same.refl _) dv_bl hk⟩
def fSum (_ : Me) (ds : List Dat) (k : Dat → Prop) : Prop := ∃ ns : List Int, ds = [.d (.list (ns.map .int))] ∧ k (.d (.int ns.sum))
theorem callD_sum {K : PySem.W.Frag} : CallD K (rSum K) fSum := fun m H vs ds k Q hm dvs ⟨bs, e, hk⟩ hq => by
  subst e
  obtain ⟨v, rfl, dv⟩ := dvs1 dvs
  cases dv with
  | lst hs ha =>
    have e := dpInts ha
    subst e
    exact ⟨_, bs, rfl, hid_sub.seq hs, hq _ _ H (Same.refl _) dv_int hk⟩
def fMin (_ : Me) (ds : List Dat) (k : Dat → Prop) : Prop := ∃ ns : List Int, ds = [.d (.list (ns.map .int))] ∧ 0 < ns.length ∧ ∀ v, v ∈ ns → (∀ y, y ∈ ns → v ≤ y) → k (.d (.int v))
theorem callD_min {K : PySem.W.Frag} : CallD K (rMin K) fMin := fun m H vs ds k Q hm dvs ⟨bs, e, hl, hk⟩ hq => by
  subst e
  obtain ⟨v, rfl, dv⟩ := dvs1 dvs
  cases dv with
  | lst hs ha =>
    have e := dpInts ha
    subst e
    exact ⟨_, bs, rfl, hid_sub.seq hs, hl, fun v h1 h2 => hq _ _ H (Same.refl _) dv_int (hk v h1 h2)⟩
def fMax (_ : Me) (ds : List Dat) (k : Dat → Prop) : Prop := ∃ ns : List Int, ds = [.d (.list (ns.map .int))] ∧ 0 < ns.length ∧ ∀ v, v ∈ ns → (∀ y, y ∈ ns → y ≤ v) → k (.d (.int v))
theorem callD_max {K : PySem.W.Frag} : CallD K (rMax K) fMax := fun m H vs ds k Q hm dvs ⟨bs, e, hl, hk⟩ hq => by
  subst e
  obtain ⟨v, rfl, dv⟩ := dvs1 dvs
  cases dv with
  | lst hs ha =>
    have e := dpInts ha
    subst e
    exact ⟨_, bs, rfl, hid_sub.seq hs, hl, fun v h1 h2 => hq _ _ H (Same.refl _) dv_int (hk v h1 h2)⟩
def fI2 (g : Int → Int → Int) (_ : Me) (ds : List Dat) (k : Dat → Prop) : Prop := ∃ i j, ds = [.d (.int i), .d (.int j)] ∧ k (.d (.int (g i j)))
theorem callD_I2 {K : PySem.W.Frag} {g : Int → Int → Int} : CallD K (fun xs H Q => ∃ i j, xs = [.int i, .int j] ∧ Q (.int (g i j)) H) (fI2 g) := fun m H vs ds k Q hm dvs ⟨i, j, e, hk⟩ hq => by
  subst e
  obtain ⟨v, v', rfl, d1, d2⟩ := dvs2 dvs
  cases d1
  cases d2
  exact ⟨i, j, rfl, hq _ _ H (Same.refl _) dv_int hk⟩
def fI1 (g : Int → Int) (_ : Me) (ds : List Dat) (k : Dat → Prop) : Prop := ∃ i, ds = [.d (.int i)] ∧ k (.d (.int (g i)))
theorem callD_I1 {K : PySem.W.Frag} {g : Int → Int} : CallD K (fun xs H Q => ∃ i, xs = [.int i] ∧ Q (.int (g i)) H) (fI1 g) := fun m H vs ds k Q hm dvs ⟨i, e, hk⟩ hq => by
  subst e
  obtain ⟨v, rfl, d1⟩ := dvs1 dvs
  cases d1
  exact ⟨i, rfl, hq _ _ H (Same.refl _) dv_int hk⟩
def fInt (_ : Me) (ds : List Dat) (k : Dat → Prop) : Prop := (∃ i, ds = [.d (.int i)] ∧ k (.d (.int i))) ∨ ∃ c, ds = [.d (.bool c)] ∧ k (.d (.int (if c then 1 else 0)))
theorem callD_int {K : PySem.W.Frag} : CallD K (fun xs H Q => (∃ i, xs = [.int i] ∧ Q (.int i) H) ∨ ∃ k, xs = [.bl k] ∧ Q (.int (if k then 1 else 0)) H) fInt := fun m H vs ds k Q hm dvs h hq => by
  rcases h with ⟨i, e, hk⟩ | ⟨i, e, hk⟩
  · subst e
    obtain ⟨v, rfl, d1⟩ := dvs1 dvs
    cases d1
    exact .inl ⟨i, rfl, hq _ _ H (Same.refl _) dv_int hk⟩
  · subst e
    obtain ⟨v, rfl, d1⟩ := dvs1 dvs
    cases d1
    exact .inr ⟨i, rfl, hq _ _ H (Same.refl _) dv_int hk⟩
def fStr (_ : Me) (ds : List Dat) (k : Dat → Prop) : Prop := ∃ i : Int, ds = [.d (.int i)] ∧ i.natAbs.log2 < 1920 ∧ k (.d (.str (toString i)))
theorem callD_str {K : PySem.W.Frag} : CallD K (fun xs H Q => ∃ i, xs = [.int i] ∧ i.natAbs.log2 < 1920 ∧ Q (.str (toString i)) H) fStr := fun m H vs ds k Q hm dvs ⟨i, e, hz, hk⟩ hq => by
  subst e
  obtain ⟨v, rfl, d1⟩ := dvs1 dvs
  cases d1
  exact ⟨i, rfl, hz, hq _ _ H (Same.refl _) dv_str hk⟩
def fTuple (m : Me) (ds : List Dat) (k : Dat → Prop) : Prop := (∃ xs, (ds = [.d (.list xs)] ∨ ds = [.d (.tuple xs)] ∨ ∃ l, ds = [.r (.ref l)] ∧ m.ls.lookup l = some xs) ∧ k (.d (.tuple xs)))
theorem callD_tuple {K : PySem.W.Frag} : CallD K (fun xs H Q => ∃ p ys, xs = [.ref p] ∧ ((SqL K H p ys ∧ ∀ l, H l = none → Q (.ref l) (upd H l (.tup ys))) ∨ (SqT K H p ys ∧ Q (.ref p) H))) fTuple := fun m H vs ds k Q hm dvs ⟨xs, h, hk⟩ hq => by
  have mk : ∀ {a : Addr} {ws : List V}, SqL K H a ws → DpAll K (hid m H) ws xs → ∃ p ys, [V.ref a] = [.ref p] ∧ ((SqL K H p ys ∧ ∀ l, H l = none → Q (.ref l) (upd H l (.tup ys))) ∨ (SqT K H p ys ∧ Q (.ref p) H)) := fun {a ws} hs da =>
    ⟨a, ws, rfl, .inl ⟨hs, fun l hl => by
      have s := same_new (o := .tup ws) hl
      exact hq _ (.d (.tuple xs)) _ s (Dp.tup (SqT.of (hid_of (hm.fresh hl) upd_same (hm.new hl))) (dpAll_mono (Ext.of s) _ _ da)) hk⟩⟩
  rcases h with e | e | ⟨l, e, hl⟩
  · subst e
    obtain ⟨v, rfl, dv⟩ := dvs1 dvs
    cases dv with
    | lst hs ha => exact mk (hid_sub.seq hs) ha
  · subst e
    obtain ⟨v, rfl, dv⟩ := dvs1 dvs
    have dv' := dv
    cases dv with
    | tup hs ha => exact ⟨_, _, rfl, .inr ⟨seqT_mono hid_sub hs, hq _ _ H (Same.refl _) dv' hk⟩⟩
  · subst e
    obtain ⟨v, rfl, dv⟩ := dvs1 dvs
    have dv' : v = .ref l := dv
    subst dv'
    obtain ⟨ws, e1, r⟩ := hm.own l xs (lookup_mem hl)
    exact mk (SqL.of e1) r
/-- a value's class, by its name -/
def tyD : PyData → String
  | .none => "NoneType"
  | .bool _ => "bool"
  | .int _ => "int"
  | .str _ => "str"
  | .list _ => "list"
  | .tuple _ => "tuple"
  | .dict _ => "dict"
theorem tyX_of {K : PySem.W.Frag} {H H1 : Hp} (s : Same H1 H) {v : V} {d : PyData} (h : Dp K H1 v d) : TyX K H v (.type (tyD d)) := by
  cases h with
  | non => exact .base .non
  | bl b => exact .base (.bl b)
  | int i => exact .base (.int i)
  | str z => exact .base (.str z)
  | lst hs ha =>
    rcases s.seq hs with (h | ⟨o, h⟩) | ⟨o, its, n, hk, hc, _⟩
    · exact .base (.lst h)
    · exact .base (.frz h)
    · exact .kList hk hc
  | tup hs ha =>
    rcases seqT_mono s hs with (h | ⟨o, h⟩) | ⟨o, its, n, hk, hc, _⟩
    · exact .base (.tup h)
    · exact .fTuple h
    · exact .kTuple hk hc
def fIsi (_ : Me) (ds : List Dat) (k : Dat → Prop) : Prop := ∃ (d : PyData) (n : String) (c : Bool), ds = [.d d, .r (.ty n)] ∧ kitB (tyD d) n = some c ∧ k (.d (.bool c))
theorem callD_isi {K : PySem.W.Frag} : CallD K (rIsi K) fIsi := fun m H vs ds k Q hm dvs ⟨d, n, c, e, hc, hk⟩ hq => by
  subst e
  obtain ⟨v, v', rfl, d1, d2⟩ := dvs2 dvs
  have d2' : v' = .ty n := d2
  subst d2'
  exact ⟨v, _, _, _, c, rfl, .ty n, tyX_of hid_sub d1, kit_ty hc, hq _ _ H (Same.refl _) dv_bl hk⟩
/-! ### repr -/
def fRepr (_ : Me) (ds : List Dat) (k : Dat → Prop) : Prop := ∃ d : PyData, ds = [.d d] ∧ d.showable = true ∧ d.hasDict = false ∧ d.depth ≤ 60 ∧ d.shown.length ≤ 10000000 ∧ k (.d (.str d.shown))
theorem repr_ok (hg : X.A.guards = some []) (hu : X.A.units + 64 < cLine) : CallR X (.builtin "repr") (fun xs H Q => ∃ (v : V) (d : PyData), xs = [v] ∧ Dp X.K H v d ∧ d.showable = true ∧ d.hasDict = false ∧ d.depth ≤ 60 ∧ d.shown.length ≤ 10000000 ∧ Q (.str d.shown) H) := by
  intro pins s σ H xs us Q I r h
  obtain ⟨v, d, rfl, dv, h1, h2, h3, h4, q⟩ := h
  obtain ⟨u, rfl, rv⟩ := vals1 r
  have dv0 := dv
  have fin : ∀ (h' : Heap) (u : Tok) (tk : Nat), (∀ b o, s.heap.get? b = some o → h'.get? b = some o) → EP X pins σ Q (.str d.shown u) { s with heap := h', toks := tk } := fun h' u tk hk => ⟨.str d.shown, H, I.kept (t' := tk) hk, ⟨_, rfl⟩, q⟩
  cases dv with
  | non => cases rv; exact PySem.P.repr_of_none (fin s.heap _ _ fun _ _ e => e)
  | bl b => cases rv; exact PySem.P.repr_of_bool (fin s.heap _ _ fun _ _ e => e)
  | int i => obtain ⟨t, rfl⟩ := rv; exact PySem.P.repr_of_int (by simpa [PyData.showable] using h1) (fin s.heap _ _ fun _ _ e => e)
  | str z => obtain ⟨t, rfl⟩ := rv; exact PySem.P.repr_of_str (fin s.heap _ _ fun _ _ e => e) (szl h4)
  | lst hs ha =>
    obtain ⟨as, rd⟩ := Dp.reads I _ _ u dv0 rv
    cases rv
    exact repr_of_reads' rd h1 (PyData.noDict_hsm h2) hg (by omega) (fun _ _ e => e) fin (szl h4)
  | tup hs ha =>
    obtain ⟨as, rd⟩ := Dp.reads I _ _ u dv0 rv
    cases rv
    exact repr_of_reads' rd h1 (PyData.noDict_hsm h2) hg (by omega) (fun _ _ e => e) fin (szl h4)
theorem callD_repr {K : PySem.W.Frag} : CallD K (fun xs H Q => ∃ (v : V) (d : PyData), xs = [v] ∧ Dp K H v d ∧ d.showable = true ∧ d.hasDict = false ∧ d.depth ≤ 60 ∧ d.shown.length ≤ 10000000 ∧ Q (.str d.shown) H) fRepr := fun m H vs ds k Q hm dvs ⟨d, e, h1, h2, h3, h4, hk⟩ hq => by
  subst e
  obtain ⟨v, rfl, d1⟩ := dvs1 dvs
  exact ⟨v, d, rfl, dp_mono hid_sub _ _ d1, h1, h2, h3, h4, hq _ _ H (Same.refl _) dv_str hk⟩

/-! ### items -/
def fIx (m : Me) (dx dy : Dat) (k : Dat → Prop) : Prop := (∃ xs i z, seqOf m dx = some xs ∧ dy = .d (.int i) ∧ atI xs i = some z ∧ k (.d z)) ∨ ∃ s i c, dx = .d (.str s) ∧ dy = .d (.int i) ∧ s.length ≤ 10000000 ∧ atI s.cps.toList i = some c ∧ k (.d (.str ⟨#[c]⟩))
theorem atI_dp {K : PySem.W.Frag} {H : Hp} {ds : List PyData} {vs : List V} {i : Int} {z : PyData} (h : DpAll K H vs ds) (e : atI ds i = some z) : ∃ v, atI vs i = some v ∧ Dp K H v z := by
  unfold atI at e ⊢
  rw [dpAll_len h]
  cases q : ixN ds.length i with
  | none => rw [q] at e; cases e
  | some j =>
    rw [q] at e
    exact dpAll_get h e
theorem opD_ix {K : PySem.W.Frag} : OpD K (rIx K) fIx := fun m H x y dx dy k Q hm h1 h2 h hq => by
  rcases h with ⟨xs, i, z, e1, e2, ha, hk⟩ | ⟨s, i, c, e1, e2, hl, ha, hk⟩
  · subst e2
    cases h2
    obtain ⟨a, ws, rfl, hs, da⟩ := hm.seq h1 e1
    obtain ⟨v, e3, dv⟩ := atI_dp da ha
    rcases hs with hs | hs
    · exact .inl ⟨a, ws, i, v, rfl, rfl, hs, e3, hq _ (.d z) H (Same.refl _) dv hk⟩
    · exact .inr (.inl ⟨a, ws, i, v, rfl, rfl, hs, e3, hq _ (.d z) H (Same.refl _) dv hk⟩)
  · subst e1 e2
    cases h1
    cases h2
    exact .inr (.inr ⟨s, i, c, rfl, rfl, szl hl, ha, hq _ _ H (Same.refl _) dv_str hk⟩)
theorem wE_at (h : wE X a env m fun dx m1 => wE X b env m1 fun dy m2 => fIx m2 dx dy fun d => k d m2) (hs : PlainIx b := by exact fun _ _ => rfl) : wE X (.Subscript a b pos) env m k := wE_ix ix_seq opD_ix hs h

/-! ### comparisons by values -/
def fEqI (g : Bool → Bool) (_ : Me) (dx dy : Dat) (k : Dat → Prop) : Prop := (∃ i j : Int, dx = .d (.int i) ∧ dy = .d (.int j) ∧ k (.d (.bool (g (decide (i = j)))))) ∨ (∃ i j : Str, dx = .d (.str i) ∧ dy = .d (.str j) ∧ k (.d (.bool (g (decide (i = j))))))
  ∨ (∃ i j : Bool, dx = .d (.bool i) ∧ dy = .d (.bool j) ∧ k (.d (.bool (g (decide (i = j))))))
theorem opD_eq {K : PySem.W.Frag} : OpD K rEq (fEqI id) := fun m H x y dx dy k Q hm h1 h2 h hq => by
  rcases h with ⟨i, j, e1, e2, hk⟩ | ⟨i, j, e1, e2, hk⟩ | ⟨i, j, e1, e2, hk⟩
  · subst e1 e2; cases h1; cases h2
    exact ⟨rfl, hq _ (.d (.bool _)) H (Same.refl _) (by rw [show decide (V.int i = V.int j) = decide (i = j) from by simp]; exact dv_bl) hk⟩
  · subst e1 e2; cases h1; cases h2
    exact ⟨rfl, hq _ (.d (.bool _)) H (Same.refl _) (by rw [show decide (V.str i = V.str j) = decide (i = j) from by simp]; exact dv_bl) hk⟩
  · subst e1 e2; cases h1; cases h2
    exact ⟨rfl, hq _ (.d (.bool _)) H (Same.refl _) (by rw [show decide (V.bl i = V.bl j) = decide (i = j) from by simp]; exact dv_bl) hk⟩
theorem opD_ne {K : PySem.W.Frag} : OpD K rNe (fEqI not) := fun m H x y dx dy k Q hm h1 h2 h hq => by
  rcases h with ⟨i, j, e1, e2, hk⟩ | ⟨i, j, e1, e2, hk⟩ | ⟨i, j, e1, e2, hk⟩
  · subst e1 e2; cases h1; cases h2
    exact ⟨rfl, hq _ (.d (.bool _)) H (Same.refl _) (by rw [show decide (V.int i = V.int j) = decide (i = j) from by simp]; exact dv_bl) hk⟩
  · subst e1 e2; cases h1; cases h2
    exact ⟨rfl, hq _ (.d (.bool _)) H (Same.refl _) (by rw [show decide (V.str i = V.str j) = decide (i = j) from by simp]; exact dv_bl) hk⟩
  · subst e1 e2; cases h1; cases h2
    exact ⟨rfl, hq _ (.d (.bool _)) H (Same.refl _) (by rw [show decide (V.bl i = V.bl j) = decide (i = j) from by simp]; exact dv_bl) hk⟩
theorem wE_eq (h : wE X a env m fun dx m1 => wE X b env m1 fun dy m2 => fEqI id m2 dx dy fun d => k d m2) : wE X (.Compare a [.Eq] [b] pos) env m k := wE_cmp op_eq opD_eq (nomark _) h
theorem wE_ne (h : wE X a env m fun dx m1 => wE X b env m1 fun dy m2 => fEqI not m2 dx dy fun d => k d m2) : wE X (.Compare a [.NotEq] [b] pos) env m k := wE_cmp op_ne opD_ne (nomark _) h
theorem wT_eq (h : wE X a env m fun dx m1 => wE X b env m1 fun dy m2 => fEqI id m2 dx dy fun d => ∃ c, d = .d (.bool c) ∧ kb c m2) : wT X (.Compare a [.Eq] [b] pos) env m kb := wT_cmp op_eq opD_eq (nomark _) h
theorem wT_ne (h : wE X a env m fun dx m1 => wE X b env m1 fun dy m2 => fEqI not m2 dx dy fun d => ∃ c, d = .d (.bool c) ∧ kb c m2) : wT X (.Compare a [.NotEq] [b] pos) env m kb := wT_cmp op_ne opD_ne (nomark _) h
end
end DW

set_option Elab.async false
set_option linter.all false
set_option maxRecDepth 100000
set_option maxHeartbeats 1000000
namespace DW
variable [TabsC]
open PySem PySem.Spec PyProof.Rows L2

section
variable {X : Cx} {env : DEnv} {m : Me} {k : Dat → Me → Prop} {kb : Bool → Me → Prop} {a b c e : Expr} {es rest : List Expr} {pos p : Pos} {x : Str}
/-! ### tests, and, or, not -/
theorem wE_neg (h : wE X a env m fun dx m1 => ∃ i, dx = .d (.int i) ∧ k (.d (.int (-i))) m1) : wE X (.UnaryOp .USub a pos) env m k :=
  wE_of (pe_un un_neg peW) fun σ H Q he hm hq => h σ H _ he hm fun v d m1 H1 e1 hm1 dv ⟨i, e, hk⟩ => by
    subst e
    cases dv
    exact ⟨i, rfl, hq _ _ m1 H1 e1 hm1 dv_int hk⟩
theorem wE_not (h : wE X a env m fun dx m1 => ∃ c, dx = .d (.bool c) ∧ k (.d (.bool (!c))) m1) : wE X (.UnaryOp .Not a pos) env m k :=
  wE_of (pe_not peW) fun σ H Q he hm hq => h σ H _ he hm fun v d m1 H1 e1 hm1 dv ⟨i, e, hk⟩ => by
    subst e
    cases dv
    exact ⟨i, rfl, hq _ _ m1 H1 e1 hm1 dv_bl hk⟩
theorem wE_ite (h : wT X c env m fun t m1 => (t = true → wE X a env m1 k) ∧ (t = false → wE X b env m1 k)) : wE X (.IfExp c a b pos) env m k :=
  wE_of (pe_ifExp ptW peW peW) fun σ H Q he hm hq => h σ H _ he hm fun t m1 H1 e1 hm1 ⟨h1, h2⟩ => by
    cases t with
    | true => exact h1 rfl σ H1 Q (he.mono e1) hm1 fun v d m2 H2 e2 => hq v d m2 H2 (e1.trans e2)
    | false => exact h2 rfl σ H1 Q (he.mono e1) hm1 fun v d m2 H2 e2 => hq v d m2 H2 (e1.trans e2)
theorem wE_and1 {op} (h : wE X a env m k) : wE X (.BoolOp op [a] pos) env m k := wE_of (pe_one peW) fun σ H Q he hm hq => h σ H Q he hm hq
theorem wE_and (h : wE X a env m fun d m1 => ∃ t, d = .d (.bool t) ∧ (t = true → wE X (.BoolOp .And (b :: rest) pos) env m1 k) ∧ (t = false → k (.d (.bool false)) m1)) : wE X (.BoolOp .And (a :: b :: rest) pos) env m k :=
  wE_of (pe_and peW peW) fun σ H Q he hm hq => h σ H _ he hm fun v d m1 H1 e1 hm1 dv ⟨t, e, h1, h2⟩ => by
    subst e
    cases dv
    cases t with
    | true => exact ⟨true, rfl, h1 rfl σ H1 Q (he.mono e1) hm1 fun v d m2 H2 e2 => hq v d m2 H2 (e1.trans e2)⟩
    | false => exact ⟨false, rfl, hq _ _ m1 H1 e1 hm1 dv_bl (h2 rfl)⟩
theorem wE_or (h : wE X a env m fun d m1 => ∃ t, d = .d (.bool t) ∧ (t = false → wE X (.BoolOp .Or (b :: rest) pos) env m1 k) ∧ (t = true → k (.d (.bool true)) m1)) : wE X (.BoolOp .Or (a :: b :: rest) pos) env m k :=
  wE_of (pe_or peW peW) fun σ H Q he hm hq => h σ H _ he hm fun v d m1 H1 e1 hm1 dv ⟨t, e, h1, h2⟩ => by
    subst e
    cases dv
    cases t with
    | false => exact ⟨false, rfl, h1 rfl σ H1 Q (he.mono e1) hm1 fun v d m2 H2 e2 => hq v d m2 H2 (e1.trans e2)⟩
    | true => exact ⟨true, rfl, hq _ _ m1 H1 e1 hm1 dv_bl (h2 rfl)⟩
/-- a test that is a call, a comparison .. of a bool -/
theorem wT_val (h : wE X e env m fun d m1 => ∃ t, d = .d (.bool t) ∧ kb t m1) (he : ∀ whole, isTrue e X.env whole = (do let v ← whole; standAt e.pos; holding [v] (truthy v)) := by intro _; rfl) : wT X e env m kb :=
  wT_of (pt_val peW he) fun σ H Q eo hm hq => h σ H _ eo hm fun v d m1 H1 e1 hm1 dv ⟨t, e, hk⟩ => by
    subst e
    cases dv
    exact ⟨t, rfl, hq t m1 H1 e1 hm1 hk⟩
def truD (m : Me) : Dat → Option Bool
  | .d .none => some false
  | .d (.bool b) => some b
  | .d (.int i) => some (decide (i ≠ 0))
  | .d (.str s) => if s.length ≤ 10000000 then some (decide (s.length ≠ 0)) else none
  | .d (.list xs) => some (!xs.isEmpty)
  | .d (.tuple xs) => some (!xs.isEmpty)
  | .r (.ref l) => (m.ls.lookup l).map fun xs => !xs.isEmpty
  | _ => none
theorem truD_ok {K : PySem.W.Frag} {H : Hp} {v : V} {d : Dat} {t : Bool} (hm : MemOk K m H) (dv : DV K m H v d) (h : truD m d = some t) : TruV K v H t := by
  have emp : ∀ {vs : List V} {xs : List PyData}, DpAll K (hid m H) vs xs → (!xs.isEmpty) = !vs.isEmpty := fun {vs xs} r => by cases r <;> rfl
  unfold truD at h
  split at h
  · cases dv; cases h; rfl
  · cases dv; cases h; rfl
  · cases dv; cases h
    show _ = _
    rename_i i
    by_cases z : i = 0 <;> simp [z]
  · cases dv
    split at h
    · rename_i s hl
      cases h
      refine ⟨szl hl, ?_⟩
      by_cases z : s.length = 0 <;> simp [z]
    · cases h
  · cases h
    cases dv with
    | lst hs ha => exact .inl ⟨_, hid_sub.seq hs, emp ha⟩
  · cases h
    cases dv with
    | tup hs ha => exact .inr (.inl ⟨_, seqT_mono hid_sub hs, emp ha⟩)
  · rename_i l
    have dv' : v = .ref l := dv
    subst dv'
    cases q : m.ls.lookup l with
    | none => rw [q] at h; cases h
    | some xs =>
      rw [q] at h
      cases h
      obtain ⟨vs, e1, r⟩ := hm.own l xs (lookup_mem q)
      exact .inl ⟨_, SqL.of e1, emp r⟩
  · cases h
/-- a test that is a value's truth -/
theorem wT_tru (h : wE X e env m fun d m1 => ∃ t, truD m1 d = some t ∧ kb t m1) (he : ∀ whole, isTrue e X.env whole = (do let v ← whole; standAt e.pos; holding [v] (truthy v)) := by intro _; rfl) : wT X e env m kb :=
  wT_of (pt_truth peW he) fun σ H Q eo hm hq => h σ H _ eo hm fun v d m1 H1 e1 hm1 dv ⟨t, e, hk⟩ => ⟨t, truD_ok hm1 dv e, hq t m1 H1 e1 hm1 hk⟩
theorem wT_not (h : wT X a env m fun t m1 => kb (!t) m1) : wT X (.UnaryOp .Not a pos) env m kb := wT_of (pt_not ptW) fun σ H Q he hm hq => h σ H _ he hm fun t m1 H1 e1 hm1 hk => hq _ m1 H1 e1 hm1 hk
theorem wT_and (h : wW X (.BoolOp .And es pos) env m kb) : wT X (.BoolOp .And es pos) env m kb := wT_of (PW.pt pwW) fun σ H Q he hm hq => h σ H Q he hm hq
theorem wT_or (h : wW X (.BoolOp .Or es pos) env m kb) : wT X (.BoolOp .Or es pos) env m kb := wT_of (PW.pt pwW) fun σ H Q he hm hq => h σ H Q he hm hq
theorem wW_and1 (h : wT X a env m kb) : wW X (.BoolOp .And [a] pos) env m kb := wW_of (pw_and1 ptW) fun σ H Q he hm hq => h σ H Q he hm hq
theorem wW_or1 (h : wT X a env m kb) : wW X (.BoolOp .Or [a] pos) env m kb := wW_of (pw_or1 ptW) fun σ H Q he hm hq => h σ H Q he hm hq
theorem wW_and (h : wT X a env m fun t m1 => (t = true → wW X (.BoolOp .And (b :: rest) pos) env m1 kb) ∧ (t = false → kb false m1)) : wW X (.BoolOp .And (a :: b :: rest) pos) env m kb :=
  wW_of (pw_and ptW pwW) fun σ H Q he hm hq => h σ H _ he hm fun t m1 H1 e1 hm1 ⟨h1, h2⟩ => by
    cases t with
    | true => exact h1 rfl σ H1 Q (he.mono e1) hm1 fun t m2 H2 e2 => hq t m2 H2 (e1.trans e2)
    | false => exact hq false m1 H1 e1 hm1 (h2 rfl)
theorem wW_or (h : wT X a env m fun t m1 => (t = false → wW X (.BoolOp .Or (b :: rest) pos) env m1 kb) ∧ (t = true → kb true m1)) : wW X (.BoolOp .Or (a :: b :: rest) pos) env m kb :=
  wW_of (pw_or ptW pwW) fun σ H Q he hm hq => h σ H _ he hm fun t m1 H1 e1 hm1 ⟨h1, h2⟩ => by
    cases t with
    | false => exact h1 rfl σ H1 Q (he.mono e1) hm1 fun t m2 H2 e2 => hq t m2 H2 (e1.trans e2)
    | true => exact hq true m1 H1 e1 hm1 (h2 rfl)
/-- a < b < c of upto -/
theorem wT_ltlt (h : wE X a env m fun dx m1 => wE X b env m1 fun dy m2 => ∃ i j, dx = .d (.int i) ∧ dy = .d (.int j) ∧ (i < j → wE X c env m2 fun dz m3 => ∃ l, dz = .d (.int l) ∧ kb (decide (j < l)) m3) ∧ (¬ i < j → kb false m2))
    (hm : lastMarks [.Lt, .Lt] [b, c] = false := by with_unfolding_all rfl) : wT X (.Compare a [.Lt, .Lt] [b, c] pos) env m kb :=
  wT_of (pt_chain op_lt op_lt peW peW peW hm) fun σ H Q he hm hq => h σ H _ he hm fun v d m1 H1 e1 hm1 dv h1 => h1 σ H1 _ (he.mono e1) hm1 fun v2 d2 m2 H2 e2 hm2 dv2 ⟨i, j, q1, q2, h2, h3⟩ => by
    subst q1 q2
    cases dv
    cases dv2
    refine ⟨i, j, rfl, rfl, decide (i < j), rfl, ?_⟩
    by_cases z : i < j
    · rw [decide_eq_true z]
      refine iteT (h2 z σ H2 _ (he.mono (e1.trans e2)) hm2 fun v3 d3 m3 H3 e3 hm3 dv3 ⟨l, q3, hk⟩ => ?_)
      subst q3
      cases dv3
      exact ⟨j, l, rfl, rfl, _, rfl, hq _ m3 H3 ((e1.trans e2).trans e3) hm3 hk⟩
    · rw [decide_eq_false z]
      exact iteF ⟨false, rfl, hq _ m2 H2 (e1.trans e2) hm2 (h3 z)⟩

/-! ### targets -/
def gW (X : Cx) (tg : Expr) : TG := fun v σ H Q => ∀ pins s u, Inv X pins σ H s → RelV v u → wpAny (model X.prog X.w) X.A (assign tg X.env u) (fun _ s' => ∃ σ' H', Inv X pins σ' H' s' ∧ Q σ' H') X.xe s
theorem pgW {tg : Expr} : PG X tg (gW X tg) := ⟨fun pins s _ _ _ u _ I r h => h pins s u I r⟩
def gsW (X : Cx) (ts : List Expr) : TGs := fun vs σ H Q => ∀ pins s us, Inv X pins σ H s → Vals vs us → wpAny (model X.prog X.w) X.A (assignInOrder ((assignEach ts X.env).map (·.2)) us) (fun _ s' => ∃ σ' H', Inv X pins σ' H' s' ∧ Q σ' H') X.xe s
theorem pgsW {ts : List Expr} : PGs X ts (gsW X ts) := ⟨fun pins s _ _ _ us _ I r h => h pins s us I r⟩
def Agree (S : List Nat) (σ σ' : L2.St) : Prop := σ'.length = σ.length ∧ ∀ i, i ∉ S → σ'[i]? = σ[i]?
theorem Agree.refl {S : List Nat} {σ : L2.St} : Agree S σ σ := ⟨rfl, fun _ _ => rfl⟩
theorem Agree.trans {S : List Nat} {σ σ1 σ2 : L2.St} (a : Agree S σ σ1) (b : Agree S σ1 σ2) : Agree S σ σ2 := ⟨b.1.trans a.1, fun i hi => (b.2 i hi).trans (a.2 i hi)⟩
theorem Agree.set {S : List Nat} {σ : L2.St} {i : Nat} {v : Option V} (h : i ∈ S) : Agree S σ (σ.set i v) := ⟨List.length_set, fun j hj => List.getElem?_set_ne (fun e => hj (by rw [← e]; exact h))⟩
/-- a target is stored to: its slots are in S -/
def wG (X : Cx) (S : List Nat) (tg : Expr) (env : DEnv) (m : Me) (d : Dat) (k : DEnv → Prop) : Prop :=
  ∀ (σ : L2.St) (H : Hp) (v : V) (Q : L2.St → Hp → Prop), EnvOk X.K m H σ env → MemOk X.K m H → DV X.K m H v d → (∀ σ' env', EnvOk X.K m H σ' env' → Agree S σ σ' → k env' → Q σ' H) → gW X tg v σ H Q
def wGs (X : Cx) (S : List Nat) (ts : List Expr) (env : DEnv) (m : Me) (ds : List PyData) (k : DEnv → Prop) : Prop :=
  ∀ (σ : L2.St) (H : Hp) (vs : List V) (Q : L2.St → Hp → Prop), EnvOk X.K m H σ env → MemOk X.K m H → DpAll X.K (hid m H) vs ds → (∀ σ' env', EnvOk X.K m H σ' env' → Agree S σ σ' → k env' → Q σ' H) → gsW X ts vs σ H Q
variable {S : List Nat} {d : Dat} {ds : List PyData} {ke : DEnv → Prop}
theorem wG_name (i : Nat) (hN : X.N.Nodup) (hi : X.N[i]? = some x) (hx : Loc X.env.scope x) (hk : ke (env.set i (some d))) (hS : i ∈ S := by decide)
    (hf : X.fn x = true ∨ X.env.scope.names.lookup x = some .local := by first | exact .inl rfl | exact .inr rfl) : wG X S (.Name x pos) env m d ke :=
  fun σ H v Q he hm dv hq pins s u I r => (pg_name hN hi hx hf).run pins s σ H v u Q I r (hq _ _ (he.set i dv) (Agree.set hS) hk)
theorem wGs_nil (hk : ke env) : wGs X S [] env m [] ke := fun σ H vs Q he hm da hq pins s us I r => by
  cases da
  exact pgs_nil.run pins s σ H [] us Q I r ⟨rfl, hq σ env he Agree.refl hk⟩
theorem wGs_cons {t : Expr} {ts : List Expr} {y : PyData} (h : wG X S t env m (.d y) fun env1 => wGs X S ts env1 m ds ke) (hs : (assignEach (t :: ts) X.env).map (·.2) = assign t X.env :: (assignEach ts X.env).map (·.2) := by rfl) : wGs X S (t :: ts) env m (y :: ds) ke :=
  fun σ H vs Q he hm da hq pins s us I r => by
    cases da with
    | cons d1 d2 =>
      exact (pgs_cons pgW pgsW hs).run pins s σ H _ us Q I r ⟨_, _, rfl, h σ H _ _ he hm d1 fun σ1 env1 he1 ag1 h1 => h1 σ1 H _ Q he1 hm d2 fun σ2 env2 he2 ag2 hk => hq σ2 env2 he2 (ag1.trans ag2) hk⟩
theorem wG_tup {ts : List Expr} {j n : Nat} (hc : X.calm = true) (hd : d = .d (.tuple ds)) (hl : ds.length = n) (h : wGs X S ts env m ds ke)
    (hn : (assignEach ts X.env).length = n := by rfl) (hst : (assignEach ts X.env).findIdx? (·.1) = none := by rfl) : wG X S (.Tuple ts j pos) env m d ke :=
  fun σ H v Q he hm dv hq pins s u I r => by
    subst hd
    cases dv with
    | tup hs ha => exact (pg_tup hc pgsW hn hst).run pins s σ H _ u Q I r ⟨_, _, rfl, seqT_mono hid_sub hs, by rw [dpAll_len ha, hl], h σ H _ Q he hm ha hq⟩

/-! ### what is walked -/
def iW (X : Cx) (tg iter : Expr) : TI := fun σ H R => ∀ pins s, Inv X pins σ H s → wpAny (model X.prog X.w) X.A (eval iter X.env) (fun v s1 => wpAny (model X.prog X.w) X.A (pyIter v) (PIE X pins σ tg R) X.xe s1) X.xe s
theorem piW {tg iter : Expr} : PI X tg iter (iW X tg iter) := ⟨fun pins s _ _ _ I h => h pins s I⟩
/-- the iterator gives these items, as long as all that is not hidden stays -/
def DIt (K : PySem.W.Frag) (m : Me) (H : Hp) (J : It) (xs : List PyData) : Prop := ∀ m' H', Ext m H m' H' → MemOk K m' H' → ∀ i : Nat,
  (∀ x, xs[i]? = some x → J.go i H' ∧ ∀ v H'', J.yld i H' v H'' → Same H' H'' ∧ DV K m' H'' v (.d x)) ∧ (xs.length ≤ i → J.stop i H')
theorem DIt.mono {K : PySem.W.Frag} {m m' : Me} {H H' : Hp} {J : It} {xs : List PyData} (h : DIt K m H J xs) (e : Ext m H m' H') : DIt K m' H' J xs := fun m2 H2 e2 hm2 => h m2 H2 (e.trans e2) hm2
def wI (X : Cx) (tg iter : Expr) (env : DEnv) (m : Me) (k : List PyData → Me → Prop) : Prop :=
  ∀ (σ : L2.St) (H : Hp) (R : It → Hp → Prop), EnvOk X.K m H σ env → MemOk X.K m H → (∀ J xs m' H', Ext m H m' H' → MemOk X.K m' H' → DIt X.K m' H' J xs → k xs m' → R J H') → iW X tg iter σ H R
variable {tg iter : Expr} {ki : List PyData → Me → Prop}
theorem wI_of {wi : TI} (h : PI X tg iter wi) (hh : ∀ (σ : L2.St) (H : Hp) (R : It → Hp → Prop), EnvOk X.K m H σ env → MemOk X.K m H → (∀ J xs m' H', Ext m H m' H' → MemOk X.K m' H' → DIt X.K m' H' J xs → ki xs m' → R J H') → wi σ H R) : wI X tg iter env m ki :=
  fun σ H R he hm hq pins s I => h.run pins s σ H R I (hh σ H R he hm hq)
theorem dit_list {K : PySem.W.Frag} {m : Me} {H : Hp} {a : Addr} {vs : List V} {xs : List PyData} (hs : SqL K (hid m H) a vs) (ha : DpAll K (hid m H) vs xs) : DIt K m H (Itl K a) xs := fun m' H' e hm i => by
  have h1 : SqL K H' a vs := hid_sub.seq (e.seq hs)
  have l := dpAll_len ha
  refine ⟨fun x hx => ?_, fun hl => ⟨vs, h1, by omega⟩⟩
  obtain ⟨v, hv, dv⟩ := dpAll_get ha hx
  refine ⟨⟨vs, v, h1, hv⟩, fun w H'' y => ?_⟩
  obtain ⟨rfl, y⟩ := y
  have e2 := y vs h1
  rw [hv] at e2
  cases e2
  exact ⟨Same.refl _, dp_mono e _ _ dv⟩
theorem dit_tup {K : PySem.W.Frag} {m : Me} {H : Hp} {a : Addr} {vs : List V} {xs : List PyData} (hs : SqT K (hid m H) a vs) (ha : DpAll K (hid m H) vs xs) : DIt K m H (Itt K a) xs := fun m' H' e hm i => by
  have h1 : SqT K H' a vs := seqT_mono hid_sub (seqT_mono e hs)
  have l := dpAll_len ha
  refine ⟨fun x hx => ?_, fun hl => ⟨vs, h1, by omega⟩⟩
  obtain ⟨v, hv, dv⟩ := dpAll_get ha hx
  refine ⟨⟨vs, v, h1, hv⟩, fun w H'' y => ?_⟩
  obtain ⟨rfl, y⟩ := y
  have e2 := y vs h1
  rw [hv] at e2
  cases e2
  exact ⟨Same.refl _, dp_mono e _ _ dv⟩
theorem wI_tup (h : wE X iter env m fun d m1 => ∃ xs, d = .d (.tuple xs) ∧ ki xs m1) : wI X tg iter env m ki :=
  wI_of (pi_tup peW) fun σ H R he hm hq => h σ H _ he hm fun v d m1 H1 e1 hm1 dv ⟨xs, e, hk⟩ => by
    subst e
    cases dv with
    | tup hs ha => exact ⟨_, rfl, ⟨_, seqT_mono hid_sub hs⟩, hq _ xs m1 H1 e1 hm1 (dit_tup hs ha) hk⟩
theorem wI_list (h : wE X iter env m fun d m1 => ∃ xs, d = .d (.list xs) ∧ ki xs m1) : wI X tg iter env m ki :=
  wI_of (pi_list peW) fun σ H R he hm hq => h σ H _ he hm fun v d m1 H1 e1 hm1 dv ⟨xs, e, hk⟩ => by
    subst e
    cases dv with
    | lst hs ha => exact ⟨_, rfl, ⟨_, hid_sub.seq hs⟩, hq _ xs m1 H1 e1 hm1 (dit_list hs ha) hk⟩
/-- a tuple or a list -/
theorem wI_seq (h : wE X iter env m fun d m1 => ∃ xs, (d = .d (.tuple xs) ∨ d = .d (.list xs)) ∧ ki xs m1) : wI X tg iter env m ki := fun σ H R he hm hq pins s I => by
  refine thn (h σ H (fun v H1 => (∃ a, v = .ref a ∧ (∃ vs, SqT X.K H1 a vs) ∧ R (Itt X.K a) H1) ∨ ∃ a, v = .ref a ∧ (∃ vs, SqL X.K H1 a vs) ∧ R (Itl X.K a) H1) he hm ?_ pins s I) ?_
  · rintro v d m1 H1 e1 hm1 dv ⟨xs, e | e, hk⟩
    · subst e
      cases dv with
      | tup hs ha => exact .inl ⟨_, rfl, ⟨_, seqT_mono hid_sub hs⟩, hq _ xs m1 H1 e1 hm1 (dit_tup hs ha) hk⟩
    · subst e
      cases dv with
      | lst hs ha => exact .inr ⟨_, rfl, ⟨_, hid_sub.seq hs⟩, hq _ xs m1 H1 e1 hm1 (dit_list hs ha) hk⟩
  · rintro v s1 ⟨x, H1, I1, r1, ⟨a, e, ⟨vs, hv⟩, q⟩ | ⟨a, e, ⟨vs, hv⟩, q⟩⟩
    · subst e
      cases r1
      obtain ⟨its, rv, pt, hz⟩ := I1.tuple hv
      refine wpAny_pyIter_tuple pt ⟨s1.heap.objs.size, [s1.heap.objs.size], _, _, H1, rfl, I1.kept (t' := s1.toks) fun b o e => Heap.get?_push_of_some _ e, turn_tuple a _, ⟨_, Heap.get?_push_size _ rfl, rfl, rfl⟩, fun b hb => ?_, q⟩
      obtain rfl : b = s1.heap.objs.size := by simpa using hb
      exact I1.fpOk (Nat.le_refl _) (I1.hok.fresh (Nat.le_refl _))
    · subst e
      cases r1
      obtain ⟨its, rv, pt, hz⟩ := I1.list hv
      refine wpAny_pyIter_list pt.isList ⟨s1.heap.objs.size, [s1.heap.objs.size], _, _, H1, rfl, I1.kept (t' := s1.toks) fun b o e => Heap.get?_push_of_some _ e, turn_list a _, ⟨_, Heap.get?_push_size _ rfl, rfl, rfl⟩, fun b hb => ?_, q⟩
      obtain rfl : b = s1.heap.objs.size := by simpa using hb
      exact I1.fpOk (Nat.le_refl _) (I1.hok.fresh (Nat.le_refl _))
def upto (lo : Int) (n : Nat) : List PyData := (List.range n).map fun (i : Nat) => PyData.int (lo + (i : Int))
theorem dit_rng {K : PySem.W.Frag} {m : Me} {H : Hp} {lo : Int} {n : Nat} : DIt K m H (Itr lo n) (upto lo n) := fun m' H' e hm i => by
  unfold upto
  refine ⟨fun x hx => ?_, fun hl => (show n ≤ i from by simpa using hl)⟩
  rw [List.getElem?_map] at hx
  cases q : (List.range n)[i]? with
  | none => rw [q] at hx; cases hx
  | some j =>
    rw [q] at hx
    cases hx
    obtain ⟨h1, h2⟩ := List.getElem?_eq_some_iff.mp q
    rw [List.getElem_range] at h2
    subst h2
    rw [List.length_range] at h1
    refine ⟨h1, fun v H'' y => ?_⟩
    obtain ⟨rfl, rfl⟩ := y
    exact ⟨Same.refl _, dv_int⟩
theorem wI_rng1 (h : wE X a env m fun d m1 => ∃ n : Int, d = .d (.int n) ∧ (-1000000 ≤ n ∧ n ≤ 1000000) ∧ ki (upto 0 n.toNat) m1) (hg : Gl X "range") (hm0 : X.mg "range" = none) (hs : starEach [a] X.env = (false, eval a X.env) :: starEach [] X.env := by rfl)
    (hs1 : starEach [a] X.env = [(false, eval a X.env)] := by rfl) : wI X tg (.Call (.Name "range" p) [a] [] pos) env m ki :=
  wI_of (pi_range1 hg hm0 (pa_cons peW pa_nil hs) hs1) fun σ H R he hm hq => h σ H _ he hm fun v d m1 H1 e1 hm1 dv ⟨n, e, hn, hk⟩ => by
    subst e
    cases dv
    exact ⟨n, rfl, by omega, by omega, hq _ _ m1 H1 e1 hm1 dit_rng hk⟩
theorem wI_rng2 (h : wE X a env m fun d m1 => wE X b env m1 fun d2 m2 => ∃ i n : Int, d = .d (.int i) ∧ d2 = .d (.int n) ∧ (-1000000 ≤ i ∧ i ≤ 1000000 ∧ -1000000 ≤ n ∧ n ≤ 1000000) ∧ ki (upto i (n - i).toNat) m2) (hg : Gl X "range") (hm0 : X.mg "range" = none)
    (hs : starEach [a, b] X.env = (false, eval a X.env) :: starEach [b] X.env := by rfl) (hs2 : starEach [b] X.env = (false, eval b X.env) :: starEach [] X.env := by rfl)
    (hs3 : starEach [a, b] X.env = [(false, eval a X.env), (false, eval b X.env)] := by rfl) (hs4 : starEach [b] X.env = [(false, eval b X.env)] := by rfl) : wI X tg (.Call (.Name "range" p) [a, b] [] pos) env m ki :=
  wI_of (pi_range2 hg hm0 (pa_cons peW (pa_cons peW pa_nil hs2) hs) hs3 hs4) fun σ H R he hm hq => h σ H _ he hm fun v d m1 H1 e1 hm1 dv h1 => h1 σ H1 _ (he.mono e1) hm1 fun v2 d2 m2 H2 e2 hm2 dv2 ⟨i, n, q1, q2, hn, hk⟩ => by
    subst q1 q2
    cases dv
    cases dv2
    exact ⟨i, n, rfl, by omega, hq _ _ m2 H2 (e1.trans e2) hm2 dit_rng hk⟩
theorem zip_get {α β : Type} : ∀ {xs : List α} {ys : List β} {i : Nat}, (xs.zip ys)[i]? = (xs[i]?).bind fun x => (ys[i]?).map fun y => (x, y)
  | [], _, _ => by simp
  | _ :: _, [], i => by cases i <;> simp
  | x :: xs, y :: ys, 0 => by simp
  | x :: xs, y :: ys, i + 1 => by simpa using zip_get (xs := xs) (ys := ys) (i := i)
theorem same_hid {m : Me} {K : PySem.W.Frag} {H : Hp} {T : Addr} {o : HO} (hm : MemOk K m H) (hT : H T = none) (n : NTb o := by intro _ q; cases q) : hid m (upd H T o) T = some o := hid_of (hm.fresh hT) upd_same (hm.new hT) n
theorem dit_zipT {K : PySem.W.Frag} {m : Me} {H : Hp} {a b : Addr} {vs ws : List V} {xs ys : List PyData} (hs : SqT K (hid m H) a vs) (ha : DpAll K (hid m H) vs xs) (hs2 : SqT K (hid m H) b ws) (ha2 : DpAll K (hid m H) ws ys) :
    DIt K m H (RZ.ItzT K a b) ((xs.zip ys).map fun q => .tuple [q.1, q.2]) := fun m' H' e hm i => by
  have h1 : SqT K H' a vs := seqT_mono hid_sub (seqT_mono e hs)
  have h2 : SqT K H' b ws := seqT_mono hid_sub (seqT_mono e hs2)
  have l := dpAll_len ha
  have l2 := dpAll_len ha2
  refine ⟨fun x hx => ?_, fun hl => ⟨vs, ws, h1, h2, by rw [List.length_map, List.length_zip] at hl; omega⟩⟩
  rw [List.getElem?_map, zip_get] at hx
  cases q1 : xs[i]? with
  | none => rw [q1] at hx; cases hx
  | some x1 =>
    cases q2 : ys[i]? with
    | none => rw [q1, q2] at hx; cases hx
    | some y1 =>
      rw [q1, q2] at hx
      cases hx
      obtain ⟨v, hv, dv⟩ := dpAll_get ha q1
      obtain ⟨w, hw, dw⟩ := dpAll_get ha2 q2
      refine ⟨⟨vs, ws, v, w, h1, h2, hv, hw⟩, fun u H'' y => ?_⟩
      obtain ⟨T, v', w', rfl, hT, rfl, f1, f2⟩ := y
      have z1 := f1 vs h1
      have z2 := f2 ws h2
      rw [hv] at z1
      rw [hw] at z2
      cases z1
      cases z2
      have s := same_new (o := .tup [v, w]) hT
      have e2 := e.trans (Ext.of (m := m') s)
      exact ⟨s, Dp.tup (SqT.of (same_hid hm hT)) (.cons (dp_mono e2 _ _ dv) (.cons (dp_mono e2 _ _ dw) .nil))⟩
theorem dit_zipL {K : PySem.W.Frag} {m : Me} {H : Hp} {a b : Addr} {vs ws : List V} {xs ys : List PyData} (hs : SqL K (hid m H) a vs) (ha : DpAll K (hid m H) vs xs) (hs2 : SqL K (hid m H) b ws) (ha2 : DpAll K (hid m H) ws ys) :
    DIt K m H (Itz K a b) ((xs.zip ys).map fun q => .tuple [q.1, q.2]) := fun m' H' e hm i => by
  have h1 : SqL K H' a vs := hid_sub.seq (e.seq hs)
  have h2 : SqL K H' b ws := hid_sub.seq (e.seq hs2)
  have l := dpAll_len ha
  have l2 := dpAll_len ha2
  refine ⟨fun x hx => ?_, fun hl => ⟨vs, ws, h1, h2, by rw [List.length_map, List.length_zip] at hl; omega⟩⟩
  rw [List.getElem?_map, zip_get] at hx
  cases q1 : xs[i]? with
  | none => rw [q1] at hx; cases hx
  | some x1 =>
    cases q2 : ys[i]? with
    | none => rw [q1, q2] at hx; cases hx
    | some y1 =>
      rw [q1, q2] at hx
      cases hx
      obtain ⟨v, hv, dv⟩ := dpAll_get ha q1
      obtain ⟨w, hw, dw⟩ := dpAll_get ha2 q2
      refine ⟨⟨vs, ws, v, w, h1, h2, hv, hw⟩, fun u H'' y => ?_⟩
      obtain ⟨T, v', w', rfl, hT, rfl, f1, f2⟩ := y
      have z1 := f1 vs h1
      have z2 := f2 ws h2
      rw [hv] at z1
      rw [hw] at z2
      cases z1
      cases z2
      have s := same_new (o := .tup [v, w]) hT
      have e2 := e.trans (Ext.of (m := m') s)
      exact ⟨s, Dp.tup (SqT.of (same_hid hm hT)) (.cons (dp_mono e2 _ _ dv) (.cons (dp_mono e2 _ _ dw) .nil))⟩
theorem wI_zip {elts : List Expr} {j : Nat} {tpos : Pos} (h : wA X [a, b] env m fun ds m1 => ∃ xs ys, (ds = [.d (.tuple xs), .d (.tuple ys)] ∨ ds = [.d (.list xs), .d (.list ys)]) ∧ ki ((xs.zip ys).map fun q => .tuple [q.1, q.2]) m1)
    (hg : Gl X "zip") (hm0 : X.mg "zip" = none) (hs : starEach [a, b] X.env = (false, eval a X.env) :: starEach [b] X.env := by rfl) (hpl : (backTo pos (starEach [b] X.env)).any (·.1) = false := by rfl) :
    wI X (.Tuple elts j tpos) (.Call (.Name "zip" p) [a, b] [] pos) env m ki :=
  wI_of (RZ.pi_zipA hg hm0 paW hs hpl) fun σ H R he hm hq => h σ H _ he hm fun vs ds m1 H1 e1 hm1 dvs ⟨xs, ys, e, hk⟩ => by
    rcases e with e | e
    · subst e
      obtain ⟨v, w, rfl, dv, dw⟩ := dvs2 dvs
      cases dv with
      | tup hs ha => cases dw with
        | tup hs2 ha2 => exact ⟨_, _, _, _, rfl, .inr ⟨seqT_mono hid_sub hs, seqT_mono hid_sub hs2, hq _ _ m1 H1 e1 hm1 (dit_zipT hs ha hs2 ha2) hk⟩⟩
    · subst e
      obtain ⟨v, w, rfl, dv, dw⟩ := dvs2 dvs
      cases dv with
      | lst hs ha => cases dw with
        | lst hs2 ha2 => exact ⟨_, _, _, _, rfl, .inl ⟨hid_sub.seq hs, hid_sub.seq hs2, hq _ _ m1 H1 e1 hm1 (dit_zipL hs ha hs2 ha2) hk⟩⟩
end
end DW

set_option Elab.async false
set_option linter.all false
set_option maxRecDepth 100000
set_option maxHeartbeats 1000000
namespace DW
variable [TabsC]
open PySem PySem.Spec PyProof.Rows L2

/-! ### lists that change -/
section
variable {K : PySem.W.Frag} {m : Me} {H : Hp} {D : Addr} {acc acc' : List PyData} {ws : List V} {o : HO}
theorem hid_upd (h : m.hd D) : hid m (upd H D o) = hid m H := by
  funext a
  unfold hid
  by_cases z : m.hd a ∨ ¬ NT a
  · rw [if_pos z, if_pos z]
  · rw [if_neg z, if_neg z, upd_ne (fun e => z (.inl (by rw [e]; exact h)))]
theorem tabs_set {H : Hp} {D : Addr} {vs ws : List V} (h : H D = some (.lst vs)) (t : LamX.Tabs TabsC.T H) : LamX.Tabs TabsC.T (upd H D (.lst ws)) := fun p hp => by
  obtain ⟨ps, h1, h2, h3⟩ := t p hp
  refine ⟨ps, by rw [upd_ne (ne_of h1 h (by intro z; cases z))]; exact h1, h2, fun pos cv hc => ?_⟩
  obtain ⟨c, e1, e2⟩ := h3 pos cv hc
  exact ⟨c, e1, by rw [upd_ne (ne_of e2 h (by intro z; unfold LamX.CodeO at z; cases z))]; exact e2⟩
theorem own_hd : (m.own D acc).hd D := .inr (List.mem_cons_self)
theorem own_at (hm : MemOk K (m.own D acc) H) : ∃ vs, H D = some (.lst vs) ∧ DpAll K (hid (m.own D acc) H) vs acc := hm.own D acc List.mem_cons_self
theorem own_set (hm : MemOk K (m.own D acc) H) (ha : DpAll K (hid (m.own D acc) H) ws acc') : MemOk K (m.own D acc') (upd H D (.lst ws)) ∧ Ext (m.own D acc) H (m.own D acc') (upd H D (.lst ws)) := by
  have e1 : hid (m.own D acc') (upd H D (.lst ws)) = hid (m.own D acc) H := hid_upd (m := m.own D acc') own_hd
  have nD : m.p ≠ some D := hm.sep D (List.mem_cons_self)
  have nd := List.nodup_cons.mp hm.nd
  refine ⟨⟨fun a ha' => ?_, fun a xs hx => ?_, hm.sep, hm.nd, ?_⟩, fun a u h => by rw [e1]; exact h⟩
  · obtain ⟨x, y, k, e2, r⟩ := (hm.pot a ha').at_
    have ne : a ≠ D := fun e => nD (by rw [← e]; exact ha')
    exact ⟨x, y, k, by rw [upd_ne ne]; exact e2, r⟩
  · rw [e1]
    rcases List.mem_cons.mp hx with q | q
    · cases q
      exact ⟨ws, upd_same, ha⟩
    · obtain ⟨vs, e2, r⟩ := hm.own a xs (List.mem_cons_of_mem _ q)
      have ne : a ≠ D := fun e => nd.1 (List.mem_map.mpr ⟨(a, xs), q, e⟩)
      exact ⟨vs, by rw [upd_ne ne]; exact e2, r⟩
  · obtain ⟨vs, e2, r⟩ := own_at hm
    exact tabs_set e2 hm.tab
theorem own_drop (hm : MemOk K (m.own D acc) H) : MemOk K m H ∧ Ext (m.own D acc) H m H ∧ DV K m H (.ref D) (.d (.list acc)) := by
  have ex : Ext (m.own D acc) H m H := fun a u h => by
    obtain ⟨z, e⟩ := hid_some h
    exact hid_of (fun q => z (q.elim .inl fun q => .inr (List.mem_cons_of_mem _ q))) e (hid_nt h) (hid_nb h)
  have nd := List.nodup_cons.mp hm.nd
  have nD : ¬ m.hd D := fun q => q.elim (hm.sep D List.mem_cons_self) nd.1
  obtain ⟨vs, e1, r⟩ := own_at hm
  have nT : NT D := fun q => by
    obtain ⟨p, hp, e⟩ := List.mem_map.mp q
    obtain ⟨ps, h1, _⟩ := hm.tab p hp
    rw [e, e1] at h1
    cases h1
  refine ⟨⟨hm.pot, fun a xs hx => ?_, fun a ha => hm.sep a (List.mem_cons_of_mem _ ha), nd.2, hm.tab⟩, ex, Dp.lst (SqL.of (hid_of nD e1 nT)) (dpAll_mono ex _ _ r)⟩
  obtain ⟨vs, e2, r⟩ := hm.own a xs (List.mem_cons_of_mem _ hx)
  exact ⟨vs, e2, dpAll_mono ex _ _ r⟩
end

/-! ### comprehensions -/
def lcW (step : Me → PyData → (Dat → Me → Prop) → Prop) : List PyData → List PyData → Me → (List PyData → Me → Prop) → Prop
  | [], acc, m, k => k acc m
  | x :: r, acc, m, k => ∀ D, step (m.own D acc) x fun d m' => ∃ y m2, d = .d y ∧ m' = Me.own m2 D acc ∧ lcW step r (acc ++ [y]) m2 k
theorem lcW_nil {step : Me → PyData → (Dat → Me → Prop) → Prop} {acc : List PyData} {m : Me} {k : List PyData → Me → Prop} (h : k acc m) : lcW step [] acc m k := h
theorem lcW_cons {step : Me → PyData → (Dat → Me → Prop) → Prop} {x : PyData} {r acc : List PyData} {m : Me} {k : List PyData → Me → Prop}
    (h : ∀ D, step (m.own D acc) x fun d m' => ∃ y m2, d = .d y ∧ m' = Me.own m2 D acc ∧ lcW step r (acc ++ [y]) m2 k) : lcW step (x :: r) acc m k := h
/-- every item by a function -/
theorem lcW_map {step : Me → PyData → (Dat → Me → Prop) → Prop} (f : PyData → PyData) : ∀ {xs acc : List PyData} {m : Me} {k : List PyData → Me → Prop},
    (∀ x ∈ xs, ∀ m' k', k' (.d (f x)) m' → step m' x k') → k (acc ++ xs.map f) m → lcW step xs acc m k
  | [], acc, m, k, _, hk => by
    have hk' : k (acc ++ []) m := hk
    rw [List.append_nil] at hk'
    exact hk'
  | x :: r, acc, m, k, h, hk => fun D => h x List.mem_cons_self _ _ ⟨f x, m, rfl, rfl, lcW_map f (fun y hy => h y (List.mem_cons_of_mem _ hy)) (by rw [List.append_assoc]; exact hk)⟩
def wipeE (env : DEnv) : List Nat → DEnv
  | [] => env
  | v :: vs => (wipeE env vs).set v none
section
variable {X : Cx} {env : DEnv} {m : Me} {k : Dat → Me → Prop} {pos p : Pos}
theorem EnvOk.unset {K : PySem.W.Frag} {H : Hp} {σ : L2.St} (h : EnvOk K m H σ env) (i : Nat) : EnvOk K m H (σ.set i none) (env.set i none) := by
  refine ⟨by rw [List.length_set, List.length_set]; exact h.1, fun j d hj => ?_⟩
  by_cases hij : i = j
  · subst hij
    by_cases hl : i < env.length
    · rw [List.getElem?_set_self hl] at hj; cases hj
    · rw [List.getElem?_eq_none (by rw [List.length_set]; omega)] at hj; cases hj
  · rw [List.getElem?_set_ne hij] at hj ⊢
    exact h.2 j d hj
theorem EnvOk.wipe {K : PySem.W.Frag} {H : Hp} {σ : L2.St} (h : EnvOk K m H σ env) : ∀ vs : List Nat, EnvOk K m H (L2.wipe σ vs) (wipeE env vs)
  | [] => h
  | v :: vs => (h.wipe vs).unset v
theorem wipe_in {σ : L2.St} {i : Nat} : ∀ {vs : List Nat}, i ∈ vs → i < σ.length → (L2.wipe σ vs)[i]? = some none
  | v :: vs, h, hl => by
    show ((L2.wipe σ vs).set v none)[i]? = some none
    by_cases e : v = i
    · subst e
      rw [List.getElem?_set_self (by rw [L2.wipe_length]; exact hl)]
    · rw [List.getElem?_set_ne e]
      exact wipe_in ((List.mem_cons.mp h).resolve_left fun q => e q.symm) hl
theorem wipe_agree {σ σ2 : L2.St} {vs : List Nat} (ag : Agree vs (L2.wipe σ vs) σ2) : L2.wipe σ2 vs = L2.wipe σ vs := by
  have hl : σ2.length = σ.length := by rw [ag.1, L2.wipe_length]
  apply List.ext_getElem?
  intro i
  by_cases hi : i ∈ vs
  · by_cases z : i < σ.length
    · rw [wipe_in hi z, wipe_in hi (by omega)]
    · rw [List.getElem?_eq_none (by rw [L2.wipe_length]; omega), List.getElem?_eq_none (by rw [L2.wipe_length]; omega)]
  · rw [L2.wipe_out hi, ag.2 i hi]
abbrev bk (X : Cx) (scope : Scope) (s : Shared) (H : Hp) (C : Addr) (cl : List (Str × Addr)) (fp : List Addr) : Cx := X.blk s H scope (compEnvC scope cl C X.env) fp
def stepB (X : Cx) (scope : Scope) (vs : List Nat) (tg elt : Expr) (env : DEnv) (m : Me) (x : PyData) (k : Dat → Me → Prop) : Prop :=
  ∀ s H C cl fp, wG (bk X scope s H C cl fp) vs tg (wipeE env vs) m (.d x) fun env' => ∀ s H C cl fp, wE (bk X scope s H C cl fp) elt env' m k
def gB (X : Cx) (scope : Scope) (tg : Expr) : TG := fun v σ H Q => ∀ s H' C cl fp, gW (bk X scope s H' C cl fp) tg v σ H Q
def eB (X : Cx) (scope : Scope) (elt : Expr) : TE := fun σ H Q => ∀ s H' C cl fp, tW (bk X scope s H' C cl fp) elt σ H Q
def iB (X : Cx) (scope : Scope) (tg iter : Expr) : TI := fun σ H R => ∀ s H' C cl fp, iW (bk X scope s H' C cl fp) tg iter σ H R
variable {scope : Scope} {own : List (Str × Nat)} {tg iter elt tg1 iter1 : Expr}
theorem pgB (s H C cl fp) : PG (bk X scope s H C cl fp) tg (gB X scope tg) := ⟨fun pins s1 _ _ _ u _ I r h => h s H C cl fp pins s1 u I r⟩
theorem peB (s H C cl fp) : PE (bk X scope s H C cl fp) elt (eB X scope elt) := ⟨fun pins s1 _ _ _ I h => h s H C cl fp pins s1 I⟩
theorem piB (s H C cl fp) : PI (bk X scope s H C cl fp) tg iter (iB X scope tg iter) := ⟨fun pins s1 _ _ _ I h => h s H C cl fp pins s1 I⟩
theorem lc_read {vs : List Nat} {σ : L2.St} {H : Hp} {Q : VK} (he : EnvOk X.K m H σ env) (hm : MemOk X.K m H) (hq : ∀ v d m' H', Ext m H m' H' → MemOk X.K m' H' → DV X.K m' H' v d → k d m' → Q v H')
    (h : wI X tg iter env m fun xs m1 => xs.length ≤ 10000000 ∧ lcW (stepB X scope vs tg elt env) xs [] m1 fun ys m2 => k (.d (.list ys)) m2) :
    tLc (iW X tg iter) (gB X scope tg) tYes (eB X scope elt) vs σ H Q := by
  refine h σ H _ he hm fun J xs m1 H1 e1 hm1 dit ⟨hl, hk⟩ => fun D hD => ?_
  obtain ⟨s1, s2⟩ := own_ok (vs := []) (xs := []) hm1 hD .nil
  refine ⟨fun i n H' => n = xs.length - i ∧ i ≤ xs.length ∧ ∃ m' acc, acc.length = i ∧ MemOk X.K (m'.own D acc) H' ∧ Ext m1 H1 (m'.own D acc) H' ∧ lcW (stepB X scope vs tg elt env) (xs.drop i) acc m' fun ys m2 => k (.d (.list ys)) m2,
    ⟨xs.length, rfl, Nat.zero_le _, m1, [], rfl, s1, s2, hk⟩, ?_⟩
  rintro i n H2 ⟨rfl, hi, m', acc, ha, hm2, e2, hk2⟩
  have dt := (dit.mono e2) (m'.own D acc) H2 Ext.refl hm2 i
  by_cases hlt : i < xs.length
  · have hx : xs[i]? = some xs[i] := List.getElem?_eq_getElem hlt
    obtain ⟨go, yl⟩ := dt.1 _ hx
    rw [List.drop_eq_getElem_cons hlt] at hk2
    refine .inr ⟨go, fun H3 => ∃ m3 acc3, acc3.length = i + 1 ∧ MemOk X.K (m3.own D acc3) H3 ∧ Ext m1 H1 (m3.own D acc3) H3 ∧ lcW (stepB X scope vs tg elt env) (xs.drop (i + 1)) acc3 m3 fun ys m2 => k (.d (.list ys)) m2,
      fun H3 h3 => ⟨xs.length - (i + 1), by omega, rfl, hlt, h3⟩, fun v H3 y => ?_⟩
    obtain ⟨sm, dv⟩ := yl v H3 y
    have hm3 := hm2.mono sm
    have e3 : Ext m H (m'.own D acc) H3 := (e1.trans e2).trans (Ext.of sm)
    intro s Hs C cl fp
    refine hk2 D s Hs C cl fp (L2.wipe σ vs) H3 v _ ((he.mono e3).wipe vs) hm3 dv fun σ2 env2 eo ag hE => ⟨wipe_agree ag, ?_⟩
    dsimp only [tYes]
    rw [if_pos rfl]
    intro s4 Hs4 C4 cl4 fp4
    refine hE s4 Hs4 C4 cl4 fp4 σ2 H3 _ eo hm3 ?_
    rintro w d m4 H4 e4 hm4 dw ⟨y', m5, rfl, rfl, hk5⟩
    obtain ⟨ws, w1, w2⟩ := own_at hm4
    obtain ⟨o1, o2⟩ := own_set (acc' := acc ++ [y']) hm4 (dpAll_append w2 (dpAll_one dw))
    have wl := dpAll_len w2
    refine ⟨ws, w1, Nat.lt_of_lt_of_le (by omega : ws.length < 10000001) (by decide), m5, acc ++ [y'], by simp [ha], o1, ((e2.trans (Ext.of sm)).trans e4).trans o2, hk5⟩
  · have ei : i = xs.length := by omega
    have stop := dt.2 (by omega)
    rw [ei, List.drop_length] at hk2
    obtain ⟨d1, d2, d3⟩ := own_drop hm2
    exact .inl ⟨stop, hq _ _ m' H2 ((e1.trans e2).trans d2) d1 d3 hk2⟩
theorem wE_lc (own : List (Str × Nat)) (hc : X.calm = true) (hN : X.N.Nodup) (ok : BlkOk X.N X.env.scope scope own)
    (h : wI X tg iter env m fun xs m1 => xs.length ≤ 10000000 ∧ lcW (stepB X scope (own.map (·.2)) tg elt env) xs [] m1 fun ys m2 => k (.d (.list ys)) m2) (hs : ∀ x, foldedSetIterable iter X.env x = pure x := by intro _; rfl) :
    wE X (.ListComp elt [⟨tg, iter, [], 0⟩] scope pos) env m k :=
  wE_of (pe_lc hc hN piW ok pgB (fun _ _ _ _ _ => pts_nil) peB hs) fun σ H Q he hm hq => lc_read he hm hq h
/-! two clauses -/
def lc2I (step : Me → PyData → (Dat → Me → Prop) → Prop) : List PyData → List PyData → Me → (List PyData → Me → Prop) → Prop := lcW step
end

/-! ### statements -/
structure DE where
  nx : DEnv → Me → Prop
  rt : Dat → Me → Prop
  bk : DEnv → Me → Prop := fun _ _ => False
  ct : DEnv → Me → Prop := fun _ _ => False
structure EOk (K : PySem.W.Frag) (m0 : Me) (H0 : Hp) (D : DE) (E : Ends) : Prop where
  nx : ∀ σ env m H, Ext m0 H0 m H → EnvOk K m H σ env → MemOk K m H → D.nx env m → E.nx σ H
  rt : ∀ v d m H, Ext m0 H0 m H → MemOk K m H → DV K m H v d → D.rt d m → E.rt v H
  bk : ∀ σ env m H, Ext m0 H0 m H → EnvOk K m H σ env → MemOk K m H → D.bk env m → E.bk σ H
  ct : ∀ σ env m H, Ext m0 H0 m H → EnvOk K m H σ env → MemOk K m H → D.ct env m → E.ct σ H
theorem EOk.mono {K : PySem.W.Frag} {m0 m1 : Me} {H0 H1 : Hp} {D : DE} {E : Ends} (h : EOk K m0 H0 D E) (e : Ext m0 H0 m1 H1) : EOk K m1 H1 D E :=
  ⟨fun σ env m H e1 => h.nx σ env m H (e.trans e1), fun v d m H e1 => h.rt v d m H (e.trans e1), fun σ env m H e1 => h.bk σ env m H (e.trans e1), fun σ env m H e1 => h.ct σ env m H (e.trans e1)⟩
section
variable {X : Cx} {env : DEnv} {m : Me} {pos p : Pos} {st : Stmt} {sts body els : List Stmt} {e a b c : Expr} {es : List Expr} {x : Str} {D : DE}
def sW (X : Cx) (st : Stmt) : TS := fun D σ H => ∀ pins s, Inv X pins σ H s → wpAny (model X.prog X.w) X.A (exec st X.env) (SP X pins D) X.xe s
theorem psW : PS X st (sW X st) := ⟨fun pins s _ _ _ I h => h pins s I⟩
def ssW (X : Cx) (st : List Stmt) : TS := fun D σ H => ∀ pins s, Inv X pins σ H s → wpAny (model X.prog X.w) X.A (execs st X.env) (SP X pins D) X.xe s
theorem pssW : PSs X sts (ssW X sts) := ⟨fun pins s _ _ _ I h => h pins s I⟩
def wS (X : Cx) (st : Stmt) (env : DEnv) (m : Me) (D : DE) : Prop := ∀ (σ : L2.St) (H : Hp) (E : Ends), EnvOk X.K m H σ env → MemOk X.K m H → EOk X.K m H D E → sW X st E σ H
def wSs (X : Cx) (sts : List Stmt) (env : DEnv) (m : Me) (D : DE) : Prop := ∀ (σ : L2.St) (H : Hp) (E : Ends), EnvOk X.K m H σ env → MemOk X.K m H → EOk X.K m H D E → ssW X sts E σ H
theorem wS_of {t : TS} (h : PS X st t) (hh : ∀ (σ : L2.St) (H : Hp) (E : Ends), EnvOk X.K m H σ env → MemOk X.K m H → EOk X.K m H D E → t E σ H) : wS X st env m D := fun σ H E he hm hE pins s I => h.run pins s σ H E I (hh σ H E he hm hE)
theorem wSs_nil (h : D.nx env m) : wSs X [] env m D := fun σ H E he hm hE pins s I => pss_nil.run pins s σ H E I (hE.nx σ env m H Ext.refl he hm h)
theorem wSs_cons (h : wS X st env m { D with nx := fun env' m' => wSs X sts env' m' D }) : wSs X (st :: sts) env m D := fun σ H E he hm hE pins s I =>
  (pss_cons psW pssW).run pins s σ H E I (h σ H { E with nx := ssW X sts E } he hm ⟨fun σ' env' m' H' e1 he1 hm1 h1 => h1 σ' H' E he1 hm1 (hE.mono e1), hE.rt, hE.bk, hE.ct⟩)
theorem wS_ret (h : wE X e env m D.rt) : wS X (.Return (some e) pos) env m D := wS_of (ps_ret peW) fun σ H E he hm hE => h σ H _ he hm fun v d m' H' => hE.rt v d m' H'
theorem wS_retN (h : D.rt (.d .none) m) : wS X (.Return none pos) env m D := wS_of ps_retN fun σ H E he hm hE => hE.rt _ _ m H Ext.refl hm dv_non h
theorem wS_expr (h : wE X e env m fun _ m' => D.nx env m') (hs : swapsWith e none pos.line X.env = pure false := by rfl) : wS X (.Expr e pos) env m D :=
  wS_of (ps_expr peW hs) fun σ H E he hm hE => h σ H _ he hm fun v d m' H' e1 hm1 _ hk => hE.nx σ env m' H' e1 (he.mono e1) hm1 hk
theorem wS_pass (h : D.nx env m) : wS X (.Pass pos) env m D := wS_of ps_pass fun σ H E he hm hE => hE.nx σ env m H Ext.refl he hm h
theorem wS_set (i : Nat) {p' : Pos} (hN : X.N.Nodup) (hi : X.N[i]? = some x) (hx : Loc X.env.scope x) (h : wE X e env m fun d m' => D.nx (env.set i (some d)) m') (hs : swapsWith e (some (.Name x p')) pos.line X.env = pure false := by rfl)
    (hf : X.fn x = true ∨ X.env.scope.names.lookup x = some .local := by first | exact .inl rfl | exact .inr rfl) : wS X (.Assign [.Name x p'] e pos) env m D :=
  wS_of (ps_set hN hi hx peW hs hf) fun σ H E he hm hE => h σ H _ he hm fun v d m' H' e1 hm1 dv hk => hE.nx _ _ m' H' e1 ((he.mono e1).set i dv) hm1 hk
theorem wS_setLc (i : Nat) {p' : Pos} {elt tg iter : Expr} {scope : Scope} (own : List (Str × Nat)) {cpos : Pos} (hc : X.calm = true) (hN : X.N.Nodup) (hy : X.N[i]? = some x) (hyl : X.env.scope.names.lookup x = some .local)
    (hsw : swapsWith (.ListComp elt [⟨tg, iter, [], 0⟩] scope cpos) (some (.Name x p')) pos.line X.env = pure true) (ok : BlkOk X.N X.env.scope scope own)
    (h : wI X tg iter env m fun xs m1 => xs.length ≤ 10000000 ∧ lcW (stepB X scope (own.map (·.2)) tg elt env) xs [] m1 fun ys m2 => D.nx (env.set i (some (.d (.list ys)))) m2) (hs : ∀ x, foldedSetIterable iter X.env x = pure x := by intro _; rfl) :
    wS X (.Assign [.Name x p'] (.ListComp elt [⟨tg, iter, [], 0⟩] scope cpos) pos) env m D :=
  wS_of (ps_setLc hc hN hy hyl hsw piW ok pgB (fun _ _ _ _ _ => pts_nil) peB hs) fun σ H E he hm hE => lc_read (k := fun d m2 => D.nx (env.set i (some d)) m2) he hm (fun v d m' H' e1 hm1 dv hk => hE.nx _ _ m' H' e1 ((he.mono e1).set i dv) hm1 hk) h
theorem wS_asg {tg : Expr} (S : List Nat) (h : wE X e env m fun d m' => wG X S tg env m' d fun env' => D.nx env' m') (hs : swapsWithSole [tg] e pos.line X.env = pure false := by rfl) (hw : swappedStores [tg] e X.env = pure none := by rfl)
    (h1 : (assignEach [tg] X.env).map (·.2) = [assign tg X.env] := by rfl) : wS X (.Assign [tg] e pos) env m D :=
  wS_of (ps_asg peW pgW hs hw h1) fun σ H E he hm hE => h σ H _ he hm fun v d m' H' e1 hm1 dv hg => hg σ H' v _ (he.mono e1) hm1 dv fun σ' env' he' ag hk => hE.nx σ' env' m' H' e1 he' hm1 hk
theorem wS_par (i j : Nat) {y : Str} {px py pt pt2 : Pos} {kt k2} (hc : X.calm = true) (hN : X.N.Nodup) (hi : X.N[i]? = some x) (hj : X.N[j]? = some y) (hij : i ≠ j) (hx : X.env.scope.names.lookup x = some .local) (hy : X.env.scope.names.lookup y = some .local)
    (h : wA X [a, b] env m fun ds m' => ∃ d1 d2, ds = [d1, d2] ∧ D.nx ((env.set i (some d1)).set j (some d2)) m')
    (hw : swappedStores [.Tuple [.Name x px, .Name y py] kt pt] (.Tuple [a, b] k2 pt2) X.env = pure (some [x, y])) (hs : swapsWithSole [.Tuple [.Name x px, .Name y py] kt pt] (.Tuple [a, b] k2 pt2) pos.line X.env = pure false := by rfl) :
    wS X (.Assign [.Tuple [.Name x px, .Name y py] kt pt] (.Tuple [a, b] k2 pt2) pos) env m D :=
  wS_of (ps_par hc hN hi hj hij hx hy paW hw hs) fun σ H E he hm hE => h σ H _ he hm fun vs ds m' H' e1 hm1 dvs ⟨d1, d2, e, hk⟩ => by
    subst e
    obtain ⟨v, w, rfl, dv, dw⟩ := dvs2 dvs
    exact ⟨v, w, rfl, hE.nx _ _ m' H' e1 (((he.mono e1).set i dv).set j dw) hm1 hk⟩
theorem wS_if (h : wT X c env m fun t m' => (t = true → wSs X body env m' D) ∧ (t = false → wSs X els env m' D)) : wS X (.If c body els pos) env m D :=
  wS_of (ps_if ptW pssW pssW) fun σ H E he hm hE => h σ H _ he hm fun t m' H' e1 hm1 ⟨h1, h2⟩ => by
    cases t with
    | true => exact iteT (h1 rfl σ H' E (he.mono e1) hm1 (hE.mono e1))
    | false => exact iteF (h2 rfl σ H' E (he.mono e1) hm1 (hE.mono e1))
def forW (X : Cx) (S : List Nat) (tg : Expr) (body : List Stmt) (D : DE) : List PyData → DEnv → Me → Prop
  | [], env, m => D.nx env m
  | x :: r, env, m => wG X S tg env m (.d x) fun env' => wSs X body env' m { nx := forW X S tg body D r, ct := forW X S tg body D r, bk := D.nx, rt := D.rt }
theorem wS_for {tg iter : Expr} (S : List Nat) (hp : PassesOwn (model X.prog X.w) X.A X.env X.xe) (hc : X.calm = true) (h : wI X tg iter env m fun xs m1 => forW X S tg body D xs env m1)
    (hs : ∀ x, foldedSetIterable iter X.env x = pure x := by intro _; rfl) : wS X (.For tg iter body [] pos) env m D :=
  wS_of (ps_for hp hc piW pgW pssW hs) fun σ H E he hm hE => h σ H _ he hm fun J xs m1 H1 e1 hm1 dit hf => by
    refine ⟨fun i n σ' H' => n = xs.length - i ∧ i ≤ xs.length ∧ ∃ m' env', Ext m1 H1 m' H' ∧ EnvOk X.K m' H' σ' env' ∧ MemOk X.K m' H' ∧ forW X S tg body D (xs.drop i) env' m', ⟨xs.length, rfl, Nat.zero_le _, m1, env, Ext.refl, he.mono e1, hm1, hf⟩, ?_⟩
    rintro i n σ2 H2 ⟨rfl, hi, m2, env2, e2, he2, hm2, hf2⟩
    have dt := (dit.mono e2) m2 H2 Ext.refl hm2 i
    by_cases hlt : i < xs.length
    · obtain ⟨go, yl⟩ := dt.1 _ (List.getElem?_eq_getElem hlt)
      rw [List.drop_eq_getElem_cons hlt] at hf2
      refine .inr ⟨go, fun σ3 H3 => ∃ m3 env3, Ext m1 H1 m3 H3 ∧ EnvOk X.K m3 H3 σ3 env3 ∧ MemOk X.K m3 H3 ∧ forW X S tg body D (xs.drop (i + 1)) env3 m3, fun σ3 H3 h3 => ⟨xs.length - (i + 1), by omega, rfl, hlt, h3⟩, fun v H3 y => ?_⟩
      obtain ⟨sm, dv⟩ := yl v H3 y
      have e3 := e2.trans (Ext.of (m := m2) sm)
      refine hf2 σ2 H3 v _ (he2.mono (Ext.of sm)) (hm2.mono sm) dv fun σ4 env4 he4 ag hb => hb σ4 H3 _ he4 (hm2.mono sm) ?_
      exact ⟨fun σ5 env5 m5 H5 e5 he5 hm5 h5 => ⟨m5, env5, e3.trans e5, he5, hm5, h5⟩, fun v5 d5 m5 H5 e5 => hE.rt v5 d5 m5 H5 ((e1.trans e3).trans e5), fun σ5 env5 m5 H5 e5 => hE.nx σ5 env5 m5 H5 ((e1.trans e3).trans e5),
        fun σ5 env5 m5 H5 e5 he5 hm5 h5 => ⟨m5, env5, e3.trans e5, he5, hm5, h5⟩⟩
    · have ei : i = xs.length := by omega
      rw [ei, List.drop_length] at hf2
      exact .inl ⟨dt.2 (by omega), hE.nx σ2 env2 m2 H2 (e1.trans e2) he2 hm2 hf2⟩
/-- I: a word of a measure, the names, the pot -/
theorem wS_while (I : Nat → DEnv → Me → Prop) (hp : PassesOwn (model X.prog X.w) X.A X.env X.xe) (n0 : Nat) (h0 : I n0 env m)
    (hs : ∀ n env m, I n env m → wT X c env m fun t m' => (t = true → wSs X body env m' { nx := fun e2 m2 => ∃ n', n' < n ∧ I n' e2 m2, ct := fun e2 m2 => ∃ n', n' < n ∧ I n' e2 m2, bk := D.nx, rt := D.rt }) ∧ (t = false → D.nx env m')) : wS X (.While c body [] pos) env m D :=
  wS_of (ps_while hp ptW pssW) fun σ H E he hm hE => by
    refine ⟨fun n σ' H' => ∃ m' env', Ext m H m' H' ∧ EnvOk X.K m' H' σ' env' ∧ MemOk X.K m' H' ∧ I n env' m', ⟨n0, m, env, Ext.refl, he, hm, h0⟩, ?_⟩
    rintro n σ2 H2 ⟨m2, env2, e2, he2, hm2, hi⟩
    refine hs n env2 m2 hi σ2 H2 _ he2 hm2 fun t m3 H3 e3 hm3 ⟨h1, h2⟩ => ?_
    have e23 := e2.trans e3
    cases t with
    | true =>
      refine iteT ⟨fun σ4 H4 => ∃ n', n' < n ∧ ∃ m4 env4, Ext m H m4 H4 ∧ EnvOk X.K m4 H4 σ4 env4 ∧ MemOk X.K m4 H4 ∧ I n' env4 m4, fun σ4 H4 h4 => h4, ?_⟩
      refine h1 rfl σ2 H3 _ (he2.mono e3) hm3 ?_
      exact ⟨fun σ5 env5 m5 H5 e5 he5 hm5 ⟨n', hn, h5⟩ => ⟨n', hn, m5, env5, e23.trans e5, he5, hm5, h5⟩, fun v5 d5 m5 H5 e5 => hE.rt v5 d5 m5 H5 (e23.trans e5), fun σ5 env5 m5 H5 e5 => hE.nx σ5 env5 m5 H5 (e23.trans e5),
        fun σ5 env5 m5 H5 e5 he5 hm5 ⟨n', hn, h5⟩ => ⟨n', hn, m5, env5, e23.trans e5, he5, hm5, h5⟩⟩
    | false => exact iteF (hE.nx σ2 env2 m3 H3 e23 (he2.mono e3) hm3 (h2 rfl))
end
end DW

set_option Elab.async false
set_option linter.all false
set_option maxRecDepth 100000
set_option maxHeartbeats 1000000
namespace DW
variable [TabsC]
open PySem PySem.Spec PyProof.Rows L2

/-! ### defs -/
abbrev DSp := Me → List Dat → (Dat → Me → Prop) → Prop
def spD (K : PySem.W.Frag) (n : Nat) (w : DSp) : Sp := fun vs H Q _ => vs.length = n ∧ ∃ m ds k, MemOk K m H ∧ DVs K m H vs ds ∧ w m ds k ∧ ∀ v d m' H', Ext m H m' H' → MemOk K m' H' → DV K m' H' v d → k d m' → Q v H'
def env0 (N : List Str) (ds : List Dat) : DEnv := ds.map some ++ List.replicate (N.length - ds.length) none
theorem envOk0 {K : PySem.W.Frag} {m : Me} {H : Hp} {N : List Str} {vs : List V} {ds : List Dat} (h : DVs K m H vs ds) : EnvOk K m H (L2.start N vs) (env0 N ds) := by
  have l := h.len
  refine ⟨by unfold L2.start env0; simp [l], fun i d hd => ?_⟩
  unfold env0 at hd
  by_cases hi : i < ds.length
  · rw [List.getElem?_append_left (by simpa using hi), List.getElem?_map] at hd
    cases q : ds[i]? with
    | none => rw [q] at hd; cases hd
    | some d' =>
      rw [q] at hd
      cases hd
      obtain ⟨v, hv, dv⟩ := h.get q
      refine ⟨v, ?_, dv⟩
      unfold L2.start
      rw [List.getElem?_append_left (by simpa [l] using hi), List.getElem?_map, hv]
      rfl
  · rw [List.getElem?_append_right (by simpa using hi), List.getElem?_replicate] at hd
    split at hd <;> cases hd
section
variable {P : Program} {w : World} {K : PySem.W.Frag} {mg : Str → Option Value} {base : Heap}
abbrev bX (P : Program) (w : World) (K : PySem.W.Frag) (mg : Str → Option Value) (base : Heap) (N : List Str) (qual : Str) (st : Stmt) (f : Addr) (cdv : Value) (A : Around) (outer : List Env) (s : Shared) (H : Hp) (E : XK) : Cx :=
  (cxOf CX0 P w K mg base N qual (defScope st) f cdv A outer s H E).nox
/-- a def that raises nothing -/
theorem fnD {x qual : Str} {st : Stmt} {f : Addr} {fd : FuncData} {N ps : List Str} {k : Nat} {sp : DSp} (F : Fun K x qual st f fd) (S : FnScope N ps (defScope st))
    (hb : ∀ (cdv : Value) (A : Around) (outer : List Env) (s : Shared) (H : Hp) (E : XK), RoomG k (bX P w K mg base N qual st f cdv A outer s H E).A → ∀ m ds kk, sp m ds kk → ds.length = ps.length →
      wSs (bX P w K mg base N qual st f cdv A outer s H E) (defBody st) (env0 N ds) m { nx := fun _ m' => kk (.d .none) m', rt := kk }) : FnG P w K mg base CX0 (k + 1) f fd ps (spD K ps.length sp) := by
  refine fnG_of F S (fun vs H Q E h => h.1) (fun cdv A outer s H vs Q E hr ⟨hl, m, ds, kk, hm, dvs, hw, hq⟩ => ?_)
  refine ⟨_, (pssW (X := bX P w K mg base N qual st f cdv A outer s H E)).nox, ?_⟩
  refine hb cdv A outer s H E hr m ds kk hw (by rw [← dvs.len]; exact hl) _ H _ (envOk0 dvs) hm ?_
  exact ⟨fun σ env m' H' e1 he hm1 hk => hq _ _ m' H' e1 hm1 dv_non hk, fun v d m' H' => hq v d m' H', fun _ _ _ _ _ _ _ h => h, fun _ _ _ _ _ _ _ h => h⟩
end
section
variable {X : Cx} {env : DEnv} {m : Me} {k : Dat → Me → Prop} {pos p : Pos} {e : Expr} {es : List Expr} {x : Str} {n j : Nat} {f : Addr} {fd : FuncData} {ps ks : List Str} {sp : DSp} {kws : List Keyword}
theorem wE_call (F : FnG X.prog X.w X.K X.mg X.base CX0 j f fd ps (spD X.K n sp)) (hr : RoomG j X.A) (hg : Gl X x) (hm0 : X.mg x = some (.ref f)) (hk : PySem.W.keepIn X.K (.ref f) = true) (hb : Binds X.K fd ps [])
    (h : wA X (e :: es) env m fun ds m1 => ds.length = n ∧ sp m1 ds k) (hdb : (x == ("__debug__" : Str)) = false := by decide)
    (hs : starEach (e :: es) X.env = (false, eval e X.env) :: starEach es X.env := by rfl) (hpl : (backTo pos (starEach es X.env)).any (·.1) = false := by rfl) : wE X (.Call (.Name x p) (e :: es) [] pos) env m k :=
  wE_of (pe_callG F hr hg hm0 hk hb .nil pass0 paW hdb hs hpl) fun σ H Q he hm hq => h σ H _ he hm fun vs ds m1 H1 e1 hm1 dvs ⟨hl, hw⟩ => by
    rw [List.append_nil]
    exact ⟨by rw [dvs.len]; exact hl, m1, ds, k, hm1, dvs, hw, fun v d m' H' e2 => hq v d m' H' (e1.trans e2)⟩
/-! keywords -/
def kW (X : Cx) (kws : List Keyword) : TA := fun σ H Q => ∀ pos pins s, Inv X pins σ H s → wpAny (model X.prog X.w) X.A (evalAll ((backToKw pos (keywordEach kws X.env)).map (·.2))) (AP X pins σ Q) X.xe s
theorem pkW {kws : List Keyword} : PK X kws (kW X kws) := ⟨fun pos pins s _ _ _ I h => h pos pins s I⟩
def wK (X : Cx) (kws : List Keyword) (env : DEnv) (m : Me) (k : List Dat → Me → Prop) : Prop :=
  ∀ (σ : L2.St) (H : Hp) (Q : List V → Hp → Prop), EnvOk X.K m H σ env → MemOk X.K m H → (∀ vs ds m' H', Ext m H m' H' → MemOk X.K m' H' → DVs X.K m' H' vs ds → k ds m' → Q vs H') → kW X kws σ H Q
variable {ka : List Dat → Me → Prop} {nm : Option Str}
theorem wK_nil (h : ka [] m) : wK X [] env m ka := fun σ H Q he hm hq pos pins s I => pk_nil.run pos pins s σ H Q I (hq [] [] m H Ext.refl hm .nil h)
theorem wK_cons (h : wE X e env m fun d m1 => wK X kws env m1 fun ds m2 => ka (d :: ds) m2) : wK X (⟨nm, e, p⟩ :: kws) env m ka := fun σ H Q he hm hq pos pins s I =>
  (pk_cons peW pkW).run pos pins s σ H Q I (h σ H _ he hm fun v d m1 H1 e1 hm1 dv h1 => h1 σ H1 _ (he.mono e1) hm1 fun vs ds m2 H2 e2 hm2 dvs h2 => hq (v :: vs) (d :: ds) m2 H2 (e1.trans e2) hm2 (.cons (dv.mono e2) dvs) h2)
def gK {α : Type} : List α → List α → List α
  | [], ws => ws
  | _ :: _, _ => []
theorem kbinds_of {K : PySem.W.Frag} {fd : FuncData} {ps : List Str} (h : ∀ (s : Shared) (ws : List Value), ws.length = ps.length → BindsTo s fd ⟨[], ps.zip ws⟩ (ps.zip ws)) (hp : 0 < ps.length) : KBinds K fd ps ps gK gK where
  to := fun s us ws _ hl => by
    cases us with
    | nil => exact h s ws hl
    | cons u r => exact absurd hl (by show (0 : Nat) ≠ _; omega)
  rel := fun {vs us zs ws} r q => by
    cases r with
    | nil => exact q
    | cons _ _ => exact .nil
/-- f(k = v, ..): the keywords stand in the parameters' order -/
theorem wE_callK (F : FnG X.prog X.w X.K X.mg X.base CX0 j f fd ps (spD X.K n sp)) (hr : RoomG j X.A) (hg : Gl X x) (hm0 : X.mg x = some (.ref f)) (hk : PySem.W.keepIn X.K (.ref f) = true)
    (hb : KBinds X.K fd ps ks gK gK) (h : wK X kws env m fun ds m1 => ds.length = n ∧ sp m1 ds k)
    (hall : (backToKw pos (keywordEach kws X.env)).all (·.1.isSome) = true := by rfl) (hks : (backToKw pos (keywordEach kws X.env)).filterMap (·.1) = ks := by rfl) (hdb : (x == ("__debug__" : Str)) = false := by decide)
    (hpl : ((backTo pos (starEach [] X.env)).any (·.1) || (backToKw pos (keywordEach kws X.env)).any (·.1.isNone)) = false := by rfl) : wE X (.Call (.Name x p) [] kws pos) env m k :=
  wE_of (pe_callK0G F hr hg hm0 hk hb pass0 pkW hall hks hdb hpl) fun σ H Q he hm hq => h σ H _ he hm fun vs ds m1 H1 e1 hm1 dvs ⟨hl, hw⟩ =>
    ⟨(show vs.length = n from by rw [dvs.len]; exact hl), m1, ds, k, hm1, dvs, hw, fun v d m' H' e2 => hq v d m' H' (e1.trans e2)⟩
end

/-! ### statements that change lists -/
section
variable {X : Cx} {env : DEnv} {m : Me} {pos p apos cpos : Pos} {o e i : Expr} {D : DE} {sts : List Stmt}
theorem dv_ref {K : PySem.W.Frag} {m : Me} {H : Hp} {v u : V} (h : DV K m H v (.r u)) : v = u := h
theorem own_tyV {K : PySem.W.Frag} {m : Me} {H : Hp} {l : Addr} {xs : List PyData} (hm : MemOk K m H) (hl : m.ls.lookup l = some xs) : tyV K "list" (.ref l) H := by
  obtain ⟨vs, e1, _⟩ := hm.own l xs (lookup_mem hl)
  exact .inl ⟨rfl, vs, SqL.of e1⟩
theorem wS_append (h : wE X o env m fun d m1 => ∃ l xs, d = .r (.ref l) ∧ m1.ls.lookup l = some xs ∧ wE X e env m1 fun d2 m2 => ∃ (y : PyData) (r : List (Addr × List PyData)) (ys : List PyData), d2 = .d y ∧ m2.ls = (l, ys) :: r ∧ ys.length < 100000 ∧ D.nx env ⟨m2.p, m2.n, (l, ys ++ [y]) :: r⟩)
    (hbase : attributeBase o "append" X.env (eval o X.env) = eval o X.env := by rfl)
    (hfew : ((backTo cpos (starEach [e] X.env)).all (fun x => !x.1) && (backToKw cpos (keywordEach [] X.env)).all (fun x => x.1.isSome) && decide (([e] : List Expr).length + ([] : List Keyword).length + (if ([] : List Keyword).isEmpty then 0 else 1) < 30)) = true := by rfl)
    (hline : (apos.endLine == cpos.line) = true := by rfl) (hs : starEach [e] X.env = (false, eval e X.env) :: starEach [] X.env := by rfl) (hplain : (backTo cpos (starEach [] X.env)).any (·.1) = false := by rfl)
    (hsw : swapsWith (.Call (.Attribute o "append" apos) [e] [] cpos) none pos.line X.env = pure false := by rfl) : wS X (.Expr (.Call (.Attribute o "append" apos) [e] [] cpos) pos) env m D :=
  wS_of (ps_expr (pe_bm PySem.F.plainAttrs_list PySem.F.slot_list_append PySem.F.type_list_append mt_append peW (pa_cons peW pa_nil hs) hbase hfew hline hs hplain) hsw) fun σ H E he hm hE =>
    h σ H _ he hm fun v d m1 H1 e1 hm1 dv ⟨l, xs, q1, hl, h2⟩ => by
      subst q1
      cases dv_ref dv
      refine ⟨own_tyV hm1 hl, h2 σ H1 _ (he.mono e1) hm1 ?_⟩
      rintro w d2 ⟨pp, nn, ll⟩ H2 e2 hm2 dw ⟨y, r, ys, rfl, em, hz, hk⟩
      obtain rfl : ll = (l, ys) :: r := em
      change D.nx env (Me.own ⟨pp, nn, r⟩ l (ys ++ [y])) at hk
      change MemOk X.K (Me.own ⟨pp, nn, r⟩ l ys) H2 at hm2
      obtain ⟨vs, w1, w2⟩ := own_at hm2
      obtain ⟨o1, o2⟩ := own_set (acc' := ys ++ [y]) hm2 (dpAll_append w2 (dpAll_one dw))
      exact ⟨l, vs, w, rfl, rfl, w1, Nat.lt_of_lt_of_le (by rw [dpAll_len w2]; exact hz) (by decide), hE.nx _ _ _ _ ((e1.trans e2).trans o2) (he.mono ((e1.trans e2).trans o2)) o1 hk⟩
theorem wS_extend (h : wE X o env m fun d m1 => ∃ l xs, d = .r (.ref l) ∧ m1.ls.lookup l = some xs ∧ wE X e env m1 fun d2 m2 => ∃ (b : Addr) (zs : List PyData) (r : List (Addr × List PyData)) (ys : List PyData), d2 = .r (.ref b) ∧ m2.ls = (b, zs) :: (l, ys) :: r ∧ ys.length + zs.length < 100000 ∧ D.nx env ⟨m2.p, m2.n, (l, ys ++ zs) :: r⟩)
    (hbase : attributeBase o "extend" X.env (eval o X.env) = eval o X.env := by rfl)
    (hfew : ((backTo cpos (starEach [e] X.env)).all (fun x => !x.1) && (backToKw cpos (keywordEach [] X.env)).all (fun x => x.1.isSome) && decide (([e] : List Expr).length + ([] : List Keyword).length + (if ([] : List Keyword).isEmpty then 0 else 1) < 30)) = true := by rfl)
    (hline : (apos.endLine == cpos.line) = true := by rfl) (hs : starEach [e] X.env = (false, eval e X.env) :: starEach [] X.env := by rfl) (hplain : (backTo cpos (starEach [] X.env)).any (·.1) = false := by rfl)
    (hsw : swapsWith (.Call (.Attribute o "extend" apos) [e] [] cpos) none pos.line X.env = pure false := by rfl) : wS X (.Expr (.Call (.Attribute o "extend" apos) [e] [] cpos) pos) env m D :=
  wS_of (ps_expr (pe_bm PySem.F.plainAttrs_list PySem.F.slot_list_extend PySem.F.type_list_extend mt_extend peW (pa_cons peW pa_nil hs) hbase hfew hline hs hplain) hsw) fun σ H E he hm hE =>
    h σ H _ he hm fun v d m1 H1 e1 hm1 dv ⟨l, xs, q1, hl, h2⟩ => by
      subst q1
      cases dv_ref dv
      refine ⟨own_tyV hm1 hl, h2 σ H1 _ (he.mono e1) hm1 ?_⟩
      rintro w d2 ⟨pp, nn, ll⟩ H2 e2 hm2 dw ⟨b, zs, r, ys, rfl, em, hz, hk⟩
      obtain rfl : ll = (b, zs) :: (l, ys) :: r := em
      change D.nx env (Me.own ⟨pp, nn, r⟩ l (ys ++ zs)) at hk
      change MemOk X.K (Me.own (Me.own ⟨pp, nn, r⟩ l ys) b zs) H2 at hm2
      cases dv_ref dw
      obtain ⟨us, u1, u2⟩ := own_at hm2
      obtain ⟨d1, d2, _⟩ := own_drop hm2
      obtain ⟨vs, w1, w2⟩ := own_at d1
      obtain ⟨o1, o2⟩ := own_set (acc' := ys ++ zs) d1 (dpAll_append w2 (dpAll_mono d2 _ _ u2))
      have e3 := ((e1.trans e2).trans d2).trans o2
      exact ⟨l, b, vs, us, rfl, rfl, w1, u1, szl (by rw [dpAll_len w2, dpAll_len u2]; omega), hE.nx _ _ _ _ e3 (he.mono e3) o1 hk⟩
theorem wS_setItem (h : wE X e env m fun d m1 => wE X o env m1 fun d1 m2 => wE X i env m2 fun d2 m3 => ∃ (y : PyData) (l : Addr) (j : Nat) (z : Int) (ys : List PyData) (r : List (Addr × List PyData)), d = .d y ∧ d1 = .r (.ref l) ∧ d2 = .d (.int z) ∧ m3.ls = (l, ys) :: r ∧ ixN ys.length z = some j ∧ D.nx env ⟨m3.p, m3.n, (l, ys.set j y) :: r⟩)
    (ha : ∀ v, assign (.Subscript o i pos) X.env v = (do
      let ov ← holding [v] (eval o X.env)
      let iv ← holding [v, ov] (eval i X.env)
      standAt pos
      holding [v, ov, iv] (setItem ov iv v)
      release [v, ov, iv] []) := by intro _; rfl)
    (hs : swapsWithSole [.Subscript o i pos] e p.line X.env = pure false := by rfl) (hw : swappedStores [.Subscript o i pos] e X.env = pure none := by rfl)
    (h1 : (assignEach [.Subscript o i pos] X.env).map (·.2) = [assign (.Subscript o i pos) X.env] := by rfl) : wS X (.Assign [.Subscript o i pos] e p) env m D :=
  wS_of (ps_asg peW (pg_sub peW peW set_list ha) hs hw h1) fun σ H E he hm hE => h σ H _ he hm fun v d m1 H1 e1 hm1 dv h1 => h1 σ H1 _ (he.mono e1) hm1 fun v2 d1 m2 H2 e2 hm2 dv2 h2 => h2 σ H2 _ (he.mono (e1.trans e2)) hm2 (by
    rintro v3 d2 ⟨pp, nn, ll⟩ H3 e3 hm3 dv3 ⟨y, l, j, z, ys, r, rfl, rfl, rfl, em, hj, hk⟩
    obtain rfl : ll = (l, ys) :: r := em
    change D.nx env (Me.own ⟨pp, nn, r⟩ l (ys.set j y)) at hk
    change MemOk X.K (Me.own ⟨pp, nn, r⟩ l ys) H3 at hm3
    cases dv_ref dv2
    cases dv3
    obtain ⟨vs, w1, w2⟩ := own_at hm3
    obtain ⟨o1, o2⟩ := own_set (acc' := ys.set j y) hm3 (dpAll_set (dp_mono (e2.trans e3) _ _ dv) j w2)
    have e4 := ((e1.trans e2).trans e3).trans o2
    exact ⟨l, vs, z, j, rfl, rfl, w1, by rw [dpAll_len w2]; exact hj, hE.nx _ _ _ _ e4 (he.mono e4) o1 hk⟩)
/-! what is hidden may be told otherwise -/
theorem wSs_ghost (h : ∀ H, MemOk X.K m H → ∃ m1, MemOk X.K m1 H ∧ Ext m H m1 H ∧ wSs X sts env m1 D) : wSs X sts env m D := fun σ H E he hm hE => by
  obtain ⟨m1, hm1, e1, h1⟩ := h H hm
  exact h1 σ H E (he.mono e1) hm1 (hE.mono e1)
def MTo (K : PySem.W.Frag) (m m' : Me) : Prop := ∀ H, MemOk K m H → MemOk K m' H ∧ Ext m H m' H
def DE.clo (K : PySem.W.Frag) (D : DE) : DE := { nx := fun e m => ∃ m', MTo K m m' ∧ D.nx e m', rt := fun d m => ∃ m', MTo K m m' ∧ D.rt d m', bk := fun e m => ∃ m', MTo K m m' ∧ D.bk e m', ct := fun e m => ∃ m', MTo K m m' ∧ D.ct e m' }
theorem wSs_clo (h : wSs X sts env m (D.clo X.K)) : wSs X sts env m D := fun σ H E he hm hE => h σ H E he hm
  ⟨fun σ env m1 H1 e1 he1 hm1 ⟨m2, t, hk⟩ => hE.nx σ env m2 H1 (e1.trans (t H1 hm1).2) (he1.mono (t H1 hm1).2) (t H1 hm1).1 hk,
   fun v d m1 H1 e1 hm1 dv ⟨m2, t, hk⟩ => hE.rt v d m2 H1 (e1.trans (t H1 hm1).2) (t H1 hm1).1 (dv.mono (t H1 hm1).2) hk,
   fun σ env m1 H1 e1 he1 hm1 ⟨m2, t, hk⟩ => hE.bk σ env m2 H1 (e1.trans (t H1 hm1).2) (he1.mono (t H1 hm1).2) (t H1 hm1).1 hk,
   fun σ env m1 H1 e1 he1 hm1 ⟨m2, t, hk⟩ => hE.ct σ env m2 H1 (e1.trans (t H1 hm1).2) (he1.mono (t H1 hm1).2) (t H1 hm1).1 hk⟩
theorem MTo.drop {K : PySem.W.Frag} {l : Addr} {xs : List PyData} : MTo K (m.own l xs) m := fun H hm => ⟨(own_drop hm).1, (own_drop hm).2.1⟩
theorem MTo.refl {K : PySem.W.Frag} : MTo K m m := fun H hm => ⟨hm, Ext.refl⟩
/-- the list at slot i changes no more -/
theorem wSs_free (i : Nat) {l : Addr} {xs : List PyData} (hi : env[i]? = some (some (.r (.ref l)))) (h : wSs X sts (env.set i (some (.d (.list xs)))) m D) : wSs X sts env (m.own l xs) D := fun σ H E he hm hE => by
  obtain ⟨d1, d2, d3⟩ := own_drop hm
  have he2 := he.mono d2
  refine h σ H E ?_ d1 (hE.mono d2)
  obtain ⟨v, hv, dv⟩ := he2.2 i _ hi
  cases dv_ref dv
  have q := he2.set i d3
  have es : σ.set i (some (V.ref l)) = σ := by
    apply List.ext_getElem?
    intro j
    by_cases hj : i = j
    · subst hj
      rw [List.getElem?_set_self (List.getElem?_eq_some_iff.mp hv).1, hv]
    · rw [List.getElem?_set_ne hj]
  rwa [es] at q
/-- the pot as a list -/
theorem pot_own {K : PySem.W.Frag} {H : Hp} {a : Addr} {n : Nat} {ls : List (Addr × List PyData)} (hm : MemOk K ⟨some a, n, ls⟩ H) : ∃ x y k : Int, 0 ≤ x ∧ x.natAbs < 2 ^ 1000 ∧ 0 ≤ y ∧ y < 2 ^ 62 ∧ 0 ≤ k ∧ k ≤ n ∧
    MemOk K ⟨none, n, (a, [.int x, .int y, .int k]) :: ls⟩ H ∧ Ext ⟨some a, n, ls⟩ H ⟨none, n, (a, [.int x, .int y, .int k]) :: ls⟩ H := by
  obtain ⟨x, y, k, e1, h1, h2, h3, h4, h5, h6⟩ := (hm.pot a rfl).at_
  have ex : Ext ⟨some a, n, ls⟩ H ⟨none, n, (a, [.int x, .int y, .int k]) :: ls⟩ H := fun b u hb => by
    obtain ⟨z, e⟩ := hid_some hb
    refine hid_of (fun q => z ?_) e (hid_nt hb) (hid_nb hb)
    rcases q with q | q
    · cases q
    · rcases List.mem_cons.mp q with q | q
      · exact .inl (by rw [q])
      · exact .inr q
  refine ⟨x, y, k, h1, h2, h3, h4, h5, h6, ⟨fun b hb => (by cases hb), fun b xs hb => ?_, fun b _ q => (by cases q), List.nodup_cons.mpr ⟨fun q => hm.sep a q rfl, hm.nd⟩, hm.tab⟩, ex⟩
  rcases List.mem_cons.mp hb with q | q
  · cases q
    exact ⟨_, e1, .cons (.int x) (.cons (.int y) (.cons (.int k) .nil))⟩
  · obtain ⟨vs, e2, r⟩ := hm.own b xs q
    exact ⟨vs, e2, dpAll_mono ex _ _ r⟩
theorem own_pot {K : PySem.W.Frag} {a : Addr} {n n' : Nat} {ls : List (Addr × List PyData)} {x y k : Int} (h1 : 0 ≤ x) (h2 : x.natAbs < 2 ^ 1000) (h3 : 0 ≤ y) (h4 : y < 2 ^ 62) (h5 : 0 ≤ k) (h6 : k ≤ n) :
    MTo K ⟨none, n', (a, [.int x, .int y, .int k]) :: ls⟩ ⟨some a, n, ls⟩ := fun H hm => by
  have ex : Ext ⟨none, n', (a, [.int x, .int y, .int k]) :: ls⟩ H ⟨some a, n, ls⟩ H := fun b u hb => by
    obtain ⟨z, e⟩ := hid_some hb
    refine hid_of (fun q => z (.inr ?_)) e (hid_nt hb) (hid_nb hb)
    rcases q with q | q
    · cases q; exact List.mem_cons_self
    · exact List.mem_cons_of_mem _ q
  obtain ⟨vs, w1, w2⟩ := hm.own a _ List.mem_cons_self
  have nd := List.nodup_cons.mp hm.nd
  refine ⟨⟨fun b hb => ?_, fun b xs hb => ?_, fun b hb q => ?_, nd.2, hm.tab⟩, ex⟩
  · cases hb
    have e := dpInts (ns := [x, y, k]) w2
    subst e
    exact ⟨x, y, k, w1, h1, h2, h3, h4, h5, h6⟩
  · obtain ⟨vs, e2, r⟩ := hm.own b xs (List.mem_cons_of_mem _ hb)
    exact ⟨vs, e2, dpAll_mono ex _ _ r⟩
  · cases q
    exact nd.1 hb
end
end DW

set_option Elab.async false
set_option linter.all false
set_option maxRecDepth 100000
set_option maxHeartbeats 1000000
namespace DW
variable [TabsC]
open PySem PySem.Spec PyProof.Rows L2

section
variable {X : Cx} {env : DEnv} {m : Me} {k : Dat → Me → Prop} {kb : Bool → Me → Prop} {a b c e : Expr} {es : List Expr} {pos p p2 : Pos} {x : Str}
theorem OpR.or {f : Value → Value → Sem Value} {r r' : R2} (h : OpR X f r) (h' : OpR X f r') : OpR X f (fun x y H Q => r x y H Q ∨ r' x y H Q) := fun pins s σ H x y v u Q I rx ry q => q.elim (h pins s σ H x y v u Q I rx ry) (h' pins s σ H x y v u Q I rx ry)
/-- ** of great ints -/
def CPowW (i j : Int) : Prop := 0 ≤ j ∧ ((i.natAbs.log2 : Int) + 1) * j ≤ 134217728
theorem op_powW : OpR X (binaryOp .Pow) (rI CPowW fun i j => .int (i ^ j.toNat)) := opI fun i j _ _ _ _ _ hc q => by
  refine pow_int hc.1 (Int.le_trans (Int.mul_le_mul_of_nonneg_right ?_ hc.1) hc.2) q
  unfold Builtin.Int.intBits
  split <;> omega
theorem wE_powW (h : wE X a env m fun dx m1 => wE X b env m1 fun dy m2 => fI CPowW (fun i j => .d (.int (i ^ j.toNat))) m2 dx dy fun d => k d m2) : wE X (.BinOp a .Pow b pos) env m k := wE_op op_powW (opD_I fun i j _ _ => dv_int) h
/-- + of texts -/
def fAddS (_ : Me) (dx dy : Dat) (k : Dat → Prop) : Prop := ∃ i j : Str, dx = .d (.str i) ∧ dy = .d (.str j) ∧ i.length + j.length ≤ 10000000 ∧ k (.d (.str (i ++ j)))
theorem opD_addS {K : PySem.W.Frag} : OpD K (fun x y H Q => ∃ i j, x = .str i ∧ y = .str j ∧ i.length + j.length ≤ sizeLine ∧ Q (.str (i ++ j)) H) fAddS := fun m H x y dx dy k Q hm h1 h2 ⟨i, j, e1, e2, hl, hk⟩ hq => by
  subst e1 e2
  cases h1
  cases h2
  exact ⟨i, j, rfl, rfl, szl hl, hq _ _ H (Same.refl _) dv_str hk⟩
theorem wE_addS (h : wE X a env m fun dx m1 => wE X b env m1 fun dy m2 => fAddS m2 dx dy fun d => k d m2) : wE X (.BinOp a .Add b pos) env m k := wE_op op_add_str opD_addS h
/-- + of lists -/
def fCat (m : Me) (dx dy : Dat) (k : Dat → Prop) : Prop := ∃ xs ys : List PyData, dx = .d (.list xs) ∧ dy = .d (.list ys) ∧ xs.length + ys.length ≤ 10000000 ∧ k (.d (.list (xs ++ ys)))
/-! ### parts of lists -/
def oW (X : Cx) (e : Option Expr) : TO := fun σ H Q => ∀ pins s, Inv X pins σ H s → wpAny (model X.prog X.w) X.A (evalPart e X.env) (fun u s' => ∃ o H', Inv X pins σ H' s' ∧ IsPart u o ∧ Q o H') X.xe s
theorem poW {e : Option Expr} : PO X e (oW X e) := ⟨fun pins s _ _ _ I h => h pins s I⟩
def wO (X : Cx) (e : Option Expr) (env : DEnv) (m : Me) (k : Option Int → Me → Prop) : Prop :=
  ∀ (σ : L2.St) (H : Hp) (Q : Option Int → Hp → Prop), EnvOk X.K m H σ env → MemOk X.K m H → (∀ o m' H', Ext m H m' H' → MemOk X.K m' H' → k o m' → Q o H') → oW X e σ H Q
variable {ko : Option Int → Me → Prop} {lo hi : Option Expr}
theorem wO_none (h : ko none m) : wO X none env m ko := fun σ H Q he hm hq pins s I => po_none.run pins s σ H Q I (hq none m H Ext.refl hm h)
theorem wO_some (h : wE X e env m fun d m1 => ∃ i, d = .d (.int i) ∧ ko (some i) m1) : wO X (some e) env m ko := fun σ H Q he hm hq pins s I => (po_some peW).run pins s σ H Q I (h σ H _ he hm fun v d m1 H1 e1 hm1 dv ⟨i, q, hk⟩ => by
  subst q
  cases dv
  exact ⟨i, rfl, hq _ m1 H1 e1 hm1 hk⟩)
def cutD (xs : List PyData) (lo hi : Option Int) : List PyData := (xs.drop (HT.sIx xs.length 0 lo)).take (HT.sIx xs.length xs.length hi - HT.sIx xs.length 0 lo)
theorem dpAll_drop {K : PySem.W.Frag} {H : Hp} : ∀ {ds : List PyData} {vs : List V} (n : Nat), DpAll K H vs ds → DpAll K H (vs.drop n) (ds.drop n)
  | _, _, 0, h => h
  | [], _, n + 1, .nil => .nil
  | _ :: _, _, n + 1, .cons _ t => dpAll_drop n t
theorem dpAll_take {K : PySem.W.Frag} {H : Hp} : ∀ {ds : List PyData} {vs : List V} (n : Nat), DpAll K H vs ds → DpAll K H (vs.take n) (ds.take n)
  | [], _, 0, .nil => .nil
  | _ :: _, _, 0, .cons _ _ => .nil
  | [], _, n + 1, .nil => .nil
  | _ :: _, _, n + 1, .cons h t => .cons h (dpAll_take n t)
theorem dpAll_cut {K : PySem.W.Frag} {H : Hp} {ds : List PyData} {vs : List V} {lo hi : Option Int} (h : DpAll K H vs ds) : DpAll K H (cutV vs lo hi) (cutD ds lo hi) := by
  unfold cutV cutD
  rw [dpAll_len h]
  exact dpAll_take _ (dpAll_drop _ h)
theorem wE_slL (h : wE X a env m fun d m1 => ∃ xs, d = .d (.list xs) ∧ wO X lo env m1 fun l m2 => wO X hi env m2 fun u m3 => k (.d (.list (cutD xs l u))) m3) : wE X (.Subscript a (.Slice lo hi none p2) pos) env m k :=
  wE_of (pe_slice sl_list peW poW poW) fun σ H Q he hm hq => h σ H _ he hm fun v d m1 H1 e1 hm1 dv ⟨xs, q, h1⟩ => h1 σ H1 _ (he.mono e1) hm1 fun l m2 H2 e2 hm2 h2 => h2 σ H2 _ (he.mono (e1.trans e2)) hm2 fun u m3 H3 e3 hm3 hk => by
    subst q
    have dv3 := dv.mono (e2.trans e3)
    cases dv3 with
    | @lst ad ws _ hs ha =>
      refine ⟨_, _, rfl, hid_sub.seq hs, fun p hp => ?_⟩
      have s := same_new (o := .lst (cutV ws l u)) hp
      exact hq _ (.d (.list (cutD xs l u))) m3 _ (((e1.trans e2).trans e3).trans (Ext.of s)) (hm3.mono s) (Dp.lst (SqL.of (same_hid hm3 hp)) (dpAll_mono (Ext.of s) _ _ (dpAll_cut ha))) hk
theorem wE_slS (h : wE X a env m fun d m1 => ∃ z : Str, d = .d (.str z) ∧ z.length ≤ 10000000 ∧ wO X lo env m1 fun l m2 => wO X hi env m2 fun u m3 => k (.d (.str (cutS z l u))) m3) : wE X (.Subscript a (.Slice lo hi none p2) pos) env m k :=
  wE_of (pe_slice sl_str peW poW poW) fun σ H Q he hm hq => h σ H _ he hm fun v d m1 H1 e1 hm1 dv ⟨z, q, hl, h1⟩ => h1 σ H1 _ (he.mono e1) hm1 fun l m2 H2 e2 hm2 h2 => h2 σ H2 _ (he.mono (e1.trans e2)) hm2 fun u m3 H3 e3 hm3 hk => by
    subst q
    cases dv
    exact ⟨z, rfl, szl hl, hq _ _ m3 H3 ((e1.trans e2).trans e3) hm3 dv_str hk⟩
/-- list(range(n)) -/
theorem rg_dp {K : PySem.W.Frag} {H : Hp} : ∀ (lo : Int) (l : List Nat), DpAll K H (l.map fun i => V.int (lo + (i : Nat))) (l.map fun i : Nat => PyData.int (lo + (i : Int)))
  | lo, [] => .nil
  | lo, i :: r => .cons (.int _) (rg_dp lo r)
theorem wE_listRg1 (hc : X.calm = true) (hg : Gl X "list") (hm0 : X.mg "list" = none) (hg1 : Gl X "range") (hm1 : X.mg "range" = none) (h : wE X a env m fun d m1 => ∃ n : Int, d = .d (.int n) ∧ (-1000000 ≤ n ∧ n ≤ 10000000) ∧ k (.d (.list (upto 0 n.toNat))) m1)
    (na : starEach [a] X.env = (false, eval a X.env) :: starEach [] X.env := by rfl) (ne : starEach [Expr.Call (.Name "range" p2) [a] [] p] X.env = (false, eval (Expr.Call (.Name "range" p2) [a] [] p) X.env) :: starEach [] X.env := by rfl) {p3 : Pos} :
    wE X (.Call (.Name "list" p3) [.Call (.Name "range" p2) [a] [] p] [] pos) env m k :=
  wE_of (pe_listRg hc hg hm0 (prg_1 hg1 hm1 peW na) ne) fun σ H Q he hm hq => h σ H _ he hm fun v d m1 H1 e1 hm1 dv ⟨n, q, hn, hk⟩ => by
    subst q
    cases dv
    refine ⟨n, rfl, ⟨by decide, by decide, by omega, by omega, by omega⟩, fun q hq' => ?_⟩
    have s := same_new (o := .lst (rgV 0 n)) hq'
    refine hq _ (.d (.list (upto 0 n.toNat))) m1 _ (e1.trans (Ext.of s)) (hm1.mono s) (Dp.lst (SqL.of (same_hid hm1 hq')) ?_) hk
    unfold rgV upto
    rw [Int.sub_zero]
    exact rg_dp 0 _
end
end DW

set_option Elab.async false
set_option linter.all false
set_option maxRecDepth 100000
set_option maxHeartbeats 1000000
namespace DW
variable [TabsC]
open PySem PySem.Spec PyProof.Rows L2

/-! ### short words for a text's proof -/
structure DefAt (K : PySem.W.Frag) (mg : Str → Option Value) (x : Str) (st : Stmt) (ps : List Str) (f : Addr) (fd : FuncData) : Prop where
  F : Fun K x x st f fd
  g : mg x = some (.ref f)
  b : Binds K fd ps []
section
variable {X : Cx} {env : DEnv} {m : Me} {k : Dat → Me → Prop} {kb : Bool → Me → Prop} {a b c e : Expr} {es : List Expr} {pos p p2 : Pos} {x : Str} {D : DE} {S : List Nat} {ke : DEnv → Prop} {d : Dat}
theorem v (i : Nat) {d : Dat} (hk : k d m) (hN : X.N[i]? = some x := by rfl) (hv : Vis X.env.scope x := by first | exact .inl rfl | exact .inr (.inl rfl) | exact .inr (.inr rfl)) (he : env[i]? = some (some d) := by rfl)
    (hd : (x == ("__debug__" : Str)) = false := by decide) (hcd : (x == ("__classdict__" : Str)) = false := by decide) : wE X (.Name x pos) env m k := wE_var i hN hv he hk hd hcd
theorem g (i : Nat) (hN : X.N.Nodup) (hk : ke (env.set i (some d))) (hi : X.N[i]? = some x := by rfl) (hx : Loc X.env.scope x := by first | exact .inl rfl | exact .inr rfl) (hS : i ∈ S := by decide)
    (hf : X.fn x = true ∨ X.env.scope.names.lookup x = some .local := by first | exact .inl rfl | exact .inr rfl) : wG X S (.Name x pos) env m d ke := wG_name i hN hi hx hk hS hf
theorem st (i : Nat) {p' : Pos} (hN : X.N.Nodup) (h : wE X e env m fun d m' => D.nx (env.set i (some d)) m') (hi : X.N[i]? = some x := by rfl) (hx : Loc X.env.scope x := by first | exact .inl rfl | exact .inr rfl)
    (hs : swapsWith e (some (.Name x p')) pos.line X.env = pure false := by rfl) (hf : X.fn x = true ∨ X.env.scope.names.lookup x = some .local := by first | exact .inl rfl | exact .inr rfl) : wS X (.Assign [.Name x p'] e pos) env m D := wS_set i hN hi hx h hs hf
end
def boolsOf : List PyData → Option (List Bool)
  | [] => some []
  | .bool b :: r => (boolsOf r).map (b :: ·)
  | _ :: _ => none
def intsOf : List PyData → Option (List Int)
  | [] => some []
  | .int b :: r => (intsOf r).map (b :: ·)
  | _ :: _ => none
def strsOf : List PyData → Option (List Str)
  | [] => some []
  | .str b :: r => (strsOf r).map (b :: ·)
  | _ :: _ => none
theorem boolsOf_eq : ∀ {xs : List PyData} {bs : List Bool}, boolsOf xs = some bs → xs = bs.map .bool
  | [], _, h => by cases h; rfl
  | .bool b :: r, bs, h => by
    unfold boolsOf at h
    cases q : boolsOf r with
    | none => rw [q] at h; cases h
    | some cs => rw [q] at h; cases h; rw [boolsOf_eq q]; rfl
theorem intsOf_eq : ∀ {xs : List PyData} {bs : List Int}, intsOf xs = some bs → xs = bs.map .int
  | [], _, h => by cases h; rfl
  | .int b :: r, bs, h => by
    unfold intsOf at h
    cases q : intsOf r with
    | none => rw [q] at h; cases h
    | some cs => rw [q] at h; cases h; rw [intsOf_eq q]; rfl
theorem strsOf_eq : ∀ {xs : List PyData} {bs : List Str}, strsOf xs = some bs → xs = bs.map .str
  | [], _, h => by cases h; rfl
  | .str b :: r, bs, h => by
    unfold strsOf at h
    cases q : strsOf r with
    | none => rw [q] at h; cases h
    | some cs => rw [q] at h; cases h; rw [strsOf_eq q]; rfl
theorem boolsOf_map {α : Type} (f : α → Bool) : ∀ xs : List α, boolsOf (xs.map fun x => .bool (f x)) = some (xs.map f)
  | [] => rfl
  | x :: r => by
    show (boolsOf (r.map fun x => .bool (f x))).map (f x :: ·) = _
    rw [boolsOf_map f r]
    rfl
def gAll (_ : Me) (ds : List Dat) (k : Dat → Prop) : Prop := ∃ (ys : List PyData) (bs : List Bool), ds = [.d (.list ys)] ∧ boolsOf ys = some bs ∧ k (.d (.bool (bs.all id)))
theorem callD_gAll {K : PySem.W.Frag} : CallD K (rAll K) gAll := fun m H vs ds k Q hm dvs ⟨ys, bs, e, e2, hk⟩ hq => callD_all m H vs ds k Q hm dvs ⟨bs, by rw [e, boolsOf_eq e2], hk⟩ hq
def gSum (_ : Me) (ds : List Dat) (k : Dat → Prop) : Prop := ∃ (ys : List PyData) (bs : List Int), ds = [.d (.list ys)] ∧ intsOf ys = some bs ∧ k (.d (.int bs.sum))
theorem callD_gSum {K : PySem.W.Frag} : CallD K (rSum K) gSum := fun m H vs ds k Q hm dvs ⟨ys, bs, e, e2, hk⟩ hq => callD_sum m H vs ds k Q hm dvs ⟨bs, by rw [e, intsOf_eq e2], hk⟩ hq
def gMin (_ : Me) (ds : List Dat) (k : Dat → Prop) : Prop := ∃ (ys : List PyData) (bs : List Int), ds = [.d (.list ys)] ∧ intsOf ys = some bs ∧ 0 < bs.length ∧ ∀ v, v ∈ bs → (∀ y, y ∈ bs → v ≤ y) → k (.d (.int v))
theorem callD_gMin {K : PySem.W.Frag} : CallD K (rMin K) gMin := fun m H vs ds k Q hm dvs ⟨ys, bs, e, e2, hl, hk⟩ hq => callD_min m H vs ds k Q hm dvs ⟨bs, by rw [e, intsOf_eq e2], hl, hk⟩ hq
def gMax (_ : Me) (ds : List Dat) (k : Dat → Prop) : Prop := ∃ (ys : List PyData) (bs : List Int), ds = [.d (.list ys)] ∧ intsOf ys = some bs ∧ 0 < bs.length ∧ ∀ v, v ∈ bs → (∀ y, y ∈ bs → y ≤ v) → k (.d (.int v))
theorem callD_gMax {K : PySem.W.Frag} : CallD K (rMax K) gMax := fun m H vs ds k Q hm dvs ⟨ys, bs, e, e2, hl, hk⟩ hq => callD_max m H vs ds k Q hm dvs ⟨bs, by rw [e, intsOf_eq e2], hl, hk⟩ hq
theorem cmul {i j : Int} (h1 : -(2 ^ 64) < i) (h2 : i < 2 ^ 64) (h3 : -(2 ^ 64) < j) (h4 : j < 2 ^ 64) : CMulW i j :=
  wide_mul (a := 64) (b := 64) (by omega) (by omega) (by decide) (by decide) (by decide)
theorem cdiv {i j : Int} (h1 : 0 < j) (h2 : j < 2 ^ 64) : CDivW i j := wide_div (b := 64) h1 (by omega) (by decide) (by decide)
theorem cpow3 {i j : Int} (hj : j = 3) (h1 : -(2 ^ 64) < i) (h2 : i < 2 ^ 64) : CPowW i j := by
  subst hj
  refine ⟨by decide, ?_⟩
  have := PySem.Flt.log2_lt_of (n := i.natAbs) (k := 64) (by decide) (by omega)
  omega
/-- a def that is a function of data -/
def spP (f : List PyData → Option PyData) : DSp := fun m ds k => ∃ xs r, ds = xs.map .d ∧ f xs = some r ∧ k (.d r) m
theorem dats1 {d : Dat} {xs : List PyData} (h : [d] = xs.map Dat.d) : ∃ x, d = .d x ∧ xs = [x] := by
  match xs, h with
  | [x], h => cases h; exact ⟨x, rfl, rfl⟩
theorem forW_nil {X : Cx} {S : List Nat} {tg : Expr} {body : List Stmt} {D : DE} {env : DEnv} {m : Me} (h : D.nx env m) : forW X S tg body D [] env m := h
theorem forW_cons {X : Cx} {S : List Nat} {tg : Expr} {body : List Stmt} {D : DE} {env : DEnv} {m : Me} {x : PyData} {r : List PyData}
    (h : wG X S tg env m (.d x) fun env' => wSs X body env' m { nx := forW X S tg body D r, ct := forW X S tg body D r, bk := D.nx, rt := D.rt }) : forW X S tg body D (x :: r) env m := h
end DW

set_option Elab.async false
set_option linter.all false
set_option maxRecDepth 100000
set_option maxHeartbeats 1000000
namespace DW
variable [TabsC]
open PySem PySem.Spec PyProof.Rows L2

def tyInt : PyData → Bool
  | .int _ => true
  | .bool _ => true
  | _ => false
def tyBool : PyData → Bool
  | .bool _ => true
  | _ => false
def tyTuple : PyData → Bool
  | .tuple _ => true
  | _ => false
def tyStr : PyData → Bool
  | .str _ => true
  | _ => false
theorem kit_int : ∀ x : PyData, kitB (tyD x) "int" = some (tyInt x)
  | .none => (by decide +kernel : kitB "NoneType" "int" = some false)
  | .bool _ => (by decide +kernel : kitB "bool" "int" = some true)
  | .int _ => (by decide +kernel : kitB "int" "int" = some true)
  | .str _ => (by decide +kernel : kitB "str" "int" = some false)
  | .list _ => (by decide +kernel : kitB "list" "int" = some false)
  | .tuple _ => (by decide +kernel : kitB "tuple" "int" = some false)
  | .dict _ => (by decide +kernel : kitB "dict" "int" = some false)
theorem kit_bool : ∀ x : PyData, kitB (tyD x) "bool" = some (tyBool x)
  | .none => (by decide +kernel : kitB "NoneType" "bool" = some false)
  | .bool _ => (by decide +kernel : kitB "bool" "bool" = some true)
  | .int _ => (by decide +kernel : kitB "int" "bool" = some false)
  | .str _ => (by decide +kernel : kitB "str" "bool" = some false)
  | .list _ => (by decide +kernel : kitB "list" "bool" = some false)
  | .tuple _ => (by decide +kernel : kitB "tuple" "bool" = some false)
  | .dict _ => (by decide +kernel : kitB "dict" "bool" = some false)
theorem kit_tuple : ∀ x : PyData, kitB (tyD x) "tuple" = some (tyTuple x)
  | .none => (by decide +kernel : kitB "NoneType" "tuple" = some false)
  | .bool _ => (by decide +kernel : kitB "bool" "tuple" = some false)
  | .int _ => (by decide +kernel : kitB "int" "tuple" = some false)
  | .str _ => (by decide +kernel : kitB "str" "tuple" = some false)
  | .list _ => (by decide +kernel : kitB "list" "tuple" = some false)
  | .tuple _ => (by decide +kernel : kitB "tuple" "tuple" = some true)
  | .dict _ => (by decide +kernel : kitB "dict" "tuple" = some false)
theorem kit_str : ∀ x : PyData, kitB (tyD x) "str" = some (tyStr x)
  | .none => (by decide +kernel : kitB "NoneType" "str" = some false)
  | .bool _ => (by decide +kernel : kitB "bool" "str" = some false)
  | .int _ => (by decide +kernel : kitB "int" "str" = some false)
  | .str _ => (by decide +kernel : kitB "str" "str" = some true)
  | .list _ => (by decide +kernel : kitB "list" "str" = some false)
  | .tuple _ => (by decide +kernel : kitB "tuple" "str" = some false)
  | .dict _ => (by decide +kernel : kitB "dict" "str" = some false)
theorem callD_gcd {K : PySem.W.Frag} : CallD K rGcd (fI2 fun a b => ((Nat.gcd a.natAbs b.natAbs : Nat) : Int)) := callD_I2 (g := fun a b => ((Nat.gcd a.natAbs b.natAbs : Nat) : Int))
/-! ### the program's words as functions of data -/
def isIntB (x : PyData) : Bool := tyInt x && !tyBool x
theorem isIntB_int {x : PyData} (h : isIntB x = true) : ∃ i, x = .int i := by
  cases x <;> first | exact ⟨_, rfl⟩ | cases h
def frB : PyData → Bool
  | .tuple [.int t, .int b] => decide (1 ≤ b) && decide (((Nat.gcd t.natAbs b.natAbs : Nat) : Int) = 1)
  | _ => false
def ptB : PyData → Bool
  | .tuple [a, b, c] => frB a && (frB b && frB c)
  | _ => false
def boxB : PyData → Bool
  | .tuple [.int a, .int b, .int c, .int d, .int e, .int f] => decide (a < b) && (decide (c < d) && decide (e < f))
  | _ => false
def cornerB : PyData → Bool
  | .tuple [.int _, .int _, .int _] => true
  | _ => false
def f1 (g : PyData → PyData) : List PyData → Option PyData
  | [x] => some (g x)
  | _ => none
def bx (a b c d e f : Int) : PyData := .tuple [.int a, .int b, .int c, .int d, .int e, .int f]
def fr (t b : Int) : PyData := .tuple [.int t, .int b]
def dAxes : List PyData → Option PyData
  | [.tuple [a, b, c, d, e, f]] => some (.tuple [.tuple [a, b], .tuple [c, d], .tuple [e, f]])
  | _ => none
/-- a law's def that is a test of what is handed in -/
def spChk (t : PyData → Bool) : DSp := fun m ds k => ∃ x, ds = [.d x] ∧ t x = true ∧ k (.d .none) m
theorem len_one {α : Type} {xs : List α} (h : xs.length = 1) : ∃ x, xs = [x] := by
  match xs, h with
  | [x], _ => exact ⟨x, rfl⟩
def spP1 (g : PyData → PyData) : DSp := fun m ds k => ∃ x, ds = [.d x] ∧ k (.d (g x)) m
end DW

set_option Elab.async false
set_option linter.all false
set_option maxRecDepth 100000
set_option maxHeartbeats 1000000
namespace DW
variable [TabsC]
open PySem PySem.Spec PyProof.Rows L2

theorem shapeT (n : Nat) (x : PyData) : (∃ xs, x = .tuple xs ∧ xs.length = n) ∨ (∃ xs, x = .tuple xs ∧ xs.length ≠ n) ∨ tyTuple x = false := by
  cases x with
  | tuple xs =>
    by_cases h : xs.length = n
    · exact .inl ⟨xs, rfl, h⟩
    · exact .inr (.inl ⟨xs, rfl, h⟩)
  | _ => exact .inr (.inr rfl)
theorem len2 {α : Type} {xs : List α} (h : xs.length = 2) : ∃ a b, xs = [a, b] := by
  match xs, h with
  | [a, b], _ => exact ⟨a, b, rfl⟩
theorem len3 {α : Type} {xs : List α} (h : xs.length = 3) : ∃ a b c, xs = [a, b, c] := by
  match xs, h with
  | [a, b, c], _ => exact ⟨a, b, c, rfl⟩
theorem len6 {α : Type} {xs : List α} (h : xs.length = 6) : ∃ a b c d e f, xs = [a, b, c, d, e, f] := by
  match xs, h with
  | [a, b, c, d, e, f], _ => exact ⟨a, b, c, d, e, f, rfl⟩
theorem frB_nt {x : PyData} (h : tyTuple x = false) : frB x = false := by
  cases x <;> first | rfl | cases h
theorem frB_len {xs : List PyData} (h : xs.length ≠ 2) : frB (.tuple xs) = false := by
  unfold frB
  split
  · rename_i t b e
    cases e
    exact absurd rfl h
  · rfl
theorem isIntB_of {x : PyData} (h : isIntB x = false) : ∀ i, x ≠ .int i := fun i e => by subst e; cases h
theorem frB_1 {a b : PyData} (h : isIntB a = false) : frB (.tuple [a, b]) = false := by
  unfold frB
  split
  · rename_i t b' e
    cases e
    cases h
  · rfl
theorem frB_2 {a b : PyData} (h : isIntB b = false) : frB (.tuple [a, b]) = false := by
  unfold frB
  split
  · rename_i t b' e
    cases e
    cases h
  · rfl
theorem ptB_nt {x : PyData} (h : tyTuple x = false) : ptB x = false := by
  cases x <;> first | rfl | cases h
theorem ptB_len {xs : List PyData} (h : xs.length ≠ 3) : ptB (.tuple xs) = false := by
  unfold ptB
  split
  · rename_i e
    cases e
    exact absurd rfl h
  · rfl
theorem boxB_nt {x : PyData} (h : tyTuple x = false) : boxB x = false := by
  cases x <;> first | rfl | cases h
theorem boxB_len {xs : List PyData} (h : xs.length ≠ 6) : boxB (.tuple xs) = false := by
  unfold boxB
  split
  · rename_i e
    cases e
    exact absurd rfl h
  · rfl
theorem cornerB_nt {x : PyData} (h : tyTuple x = false) : cornerB x = false := by
  cases x <;> first | rfl | cases h
theorem cornerB_len {xs : List PyData} (h : xs.length ≠ 3) : cornerB (.tuple xs) = false := by
  unfold cornerB
  split
  · rename_i e
    cases e
    exact absurd rfl h
  · rfl
theorem cornerB_eq (a b c : PyData) : cornerB (.tuple [a, b, c]) = (isIntB a && (isIntB b && (isIntB c && true))) := by
  cases a <;> cases b <;> cases c <;> rfl
theorem boxB_eq {a b c d e f : PyData} (h : (isIntB a && (isIntB b && (isIntB c && (isIntB d && (isIntB e && (isIntB f && true)))))) = false) : boxB (.tuple [a, b, c, d, e, f]) = false := by
  unfold boxB
  split
  · rename_i q
    cases q
    cases h
  · rfl
theorem six_ints {a b c d e f : PyData} (h : (isIntB a && (isIntB b && (isIntB c && (isIntB d && (isIntB e && (isIntB f && true)))))) = true) : ∃ a' b' c' d' e' f', a = .int a' ∧ b = .int b' ∧ c = .int c' ∧ d = .int d' ∧ e = .int e' ∧ f = .int f' := by
  simp only [Bool.and_eq_true] at h
  obtain ⟨h1, h2, h3, h4, h5, h6, _⟩ := h
  obtain ⟨_, rfl⟩ := isIntB_int h1
  obtain ⟨_, rfl⟩ := isIntB_int h2
  obtain ⟨_, rfl⟩ := isIntB_int h3
  obtain ⟨_, rfl⟩ := isIntB_int h4
  obtain ⟨_, rfl⟩ := isIntB_int h5
  obtain ⟨_, rfl⟩ := isIntB_int h6
  exact ⟨_, _, _, _, _, _, rfl, rfl, rfl, rfl, rfl, rfl⟩
/-- the pot is drawn from -/
def spTake : DSp := fun m ds k => ∃ a u, ds = [.r (.ref a), .d (.int u)] ∧ m.p = some a ∧ (0 < u ∧ u < 2 ^ 60) ∧ m.n < 100000 ∧ ∀ i : Int, 0 ≤ i → i < u → k (.d (.int i)) (m.drawn 1)
end DW
namespace DW
variable [TabsC]
open PySem PySem.Spec PyProof.Rows L2
theorem frB_end {kk : Dat → Me → Prop} {m : Me} {t q : Int} (hk : kk (.d (.bool (frB (.tuple [.int t, .int q])))) m) {c : Bool} (ht : decide (1 ≤ q) = c) :
    (c = true → kk (.d (.bool (id (decide (((Nat.gcd t.natAbs q.natAbs : Nat) : Int) = 1))))) m) ∧ (c = false → kk (.d (.bool false)) m) := by
  have hk2 : kk (.d (.bool (decide (1 ≤ q) && decide (((Nat.gcd t.natAbs q.natAbs : Nat) : Int) = 1)))) m := hk
  rw [ht] at hk2
  refine ⟨fun e => ?_, fun e => ?_⟩
  · subst e; exact hk2
  · subst e; exact hk2
theorem all3 (a b c : Bool) : [a, b, c].all id = (a && (b && c)) := by cases a <;> cases b <;> cases c <;> rfl
theorem ptB_end {kk : Dat → Me → Prop} {m : Me} {a b c : PyData} (hk : kk (.d (.bool (ptB (.tuple [a, b, c])))) m) : kk (.d (.bool ([frB a, frB b, frB c].all id))) m := by
  rw [all3]; exact hk
theorem boxB_end {kk : Dat → Me → Prop} {m : Me} {a b c d e f : Int} (hk : kk (.d (.bool (boxB (.tuple [.int a, .int b, .int c, .int d, .int e, .int f])))) m) : kk (.d (.bool ([decide (a < b), decide (c < d), decide (e < f)].all id))) m := by
  rw [all3]; exact hk
theorem dAxes_inv {xs : List PyData} {r : PyData} (h : dAxes xs = some r) : ∃ a b c d e f, xs = [.tuple [a, b, c, d, e, f]] ∧ r = .tuple [.tuple [a, b], .tuple [c, d], .tuple [e, f]] := by
  unfold dAxes at h
  split at h
  · cases h; exact ⟨_, _, _, _, _, _, rfl, rfl⟩
  · cases h
end DW

set_option Elab.async false
set_option linter.all false
set_option maxRecDepth 100000
set_option maxHeartbeats 1000000
namespace DW
variable [TabsC]
open PySem PySem.Spec PyProof.Rows L2
/-! ### comprehensions of two clauses -/
def lcD (D : Addr) (step : Me → PyData → (Dat → Me → Prop) → Prop) : List PyData → List PyData → Me → (List PyData → Me → Prop) → Prop
  | [], acc, m, k => k acc m
  | x :: r, acc, m, k => step (m.own D acc) x fun d m' => ∃ y m2, d = .d y ∧ m' = Me.own m2 D acc ∧ lcD D step r (acc ++ [y]) m2 k
section
variable {X : Cx} {env : DEnv} {m : Me} {k : Dat → Me → Prop} {pos : Pos} {scope : Scope} {tg iter elt tg1 iter1 : Expr}
def stepI (X : Cx) (scope : Scope) (vs1 : List Nat) (tg1 elt : Expr) (env2 : DEnv) (m : Me) (y : PyData) (k : Dat → Me → Prop) : Prop :=
  ∀ s H C cl fp, wG (bk X scope s H C cl fp) vs1 tg1 (wipeE env2 vs1) m (.d y) fun env3 => ∀ s H C cl fp, wE (bk X scope s H C cl fp) elt env3 m k
def lc2W (X : Cx) (scope : Scope) (vs vs1 : List Nat) (tg tg1 iter1 elt : Expr) (env : DEnv) : List PyData → List PyData → Me → (List PyData → Me → Prop) → Prop
  | [], acc, m, k => k acc m
  | x :: r, acc, m, k => ∀ D, ∀ s H C cl fp, wG (bk X scope s H C cl fp) vs tg (wipeE env vs) (m.own D acc) (.d x) fun env2 => ∀ s H C cl fp, wI (bk X scope s H C cl fp) tg1 iter1 env2 (m.own D acc) fun ys m1 =>
      ∃ m2, m1 = Me.own m2 D acc ∧ acc.length + ys.length ≤ 10000000 ∧ lcD D (stepI X scope vs1 tg1 elt env2) ys acc m2 fun acc' m3 => acc'.length ≤ 10000000 ∧ lc2W X scope vs vs1 tg tg1 iter1 elt env r acc' m3 k
theorem lc2_nil {vs vs1 : List Nat} {acc : List PyData} {kk : List PyData → Me → Prop} (h : kk acc m) : lc2W X scope vs vs1 tg tg1 iter1 elt env [] acc m kk := h
theorem lc2_cons {vs vs1 : List Nat} {x : PyData} {r acc : List PyData} {kk : List PyData → Me → Prop}
    (h : ∀ D, ∀ s H C cl fp, wG (bk X scope s H C cl fp) vs tg (wipeE env vs) (m.own D acc) (.d x) fun env2 => ∀ s H C cl fp, wI (bk X scope s H C cl fp) tg1 iter1 env2 (m.own D acc) fun ys m1 =>
      ∃ m2, m1 = Me.own m2 D acc ∧ acc.length + ys.length ≤ 10000000 ∧ lcD D (stepI X scope vs1 tg1 elt env2) ys acc m2 fun acc' m3 => acc'.length ≤ 10000000 ∧ lc2W X scope vs vs1 tg tg1 iter1 elt env r acc' m3 kk) :
    lc2W X scope vs vs1 tg tg1 iter1 elt env (x :: r) acc m kk := h
theorem lcD_nil {D : Addr} {step : Me → PyData → (Dat → Me → Prop) → Prop} {acc : List PyData} {kk : List PyData → Me → Prop} (h : kk acc m) : lcD D step [] acc m kk := h
theorem lcD_cons {D : Addr} {step : Me → PyData → (Dat → Me → Prop) → Prop} {x : PyData} {r acc : List PyData} {kk : List PyData → Me → Prop}
    (h : step (m.own D acc) x fun d m' => ∃ y m2, d = .d y ∧ m' = Me.own m2 D acc ∧ lcD D step r (acc ++ [y]) m2 kk) : lcD D step (x :: r) acc m kk := h
theorem wE_lc2 (own : List (Str × Nat)) (vs1 : List Nat) (hc : X.calm = true) (hN : X.N.Nodup) (ok : BlkOk X.N X.env.scope scope own) (hv : ∀ i ∈ vs1, i ∈ own.map (·.2))
    (h : wI X tg iter env m fun xs m1 => lc2W X scope (own.map (·.2)) vs1 tg tg1 iter1 elt env xs [] m1 fun ys m2 => k (.d (.list ys)) m2) (hs : ∀ x, foldedSetIterable iter X.env x = pure x := by intro _; rfl) (hs1 : ∀ env x, foldedSetIterable iter1 env x = pure x := by intro _ _; rfl) :
    wE X (.ListComp elt [⟨tg, iter, [], 0⟩, ⟨tg1, iter1, [], 0⟩] scope pos) env m k :=
  wE_of (pe_lc2 hc hN piW ok hv pgB (fun _ _ _ _ _ => pts_nil) piB pgB (fun _ _ _ _ _ => pts_nil) peB hs hs1) fun σ H Q he hm hq => by
    refine h σ H _ he hm fun J xs m1 H1 e1 hm1 dit hk => fun D hD => ?_
    obtain ⟨s1, s2⟩ := own_ok (vs := []) (xs := []) hm1 hD .nil
    refine ⟨fun i n H' => n = xs.length - i ∧ i ≤ xs.length ∧ ∃ m' acc, acc.length ≤ 10000000 ∧ MemOk X.K (Me.own m' D acc) H' ∧ Ext m1 H1 (Me.own m' D acc) H' ∧ lc2W X scope (own.map (·.2)) vs1 tg tg1 iter1 elt env (xs.drop i) acc m' fun ys m2 => k (.d (.list ys)) m2,
      ⟨xs.length, rfl, Nat.zero_le _, m1, [], Nat.zero_le _, s1, s2, hk⟩, ?_⟩
    rintro i n H2 ⟨rfl, hi, m', acc, ha, hm2, e2, hk2⟩
    have dt := (dit.mono e2) (Me.own m' D acc) H2 Ext.refl hm2 i
    by_cases hlt : i < xs.length
    · have hx : xs[i]? = some xs[i] := List.getElem?_eq_getElem hlt
      obtain ⟨go, yl⟩ := dt.1 _ hx
      rw [List.drop_eq_getElem_cons hlt] at hk2
      refine .inr ⟨go, fun H3 => ∃ m3 acc3, acc3.length ≤ 10000000 ∧ MemOk X.K (Me.own m3 D acc3) H3 ∧ Ext m1 H1 (Me.own m3 D acc3) H3 ∧ lc2W X scope (own.map (·.2)) vs1 tg tg1 iter1 elt env (xs.drop (i + 1)) acc3 m3 fun ys m2 => k (.d (.list ys)) m2,
        fun H3 h3 => ⟨xs.length - (i + 1), by omega, rfl, hlt, h3⟩, fun v H3 y => ?_⟩
      obtain ⟨sm, dv⟩ := yl v H3 y
      have hm3 := hm2.mono sm
      have e3 : Ext m H (Me.own m' D acc) H3 := (e1.trans e2).trans (Ext.of sm)
      have e13 : Ext m1 H1 (Me.own m' D acc) H3 := e2.trans (Ext.of sm)
      intro s Hs C cl fp
      refine hk2 D s Hs C cl fp (L2.wipe σ (own.map (·.2))) H3 v _ ((he.mono e3).wipe _) hm3 dv ?_
      intro σ2 env2 eo ag hE
      refine ⟨wipe_agree ag, ?_⟩
      dsimp only [tYes]
      rw [if_pos rfl]
      intro s4 Hs4 C4 cl4 fp4
      refine hE s4 Hs4 C4 cl4 fp4 σ2 H3 _ eo hm3 ?_
      rintro J1 ys m4 H4 e4 hm4 dit1 ⟨m5, rfl, hz, hk5⟩
      refine ⟨fun j q H' => q = ys.length - j ∧ j ≤ ys.length ∧ ∃ m' acc', acc'.length + ys.length ≤ 10000000 + j ∧ MemOk X.K (Me.own m' D acc') H' ∧ Ext (Me.own m5 D acc) H4 (Me.own m' D acc') H' ∧ lcD D (stepI X scope vs1 tg1 elt env2) (ys.drop j) acc' m' fun acc' m3 => acc'.length ≤ 10000000 ∧ lc2W X scope (own.map (·.2)) vs1 tg tg1 iter1 elt env (xs.drop (i + 1)) acc' m3 fun ys m2 => k (.d (.list ys)) m2,
        ⟨ys.length, rfl, Nat.zero_le _, m5, acc, by omega, hm4, Ext.refl, hk5⟩, ?_⟩
      rintro j q H5 ⟨rfl, hj, m6, acc6, ha6, hm6, e6, hk6⟩
      have dt1 := (dit1.mono e6) (Me.own m6 D acc6) H5 Ext.refl hm6 j
      have e15 : Ext m1 H1 (Me.own m6 D acc6) H5 := (e13.trans e4).trans e6
      by_cases hlt1 : j < ys.length
      · have hy : ys[j]? = some ys[j] := List.getElem?_eq_getElem hlt1
        obtain ⟨go1, yl1⟩ := dt1.1 _ hy
        rw [List.drop_eq_getElem_cons hlt1] at hk6
        refine .inr ⟨go1, fun H' => ∃ m' acc', acc'.length + ys.length ≤ 10000000 + (j + 1) ∧ MemOk X.K (Me.own m' D acc') H' ∧ Ext (Me.own m5 D acc) H4 (Me.own m' D acc') H' ∧ lcD D (stepI X scope vs1 tg1 elt env2) (ys.drop (j + 1)) acc' m' fun acc' m3 => acc'.length ≤ 10000000 ∧ lc2W X scope (own.map (·.2)) vs1 tg tg1 iter1 elt env (xs.drop (i + 1)) acc' m3 fun ys m2 => k (.d (.list ys)) m2,
          fun H' h' => ⟨ys.length - (j + 1), by omega, rfl, hlt1, h'⟩, fun v1 H6 y1 => ?_⟩
        obtain ⟨sm1, dv1⟩ := yl1 v1 H6 y1
        have hm7 := hm6.mono sm1
        have e46 : Ext (Me.own m5 D acc) H4 (Me.own m6 D acc6) H6 := e6.trans (Ext.of sm1)
        intro s7 Hs7 C7 cl7 fp7
        refine hk6 s7 Hs7 C7 cl7 fp7 (L2.wipe σ2 vs1) H6 v1 _ (((eo.mono e4).mono e46).wipe _) hm7 dv1 ?_
        intro σ3 env3 eo3 ag3 hE3
        refine ⟨wipe_agree ag3, ?_⟩
        dsimp only [tYes]
        rw [if_pos rfl]
        intro s8 Hs8 C8 cl8 fp8
        refine hE3 s8 Hs8 C8 cl8 fp8 σ3 H6 _ eo3 hm7 ?_
        rintro w d m8 H8 e8 hm8 dw ⟨y', m9, rfl, rfl, hk9⟩
        obtain ⟨ws, w1, w2⟩ := own_at hm8
        obtain ⟨o1, o2⟩ := own_set (acc' := acc6 ++ [y']) hm8 (dpAll_append w2 (dpAll_one dw))
        have wl := dpAll_len w2
        exact ⟨ws, w1, Nat.lt_of_lt_of_le (by omega : ws.length < 10000001) (by decide), m9, acc6 ++ [y'], by simp; omega, o1, (e46.trans e8).trans o2, hk9⟩
      · have ej : j = ys.length := by omega
        rw [ej, List.drop_length] at hk6
        exact .inl ⟨dt1.2 (by omega), m6, acc6, hk6.1, hm6, e15, hk6.2⟩
    · have ei : i = xs.length := by omega
      have stop := dt.2 (by omega)
      rw [ei, List.drop_length] at hk2
      obtain ⟨d1, d2, d3⟩ := own_drop hm2
      exact .inl ⟨stop, hq _ _ m' H2 ((e1.trans e2).trans d2) d1 d3 hk2⟩
end
end DW

set_option Elab.async false
set_option linter.all false
set_option maxRecDepth 100000
set_option maxHeartbeats 1000000
namespace DW
variable [TabsC]
open PySem PySem.Spec PyProof.Rows L2
section
variable {X : Cx} {env : DEnv} {m : Me} {k : Dat → Me → Prop} {kb : Bool → Me → Prop} {a b : Expr} {pos : Pos}
def rInT (K : PySem.W.Frag) : R2 := fun x y H Q => ∃ d ds, Dp K H x d ∧ Dp K H y (.tuple ds) ∧ SeqAt.shaped d = true ∧ PyData.canLayAll0 ds = true ∧ Q (.bl (ds.any fun z => PyData.eqv z d)) H
theorem op_inT (hu : X.A.units + 65 < cLine) : OpR X (compareOp .In) (rInT X.K) := fun pins s σ H x y v u Q I rx ry ⟨d, ds, hd, he, sd, se, q⟩ => by
  obtain ⟨as, r1⟩ := Dp.reads I d x v hd rx
  obtain ⟨bs, r2⟩ := Dp.reads I (.tuple ds) y u he ry
  exact SeqAt.in_tuple_reads r2 r1 se (SeqAt.canLay_of_shaped sd) (room_in_shaped sd hu) ⟨.bl _, H, I, rfl, q⟩
def fInT (_ : Me) (dx dy : Dat) (k : Dat → Prop) : Prop := ∃ d ds, dx = .d d ∧ dy = .d (.tuple ds) ∧ SeqAt.shaped d = true ∧ PyData.canLayAll0 ds = true ∧ k (.d (.bool (ds.any fun z => PyData.eqv z d)))
theorem opD_inT {K : PySem.W.Frag} : OpD K (rInT K) fInT := fun m H x y dx dy k Q hm h1 h2 ⟨d, ds, e1, e2, sd, se, hk⟩ hq => by
  subst e1 e2
  exact ⟨d, ds, dp_mono hid_sub _ _ h1, dp_mono hid_sub _ _ h2, sd, se, hq _ _ H (Same.refl _) dv_bl hk⟩
theorem wT_inT (hu : X.A.units + 65 < cLine) (h : wE X a env m fun dx m1 => wE X b env m1 fun dy m2 => fInT m2 dx dy fun d => ∃ c, d = .d (.bool c) ∧ kb c m2) (hb : behindInMarks .In b = false := by rfl) : wT X (.Compare a [.In] [b] pos) env m kb :=
  wT_cmp (op_inT hu) opD_inT hb h
end
/-! ### points, boxes: what the defs are worth -/
def whAx (low high t b : Int) : Int := if low * b < t ∧ t < high * b then 1 else if low * b = t ∨ t = high * b then 0 else -1
theorem whAx_1 {low high t b : Int} (h1 : low * b < t) (h2 : t < high * b) : whAx low high t b = 1 := if_pos ⟨h1, h2⟩
theorem whAx_0 {low high t b : Int} (h : low * b = t ∨ t = high * b) : whAx low high t b = 0 := by
  unfold whAx
  rw [if_neg (by omega), if_pos h]
theorem whAx_m {low high t b : Int} (h0 : ¬ (low * b < t ∧ t < high * b)) (h1 : low * b ≠ t) (h2 : t ≠ high * b) : whAx low high t b = -1 := by
  unfold whAx
  rw [if_neg h0, if_neg (by omega)]
/-- small whole numbers -/
def Sm (i : Int) : Prop := -1000000 < i ∧ i < 1000000
theorem Sm.mul {i j : Int} (h : Sm i) (h' : Sm j) : CMulW i j := cmul (by have := h.1; omega) (by have := h.2; omega) (by have := h'.1; omega) (by have := h'.2; omega)
def spWhereOn : DSp := fun m ds k => ∃ low high t b, ds = [.d (.int low), .d (.int high), .d (fr t b)] ∧ (Sm low ∧ Sm high ∧ Sm t ∧ Sm b) ∧ k (.d (.int (whAx low high t b))) m
structure BoxN where
  x0 : Int
  x1 : Int
  y0 : Int
  y1 : Int
  z0 : Int
  z1 : Int
def BoxN.d (b : BoxN) : PyData := .tuple [.int b.x0, .int b.x1, .int b.y0, .int b.y1, .int b.z0, .int b.z1]
structure BoxN.Ok (b : BoxN) : Prop where
  x : b.x0 < b.x1
  y : b.y0 < b.y1
  z : b.z0 < b.z1
structure BoxN.Sml (b : BoxN) : Prop where
  x0 : Sm b.x0
  x1 : Sm b.x1
  y0 : Sm b.y0
  y1 : Sm b.y1
  z0 : Sm b.z0
  z1 : Sm b.z1
theorem BoxN.Ok.ok {b : BoxN} (h : b.Ok) : boxB b.d = true := by
  show (decide (b.x0 < b.x1) && (decide (b.y0 < b.y1) && decide (b.z0 < b.z1))) = true
  rw [decide_eq_true h.x, decide_eq_true h.y, decide_eq_true h.z]; rfl
structure PtN where
  a : Int
  a' : Int
  b : Int
  b' : Int
  c : Int
  c' : Int
def PtN.d (p : PtN) : PyData := .tuple [fr p.a p.a', fr p.b p.b', fr p.c p.c']
def FrOk (t b : Int) : Prop := 1 ≤ b ∧ Nat.gcd t.natAbs b.natAbs = 1
structure PtN.Ok (p : PtN) : Prop where
  a : FrOk p.a p.a'
  b : FrOk p.b p.b'
  c : FrOk p.c p.c'
  sa : Sm p.a ∧ Sm p.a'
  sb : Sm p.b ∧ Sm p.b'
  sc : Sm p.c ∧ Sm p.c'
theorem FrOk.ok {t b : Int} (h : FrOk t b) : frB (fr t b) = true := by
  show (decide (1 ≤ b) && decide (((Nat.gcd t.natAbs b.natAbs : Nat) : Int) = 1)) = true
  rw [decide_eq_true h.1, h.2]; rfl
theorem PtN.Ok.ok {p : PtN} (h : p.Ok) : ptB p.d = true := by
  show (frB (fr p.a p.a') && (frB (fr p.b p.b') && frB (fr p.c p.c'))) = true
  rw [h.a.ok, h.b.ok, h.c.ok]; rfl
def spWhere : DSp := fun m ds k => ∃ (b : BoxN) (p : PtN), ds = [.d b.d, .d p.d] ∧ b.Ok ∧ b.Sml ∧ p.Ok ∧ ∀ v, v ∈ [whAx b.x0 b.x1 p.a p.a', whAx b.y0 b.y1 p.b p.b', whAx b.z0 b.z1 p.c p.c'] → (∀ y, y ∈ [whAx b.x0 b.x1 p.a p.a', whAx b.y0 b.y1 p.b p.b', whAx b.z0 b.z1 p.c p.c'] → v ≤ y) → k (.d (.int v)) m
def clAx (a b c d : Int) : Bool := decide ((if c > a then c else a) < (if d < b then d else b))
def clB (s t : BoxN) : Bool := clAx s.x0 s.x1 t.x0 t.x1 && (clAx s.y0 s.y1 t.y0 t.y1 && clAx s.z0 s.z1 t.z0 t.z1)
def spClash : DSp := fun m ds k => ∃ s t : BoxN, ds = [.d s.d, .d t.d] ∧ s.Ok ∧ t.Ok ∧ k (.d (.bool (clB s t))) m
def volB (s : BoxN) : Int := 1 * (s.x1 - s.x0) * (s.y1 - s.y0) * (s.z1 - s.z0)
def spVolume : DSp := fun m ds k => ∃ s : BoxN, ds = [.d s.d] ∧ s.Ok ∧ s.Sml ∧ k (.d (.int (volB s))) m
def BoxN.mv (s : BoxN) (a b c : Int) : BoxN := ⟨s.x0 + a, s.x1 + a, s.y0 + b, s.y1 + b, s.z0 + c, s.z1 + c⟩
def spMoved : DSp := fun m ds k => ∃ (s : BoxN) (a b c : Int), ds = [.d s.d, .d (.tuple [.int a, .int b, .int c])] ∧ s.Ok ∧ k (.d (s.mv a b c).d) m
def dBoxOf : List PyData → Option PyData
  | [.list [.tuple [a, b], .tuple [c, d], .tuple [e, f]]] => some (.tuple [a, b, c, d, e, f])
  | _ => none
theorem dBoxOf_inv {xs : List PyData} {r : PyData} (h : dBoxOf xs = some r) : ∃ a b c d e f, xs = [.list [.tuple [a, b], .tuple [c, d], .tuple [e, f]]] ∧ r = .tuple [a, b, c, d, e, f] := by
  unfold dBoxOf at h
  split at h
  · cases h; exact ⟨_, _, _, _, _, _, rfl, rfl⟩
  · cases h
theorem Sm.sub {i j : Int} (h : Sm i) (h' : Sm j) : -2000000 < i - j ∧ i - j < 2000000 := by
  obtain ⟨h1, h2⟩ := h
  obtain ⟨h3, h4⟩ := h'
  omega
theorem mul2 {i j : Int} (h : -2000000 < i ∧ i < 2000000) (h' : -2000000 < j ∧ j < 2000000) : -4000000000000 < i * j ∧ i * j < 4000000000000 := by
  have h1 : i.natAbs < 2000000 := by omega
  have h2 : j.natAbs < 2000000 := by omega
  have h3 : i.natAbs * j.natAbs < 2000000 * 2000000 := Nat.mul_lt_mul'' h1 h2
  rw [← Int.natAbs_mul] at h3
  omega
theorem CMulW.of2 {i j : Int} (h : -4000000000000 < i ∧ i < 4000000000000) (h' : -4000000000000 < j ∧ j < 4000000000000) : CMulW i j := cmul (by omega) (by omega) (by omega) (by omega)
end DW

set_option Elab.async false
set_option linter.all false
set_option maxRecDepth 100000
set_option maxHeartbeats 1000000
namespace DW
variable [TabsC]
open PySem PySem.Spec PyProof.Rows L2
section
variable {X : Cx} {env : DEnv} {m : Me} {k : Dat → Me → Prop} {a b : Expr} {pos : Pos} {D : DE}
/-- a remainder as a letter -/
def fModL (_ : Me) (dx dy : Dat) (k : Dat → Prop) : Prop := ∃ i j, dx = .d (.int i) ∧ dy = .d (.int j) ∧ 0 < j ∧ ∀ r, 0 ≤ r → r < j → k (.d (.int r))
theorem wE_modL (h : wE X a env m fun dx m1 => wE X b env m1 fun dy m2 => fModL m2 dx dy fun d => k d m2) : wE X (.BinOp a .Mod b pos) env m k :=
  wE_mod (h.mono fun dx m1 h1 => h1.mono fun dy m2 ⟨i, j, e1, e2, hj, hk⟩ => ⟨i, j, e1, e2, hj, hk _ (Int.emod_nonneg _ (by omega)) (Int.emod_lt_of_pos _ hj)⟩)
theorem lookup_hd {α : Type} {l : Addr} {x : α} {r : List (Addr × α)} : ((l, x) :: r).lookup l = some x := by simp
theorem seq_hd {p : Option Addr} {n : Nat} {l : Addr} {xs : List PyData} {ls : List (Addr × List PyData)} : seqOf ⟨p, n, (l, xs) :: ls⟩ (.r (.ref l)) = some xs := lookup_hd
theorem forW_inv {S : List Nat} {tg : Expr} {body : List Stmt} (I : Nat → DEnv → Me → Prop) : ∀ {xs : List PyData} {i : Nat} {env : DEnv} {m : Me},
    (∀ (j : Nat) (x : PyData) env m, xs[j]? = some x → I (i + j) env m → wG X S tg env m (.d x) fun env' => wSs X body env' m { nx := I (i + j + 1), ct := I (i + j + 1), bk := D.nx, rt := D.rt }) →
    I i env m → (∀ env m, I (i + xs.length) env m → D.nx env m) → forW X S tg body D xs env m
  | [], i, env, m, _, h0, hd => hd env m h0
  | x :: r, i, env, m, h, h0, hd => by
    refine forW_cons ?_
    intro σ H v Q he hm dv hq
    refine h 0 x env m rfl h0 σ H v Q he hm dv fun σ' env' he' ag hb => hq σ' env' he' ag ?_
    have nxt : ∀ env m, I (i + 0 + 1) env m → forW X S tg body D r env m := fun env2 m2 h2 =>
      forW_inv I (fun j y env3 m3 hj h3 => by
        have q := h (j + 1) y env3 m3 (by simpa using hj) (by rw [show i + (j + 1) = i + 1 + j from by omega]; exact h3)
        rw [show i + (j + 1) + 1 = i + 1 + j + 1 from by omega] at q
        exact q) (i := i + 1) h2 (fun env3 m3 h3 => hd env3 m3 (by rw [List.length_cons, show i + (r.length + 1) = i + 1 + r.length from by omega]; exact h3))
    exact fun σ3 H3 E3 he3 hm3 hE3 => hb σ3 H3 E3 he3 hm3 ⟨fun σ env m H e1 e2 e3 e4 => hE3.nx σ env m H e1 e2 e3 (nxt env m e4), hE3.rt, hE3.bk, fun σ env m H e1 e2 e3 e4 => hE3.ct σ env m H e1 e2 e3 (nxt env m e4)⟩
theorem lcW_inv {step : Me → PyData → (Dat → Me → Prop) → Prop} (I : Nat → List PyData → Me → Prop) : ∀ {xs acc : List PyData} {i : Nat} {m : Me} {k : List PyData → Me → Prop},
    (∀ (j : Nat) (x : PyData) acc m D k', xs[j]? = some x → I (i + j) acc m → (∀ y m2, I (i + j + 1) (acc ++ [y]) m2 → k' (.d y) (Me.own m2 D acc)) → step (m.own D acc) x k') →
    I i acc m → (∀ acc m, I (i + xs.length) acc m → k acc m) → lcW step xs acc m k
  | [], acc, i, m, k, _, h0, hd => hd acc m h0
  | x :: r, acc, i, m, k, h, h0, hd => fun D => by
    refine h 0 x acc m D _ rfl h0 fun y m2 h2 => ⟨y, m2, rfl, rfl, ?_⟩
    refine lcW_inv I (i := i + 1) (fun j y acc3 m3 D3 k3 hj h3 q => ?_) h2 (fun acc3 m3 h3 => hd acc3 m3 (by rw [List.length_cons, show i + (r.length + 1) = i + 1 + r.length from by omega]; exact h3))
    refine h (j + 1) y acc3 m3 D3 k3 (by simpa using hj) (by rw [show i + (j + 1) = i + 1 + j from by omega]; exact h3) fun z m4 h4 => q z m4 ?_
    rw [show i + (j + 1) + 1 = i + 1 + j + 1 from by omega] at h4
    exact h4
/-- y = [..], a list that will change -/
theorem lc_readO {scope : Scope} {tg iter elt : Expr} {vs : List Nat} {σ : L2.St} {H : Hp} {Q : VK} (he : EnvOk X.K m H σ env) (hm : MemOk X.K m H) (hq : ∀ v d m' H', Ext m H m' H' → MemOk X.K m' H' → DV X.K m' H' v d → k d m' → Q v H')
    (h : wI X tg iter env m fun xs m1 => xs.length ≤ 10000000 ∧ lcW (stepB X scope vs tg elt env) xs [] m1 fun ys m2 => ∀ l, k (.r (.ref l)) (m2.own l ys)) :
    tLc (iW X tg iter) (gB X scope tg) tYes (eB X scope elt) vs σ H Q := by
  refine h σ H _ he hm fun J xs m1 H1 e1 hm1 dit ⟨hl, hk⟩ => fun D hD => ?_
  obtain ⟨s1, s2⟩ := own_ok (vs := []) (xs := []) hm1 hD .nil
  refine ⟨fun i n H' => n = xs.length - i ∧ i ≤ xs.length ∧ ∃ m' acc, acc.length = i ∧ MemOk X.K (Me.own m' D acc) H' ∧ Ext m1 H1 (Me.own m' D acc) H' ∧ lcW (stepB X scope vs tg elt env) (xs.drop i) acc m' fun ys m2 => ∀ l, k (.r (.ref l)) (m2.own l ys),
    ⟨xs.length, rfl, Nat.zero_le _, m1, [], rfl, s1, s2, hk⟩, ?_⟩
  rintro i n H2 ⟨rfl, hi, m', acc, ha, hm2, e2, hk2⟩
  have dt := (dit.mono e2) (Me.own m' D acc) H2 Ext.refl hm2 i
  by_cases hlt : i < xs.length
  · have hx : xs[i]? = some xs[i] := List.getElem?_eq_getElem hlt
    obtain ⟨go, yl⟩ := dt.1 _ hx
    rw [List.drop_eq_getElem_cons hlt] at hk2
    refine .inr ⟨go, fun H3 => ∃ m3 acc3, acc3.length = i + 1 ∧ MemOk X.K (Me.own m3 D acc3) H3 ∧ Ext m1 H1 (Me.own m3 D acc3) H3 ∧ lcW (stepB X scope vs tg elt env) (xs.drop (i + 1)) acc3 m3 fun ys m2 => ∀ l, k (.r (.ref l)) (m2.own l ys),
      fun H3 h3 => ⟨xs.length - (i + 1), by omega, rfl, hlt, h3⟩, fun v H3 y => ?_⟩
    obtain ⟨sm, dv⟩ := yl v H3 y
    have hm3 := hm2.mono sm
    have e3 : Ext m H (Me.own m' D acc) H3 := (e1.trans e2).trans (Ext.of sm)
    intro s Hs C cl fp
    refine hk2 D s Hs C cl fp (L2.wipe σ vs) H3 v _ ((he.mono e3).wipe vs) hm3 dv ?_
    intro σ2 env2 eo ag hE
    refine ⟨wipe_agree ag, ?_⟩
    dsimp only [tYes]
    rw [if_pos rfl]
    intro s4 Hs4 C4 cl4 fp4
    refine hE s4 Hs4 C4 cl4 fp4 σ2 H3 _ eo hm3 ?_
    rintro w d m4 H4 e4 hm4 dw ⟨y', m5, rfl, rfl, hk5⟩
    obtain ⟨ws, w1, w2⟩ := own_at hm4
    obtain ⟨o1, o2⟩ := own_set (acc' := acc ++ [y']) hm4 (dpAll_append w2 (dpAll_one dw))
    have wl := dpAll_len w2
    refine ⟨ws, w1, Nat.lt_of_lt_of_le (by omega : ws.length < 10000001) (by decide), m5, acc ++ [y'], by simp [ha], o1, ((e2.trans (Ext.of sm)).trans e4).trans o2, hk5⟩
  · have ei : i = xs.length := by omega
    have stop := dt.2 (by omega)
    rw [ei, List.drop_length] at hk2
    exact .inl ⟨stop, hq _ (.r (.ref D)) (Me.own m' D acc) H2 (e1.trans e2) hm2 rfl (hk2 D)⟩
theorem wS_setLcO (i : Nat) {x : Str} {p' : Pos} {elt tg iter : Expr} {scope : Scope} (own : List (Str × Nat)) {cpos : Pos} (hc : X.calm = true) (hN : X.N.Nodup) (hy : X.N[i]? = some x) (hyl : X.env.scope.names.lookup x = some .local)
    (hsw : swapsWith (.ListComp elt [⟨tg, iter, [], 0⟩] scope cpos) (some (.Name x p')) pos.line X.env = pure true) (ok : BlkOk X.N X.env.scope scope own)
    (h : wI X tg iter env m fun xs m1 => xs.length ≤ 10000000 ∧ lcW (stepB X scope (own.map (·.2)) tg elt env) xs [] m1 fun ys m2 => ∀ l, D.nx (env.set i (some (.r (.ref l)))) (m2.own l ys)) (hs : ∀ x, foldedSetIterable iter X.env x = pure x := by intro _; rfl) :
    wS X (.Assign [.Name x p'] (.ListComp elt [⟨tg, iter, [], 0⟩] scope cpos) pos) env m D :=
  wS_of (ps_setLc hc hN hy hyl hsw piW ok pgB (fun _ _ _ _ _ => pts_nil) peB hs) fun σ H E he hm hE => lc_readO (k := fun d m2 => D.nx (env.set i (some d)) m2) he hm (fun v d m' H' e1 hm1 dv hk => hE.nx _ _ m' H' e1 ((he.mono e1).set i dv) hm1 hk) h
theorem pot_drop {K : PySem.W.Frag} {p : Option Addr} {n n' : Nat} {ls : List (Addr × List PyData)} : MTo K ⟨p, n, ls⟩ ⟨none, n', ls⟩ := fun H hm => by
  have ex : Ext ⟨p, n, ls⟩ H ⟨none, n', ls⟩ H := fun b u hb => by
    obtain ⟨z, e⟩ := hid_some hb
    exact hid_of (fun q => z (.inr (q.elim (fun q => by cases q) id))) e (hid_nt hb) (hid_nb hb)
  exact ⟨⟨fun b hb => (by cases hb), fun b xs hb => (hm.own b xs hb).imp fun vs h => ⟨h.1, dpAll_mono ex _ _ h.2⟩, fun b hb q => (by cases q), hm.nd, hm.tab⟩, ex⟩
theorem MTo.trans {K : PySem.W.Frag} {m m1 m2 : Me} (h : MTo K m m1) (h' : MTo K m1 m2) : MTo K m m2 := fun H hm => ⟨(h' H (h H hm).1).1, (h H hm).2.trans (h' H (h H hm).1).2⟩
theorem wSs_to {sts : List Stmt} {m1 : Me} (t : MTo X.K m m1) (h : wSs X sts env m1 D) : wSs X sts env m D := wSs_ghost fun H hm => ⟨m1, (t H hm).1, (t H hm).2, h⟩
end
instance {i j : Int} : Decidable (CPowW i j) := by unfold CPowW; infer_instance
/-! ### the laws' own words -/
def spPot : DSp := fun m ds k => ∃ (ns : List Int) (p : Int), ds = [.d (.list (ns.map .int)), .d (.int p)] ∧ ns.length ≤ 63 ∧ (0 ≤ p ∧ p ≤ 100) ∧ ∀ l x y, 0 ≤ x → x.natAbs < 2 ^ 1000 → 0 ≤ y → y < 2 ^ 62 → k (.r (.ref l)) (m.own l [.int x, .int y, .int 0])
theorem big10 : ((10 : Int) ^ (60 : Int).toNat) ^ (5 : Int).toNat < 2 ^ 1000 ∧ 0 < ((10 : Int) ^ (60 : Int).toNat) ^ (5 : Int).toNat := by decide +kernel
theorem potMul (x : Int) (b : Bool) : CMulW (x % ((10 : Int) ^ (60 : Int).toNat) ^ (5 : Int).toNat) (if b = true then 1 else 0) := by
  have h1 := Int.emod_nonneg x (b := ((10 : Int) ^ (60 : Int).toNat) ^ (5 : Int).toNat) (by have := big10.2; omega)
  have h2 := Int.emod_lt_of_pos x big10.2
  have h3 := big10.1
  refine wide_mul (a := 1000) (b := 2) ?_ (by split <;> decide) (by decide) (by decide) (by decide)
  omega
theorem potOwn (x : Int) (b : Bool) : 0 ≤ (x % ((10 : Int) ^ (60 : Int).toNat) ^ (5 : Int).toNat) * (if b = true then 1 else 0) ∧ ((x % ((10 : Int) ^ (60 : Int).toNat) ^ (5 : Int).toNat) * (if b = true then 1 else 0)).natAbs < 2 ^ 1000 := by
  have h1 := Int.emod_nonneg x (b := ((10 : Int) ^ (60 : Int).toNat) ^ (5 : Int).toNat) (by have := big10.2; omega)
  have h2 := Int.emod_lt_of_pos x big10.2
  have h3 := big10.1
  cases b with
  | true => rw [if_pos rfl, Int.mul_one]; omega
  | false => rw [if_neg Bool.false_ne_true, Int.mul_zero]; exact ⟨by decide, by decide⟩
theorem atI_ints {ns : List Int} {p : Int} (h0 : 0 ≤ p) (h : p < (ns.length : Int)) : ∃ c, atI (ns.map PyData.int) p = some (.int c) := by
  obtain ⟨j, rfl⟩ : ∃ j : Nat, p = (j : Int) := ⟨p.toNat, by omega⟩
  have hj : j < ns.length := by omega
  refine ⟨ns[j], atI_nat ?_⟩
  rw [List.getElem?_map, List.getElem?_eq_getElem hj]
  rfl
theorem intsOf_map : ∀ ns : List Int, intsOf (ns.map .int) = some ns
  | [] => rfl
  | n :: r => by
    show (intsOf (r.map .int)).map (n :: ·) = _
    rw [intsOf_map r]
    rfl
theorem cut1 (ns : List Int) : ∃ s, intsOf (cutD (ns.map .int) none (some 1)) = some s := by
  unfold cutD
  rw [← List.map_drop, ← List.map_take]
  exact ⟨_, intsOf_map _⟩
theorem prime5 (a b c d e r : Int) (h0 : 0 ≤ r) (h5 : r < 5) (h : (0 < a ∧ a < 2 ^ 31) ∧ (0 < b ∧ b < 2 ^ 31) ∧ (0 < c ∧ c < 2 ^ 31) ∧ (0 < d ∧ d < 2 ^ 31) ∧ (0 < e ∧ e < 2 ^ 31)) :
    ∃ q, atI [PyData.int a, .int b, .int c, .int d, .int e] r = some (.int q) ∧ 0 < q ∧ q < 2 ^ 31 := by
  have z : r = 0 ∨ r = 1 ∨ r = 2 ∨ r = 3 ∨ r = 4 := by omega
  rcases z with z | z | z | z | z <;> subst z
  · exact ⟨a, rfl, h.1⟩
  · exact ⟨b, rfl, h.2.1⟩
  · exact ⟨c, rfl, h.2.2.1⟩
  · exact ⟨d, rfl, h.2.2.2.1⟩
  · exact ⟨e, rfl, h.2.2.2.2⟩
theorem sqB (c k : Int) (hc : 0 ≤ c) (hc2 : c ≤ 1000000) (hk : 0 ≤ k) (hk2 : k ≤ 200000) : 0 ≤ c * k * k ∧ c * k * k ≤ 40000000000000000 := by
  have h1 : c * k ≤ 1000000 * 200000 := Int.mul_le_mul hc2 hk2 hk (by decide)
  have h0 : 0 ≤ c * k := Int.mul_nonneg hc hk
  refine ⟨Int.mul_nonneg h0 hk, ?_⟩
  exact Int.le_trans (Int.mul_le_mul h1 hk2 hk (by decide)) (by decide)
theorem div_ok {x u : Int} (h0 : 0 ≤ x) (h1 : x.natAbs < 2 ^ 1000) (hu : 0 < u) : 0 ≤ x / u ∧ (x / u).natAbs < 2 ^ 1000 := by
  have a : 0 ≤ x / u := Int.ediv_nonneg h0 (by omega)
  have b : x / u ≤ x := Int.ediv_le_self u h0
  refine ⟨a, ?_⟩
  omega
def spOf : DSp := fun m ds k => ∃ a xs, ds = [.r (.ref a), .d (.list xs)] ∧ m.p = some a ∧ (0 < xs.length ∧ xs.length < 1000) ∧ m.n < 100000 ∧ ∀ x, x ∈ xs → k (.d x) (m.drawn 1)
theorem at_mem {xs : List PyData} {i : Int} (h0 : 0 ≤ i) (h1 : i < (xs.length : Int)) : ∃ z, atI xs i = some z ∧ z ∈ xs := by
  obtain ⟨j, rfl⟩ : ∃ j : Nat, i = (j : Int) := ⟨i.toNat, by omega⟩
  have hj : j < xs.length := by omega
  exact ⟨xs[j], atI_nat (List.getElem?_eq_getElem hj), List.getElem_mem hj⟩
def spCells : DSp := fun m ds k => ∃ (ns : List Int) (l : Int), ds = [.d (.list (ns.map .int)), .d (.int l)] ∧ (1 ≤ l ∧ l ≤ 10) ∧ ns.length ≤ 63 ∧ ∀ n : Nat, 1 ≤ n → (n : Int) ≤ l → k (.d (.list (upto 0 n))) m
def BoxN.In (b : BoxN) (lo hi : Int) : Prop := (lo ≤ b.x0 ∧ b.x1 ≤ hi) ∧ (lo ≤ b.y0 ∧ b.y1 ≤ hi) ∧ (lo ≤ b.z0 ∧ b.z1 ≤ hi)
def spDBox : DSp := fun m ds k => ∃ a lo hi, ds = [.r (.ref a), .d (.int lo), .d (.int hi)] ∧ m.p = some a ∧ (-1000 ≤ lo ∧ lo < hi ∧ hi ≤ 1000) ∧ m.n < 90000 ∧ ∀ b : BoxN, b.Ok → b.In lo hi → k (.d b.d) (m.drawn 6)
theorem BoxN.In.sml {b : BoxN} {lo hi : Int} (h : b.In lo hi) (o : b.Ok) (h1 : -1000 ≤ lo) (h2 : hi ≤ 1000) : b.Sml := by
  obtain ⟨⟨a1, a2⟩, ⟨a3, a4⟩, a5, a6⟩ := h
  have := o.x; have := o.y; have := o.z
  refine ⟨⟨?_, ?_⟩, ⟨?_, ?_⟩, ⟨?_, ?_⟩, ⟨?_, ?_⟩, ⟨?_, ?_⟩, ⟨?_, ?_⟩⟩ <;> omega
def gcdI (t b : Int) : Int := ((Nat.gcd t.natAbs b.natAbs : Nat) : Int)
def spFrac : DSp := fun m ds k => ∃ t b, ds = [.d (.int t), .d (.int b)] ∧ (-100000 < t ∧ t < 100000) ∧ (0 < b ∧ b < 100000) ∧ k (.d (fr (t / gcdI t b) (b / gcdI t b))) m
theorem gcdI_pos {t b : Int} (hb : 0 < b) : 0 < gcdI t b := by
  unfold gcdI
  have : 0 < Nat.gcd t.natAbs b.natAbs := Nat.gcd_pos_of_pos_right _ (by omega)
  omega
theorem gcdI_le {t b : Int} (hb : 0 < b) : gcdI t b ≤ b := by
  unfold gcdI
  have : Nat.gcd t.natAbs b.natAbs ≤ b.natAbs := Nat.gcd_le_right _ (by omega)
  omega
theorem gcdI_dvd {t b : Int} : gcdI t b ∣ t ∧ gcdI t b ∣ b := by
  unfold gcdI
  exact ⟨Int.ofNat_dvd_left.mpr (Nat.gcd_dvd_left _ _), Int.ofNat_dvd_left.mpr (Nat.gcd_dvd_right _ _)⟩
theorem frOk_div {t b : Int} (hb : 0 < b) : FrOk (t / gcdI t b) (b / gcdI t b) := by
  have hg := gcdI_pos (t := t) hb
  obtain ⟨⟨c, hc⟩, ⟨d, hd⟩⟩ := gcdI_dvd (t := t) (b := b)
  have e1 : t / gcdI t b = c := by
    have : t / gcdI t b = (gcdI t b * c) / gcdI t b := by rw [← hc]
    rw [this, Int.mul_ediv_cancel_left _ (by omega)]
  have e2 : b / gcdI t b = d := by
    have : b / gcdI t b = (gcdI t b * d) / gcdI t b := by rw [← hd]
    rw [this, Int.mul_ediv_cancel_left _ (by omega)]
  have hd0 : 0 < d := by
    have h1 : 0 < gcdI t b * d := by rw [← hd]; exact hb
    by_cases h2 : d ≤ 0
    · have h3 := Int.mul_le_mul_of_nonneg_left h2 (Int.le_of_lt hg)
      rw [Int.mul_zero] at h3
      omega
    · omega
  rw [e1, e2]
  refine ⟨by omega, ?_⟩
  have ng : (gcdI t b).natAbs = Nat.gcd t.natAbs b.natAbs := by unfold gcdI; rfl
  have tn : t.natAbs = Nat.gcd t.natAbs b.natAbs * c.natAbs := by
    have := congrArg Int.natAbs hc
    rw [Int.natAbs_mul, ng] at this
    exact this
  have bn : b.natAbs = Nat.gcd t.natAbs b.natAbs * d.natAbs := by
    have := congrArg Int.natAbs hd
    rw [Int.natAbs_mul, ng] at this
    exact this
  have hp : 0 < Nat.gcd t.natAbs b.natAbs := Nat.gcd_pos_of_pos_right _ (by omega)
  have q : Nat.gcd t.natAbs b.natAbs = Nat.gcd t.natAbs b.natAbs * Nat.gcd c.natAbs d.natAbs := by
    rw [← Nat.gcd_mul_left, ← tn, ← bn]
  exact (Nat.eq_of_mul_eq_mul_left hp (by rw [Nat.mul_one]; exact q)).symm
end DW

set_option Elab.async false
set_option linter.all false
set_option maxRecDepth 100000
set_option maxHeartbeats 1000000
namespace DW
variable [TabsC]
open PySem PySem.Spec PyProof.Rows L2
theorem MTo.drop1 {K : PySem.W.Frag} {p : Option Addr} {n : Nat} {l : Addr} {xs : List PyData} {r : List (Addr × List PyData)} : MTo K ⟨p, n, (l, xs) :: r⟩ ⟨p, n, r⟩ := MTo.drop (m := ⟨p, n, r⟩)
def SmF (t b : Int) : Prop := Sm t ∧ Sm b
def spBelow : DSp := fun m ds k => ∃ a b c d, ds = [.d (fr a b), .d (fr c d)] ∧ (Sm a ∧ Sm b ∧ Sm c ∧ Sm d) ∧ k (.d (.bool (decide (a * d < c * b)))) m
structure PtN.Lit (p : PtN) : Prop where
  a : (-100 < p.a ∧ p.a < 100) ∧ p.a' < 100
  b : (-100 < p.b ∧ p.b < 100) ∧ p.b' < 100
  c : (-100 < p.c ∧ p.c < 100) ∧ p.c' < 100
def spDPoint : DSp := fun m ds k => ∃ a, ds = [.r (.ref a)] ∧ m.p = some a ∧ m.n < 90000 ∧ ∀ p : PtN, p.Ok → p.Lit → k (.d p.d) (m.drawn 6)
theorem div_lit {t g : Int} (hg : 0 < g) {B : Int} (hB : 0 < B) (h : -B < t ∧ t < B) : -B ≤ t / g ∧ t / g < B := by
  refine ⟨?_, ?_⟩
  · by_cases h0 : 0 ≤ t
    · have := Int.ediv_nonneg h0 (Int.le_of_lt hg); omega
    · refine Int.le_trans ?_ (Int.ediv_le_ediv hg (Int.le_of_lt h.1))
      rw [Int.neg_eq_neg_one_mul]
      have e : (-1 * B) / g ≥ -1 * B := by
        have h1 : (-1 * B) / g * g + (-1 * B) % g = -1 * B := Int.ediv_mul_add_emod (-1 * B) g
        have h2 := Int.emod_nonneg (-1 * B) (by omega : g ≠ 0)
        have h3 := Int.emod_lt_of_pos (-1 * B) hg
        by_cases q : (-1 * B) / g ≥ -1 * B
        · exact q
        · exfalso
          have q2 : (-1 * B) / g ≤ -1 * B - 1 := by omega
          have q3 : (-1 * B) / g * g ≤ (-1 * B - 1) * g := Int.mul_le_mul_of_nonneg_right q2 (Int.le_of_lt hg)
          have q4 : (-1 * B - 1) * g = -(B * g) - g := by
            rw [Int.sub_mul, Int.neg_mul, Int.one_mul, Int.one_mul, Int.neg_mul]
          have q5 : B * 1 ≤ B * g := Int.mul_le_mul_of_nonneg_left (by omega) (Int.le_of_lt hB)
          omega
      omega
  · by_cases h0 : 0 ≤ t
    · have := Int.ediv_le_self g h0; omega
    · have := Int.ediv_neg_of_neg_of_pos (by omega : t < 0) hg; omega
theorem frac_lit {t b : Int} (h : -50 < t ∧ t < 50) (hb : 0 < b) (hb2 : b < 50) : ((-100 < t / gcdI t b ∧ t / gcdI t b < 100) ∧ b / gcdI t b < 100) ∧ (Sm (t / gcdI t b) ∧ Sm (b / gcdI t b)) ∧ FrOk (t / gcdI t b) (b / gcdI t b) := by
  have hg := gcdI_pos (t := t) hb
  have h1 := div_lit hg (B := 50) (by decide) h
  have h2 := div_lit hg (B := 50) (by decide) (by omega : -50 < b ∧ b < 50)
  exact ⟨⟨by omega, by omega⟩, ⟨⟨by omega, by omega⟩, ⟨by omega, by omega⟩⟩, frOk_div hb⟩
/-! ### where: the law's own reckoning -/
theorem fr_whole {t b n : Int} (h : FrOk t b) (e : t = n * b) : b = 1 := by
  obtain ⟨h1, h2⟩ := h
  subst e
  have hd : b.natAbs ∣ Nat.gcd (n * b).natAbs b.natAbs := Nat.dvd_gcd (by rw [Int.natAbs_mul]; exact Nat.dvd_mul_left _ _) (Nat.dvd_refl _)
  rw [h2] at hd
  have := Nat.le_of_dvd (by decide) hd
  omega
theorem due_m {low high t b : Int} (hb : 1 ≤ b) (hlh : low < high) : whAx low high t b = -1 ↔ (t * 1 < low * b ∨ high * b < t * 1) := by
  rw [Int.mul_one]
  have hm : low * b < high * b := Int.mul_lt_mul_of_pos_right hlh (by omega)
  unfold whAx
  split
  · constructor
    · intro e; cases e
    · intro e; omega
  · split
    · constructor
      · intro e; cases e
      · intro e; omega
    · constructor
      · intro _; omega
      · intro _; rfl
theorem due_0 {low high t b : Int} (h : FrOk t b) (h1 : ¬ (t * 1 < low * b)) (h2 : ¬ (high * b < t * 1)) : whAx low high t b = if ((t = low ∧ b = 1) ∨ (t = high ∧ b = 1)) then 0 else 1 := by
  rw [Int.mul_one] at h1 h2
  unfold whAx
  by_cases q : (t = low ∧ b = 1) ∨ (t = high ∧ b = 1)
  · rw [if_pos q, if_neg, if_pos]
    · rcases q with ⟨rfl, rfl⟩ | ⟨rfl, rfl⟩
      · left; omega
      · right; omega
    · rcases q with ⟨rfl, rfl⟩ | ⟨rfl, rfl⟩ <;> omega
  · rw [if_neg q, if_pos]
    refine ⟨?_, ?_⟩
    · by_cases e : t = low * b
      · have hb := fr_whole h e
        subst hb
        exact absurd (.inl ⟨by omega, rfl⟩) q
      · omega
    · by_cases e : t = high * b
      · have hb := fr_whole h e
        subst hb
        exact absurd (.inr ⟨by omega, rfl⟩) q
      · omega
theorem eqv_fr (a b c d : Int) : PyData.eqv (fr a b) (fr c d) = decide (a = c ∧ b = d) := by
  unfold fr
  simp [PyData.eqv, PyData.eqvAll]
  by_cases h1 : a = c <;> by_cases h2 : b = d <;> simp [h1, h2]
def min2 (a b : Int) : Int := if b < a then b else a
def dueW (a b c : Int) : Int := min2 (min2 a b) c
theorem whAx_cases (low high t b : Int) : whAx low high t b = 1 ∨ whAx low high t b = 0 ∨ whAx low high t b = -1 := by
  unfold whAx
  split
  · exact .inl rfl
  · split
    · exact .inr (.inl rfl)
    · exact .inr (.inr rfl)
theorem min_is {a b c v : Int} (h1 : v ∈ [a, b, c]) (h2 : ∀ y, y ∈ [a, b, c] → v ≤ y) : v = dueW a b c := by
  have ha := h2 a (by simp)
  have hb := h2 b (by simp)
  have hc := h2 c (by simp)
  unfold dueW min2
  simp at h1
  rcases h1 with rfl | rfl | rfl
  all_goals (repeat' split) <;> omega
def BoxN.wh (b : BoxN) (p : PtN) : Int := dueW (whAx b.x0 b.x1 p.a p.a') (whAx b.y0 b.y1 p.b p.b') (whAx b.z0 b.z1 p.c p.c')
def spDueW : DSp := fun m ds k => ∃ (b : BoxN) (p : PtN), ds = [.d b.d, .d p.d] ∧ b.Ok ∧ b.Sml ∧ p.Ok ∧ k (.d (.int (b.wh p))) m
def spRight : DSp := fun m ds k => ∃ l x y n ls, ds = [.r (.ref l)] ∧ m = ⟨none, n, (l, [.int x, .int y, .int 0]) :: ls⟩ ∧ n < 1000 ∧ 0 ≤ x ∧ x.natAbs < 2 ^ 1000 ∧ 0 ≤ y ∧ y < 2 ^ 62 ∧ k (.d (.bool true)) ⟨none, n, ls⟩
end DW

set_option Elab.async false
set_option linter.all false
set_option maxRecDepth 100000
set_option maxHeartbeats 1000000
namespace DW
variable [TabsC]
open PySem PySem.Spec PyProof.Rows L2
theorem envAbs (t b : Int) : ([some (.d (.int t)), some (.d (.int b)), none, some (.d (.int (if t < 0 then -t else t))), some (.d (.int (if b < 0 then -b else b)))] : DEnv) =
    [some (.d (.int t)), some (.d (.int b)), none, some (.d (.int (t.natAbs : Int))), some (.d (.int (b.natAbs : Int)))] := by
  rw [show (if t < 0 then -t else t) = (t.natAbs : Int) from by split <;> omega, show (if b < 0 then -b else b) = (b.natAbs : Int) from by split <;> omega]
theorem gcd_turn {x y t b : Nat} (hy : 0 < y) (h : Nat.gcd x y = Nat.gcd t b) : Nat.gcd y (x % y) = Nat.gcd t b := by
  rw [Nat.gcd_comm, ← Nat.gcd_rec, Nat.gcd_comm]
  exact h
theorem fr_shaped (t b : Int) : SeqAt.shaped (fr t b) = true := by
  simp [fr, SeqAt.shaped, PyData.canLay0, PyData.canLayAll0, PyData.depth, PyData.depthAll]
theorem fr_lay2 (a b c d : Int) : PyData.canLayAll0 [fr a b, fr c d] = true := by
  simp [fr, PyData.canLay0, PyData.canLayAll0]
theorem inT_eq (l h t b : Int) : (Dat.d (.bool ([fr l 1, fr h 1].any fun z => PyData.eqv z (fr t b)))) = .d (.bool (decide ((t = l ∧ b = 1) ∨ (t = h ∧ b = 1)))) := by
  simp only [List.any_cons, List.any_nil, eqv_fr, Bool.or_false]
  congr 2
  rw [← Bool.decide_or]
  congr 1
  apply propext
  constructor
  · rintro (⟨h1, h2⟩ | ⟨h1, h2⟩)
    · exact .inl ⟨h1.symm, h2.symm⟩
    · exact .inr ⟨h1.symm, h2.symm⟩
  · rintro (⟨h1, h2⟩ | ⟨h1, h2⟩)
    · exact .inl ⟨h1.symm, h2.symm⟩
    · exact .inr ⟨h1.symm, h2.symm⟩
/-- what has been found ahead of the j-th axis -/
def DueI (b : BoxN) (p : PtN) (j : Nat) (f : Int) : Prop := (f = 0 ∨ f = 1) ∧ match j with
  | 0 => f = 1
  | 1 => f = whAx b.x0 b.x1 p.a p.a'
  | 2 => f = min2 (whAx b.x0 b.x1 p.a p.a') (whAx b.y0 b.y1 p.b p.b')
  | _ => f = b.wh p
theorem due_turn {b : BoxN} {p : PtN} {f w : Int} (hf : f = 0 ∨ f = 1) (hw : w = 0 ∨ w = 1) : (min2 f w = 0 ∨ min2 f w = 1) ∧ min2 f w = if w = 0 then 0 else f := by
  rcases hf with rfl | rfl <;> rcases hw with rfl | rfl <;> exact ⟨by decide, by decide⟩
theorem wh_neg {b : BoxN} {p : PtN} (h : whAx b.x0 b.x1 p.a p.a' = -1 ∨ whAx b.y0 b.y1 p.b p.b' = -1 ∨ whAx b.z0 b.z1 p.c p.c' = -1) : b.wh p = -1 := by
  have h1 := whAx_cases b.x0 b.x1 p.a p.a'
  have h2 := whAx_cases b.y0 b.y1 p.b p.b'
  have h3 := whAx_cases b.z0 b.z1 p.c p.c'
  unfold BoxN.wh dueW min2
  generalize whAx b.x0 b.x1 p.a p.a' = u at *
  generalize whAx b.y0 b.y1 p.b p.b' = v at *
  generalize whAx b.z0 b.z1 p.c p.c' = w at *
  rcases h1 with rfl | rfl | rfl <;> rcases h2 with rfl | rfl | rfl <;> rcases h3 with rfl | rfl | rfl <;> first | rfl | (exfalso; omega)
theorem DueI.next {b : BoxN} {p : PtN} {f w : Int} {j : Nat} (h : DueI b p j f) (hw : w = if j = 0 then whAx b.x0 b.x1 p.a p.a' else if j = 1 then whAx b.y0 b.y1 p.b p.b' else whAx b.z0 b.z1 p.c p.c') (hj : j < 3) (hw2 : w = 0 ∨ w = 1) {g : Int} (hg : g = if w = 0 then 0 else f) : DueI b p (j + 1) g := by
  obtain ⟨hf, hr⟩ := h
  obtain ⟨d1, d2⟩ := due_turn (b := b) (p := p) hf hw2
  rw [← hg] at d2
  subst d2
  refine ⟨d1, ?_⟩
  match j, hj with
  | 0, _ =>
    have hr' : f = 1 := hr
    subst hr'
    have e : w = whAx b.x0 b.x1 p.a p.a' := hw
    show min2 1 w = _
    rw [← e]
    rcases hw2 with rfl | rfl <;> rfl
  | 1, _ =>
    have hr' : f = whAx b.x0 b.x1 p.a p.a' := hr
    have e : w = whAx b.y0 b.y1 p.b p.b' := hw
    show min2 f w = _
    rw [hr', e]
  | 2, _ =>
    have hr' : f = min2 (whAx b.x0 b.x1 p.a p.a') (whAx b.y0 b.y1 p.b p.b') := hr
    have e : w = whAx b.z0 b.z1 p.c p.c' := hw
    show min2 f w = b.wh p
    rw [hr', e]
    rfl
end DW
namespace DW
variable [TabsC]
open PySem PySem.Spec PyProof.Rows L2
theorem upto_get {lo : Int} {n j : Nat} {x : PyData} (h : (upto lo n)[j]? = some x) : j < n ∧ x = .int (lo + (j : Int)) := by
  unfold upto at h
  rw [List.getElem?_map] at h
  cases q : (List.range n)[j]? with
  | none => rw [q] at h; cases h
  | some i =>
    rw [q] at h
    cases h
    obtain ⟨h1, h2⟩ := List.getElem?_eq_some_iff.mp q
    rw [List.getElem_range] at h2
    rw [List.length_range] at h1
    subst h2
    exact ⟨h1, rfl⟩
theorem forW_inv0 {X : Cx} {S : List Nat} {tg : Expr} {body : List Stmt} {D : DE} {xs : List PyData} {env : DEnv} {m : Me} (I : Nat → DEnv → Me → Prop)
    (h : ∀ (j : Nat) (x : PyData) env m, xs[j]? = some x → I j env m → wG X S tg env m (.d x) fun env' => wSs X body env' m { nx := I (j + 1), ct := I (j + 1), bk := D.nx, rt := D.rt })
    (h0 : I 0 env m) (hd : ∀ env m, I xs.length env m → D.nx env m) : forW X S tg body D xs env m :=
  forW_inv I (i := 0) (fun j x env m hx hi => by rw [Nat.zero_add] at hi ⊢; exact h j x env m hx hi) h0 (fun env m hi => hd env m (by rw [Nat.zero_add] at hi; exact hi))
theorem lcW_inv0 {step : Me → PyData → (Dat → Me → Prop) → Prop} {xs : List PyData} {m : Me} {k : List PyData → Me → Prop} (I : Nat → List PyData → Me → Prop)
    (h : ∀ (j : Nat) (x : PyData) acc m D k', xs[j]? = some x → I j acc m → (∀ y m2, I (j + 1) (acc ++ [y]) m2 → k' (.d y) (Me.own m2 D acc)) → step (m.own D acc) x k')
    (h0 : I 0 [] m) (hd : ∀ acc m, I xs.length acc m → k acc m) : lcW step xs [] m k :=
  lcW_inv I (i := 0) (fun j x acc m D k' hx hi q => h j x acc m D k' hx (by rw [Nat.zero_add] at hi; exact hi) (fun y m2 h2 => q y m2 (by rw [Nat.zero_add]; exact h2))) h0 (fun acc m hi => hd acc m (by rw [Nat.zero_add] at hi; exact hi))
end DW

set_option Elab.async false
set_option linter.all false
set_option maxRecDepth 100000
set_option maxHeartbeats 1000000
namespace DW
variable [TabsC]
open PySem PySem.Spec PyProof.Rows L2
/-! ### the end of a law's row, where it is known that no repr is under way -/
section
variable {P : Program} {w : World} {K : PySem.W.Frag} {mg mb : Str → Option Value} {k : Nat} {fa a : Addr} {fd : FuncData} {x : Str} {sp : Sp} {s1 : Shared} {vs : List Value} {ns : List Int}
theorem vals_of_ints {us : List Value} {ms : List Int} (h : IntsAre us ms) : Vals (ms.map V.int) us := by
  induction h with
  | nil => exact .nil
  | cons n t _ ih => exact .cons ⟨t, rfl⟩ ih
/-- from one abstract heap -/
theorem lawG1 (H : Hp) (KX : K.In s1.heap) (hns : s1.heap.Ns mainGlobals mg) (hb : s1.heap.Ns builtinsNs mb) (hbb : ∀ y : Str, y ≠ "__name__" → mb y = bootBuiltins y) (hlim : s1.heap.NoLimit) (hg : s1.gens = #[])
    (obj : s1.heap.get? a = some { cls := .type "list", data := .seq vs.toArray }) (hr : RoomG k callerA) (F : ∀ g : Heap, K.In g → g.Ns mainGlobals mg → FnG P w K mg g CX0 k fa fd [x] sp)
    (bind : ∀ (s : Shared) (u : Value), BindsTo s fd ⟨[u], []⟩ [(x, u)]) (sat : sp [.ref a] H (fun z _ => z = .bl true) fun _ _ _ => False) (only : Only H) (hok : HOk P w H s1.heap) (one : ∀ b, H b ≠ none → b = a) (out : H a ≠ none → K.lookup a = none) :
    codeAny (model P w) callerA (.call (.ref fa) ⟨[.ref a], []⟩) (fun r s2 => r = .ok (.ret (.bool true)) ∧ OldK s1.heap s2.heap ∧ s2.os = s1.os ∧ AllBare s2.gens) s1 := by
  have dictFree : ∀ (b : Addr) (o : Obj) (es : Array DictEntry) (ep : Nat), s1.heap.get? b = some o → o.data = .dict es ep → H b = none := by
    intro b o es ep e d
    match q : H b with
    | none => rfl
    | some u =>
      have eb := one b (by rw [q]; exact fun z => nomatch z)
      rw [eb, obj] at e
      cases e
      cases d
  have space : ∀ (b : Addr) (m : Str → Option Value), s1.heap.Ns b m → (hidT s1.heap H).Ns b m := by
    rintro b m ⟨o, es, ep, e, d, r⟩
    exact ⟨o, es, ep, hidT_get e (dictFree b o es ep e d), d, r⟩
  have kin : K.In (hidT s1.heap H) := by
    intro b o e
    refine hidT_get (KX b o e) ?_
    match q : H b with
    | none => rfl
    | some u =>
      have nz : H b ≠ none := by rw [q]; exact fun z => nomatch z
      have eb := one b nz
      subst eb
      rw [out nz] at e
      cases e
  have lim : (hidT s1.heap H).NoLimit := by
    obtain ⟨mc, h1, h2⟩ := hlim
    exact ⟨mc, space _ _ h1, h2⟩
  have md : Mod K mg (hidT s1.heap H) := ⟨kin, space _ _ hns, ⟨mb, space _ _ hb, hbb⟩, lim⟩
  have noFr : ∀ b : Addr, b ∉ frs [] := fun b hb => by cases (show b ∈ ([] : List Addr) from hb)
  have env0 : Env0 P w K mg (hidT s1.heap H) callerA [] s1 H :=
    ⟨rfl, md, fun _ _ e => of_hidT e, Nat.le_of_eq (hidT_size _ _), trivial, fun b hb => absurd hb (noFr b), hok, .of_eq hg⟩
  have run := (F _ kin (space _ _ hns)).go callerA [] s1 H ⟨[.ref a], []⟩ [.ref a] [.ref a] _ _ hr env0 (bind s1 (.ref a)) (.cons rfl .nil) sat
  refine codeAny_mono run ?_
  intro r s2 h
  match r, h with
  | .error e, h => exact h.elim
  | .ok .next, h => exact h.elim
  | .ok .brk, h => exact h.elim
  | .ok .cont, h => exact h.elim
  | .ok (.ret u), ⟨z, H2, os, bare, un, hok2, rz, q⟩ =>
    have ez : z = .bl true := q
    subst ez
    have eu : u = Value.bool true := rz
    subst eu
    refine ⟨rfl, OldK.of_keep ?_, os, bare⟩
    intro b o e
    rcases only b with n | ⟨ob, xs, n⟩
    · exact un.keep b o e n (noFr b) (by simp)
    · have n2 := un.frzs b ob _ n
      have e1 := (hok b _ n).1
      have e2 := (hok2 b _ n2).1
      rw [e] at e1
      cases e1
      exact e2
theorem lawG (KX : K.In s1.heap) (hns : s1.heap.Ns mainGlobals mg) (hb : s1.heap.Ns builtinsNs mb) (hbb : ∀ y : Str, y ≠ "__name__" → mb y = bootBuiltins y) (hlim : s1.heap.NoLimit) (hg : s1.gens = #[])
    (obj : s1.heap.get? a = some { cls := .type "list", data := .seq vs.toArray }) (hi : IntsAre vs ns) (hl : ns.length ≤ sizeLine) (hr : RoomG k callerA) (F : ∀ g : Heap, K.In g → g.Ns mainGlobals mg → FnG P w K mg g CX0 k fa fd [x] sp)
    (bind : ∀ (s : Shared) (u : Value), BindsTo s fd ⟨[u], []⟩ [(x, u)]) (sat : ∀ H : Hp, Only H → SqL K H a (ns.map V.int) → sp [.ref a] H (fun z _ => z = .bl true) fun _ _ _ => False) :
    codeAny (model P w) callerA (.call (.ref fa) ⟨[.ref a], []⟩) (fun r s2 => r = .ok (.ret (.bool true)) ∧ OldK s1.heap s2.heap ∧ s2.os = s1.os ∧ AllBare s2.gens) s1 := by
  have rv := vals_of_ints hi
  match hk : K.lookup a with
  | some o =>
    have e := KX a o hk
    rw [obj] at e
    cases e
    have sq : SqL K (fun _ => none) a (ns.map V.int) := .inr ⟨_, vs.toArray, _, hk, rfl, rfl, rfl, by rw [List.size_toArray, hi.length]; exact hl, by simpa using rv⟩
    have on : Only fun _ => none := fun _ => .inl rfl
    exact lawG1 (fun _ => none) KX hns hb hbb hlim hg obj hr F bind (sat _ on sq) on (fun b u z => nomatch z) (fun b z => absurd rfl z) (fun z => absurd rfl z)
  | none =>
    let G : Hp := fun b => if b = a then some (.frz { cls := .type "list", data := .seq vs.toArray } (.lst (ns.map V.int))) else none
    have at_ : G a = some (.frz { cls := .type "list", data := .seq vs.toArray } (.lst (ns.map V.int))) := if_pos rfl
    have off : ∀ b, b ≠ a → G b = none := fun b hb => if_neg hb
    have on : Only G := fun b => by
      by_cases q : b = a
      · subst q; exact .inr ⟨_, _, at_⟩
      · exact .inl (off b q)
    refine lawG1 G KX hns hb hbb hlim hg obj hr F bind (sat G on (.inl (.inr ⟨_, at_⟩))) on ?_ ?_ (fun _ => hk)
    · intro b u z
      by_cases q : b = a
      · subst q
        rw [at_] at z
        cases z
        exact ⟨obj, by rw [List.length_map]; exact hl, vs, _, rv, obj⟩
      · rw [off b q] at z
        cases z
    · intro b z
      by_cases q : b = a
      · exact q
      · exact absurd (off b q) z
end
/-- the goal that k_head leaves -/
theorem walkG {l : PySem.W.OpenLaw} {n k : Nat} {q : Program} {loose : List Str} {XP : (Str → Option Value) → Heap → Prop} {YP : World → Heap → Prop} {d : DefRec} {K : Params → PySem.W.Frag} {sp : World → Sp} {x : Str}
    (most : l.most = some n) (small : n ≤ sizeLine) (plain : d.params.defaults = []) (hr : RoomG k callerA) (hY : ∀ (w : World) (h : Heap), YP w h → (K w.params).In h)
    (F : ∀ (w : World) (mg : Str → Option Value) (fa : Addr) (h : Heap), (K w.params).In h → h.Ns mainGlobals mg → mg d.name = some (.ref fa) →
      ∃ fd : FuncData, (∀ (s : Shared) (u : Value), BindsTo s fd ⟨[u], []⟩ [(x, u)]) ∧ ∀ g : Heap, (K w.params).In g → g.Ns mainGlobals mg → FnG l.prog w (K w.params) mg g CX0 k fa fd [x] (sp w))
    (sat : ∀ (w : World) (H : Hp) (a : Addr) (ns : List Int), ns.length ≤ n → Only H → SqL (K w.params) H a (ns.map V.int) → sp w [.ref a] H (fun z _ => z = .bl true) fun _ _ _ => False) :
    PySem.W.WalkO q loose XP YP l.row.toRowW d [] (fun f us => PySem.call f us) := by
  refine Att.attach_call most plain ?_
  intro w s0 s1 mg mb fa o pm cd doc a vs ns G Y ho hd hcd hmg hobj hints hlen hg
  obtain ⟨fd, hb, hF⟩ := F w mg fa _ (hY w _ Y) G.T.g hmg
  refine lawG (hY w _ Y) G.T.g G.T.b G.T.builtins G.T.nolimit hg hobj hints (Nat.le_trans hlen small) hr hF hb ?_
  exact fun H hO hS => sat w H a ns hlen hO hS
/-- a law's def: True -/
def spLawD : DSp := fun m ds k => ∃ ns : List Int, ds = [.d (.list (ns.map .int))] ∧ ns.length ≤ 63 ∧ m = ⟨none, 0, []⟩ ∧ ∀ m', k (.d (.bool true)) m'
theorem dp_ints {K : PySem.W.Frag} {H : Hp} : ∀ ns : List Int, DpAll K H (ns.map V.int) (ns.map .int)
  | [] => .nil
  | n :: r => .cons (.int n) (dp_ints r)
theorem hid_eq {H : Hp} (hn : ∀ a o, H a = some o → NT a ∧ NTb o) : hid ⟨none, 0, []⟩ H = H := by
  funext b
  cases z : H b with
  | none =>
    unfold hid
    rw [z]
    split <;> rfl
  | some u => exact hid_of (fun q => q.elim (fun q => by cases q) fun q => by cases q) z (hn b u z).1 (hn b u z).2
theorem lawSat {K : PySem.W.Frag} {H : Hp} {a : Addr} {ns : List Int} (hT : TabsC.T = []) (hO : Only H) (hl : ns.length ≤ 63) (hS : SqL K H a (ns.map V.int)) : spD K 1 spLawD [.ref a] H (fun z _ => z = .bl true) fun _ _ _ => False := by
  have nt : ∀ b, NT b := fun b q => by rw [hT] at q; cases q
  have e : hid ⟨none, 0, []⟩ H = H := hid_eq fun b u z => ⟨nt b, fun ps q => by
    rcases hO b with n | ⟨o, xs, n⟩
    · rw [n] at z; cases z
    · rw [n] at z; cases z; cases q⟩
  refine ⟨rfl, ⟨none, 0, []⟩, [.d (.list (ns.map .int))], fun d _ => d = .d (.bool true), ⟨fun b q => (by cases q), fun b xs q => (by cases q), fun b q => (by cases q), List.nodup_nil, fun p hp => by rw [hT] at hp; cases hp⟩, .cons ?_ .nil, ⟨ns, rfl, hl, rfl, fun _ => rfl⟩, ?_⟩
  · show Dp K (hid ⟨none, 0, []⟩ H) _ _
    rw [e]
    exact .lst hS (dp_ints ns)
  · rintro v d m' H' _ _ dv rfl
    cases dv
    rfl
end DW

set_option Elab.async false
set_option linter.all false
set_option maxRecDepth 100000
set_option maxHeartbeats 1000000
namespace DW
variable [TabsC]
open PySem PySem.Spec PyProof.Rows L2
/-! ### what repr may be asked of -/
structure Sz (d : PyData) (dp len : Nat) : Prop where
  sh : d.showable = true
  nd : d.hasDict = false
  dp : d.depth ≤ dp
  ln : d.shown.length ≤ len
structure SzA (ds : List PyData) (dp len : Nat) : Prop where
  sh : PyData.showableAll ds = true
  nd : PyData.hasDictAll ds = false
  dp : PyData.depthAll ds ≤ dp
  ln : ((PyData.shownAll ds).map (·.length)).sum + 2 * (PyData.shownAll ds).length ≤ len
theorem small_log {i : Int} (h : -(2 ^ 1000) < i ∧ i < 2 ^ 1000) : i.natAbs.log2 < 1920 :=
  Nat.lt_of_lt_of_le (PySem.Flt.log2_lt_of (n := i.natAbs) (k := 1000) (by decide) (by omega)) (by decide)
theorem Sz.int {i : Int} (h : i.natAbs.log2 < 1920) : Sz (.int i) 1 2000 :=
  ⟨by simp only [PyData.showable]; exact decide_eq_true h, by simp only [PyData.hasDict], by simp [PyData.depth], Nat.le_trans (by simp only [PyData.shown]; exact int_text_len_1921 h) (by decide)⟩
theorem Sz.bool {b : Bool} : Sz (.bool b) 1 2000 :=
  ⟨by simp only [PyData.showable], by simp only [PyData.hasDict], by simp [PyData.depth], by cases b <;> decide +kernel⟩
theorem Sz.non : Sz .none 1 2000 :=
  ⟨by simp only [PyData.showable], by simp only [PyData.hasDict], by simp [PyData.depth], by decide +kernel⟩
theorem SzA.nil : SzA [] 1 0 := ⟨by simp only [PyData.showableAll], by simp only [PyData.hasDictAll], by simp [PyData.depthAll], by simp [PyData.shownAll]⟩
theorem SzA.cons {d : PyData} {ds : List PyData} {p q a b : Nat} (h : Sz d p a) (t : SzA ds q b) : SzA (d :: ds) (max p q) (a + 2 + b) := by
  obtain ⟨h1, h2, h3, h4⟩ := h
  obtain ⟨t1, t2, t3, t4⟩ := t
  refine ⟨by simp only [PyData.showableAll, h1, t1, Bool.and_self], by simp only [PyData.hasDictAll, h2, t2, Bool.or_self], ?_, ?_⟩
  · simp only [PyData.depthAll]
    omega
  · simp only [PyData.shownAll, List.map_cons, List.sum_cons, List.length_cons]
    omega
theorem Sz.tup {ds : List PyData} {p a : Nat} (t : SzA ds p a) : Sz (.tuple ds) (p + 1) (a + 3) := by
  obtain ⟨t1, t2, t3, t4⟩ := t
  refine ⟨by simp only [PyData.showable, t1], by simp only [PyData.hasDict, t2], ?_, ?_⟩
  · simp only [PyData.depth]
    omega
  · simp only [PyData.shown]
    exact Nat.le_trans (tupleText_len_le _) (by omega)
theorem Sz.lst {ds : List PyData} {p a : Nat} (t : SzA ds p a) : Sz (.list ds) (p + 1) (a + 3) := by
  obtain ⟨t1, t2, t3, t4⟩ := t
  refine ⟨by simp only [PyData.showable, t1], by simp only [PyData.hasDict, t2], ?_, ?_⟩
  · simp only [PyData.depth]
    omega
  · simp only [PyData.shown]
    exact Nat.le_trans (listText_len_le _) (by omega)
theorem Sz.str {x : Str} (h : ∀ c ∈ x.cps.toList, c < 16 ^ 8) (hl : x.length ≤ 1000) : Sz (.str x) 1 10002 :=
  ⟨by simp only [PyData.showable], by simp only [PyData.hasDict], by simp [PyData.depth], by simp only [PyData.shown]; exact Nat.le_trans (PySem.StrLaws.reprText_len x h) (by omega)⟩
def gRepr (_ : Me) (ds : List Dat) (k : Dat → Prop) : Prop := ∃ (d : PyData) (dp len : Nat), ds = [.d d] ∧ Sz d dp len ∧ dp ≤ 60 ∧ len ≤ 10000000 ∧ k (.d (.str d.shown))
theorem callD_gRepr {K : PySem.W.Frag} : CallD K (fun xs H Q => ∃ (v : V) (d : PyData), xs = [v] ∧ Dp K H v d ∧ d.showable = true ∧ d.hasDict = false ∧ d.depth ≤ 60 ∧ d.shown.length ≤ 10000000 ∧ Q (.str d.shown) H) gRepr :=
  fun m H vs ds k Q hm dvs ⟨d, dp, len, e, sz, h1, h2, hk⟩ hq => callD_repr m H vs ds k Q hm dvs ⟨d, e, sz.sh, sz.nd, Nat.le_trans sz.dp h1, Nat.le_trans sz.ln h2, hk⟩ hq
theorem ne_false {s t : Str} (e : s = t) (h : (!decide (s = t)) = true) : False := by
  rw [decide_eq_true e] at h
  cases h
theorem eq_false {s t : Str} (e : s = t) (h : (!(id (decide (s = t)))) = true) : False := by
  have h2 : (!decide (s = t)) = true := h
  exact ne_false e h2
theorem wh_small (b : BoxN) (p : PtN) : -(2 ^ 1000) < b.wh p ∧ b.wh p < 2 ^ 1000 := by
  have h1 := whAx_cases b.x0 b.x1 p.a p.a'
  have h2 := whAx_cases b.y0 b.y1 p.b p.b'
  have h3 := whAx_cases b.z0 b.z1 p.c p.c'
  unfold BoxN.wh dueW min2
  generalize whAx b.x0 b.x1 p.a p.a' = u at *
  generalize whAx b.y0 b.y1 p.b p.b' = v at *
  generalize whAx b.z0 b.z1 p.c p.c' = w at *
  rcases h1 with rfl | rfl | rfl <;> rcases h2 with rfl | rfl | rfl <;> rcases h3 with rfl | rfl | rfl <;> decide +kernel
theorem clAx_comm (a b c d : Int) : clAx a b c d = clAx c d a b := by
  unfold clAx
  congr 1
  rw [show (if c > a then c else a) = (if a > c then a else c) from by (repeat' split) <;> omega, show (if d < b then d else b) = (if b < d then b else d) from by (repeat' split) <;> omega]
theorem clB_comm (s t : BoxN) : clB t s = clB s t := by
  unfold clB
  rw [clAx_comm s.x0, clAx_comm s.y0, clAx_comm s.z0]
theorem frMem {a b t u : Int} {z : PyData} (h : z ∈ [fr a 1, fr b 1, fr (t / gcdI t u) (u / gcdI t u)]) (ha : Sm a) (hb : Sm b) (ht : -50 < t ∧ t < 50) (hu : 0 < u) (hu2 : u < 50) : ∃ n d, z = fr n d ∧ FrOk n d ∧ Sm n ∧ Sm d := by
  have one : ∀ c : Int, FrOk c 1 := fun c => ⟨by decide, by simp⟩
  simp only [List.mem_cons, List.not_mem_nil, or_false] at h
  rcases h with rfl | rfl | rfl
  · exact ⟨a, 1, rfl, one a, ha, ⟨by decide, by decide⟩⟩
  · exact ⟨b, 1, rfl, one b, hb, ⟨by decide, by decide⟩⟩
  · obtain ⟨_, ⟨h1, h2⟩, h3⟩ := frac_lit ht hu hu2
    exact ⟨_, _, rfl, h3, h1, h2⟩
theorem boolsOf_rep : ∀ n : Nat, boolsOf (List.replicate n (.bool true)) = some (List.replicate n true)
  | 0 => rfl
  | n + 1 => by
    show (boolsOf (List.replicate n (.bool true))).map (true :: ·) = _
    rw [boolsOf_rep n]
    rfl
theorem all_rep (n : Nat) : (List.replicate n true).all id = true := by simp
theorem volB_small {s : BoxN} (h : s.Sml) : -(2 ^ 1000) < volB s ∧ volB s < 2 ^ 1000 := by
  have m1 := Sm.sub h.x1 h.x0
  have m2 := Sm.sub h.y1 h.y0
  have m3 := Sm.sub h.z1 h.z0
  have m5 := mul2 m1 m2
  unfold volB
  rw [Int.one_mul]
  generalize (s.x1 - s.x0) * (s.y1 - s.y0) = u at *
  generalize s.z1 - s.z0 = v at *
  have h1 : u.natAbs < 4000000000000 := by omega
  have h2 : v.natAbs < 2000000 := by omega
  have h3 : u.natAbs * v.natAbs < 4000000000000 * 2000000 := Nat.mul_lt_mul'' h1 h2
  rw [← Int.natAbs_mul] at h3
  have h4 : (4000000000000 * 2000000 : Nat) < 2 ^ 1000 := by decide +kernel
  omega
end DW
namespace DW
variable [TabsC]
open PySem PySem.Spec PyProof.Rows L2
theorem all_true {α : Type} (xs : List α) : (xs.map fun _ => true).all id = true := by simp
theorem beside_mem {x : PyData} {a b c d e f : BoxN} (h : x ∈ [a.d, b.d, c.d, d.d, e.d, f.d]) (ha : a.Ok) (hb : b.Ok) (hc : c.Ok) (hd : d.Ok) (he : e.Ok) (hf : f.Ok) : ∃ B : BoxN, x = B.d ∧ B.Ok := by
  simp only [List.mem_cons, List.not_mem_nil, or_false] at h
  rcases h with rfl | rfl | rfl | rfl | rfl | rfl
  · exact ⟨_, rfl, ha⟩
  · exact ⟨_, rfl, hb⟩
  · exact ⟨_, rfl, hc⟩
  · exact ⟨_, rfl, hd⟩
  · exact ⟨_, rfl, he⟩
  · exact ⟨_, rfl, hf⟩
theorem BoxN.Ok.mv {s : BoxN} (h : s.Ok) (a b c : Int) : (s.mv a b c).Ok := by
  have := h.x; have := h.y; have := h.z
  exact ⟨by show s.x0 + a < s.x1 + a; omega, by show s.y0 + b < s.y1 + b; omega, by show s.z0 + c < s.z1 + c; omega⟩
end DW

set_option Elab.async false
set_option linter.all false
set_option maxRecDepth 100000
set_option maxHeartbeats 1000000
namespace DW
variable [TabsC]
open PySem PySem.Spec PyProof.Rows L2
/-! ### texts -/
section
variable {X : Cx} {env : DEnv} {m : Me} {k : Dat → Me → Prop} {o e a b : Expr} {pos apos p1 p2 p3 : Pos} {x : Str} {ki : List PyData → Me → Prop} {tg iter : Expr}
theorem wE_m1 {id : String} {name : Str} {g : Str → Str → V} {g' : Str → Str → Dat} (slot : Slot "str" name id) (ty : typeOf (.builtin id) = pure (.type "method_descriptor"))
    (rule : MtR X id (fun x xs H Q => ∃ a b, x = .str a ∧ xs = [.str b] ∧ Q (g a b) H)) (hg : ∀ a b m H, DV X.K m H (g a b) (g' a b))
    (h : wE X o env m fun d m1 => ∃ a : Str, d = .d (.str a) ∧ wE X e env m1 fun d2 m2 => ∃ b : Str, d2 = .d (.str b) ∧ k (g' a b) m2)
    (hs : starEach [e] X.env = [(false, eval e X.env)] := by rfl) (hbase : attributeBase o name X.env (eval o X.env) = eval o X.env := by rfl) (hline : (apos.endLine == pos.line) = true := by rfl) : wE X (.Call (.Attribute o name apos) [e] [] pos) env m k :=
  wE_of (pe_m1 slot ty rule peW peW hs hbase hline) fun σ H Q he hm hq => h σ H _ he hm fun v d m1 H1 e1 hm1 dv ⟨a, q, h1⟩ => by
    subst q
    cases dv
    exact ⟨⟨a, rfl⟩, h1 σ H1 _ (he.mono e1) hm1 fun v2 d2 m2 H2 e2 hm2 dv2 ⟨b, q2, hk⟩ => by
      subst q2
      cases dv2
      exact ⟨a, b, rfl, rfl, hq _ _ m2 H2 (e1.trans e2) hm2 (hg a b _ _) hk⟩⟩
theorem wE_starts (h : wE X o env m fun d m1 => ∃ a : Str, d = .d (.str a) ∧ wE X e env m1 fun d2 m2 => ∃ b : Str, d2 = .d (.str b) ∧ k (.d (.bool (Txt.startswith a b))) m2)
    (hs : starEach [e] X.env = [(false, eval e X.env)] := by rfl) (hbase : attributeBase o "startswith" X.env (eval o X.env) = eval o X.env := by rfl) (hline : (apos.endLine == pos.line) = true := by rfl) : wE X (.Call (.Attribute o "startswith" apos) [e] [] pos) env m k :=
  wE_m1 (g := fun a b => .bl (Txt.startswith a b)) (g' := fun a b => .d (.bool (Txt.startswith a b))) F.slot_str_startswith F.type_str_startswith mt_startswith (fun _ _ _ _ => dv_bl) h hs hbase hline
theorem dp_strs {K : PySem.W.Frag} {H : Hp} : ∀ zs : List Str, DpAll K H (zs.map V.str) (zs.map PyData.str)
  | [] => .nil
  | z :: r => .cons (.str z) (dp_strs r)
theorem strs_dp {K : PySem.W.Frag} {H : Hp} : ∀ {zs : List Str} {vs : List V}, DpAll K H vs (zs.map PyData.str) → vs = zs.map V.str
  | [], _, h => by cases h; rfl
  | z :: r, _, h => by
    cases h with
    | cons a b =>
      cases a
      rw [strs_dp b]; rfl
theorem wE_split (h : wE X o env m fun d m1 => ∃ a : Str, d = .d (.str a) ∧ wE X e env m1 fun d2 m2 => ∃ b : Str, d2 = .d (.str b) ∧ (b.length == 0) = false ∧ a.length ≤ 10000000 ∧ k (.d (.list ((Txt.split a b).map .str))) m2)
    (hs : starEach [e] X.env = [(false, eval e X.env)] := by rfl) (hbase : attributeBase o "split" X.env (eval o X.env) = eval o X.env := by rfl) (hline : (apos.endLine == pos.line) = true := by rfl) : wE X (.Call (.Attribute o "split" apos) [e] [] pos) env m k :=
  wE_of (pe_split peW peW hs hbase hline) fun σ H Q he hm hq => h σ H _ he hm fun v d m1 H1 e1 hm1 dv ⟨a, q, h1⟩ => by
    subst q
    cases dv
    exact ⟨⟨a, rfl⟩, h1 σ H1 _ (he.mono e1) hm1 fun v2 d2 m2 H2 e2 hm2 dv2 ⟨b, q2, hb, hl, hk⟩ => by
      subst q2
      cases dv2
      exact ⟨a, b, rfl, rfl, hb, Nat.le_trans (Nat.add_le_add_right hl 2) (by decide), fun p hp => by
        have s := same_new (o := .lst ((Txt.split a b).map V.str)) hp
        exact hq _ (.d (.list _)) m2 _ ((e1.trans e2).trans (Ext.of s)) (hm2.mono s) (Dp.lst (SqL.of (same_hid hm2 hp)) (dp_strs _)) hk⟩⟩
theorem wE_part (h : wE X o env m fun d m1 => ∃ a : Str, d = .d (.str a) ∧ wE X e env m1 fun d2 m2 => ∃ b : Str, d2 = .d (.str b) ∧ (b.length == 0) = false ∧ a.length ≤ 10000000 ∧ k (.d (.tuple [.str (Txt.partition a b).1, .str (Txt.partition a b).2.1, .str (Txt.partition a b).2.2])) m2)
    (hs : starEach [e] X.env = [(false, eval e X.env)] := by rfl) (hbase : attributeBase o "partition" X.env (eval o X.env) = eval o X.env := by rfl) (hline : (apos.endLine == pos.line) = true := by rfl) : wE X (.Call (.Attribute o "partition" apos) [e] [] pos) env m k :=
  wE_of (pe_partition peW peW hs hbase hline) fun σ H Q he hm hq => h σ H _ he hm fun v d m1 H1 e1 hm1 dv ⟨a, q, h1⟩ => by
    subst q
    cases dv
    exact ⟨⟨a, rfl⟩, h1 σ H1 _ (he.mono e1) hm1 fun v2 d2 m2 H2 e2 hm2 dv2 ⟨b, q2, hb, hl, hk⟩ => by
      subst q2
      cases dv2
      exact ⟨a, b, rfl, rfl, hb, szl hl, fun p hp => by
        have s := same_new (o := .tup [.str (Txt.partition a b).1, .str (Txt.partition a b).2.1, .str (Txt.partition a b).2.2]) hp
        exact hq _ (.d (.tuple _)) m2 _ ((e1.trans e2).trans (Ext.of s)) (hm2.mono s) (Dp.tup (SqT.of (same_hid hm2 hp)) (.cons (.str _) (.cons (.str _) (.cons (.str _) .nil)))) hk⟩⟩
theorem wE_join (h : wE X o env m fun d m1 => ∃ a : Str, d = .d (.str a) ∧ wE X e env m1 fun d2 m2 => ∃ (ys : List PyData) (zs : List Str), (d2 = .d (.list ys) ∨ d2 = .d (.tuple ys)) ∧ strsOf ys = some zs ∧ (zs.map (·.length)).sum + zs.length * a.length ≤ 16777216 ∧ k (.d (.str (Txt.join a zs))) m2)
    (hs : starEach [e] X.env = [(false, eval e X.env)] := by rfl) (hbase : attributeBase o "join" X.env (eval o X.env) = eval o X.env := by rfl) (hline : (apos.endLine == pos.line) = true := by rfl) : wE X (.Call (.Attribute o "join" apos) [e] [] pos) env m k :=
  wE_of (pe_join peW peW hs hbase hline) fun σ H Q he hm hq => h σ H _ he hm fun v d m1 H1 e1 hm1 dv ⟨a, q, h1⟩ => by
    subst q
    cases dv
    exact ⟨⟨a, rfl⟩, h1 σ H1 _ (he.mono e1) hm1 fun v2 d2 m2 H2 e2 hm2 dv2 ⟨ys, zs, q2, hz, hl, hk⟩ => by
      rcases q2 with q2 | q2
      · subst q2
        rw [strsOf_eq hz] at dv2
        cases dv2 with
        | lst hs ha =>
          have e3 := strs_dp ha
          subst e3
          exact ⟨a, _, zs, rfl, rfl, .inl (hid_sub.seq hs), hl, hq _ _ m2 H2 (e1.trans e2) hm2 dv_str hk⟩
      · subst q2
        rw [strsOf_eq hz] at dv2
        cases dv2 with
        | tup hs ha =>
          have e3 := strs_dp ha
          subst e3
          exact ⟨a, _, zs, rfl, rfl, .inr (seqT_mono hid_sub hs), hl, hq _ _ m2 H2 (e1.trans e2) hm2 dv_str hk⟩⟩
theorem dpAll_rev {K : PySem.W.Frag} {H : Hp} : ∀ {ds : List PyData} {vs : List V}, DpAll K H vs ds → DpAll K H vs.reverse ds.reverse
  | [], _, h => by cases h; exact .nil
  | d :: r, _, h => by
    cases h with
    | cons a b =>
      rw [List.reverse_cons, List.reverse_cons]
      exact dpAll_append (dpAll_rev b) (.cons a .nil)
theorem wE_rev {j : Nat} (h : wE X a env m fun d m1 => ∃ l xs, d = .r (.ref l) ∧ m1.ls.lookup l = some xs ∧ k (.d (.list xs.reverse)) m1) :
    wE X (.Subscript a (.Slice none none (some (.UnaryOp .USub (.Constant (.int 1) j p1) p2)) p3) pos) env m k :=
  wE_of (pe_revL peW) fun σ H Q he hm hq => h σ H _ he hm fun v d m1 H1 e1 hm1 dv ⟨l, xs, q, hl, hk⟩ => by
    subst q
    have e2 := dv_ref dv
    subst e2
    obtain ⟨vs, hs, ha⟩ := hm1.own l xs (lookup_mem hl)
    refine ⟨_, vs, rfl, SqL.of hs, fun p hp => ?_⟩
    have s := same_new (o := .lst vs.reverse) hp
    exact hq _ (.d (.list xs.reverse)) m1 _ (e1.trans (Ext.of s)) (hm1.mono s) (Dp.lst (SqL.of (same_hid hm1 hp)) (dpAll_mono (Ext.of s) _ _ (dpAll_rev ha))) hk
/-- a text's signs -/
def signs (x : Str) : List PyData := x.cps.toList.map fun c => .str ⟨#[c]⟩
theorem signs_get {x : Str} {i : Nat} {d : PyData} (h : (signs x)[i]? = some d) : ∃ c, x.cps[i]? = some c ∧ d = .str ⟨#[c]⟩ := by
  unfold signs at h
  rw [List.getElem?_map] at h
  cases q : x.cps.toList[i]? with
  | none => rw [q] at h; cases h
  | some c =>
    rw [q] at h
    cases h
    exact ⟨c, by rw [← q, Array.getElem?_toList], rfl⟩
theorem signs_len {x : Str} : (signs x).length = x.cps.size := by simp [signs]
theorem dit_str {K : PySem.W.Frag} {m : Me} {H : Hp} {x : Str} : DIt K m H (Its x) (signs x) := fun m' H' e hm i => by
  refine ⟨fun d hd => ?_, fun hl => by rw [signs_len] at hl; exact hl⟩
  obtain ⟨c, hc, rfl⟩ := signs_get hd
  refine ⟨(Array.getElem?_eq_some_iff.mp hc).1, fun v H'' y => ?_⟩
  obtain ⟨rfl, c2, h2, rfl⟩ := y
  rw [hc] at h2
  cases h2
  exact ⟨Same.refl _, dv_str⟩
theorem wI_str (h : wE X iter env m fun d m1 => ∃ z : Str, d = .d (.str z) ∧ ki (signs z) m1) : wI X tg iter env m ki :=
  wI_of (pi_str peW) fun σ H R he hm hq => h σ H _ he hm fun v d m1 H1 e1 hm1 dv ⟨z, e, hk⟩ => by
    subst e
    cases dv
    exact ⟨z, rfl, hq _ _ m1 H1 e1 hm1 dit_str hk⟩
def fInSign (_ : Me) (dx dy : Dat) (k : Dat → Prop) : Prop := ∃ (c : Nat) (z : Str), dx = .d (.str ⟨#[c]⟩) ∧ dy = .d (.str z) ∧ k (.d (.bool (decide (c ∈ z.cps.toList))))
theorem wE_inSign (h : wE X a env m fun dx m1 => wE X b env m1 fun dy m2 => fInSign m2 dx dy fun d => k d m2) (hb : behindInMarks .In b = false := by rfl) : wE X (.Compare a [.In] [b] pos) env m k :=
  wE_cmp op_in_sign (f := fInSign) (fun m H x y dx dy k Q hm h1 h2 ⟨c, z, e1, e2, hk⟩ hq => by
    subst e1 e2
    cases h1
    cases h2
    exact ⟨c, z, rfl, rfl, hq _ _ H (Same.refl _) dv_bl hk⟩) hb h
def fIntS (_ : Me) (ds : List Dat) (k : Dat → Prop) : Prop := ∃ (a : Str) (n : Int), ds = [.d (.str a)] ∧ PySem.intText? a = some n ∧ a.length ≤ 640 ∧ k (.d (.int n))
theorem callD_intS {K : PySem.W.Frag} : CallD K (fun xs H Q => ∃ a n, xs = [.str a] ∧ PySem.intText? a = some n ∧ a.length ≤ 640 ∧ Q (.int n) H) fIntS := fun m H vs ds k Q hm dvs ⟨a, n, e, h1, h2, hk⟩ hq => by
  subst e
  obtain ⟨v, rfl, d1⟩ := dvs1 dvs
  cases d1
  exact ⟨a, n, rfl, h1, h2, hq _ _ H (Same.refl _) dv_int hk⟩
theorem dit_c0 {K : PySem.W.Frag} {m : Me} {H : Hp} {lo c : Int} : DIt K m H (Itc lo c 0) [] := fun m' H' e hm i => ⟨fun d hd => (by cases hd), fun _ => Nat.zero_le i⟩
theorem wI_rng3 {c : Expr} {p : Pos} (h : wA X [a, b, c] env m fun ds m1 => ∃ i j c : Int, ds = [.d (.int i), .d (.int j), .d (.int c)] ∧ RgC i j c 0 ∧ ki [] m1) (hg : Gl X "range") (hm0 : X.mg "range" = none)
    (hs : starEach [a, b, c] X.env = (false, eval a X.env) :: starEach [b, c] X.env := by rfl) (hpl : (backTo pos (starEach [b, c] X.env)).any (·.1) = false := by rfl) : wI X tg (.Call (.Name "range" p) [a, b, c] [] pos) env m ki :=
  wI_of (pi_range3 hg hm0 paW hs hpl) fun σ H R he hm hq => h σ H _ he hm fun vs ds m1 H1 e1 hm1 dv ⟨i, j, c, q, hn, hk⟩ => by
    subst q
    cases dv with
    | cons a1 r1 =>
      cases r1 with
      | cons a2 r2 =>
        cases r2 with
        | cons a3 r3 =>
          cases a1
          cases a2
          cases a3
          cases r3
          exact ⟨i, j, c, 0, rfl, hn, hq _ _ m1 H1 e1 hm1 dit_c0 hk⟩
theorem rgC0 {n : Nat} (h : n < 100000) : RgC (n : Int) (n : Int) 60 0 := by
  have e : Builtin.Range.rangeSize (n : Int) n 60 = 0 := by simp [Builtin.Range.rangeSize]
  refine ⟨by decide, by decide, ?_, e⟩
  unfold Builtin.Range.small
  rw [e]
  simp [Builtin.Range.rangeFitsLong]
  omega
end
/-! ### numbers and points in texts, as the program tells and reads them -/
def textI (n : Int) : Str := if n < 0 then Txt.join "" ["-", toString (-n)] else Txt.join "" [toString n]
theorem join1 (s x : Str) : Txt.join s [x] = x := rfl
theorem join2 (s x y : Str) : Txt.join s [x, y] = x ++ s ++ y := PyProof.Rows.join_cons_cons s x y []
theorem join3 (s x y z : Str) : Txt.join s [x, y, z] = x ++ s ++ (y ++ s ++ z) := by
  have e : Txt.join s [x, y, z] = x ++ s ++ Txt.join s [y, z] := by
    have e1 := PyProof.Rows.join_cons_cons s x y [z]
    rw [← PySem.StrLaws.glued_eq_join, ← PySem.StrLaws.glued_eq_join] at e1
    exact e1
  rw [e, join2]
theorem log60 {n : Int} (h : n.natAbs < 10 ^ 60) : n.natAbs.log2 < 1920 :=
  Nat.lt_of_lt_of_le (PySem.Flt.log2_lt_of (n := n.natAbs) (k := 200) (by decide) (Nat.lt_trans h (by decide))) (by decide)
theorem textI_len {n : Int} (h : n.natAbs < 10 ^ 60) : (textI n).length ≤ 2000 := by
  unfold textI
  split
  · rw [join2]
    have := int_text_len_1921 (i := -n) (log60 (by omega))
    simp only [Str.length_append] at *
    have e1 : ("-" : Str).length = 1 := by decide
    have e2 : ("" : Str).length = 0 := by decide
    omega
  · rw [join1]
    exact Nat.le_trans (int_text_len_1921 (log60 h)) (by decide)
def spIntText : DSp := fun m ds k => ∃ n : Int, ds = [.d (.int n)] ∧ n.natAbs < 10 ^ 60 ∧ k (.d (.str (textI n))) m
def numOf (z : Str) : Option Int := if z.length < 60 then PySem.intText? ("0" ++ cutS z none (some ((z.length : Int) % 60))) else none
def spNumOf : DSp := fun m ds k => ∃ (z : Str) (n : Int), ds = [.d (.str z)] ∧ numOf z = some n ∧ k (.d (.int n)) m
def digB : PyData → Bool
  | .str s => match s.cps.toList with
    | [c] => decide (c ∈ ("0123456789" : Str).cps.toList)
    | _ => false
  | _ => false
def digits (z : Str) : Bool := ((signs z).map digB).all id
def figsOf (w : Str) : Str := if Txt.startswith w "-" = true then cutS w (some 1) none else w
def sgn (w : Str) (n : Int) : Int := if Txt.startswith w "-" = true then -n else n
def readI (w : Str) : Option PyData :=
  if w.length < 60 then
    if (figsOf w).length = 0 then some .none
    else if digits (figsOf w) = true then
      match numOf (figsOf w) with
      | none => none
      | some n => if n.natAbs < 10 ^ 60 then (if textI (sgn w n) = w then some (.int (sgn w n)) else some .none) else none
    else some .none
  else none
theorem readI_inv {w : Str} {r : PyData} (h : readI w = some r) : w.length < 60 ∧ ((figsOf w).length = 0 ∧ r = .none ∨ (figsOf w).length ≠ 0 ∧ digits (figsOf w) = false ∧ r = .none ∨
    ∃ n, (figsOf w).length ≠ 0 ∧ digits (figsOf w) = true ∧ numOf (figsOf w) = some n ∧ n.natAbs < 10 ^ 60 ∧ (textI (sgn w n) = w ∧ r = .int (sgn w n) ∨ textI (sgn w n) ≠ w ∧ r = .none)) := by
  unfold readI at h
  split at h
  · refine ⟨‹_›, ?_⟩
    split at h
    · cases h; exact .inl ⟨‹_›, rfl⟩
    · split at h
      · split at h
        · cases h
        · rename_i n hn
          split at h
          · split at h
            · cases h; exact .inr (.inr ⟨n, ‹_›, ‹_›, hn, ‹_›, .inl ⟨‹_›, rfl⟩⟩)
            · cases h; exact .inr (.inr ⟨n, ‹_›, ‹_›, hn, ‹_›, .inr ⟨‹_›, rfl⟩⟩)
          · cases h
      · cases h
        exact .inr (.inl ⟨‹_›, by simpa using ‹¬ digits (figsOf w) = true›, rfl⟩)
  · cases h
theorem figs_len (w : Str) : (figsOf w).length ≤ w.length := by
  unfold figsOf
  split
  · exact cutS_length _ _ _
  · exact Nat.le_refl _
theorem numOf_inv {z : Str} {n : Int} (h : numOf z = some n) : z.length < 60 ∧ PySem.intText? ("0" ++ cutS z none (some ((z.length : Int) % 60))) = some n := by
  unfold numOf at h
  split at h
  · exact ⟨‹_›, h⟩
  · cases h
theorem truS0 {m : Me} {s : Str} (h : s.length = 0) : truD m (.d (.str s)) = some false := by
  show (if s.length ≤ 10000000 then some (decide (s.length ≠ 0)) else none) = _
  rw [if_pos (by omega), decide_eq_false (by omega)]
theorem truS1 {m : Me} {s : Str} (h : s.length ≠ 0) (h2 : s.length ≤ 10000000) : truD m (.d (.str s)) = some true := by
  show (if s.length ≤ 10000000 then some (decide (s.length ≠ 0)) else none) = _
  rw [if_pos h2, decide_eq_true h]
theorem dec_t {p : Prop} [Decidable p] (h : p) : ¬ (id (decide p) = false) := fun e => by rw [decide_eq_true h] at e; cases e
theorem dec_f {p : Prop} [Decidable p] (h : ¬ p) : ¬ (id (decide p) = true) := fun e => by rw [decide_eq_false h] at e; cases e
theorem bool_t {b : Bool} (h : b = true) : ¬ b = false := fun e => by rw [h] at e; cases e
theorem bool_nt {b : Bool} (h : b = true) : ¬ (!b) = true := fun e => by rw [h] at e; cases e
theorem bool_f {b : Bool} (h : b = false) : ¬ b = true := fun e => by rw [h] at e; cases e
def spReadI : DSp := fun m ds k => ∃ (w : Str) (r : PyData), ds = [.d (.str w)] ∧ readI w = some r ∧ k (.d r) m
def textF (t b : Int) : Str := if b = 1 then textI t else textI t ++ "/" ++ textI b
theorem textF_len {t b : Int} (h1 : t.natAbs < 10 ^ 60) (h2 : b.natAbs < 10 ^ 60) : (textF t b).length ≤ 4010 := by
  have := textI_len h1
  have := textI_len h2
  unfold textF
  split
  · omega
  · simp only [Str.length_append]
    have e1 : ("/" : Str).length = 1 := by decide
    omega
def spFracText : DSp := fun m ds k => ∃ t b : Int, ds = [.d (.tuple [.int t, .int b])] ∧ t.natAbs < 10 ^ 60 ∧ b.natAbs < 10 ^ 60 ∧ k (.d (.str (textF t b))) m
def readF (w : Str) : Option PyData :=
  if w.length < 60 then
    match readI (Txt.partition w "/").1, (if (Txt.partition w "/").2.1.length ≠ 0 then readI (Txt.partition w "/").2.2 else some (.int 1)) with
    | some x, some y => if frB (.tuple [x, y]) = true then
        match x, y with
        | .int t, .int b => if t.natAbs < 10 ^ 60 ∧ b.natAbs < 10 ^ 60 then (if textF t b = w then some (.tuple [.int t, .int b]) else some .none) else none
        | _, _ => none
      else some .none
    | _, _ => none
  else none
theorem readF_inv {w : Str} {r : PyData} (h : readF w = some r) : w.length < 60 ∧ ∃ x y, readI (Txt.partition w "/").1 = some x ∧
    ((Txt.partition w "/").2.1.length ≠ 0 ∧ readI (Txt.partition w "/").2.2 = some y ∨ (Txt.partition w "/").2.1.length = 0 ∧ y = .int 1) ∧
    (frB (.tuple [x, y]) = false ∧ r = .none ∨ ∃ t b, x = .int t ∧ y = .int b ∧ frB (.tuple [.int t, .int b]) = true ∧ t.natAbs < 10 ^ 60 ∧ b.natAbs < 10 ^ 60 ∧ (textF t b = w ∧ r = .tuple [.int t, .int b] ∨ textF t b ≠ w ∧ r = .none)) := by
  unfold readF at h
  split at h
  · refine ⟨‹_›, ?_⟩
    split at h
    · rename_i x y hx hy
      refine ⟨x, y, hx, ?_, ?_⟩
      · split at hy
        · exact .inl ⟨‹_›, hy⟩
        · cases hy; exact .inr ⟨by omega, rfl⟩
      · split at h
        · rename_i hf
          split at h
          · split at h
            · rename_i hb
              split at h
              · cases h; exact .inr ⟨_, _, rfl, rfl, hf, hb.1, hb.2, .inl ⟨‹_›, rfl⟩⟩
              · cases h; exact .inr ⟨_, _, rfl, rfl, hf, hb.1, hb.2, .inr ⟨‹_›, rfl⟩⟩
            · cases h
          · cases h
        · cases h; exact .inl ⟨by simpa using ‹¬ frB _ = true›, rfl⟩
    · cases h
  · cases h
theorem part_mid (w : Str) : (Txt.partition w "/").2.1.length ≤ 10000000 := by
  unfold Txt.partition
  split
  · exact Nat.le_trans (show ("/" : Str).length ≤ 1 by decide) (by decide)
  · exact Nat.le_trans (show Str.empty.length ≤ 1 by decide) (by decide)
def spReadF : DSp := fun m ds k => ∃ (w : Str) (r : PyData), ds = [.d (.str w)] ∧ readF w = some r ∧ k (.d r) m
def textP (p : PtN) : Str := Txt.join " " [textF p.a p.a', textF p.b p.b', textF p.c p.c']
def allSome {α β : Type} (f : α → Option β) : List α → Option (List β)
  | [] => some []
  | x :: r => match f x, allSome f r with
    | some y, some ys => some (y :: ys)
    | _, _ => none
theorem allSome_map {l : List Str} {xs : List PyData} (h : allSome readF l = some xs) : (∀ s ∈ l, ∃ r, readF s = some r) ∧ (l.map PyData.str).map (fun x => match x with | .str s => (readF s).getD .none | _ => .none) = xs := by
  induction l generalizing xs with
  | nil => cases h; exact ⟨fun s hs => (by cases hs), rfl⟩
  | cons s r ih =>
    unfold allSome at h
    split at h
    · rename_i y ys h1 h2
      cases h
      obtain ⟨a, b⟩ := ih h2
      refine ⟨fun t ht => ?_, ?_⟩
      · rcases List.mem_cons.mp ht with rfl | ht
        · exact ⟨_, h1⟩
        · exact a t ht
      · rw [List.map_cons, List.map_cons, b]
        show (readF s).getD .none :: ys = _
        rw [h1]; rfl
    · cases h
def readP (w : Str) : Option PyData :=
  if w.length < 60 then
    match allSome readF (Txt.split w " ") with
    | some xs => if ptB (.tuple xs) = true then some (.tuple xs) else none
    | none => none
  else none
def textS (l h : Int) : Str := textI l ++ ".." ++ textI h
theorem textS_len {t b : Int} (h1 : t.natAbs < 10 ^ 60) (h2 : b.natAbs < 10 ^ 60) : (textS t b).length ≤ 4010 := by
  have := textI_len h1
  have := textI_len h2
  unfold textS
  simp only [Str.length_append]
  have e1 : (".." : Str).length = 2 := by decide
  omega
def textB (b : BoxN) : Str := Txt.join " " [textS b.x0 b.x1, textS b.y0 b.y1, textS b.z0 b.z1]
theorem readP_inv {w : Str} {r : PyData} (h : readP w = some r) : w.length < 60 ∧ ∃ xs, allSome readF (Txt.split w " ") = some xs ∧ ptB (.tuple xs) = true ∧ r = .tuple xs := by
  unfold readP at h
  split at h
  · refine ⟨‹_›, ?_⟩
    split at h
    · split at h
      · cases h; exact ⟨_, ‹_›, ‹_›, rfl⟩
      · cases h
    · cases h
  · cases h
def spReadP : DSp := fun m ds k => ∃ (w : Str) (r : PyData), ds = [.d (.str w)] ∧ readP w = some r ∧ (Txt.split w " ").length ≤ 10000000 ∧ k (.d r) m
def spTextP : DSp := fun m ds k => ∃ p : PtN, ds = [.d p.d] ∧ p.Ok ∧ k (.d (.str (textP p))) m
def spSpan : DSp := fun m ds k => ∃ l h : Int, ds = [.d (.int l), .d (.int h)] ∧ l.natAbs < 10 ^ 60 ∧ h.natAbs < 10 ^ 60 ∧ k (.d (.str (textS l h))) m
def spTextB : DSp := fun m ds k => ∃ b : BoxN, ds = [.d b.d] ∧ b.Ok ∧ b.Sml ∧ k (.d (.str (textB b))) m
def spReadS : DSp := fun m ds k => ∃ (w : Str) (x y : PyData), ds = [.d (.str w)] ∧ w.length < 60 ∧ readI (Txt.partition w "..").1 = some x ∧ readI (Txt.partition w "..").2.2 = some y ∧ k (.d (.tuple [x, y])) m
def spReadB : DSp := fun m ds k => ∃ (w a b c : Str) (B : BoxN), ds = [.d (.str w)] ∧ w.length < 60 ∧ Txt.split w " " = [a, b, c] ∧ (a.length < 60 ∧ b.length < 60 ∧ c.length < 60) ∧
  (readI (Txt.partition a "..").1 = some (.int B.x0) ∧ readI (Txt.partition a "..").2.2 = some (.int B.x1)) ∧ (readI (Txt.partition b "..").1 = some (.int B.y0) ∧ readI (Txt.partition b "..").2.2 = some (.int B.y1)) ∧
  (readI (Txt.partition c "..").1 = some (.int B.z0) ∧ readI (Txt.partition c "..").2.2 = some (.int B.z1)) ∧ B.Ok ∧ k (.d B.d) m
theorem smAbs {i : Int} (h : Sm i) : i.natAbs < 10 ^ 60 := by
  obtain ⟨h1, h2⟩ := h
  omega
def BoxN.gr (s t : BoxN) : BoxN := ⟨s.x0 - t.x1, s.x1 - t.x0, s.y0 - t.y1, s.y1 - t.y0, s.z0 - t.z1, s.z1 - t.z0⟩
def spGrown : DSp := fun m ds k => ∃ s t : BoxN, ds = [.d s.d, .d t.d] ∧ s.Ok ∧ t.Ok ∧ k (.d (s.gr t).d) m
def BoxN.nat (b : BoxN) (i : Nat) : Int := match i with
  | 0 => b.x0
  | 1 => b.x1
  | 2 => b.y0
  | 3 => b.y1
  | 4 => b.z0
  | _ => b.z1
def isI (o : Option PyData) (n : Int) : Bool := match o with
  | some (.int k) => decide (k = n)
  | _ => false
theorem isI_eq {o : Option PyData} {n : Int} (h : isI o n = true) : o = some (.int n) := by
  unfold isI at h
  split at h
  · rw [of_decide_eq_true h]
  · cases h
def isF (o : Option PyData) (n d : Int) : Bool := match o with
  | some (.tuple [.int k, .int l]) => decide (k = n) && decide (l = d)
  | _ => false
theorem isF_eq {o : Option PyData} {n d : Int} (h : isF o n d = true) : o = some (.tuple [.int n, .int d]) := by
  unfold isF at h
  split at h
  · have := of_decide_eq_true (Bool.and_eq_true_iff.mp h).1
    have := of_decide_eq_true (Bool.and_eq_true_iff.mp h).2
    subst_vars
    rfl
  · cases h
/-- every whole number from -20 to 39 -/
theorem all60 {P : Int → Bool} (h : (List.range 60).all (fun i => P ((i : Int) - 20)) = true) {n : Int} (h1 : -20 ≤ n) (h2 : n < 40) : P n = true := by
  have e := List.all_eq_true.mp h (n + 20).toNat (List.mem_range.mpr (by omega))
  rw [show (((n + 20).toNat : Nat) : Int) - 20 = n from by omega] at e
  exact e
set_option maxRecDepth 1000000 in
theorem readI_small {n : Int} (h1 : -20 ≤ n) (h2 : n < 40) : readI (textI n) = some (.int n) := isI_eq (all60 (P := fun n => isI (readI (textI n)) n) (by decide +kernel) h1 h2)
end DW

set_option Elab.async false
set_option linter.all false
set_option maxRecDepth 100000
set_option maxHeartbeats 1000000
namespace DW
variable [TabsC]
open PySem PySem.Spec PyProof.Rows L2
/-! ### list(zip(a, b)) of two lists -/
theorem zno_len : typeLookup (.type "zip") "__len__" = pure none := by rw [typeLookup_type, builtinLookup_eq_fast]; kernel_rfl
theorem zno_hint : typeLookup (.type "zip") "__length_hint__" = pure none := by rw [typeLookup_type, builtinLookup_eq_fast]; kernel_rfl
/-- how the zip stands behind i items -/
structure ZS (z TI TO i1 i2 l1 l2 : Addr) (xs ys : Array Value) (S : Addr) (i : Nat) (h : Heap) : Prop where
  ti : IsPair h TI (.ref i1) (.ref i2)
  a : h.IsListIter i1 l1 i
  b : h.IsListIter i2 l2 i
  la : h.IsList l1 xs
  lb : h.IsList l2 ys
  zz : (IsZip h z TI TO .none ∧ ∃ u v, IsPair h TO u v) ∨ ∃ T f oT, IsZipHeld h z TI TO T f ∧ h.get? T = some oT ∧ T ≠ z ∧ T ≠ i1 ∧ T ≠ i2 ∧ T ≠ S
section
variable {z TI TO i1 i2 l1 l2 S : Addr} {xs ys : Array Value} {i : Nat} {h h' : Heap} {prog : Program} {w : World} {A : Around} {E : Value → Shared → Prop} {s : Shared}
/-- the list that is filled may change -/
theorem ZS.keep (d : ZS z TI TO i1 i2 l1 l2 xs ys S i h) (nS : S ∉ [z, TI, TO, i1, i2, l1, l2]) (k : ∀ c o, c ≠ S → h.get? c = some o → h'.get? c = some o) : ZS z TI TO i1 i2 l1 l2 xs ys S i h' := by
  simp only [List.mem_cons, List.not_mem_nil, or_false, not_or] at nS
  obtain ⟨n1, n2, n3, n4, n5, n6, n7⟩ := nS
  refine ⟨k _ _ (Ne.symm n2) d.ti, d.a.at fun o q => k _ o (Ne.symm n4) q, d.b.at fun o q => k _ o (Ne.symm n5) q, d.la.at fun o q => k _ o (Ne.symm n6) q, d.lb.at fun o q => k _ o (Ne.symm n7) q, ?_⟩
  rcases d.zz with ⟨q, u, v, t⟩ | ⟨T, f, oT, q, t, r1, r2, r3, r4⟩
  · exact .inl ⟨k _ _ (Ne.symm n1) q, u, v, k _ _ (Ne.symm n3) t⟩
  · exact .inr ⟨T, f, oT, k _ _ (Ne.symm n1) q, k _ _ r4 t, r1, r2, r3, r4⟩
theorem ZS.next (d : ZS z TI TO i1 i2 l1 l2 xs ys S i s.heap) (D : ZipApart z TI TO i1 i2 l1 l2) (hS : S < s.heap.objs.size) {x y : Value} (hx : xs[i]? = some x) (hy : ys[i]? = some y) {Q : Option Value → Shared → Prop}
    (hq : ∀ h', ZS z TI TO i1 i2 l1 l2 xs ys S (i + 1) h' → IsPair h' s.heap.objs.size x y → (∀ c o, c ∉ [z, TO, i1, i2] → s.heap.get? c = some o → h'.get? c = some o) → Q (some (.ref s.heap.objs.size)) { s with heap := h' }) :
    wpAny (model prog w) A (pyNext (.ref z)) Q E s := by
  have big : ∀ {c o}, s.heap.get? c = some o → s.heap.objs.size ≠ c := fun q => Nat.ne_of_gt (Heap.lt_size q)
  have b1 : s.heap.objs.size ≠ i1 := by obtain ⟨o, q, _⟩ := d.a; exact big q
  have b2 : s.heap.objs.size ≠ i2 := by obtain ⟨o, q, _⟩ := d.b; exact big q
  rcases d.zz with ⟨q, u, v, t⟩ | ⟨T, f, oT, q, t, r1, r2, r3, r4⟩
  · refine wpAny_pyNext_zip_item D q d.ti t d.a d.b d.la d.lb hx hy fun h' e1 e2 e3 e4 e5 e6 k => ?_
    refine hq h' ⟨k _ _ D.TIz D.TITO D.TIi1 D.TIi2 d.ti, e3, e4, d.la.at fun o p => k _ o D.l1z D.l1TO D.l1i1 D.l1i2 p, d.lb.at fun o p => k _ o D.l2z D.l2TO D.l2i1 D.l2i2 p,
      .inr ⟨_, false, _, e1, e5, big q, b1, b2, Nat.ne_of_gt hS⟩⟩ e5 fun c o hc p => ?_
    simp only [List.mem_cons, List.not_mem_nil, or_false, not_or] at hc
    exact k c o hc.1 hc.2.1 hc.2.2.1 hc.2.2.2 p
  · refine wpAny_pyNext_zip_item_held D q t d.ti d.a d.b d.la d.lb hx hy fun h' e1 e3 e4 e5 e6 k => ?_
    refine hq h' ⟨k _ _ D.TIz D.TIi1 D.TIi2 d.ti, e3, e4, d.la.at fun o p => k _ o D.l1z D.l1i1 D.l1i2 p, d.lb.at fun o p => k _ o D.l2z D.l2i1 D.l2i2 p,
      .inr ⟨T, true, oT, e1, k _ _ r1 r2 r3 t, r1, r2, r3, r4⟩⟩ e5 fun c o hc p => ?_
    simp only [List.mem_cons, List.not_mem_nil, or_false, not_or] at hc
    exact k c o hc.1 hc.2.2.1 hc.2.2.2 p
theorem ZS.last (hh : A.handled = none) (d : ZS z TI TO i1 i2 l1 l2 xs ys S i s.heap) (D : ZipApart z TI TO i1 i2 l1 l2) (hx : xs[i]? = none ∨ ys[i]? = none) {Q : Option Value → Shared → Prop}
    (hq : ∀ h', (∀ c o, c ∉ [z, TO, i1, i2] → s.heap.get? c = some o → h'.get? c = some o) → Q none { s with heap := h' }) : wpAny (model prog w) A (pyNext (.ref z)) Q E s := by
  rcases d.zz with ⟨q, u, v, t⟩ | ⟨T, f, oT, q, t, r1, r2, r3, r4⟩
  · refine wpAny_pyNext_zip_end hh D q d.ti t d.a d.b d.la d.lb hx fun h' k => hq h' fun c o hc p => ?_
    simp only [List.mem_cons, List.not_mem_nil, or_false, not_or] at hc
    exact k c o hc.1 hc.2.1 hc.2.2.1 hc.2.2.2 p
  · refine wpAny_pyNext_zip_end_held hh D q t d.ti d.a d.b d.la d.lb hx fun h' k => hq h' fun c o hc p => ?_
    simp only [List.mem_cons, List.not_mem_nil, or_false, not_or] at hc
    exact k c o hc.1 hc.2.2.1 hc.2.2.2 p
end
end DW

set_option Elab.async false
set_option linter.all false
set_option maxRecDepth 100000
set_option maxHeartbeats 1000000
namespace DW
variable [TabsC]
open PySem PySem.Spec PyProof.Rows L2
abbrev LS (h : Heap) (S : Addr) (acc : Array Value) (c : Nat) : Prop := h.get? S = some { cls := .type "list", dict := none, data := .seq acc c, slots := #[] }
def ZO (H : Hp) (out xv yv : List V) (i : Nat) : Prop := ∀ j x y, j < i → xv[j]? = some x → yv[j]? = some y → ∃ T, out[j]? = some (.ref T) ∧ H T = some (.tup [x, y])
theorem fpOk_up {X : Cx} {pins : List (Addr × Obj)} {H : Hp} {b T : Addr} {o : HO} (f : FpOk X pins H b) (n : b ≠ T) : FpOk X pins (upd H T o) b := ⟨by rw [upd_ne n]; exact f.1, f.2⟩
section
variable {X : Cx} {pins : List (Addr × Obj)} {σ : L2.St} {z TI TO i1 i2 l1 l2 S : Addr} {A : Around} {R : Result → Shared → Prop} {res : Value} {xv yv : List V} {ax ay : List Value}
theorem vals_at : ∀ {xs : List V} {us : List Value} {j : Nat} {x : V}, Vals xs us → xs[j]? = some x → ∃ u, us[j]? = some u ∧ RelV x u
  | _, _, 0, _, .cons r _, h => by cases h; exact ⟨_, rfl, r⟩
  | _, _, j + 1, _, .cons _ t, h => vals_at (j := j) t h
theorem vals_push : ∀ {xs : List V} {us : List Value} {x : V} {u : Value}, Vals xs us → RelV x u → Vals (xs ++ [x]) (us ++ [u])
  | _, _, _, _, .nil, r => .cons r .nil
  | _, _, _, _, .cons a t, r => .cons a (vals_push t r)
theorem zloop (D : ZipApart z TI TO i1 i2 l1 l2) (nS : S ∉ [z, TI, TO, i1, i2, l1, l2]) (hh : A.in1.handled = none) (rx : Vals xv ax) (ry : Vals yv ay) (hn : xv.length = yv.length) (hz : xv.length ≤ 10000000) (N0 : Nat) (hN : ∀ b ∈ S :: [z, TO, i1, i2], b < N0) :
    ∀ (k i : Nat) (s : Shared) (H : Hp) (acc : Array Value) (out : List V) (c : Nat), xv.length - i = k → i ≤ xv.length → N0 ≤ s.heap.objs.size → Inv X pins σ H s → (∀ b ∈ S :: [z, TO, i1, i2], FpOk X pins H b) → ZS z TI TO i1 i2 l1 l2 ax.toArray ay.toArray S i s.heap →
      LS s.heap S acc c → Vals out acc.toList → out.length = i → ZO H out xv yv i →
      (∀ s' H' acc' out' c', Same H H' → Inv X pins σ H' s' → FpOk X pins H' S → LS s'.heap S acc' c' → Vals out' acc'.toList → out'.length = xv.length → ZO H' out' xv yv xv.length → R (.ok (.ret res)) s') →
      codeAny (model X.prog X.w) A (.builtin "list.extend.loop" ⟨[.ref S, .ref z, res], []⟩) R s := by
  have nS' := nS
  simp only [List.mem_cons, List.not_mem_nil, or_false, not_or] at nS'
  intro k
  induction k with
  | zero =>
    intro i s H acc out c hk hi hNs I hf d hL rv ho hO hR
    have ei : i = xv.length := by omega
    subst ei
    refine codeAny_builtin F.entry_extend_loop (Eq.mpr (by rw [Around.under_plainId F.plain_extend_loop _]) ?_)
    show wpAny _ A.in1 (pyNext (.ref z) >>= _) _ _ s
    have hend : ax.toArray[xv.length]? = none := by
      have := rx.length
      simp only [List.getElem?_toArray]
      exact List.getElem?_eq_none (by omega)
    refine wpAny_bind (d.last hh D (.inl hend) fun h' kp => wpAny_pure ?_)
    have I2 : Inv X pins σ H { s with heap := h', toks := s.toks } := I.turnedL kp fun b hb => hf b (List.mem_cons_of_mem _ hb)
    exact hR _ H acc out c (Same.refl _) I2 (hf S List.mem_cons_self) (kp S _ (by simp only [List.mem_cons, List.not_mem_nil, or_false, not_or]; exact ⟨nS'.1, nS'.2.2.1, nS'.2.2.2.1, nS'.2.2.2.2.1⟩) hL) rv ho hO
  | succ k ih =>
    intro i s H acc out c hk hi hNs I hf d hL rv ho hO hR
    have hlt : i < xv.length := by omega
    obtain ⟨u, hu, ru⟩ := vals_at rx (List.getElem?_eq_getElem hlt)
    obtain ⟨u2, hu2, ru2⟩ := vals_at ry (List.getElem?_eq_getElem (show i < yv.length by omega))
    refine codeAny_builtin F.entry_extend_loop (Eq.mpr (by rw [Around.under_plainId F.plain_extend_loop _]) ?_)
    show wpAny _ A.in1 (pyNext (.ref z) >>= _) _ _ s
    have hSlt : S < s.heap.objs.size := Heap.lt_size hL
    refine wpAny_bind (d.next D hSlt (x := u) (y := u2) (by rw [List.getElem?_toArray]; exact hu) (by rw [List.getElem?_toArray]; exact hu2) fun h' d' hT kp => ?_)
    have hSw : S ∉ [z, TO, i1, i2] := by simp only [List.mem_cons, List.not_mem_nil, or_false, not_or]; exact ⟨nS'.1, nS'.2.2.1, nS'.2.2.2.1, nS'.2.2.2.2.1⟩
    have I2 : Inv X pins σ (upd H s.heap.objs.size (.tup [xv[i], yv[i]])) { s with heap := h', toks := s.toks } :=
      I.turnedNew kp (fun b hb => hf b (List.mem_cons_of_mem _ hb)) (Nat.le_refl _) ⟨(by decide : 2 ≤ sizeLine), [u, u2], .cons ru (.cons ru2 .nil), ⟨_, hT, rfl, _, rfl⟩⟩
    have hn2 : H s.heap.objs.size = none := I.hok.fresh (Nat.le_refl _)
    have sm : Same H (upd H s.heap.objs.size (.tup [xv[i], yv[i]])) := same_new hn2
    have hL' : LS h' S acc c := kp S _ hSw hL
    have lower : ∀ b ∈ S :: [z, TO, i1, i2], b ≠ s.heap.objs.size := fun b hb => Nat.ne_of_lt (Nat.lt_of_lt_of_le (hN b hb) hNs)
    have hf2 : ∀ b ∈ S :: [z, TO, i1, i2], FpOk X pins (upd H s.heap.objs.size (.tup [xv[i], yv[i]])) b := fun b hb => fpOk_up (hf b hb) (lower b hb)
    show wpAny _ A.in1 (updateSeq S (·.push (.ref s.heap.objs.size)) >>= _) _ _ _
    have al := rv.length
    refine wpAny_bind ?_
    have sl : (10000000 : Nat) < sizeLine := by decide
    have asz : acc.size = out.length := by rw [← Array.length_toList]; exact al.symm
    refine wpAny_updateSeq hL' rfl (wpAny_pure ⟨plainId_quiet F.plain_extend_loop _, ?_⟩) (by omega) (by show (acc.push _).size ≤ sizeLine + 1; rw [Array.size_push]; omega)
    have I3 := I2.turnedL (ch := [S]) (h' := h'.update S (Obj.mapSeq fun a => a.push (.ref s.heap.objs.size))) (t' := s.toks) (fun b o hb e => (Heap.get?_update_other _ _ (fun q => hb (by rw [q]; exact List.mem_cons_self))).trans e) (fun b hb => by rw [List.mem_singleton.mp hb]; exact hf2 S List.mem_cons_self)
    have hnew : N0 ≤ (h'.update S (Obj.mapSeq fun a => a.push (.ref s.heap.objs.size))).objs.size := by
      exact Nat.le_trans hNs (Nat.le_of_lt (Heap.lt_size ((Heap.get?_update_other _ (Obj.mapSeq fun a => a.push (.ref s.heap.objs.size)) (Nat.ne_of_lt hSlt)).trans hT)))
    refine ih (i + 1) _ _ (acc.push (.ref s.heap.objs.size)) (out ++ [.ref s.heap.objs.size]) _ (by omega) hlt hnew I3 hf2 (d'.keep nS fun b o hb e => (Heap.get?_update_other _ _ (Ne.symm hb)).trans e) (Heap.get?_update_self _ hL' rfl) (by rw [Array.toList_push]; exact vals_push rv rfl) (by rw [List.length_append, ho]; rfl) ?_ fun s' H' acc' out' c' sm' I' f' hL2 rv' ho' hO' => hR s' H' acc' out' c' (Same.trans sm sm') I' f' hL2 rv' ho' hO'
    · intro j x y hj hx hy
      by_cases e : j = i
      · subst e
        rw [List.getElem?_eq_getElem hlt] at hx
        rw [List.getElem?_eq_getElem (show j < yv.length by omega)] at hy
        cases hx
        cases hy
        exact ⟨s.heap.objs.size, by rw [List.getElem?_append_right (by omega), ho]; simp, upd_same⟩
      · obtain ⟨T, h1, h2⟩ := hO j x y (by omega) hx hy
        exact ⟨T, by rw [List.getElem?_append_left (by omega)]; exact h1, sm T _ h2⟩
/-- where the filling ends -/
def ZEnd (X : Cx) (pins : List (Addr × Obj)) (σ : L2.St) (H : Hp) (S : Addr) (xv yv : List V) (Z : Shared → Prop) : Prop :=
  ∀ s' H' acc' out' c', Same H H' → Inv X pins σ H' s' → FpOk X pins H' S → LS s'.heap S acc' c' → Vals out' acc'.toList → out'.length = xv.length → ZO H' out' xv yv xv.length → Z s'
theorem upd_ls {s : Shared} {H : Hp} {f : Obj → Obj} (I : Inv X pins σ H s) (fS : FpOk X pins H S) : Inv X pins σ H { s with heap := s.heap.update S f } :=
  I.turnedL (t' := s.toks) (ch := [S]) (fun b o hb e => (Heap.get?_update_other _ _ (fun q => hb (by rw [q]; exact List.mem_cons_self))).trans e) fun b hb => by rw [List.mem_singleton.mp hb]; exact fS
theorem zextend (D : ZipApart z TI TO i1 i2 l1 l2) (nS : S ∉ [z, TI, TO, i1, i2, l1, l2]) (hh : A.in1.handled = none) (rx : Vals xv ax) (ry : Vals yv ay) (hn : xv.length = yv.length) (hz : xv.length ≤ 10000000) (N0 : Nat) (hN : ∀ b ∈ S :: [z, TO, i1, i2], b < N0)
    {s : Shared} {H : Hp} {c : Nat} (hNs : N0 ≤ s.heap.objs.size) (I : Inv X pins σ H s) (hf : ∀ b ∈ S :: [z, TO, i1, i2], FpOk X pins H b) (d : ZS z TI TO i1 i2 l1 l2 ax.toArray ay.toArray S 0 s.heap) (hz0 : IsZip s.heap z TI TO .none) (hL : LS s.heap S #[] c)
    (hR : ZEnd X pins σ H S xv yv fun s' => R (.ok (.ret res)) s') :
    wpAny (model X.prog X.w) A.in1 (Builtin.List.listExtendWith (.ref S) (.ref z) res) (fun fin s' => match fin with | .done f => R (.ok f) s' | .again c' => c'.quiet = true ∧ codeAny (model X.prog X.w) A c' R s') (fun e s' => R (.error e) s') s := by
  have nz : S ≠ z := fun e => nS (by simp [e])
  have zt : s.TypeIs (.ref z) "zip" := ⟨_, hz0, rfl⟩
  unfold Builtin.List.listExtendWith
  refine wpAny_bind (wpAny_typeOf zt ?_)
  have q1 : Builtin.List.listSameRef (.ref S) (.ref z) = false := by simp [Builtin.List.listSameRef, nz]
  have q2 : (Value.type "zip" == Value.type "list") = false := by decide
  have q3 : (Value.type "zip" == Value.type "tuple") = false := by decide
  simp only [q1, q2, q3, Bool.or_false, Bool.false_eq_true, if_false]
  refine wpAny_bind (wpAny_pyIter_zip hz0 (wpAny_bind (wpAny_holding ?_)))
  unfold Builtin.List.listLengthHint
  refine wpAny_bind (wpAny_specialOf zt zno_len ?_)
  show wpAny _ A.in1 (specialOf (Value.ref z) "__length_hint__" >>= _) _ _ _
  refine wpAny_bind (wpAny_specialOf zt zno_hint (wpAny_pure ?_))
  show wpAny _ A.in1 (rule "list.extend.makes-room" >>= fun _ => Builtin.List.listTouch (.ref S) >>= fun _ => again (.builtin "list.extend.loop" ⟨[.ref S, .ref z, res], []⟩)) _ _ _
  refine wpAny_bind (wpAny_rule (wpAny_bind ?_))
  show wpAny _ A.in1 (updateSeq S (fun a => a.push .none) >>= fun _ => updateSeq S (fun a => a.pop)) _ _ _
  refine wpAny_bind (wpAny_updateSeq hL rfl ?_)
  have u1 := Heap.get?_update_self (Obj.mapSeq fun a => a.push Value.none) hL rfl
  refine wpAny_updateSeq (hz := by seq_fits) u1 rfl ?_
  have u2 := Heap.get?_update_self (Obj.mapSeq fun a => a.pop) u1 rfl
  have fS := hf S List.mem_cons_self
  have I2 := upd_ls (f := Obj.mapSeq fun a => a.pop) (upd_ls (f := Obj.mapSeq fun a => a.push Value.none) I fS) fS
  have ks : ∀ b o, b ≠ S → s.heap.get? b = some o → ((s.heap.update S (Obj.mapSeq fun a => a.push Value.none)).update S (Obj.mapSeq fun a => a.pop)).get? b = some o := fun b o hb e =>
    (Heap.get?_update_other _ _ (Ne.symm hb)).trans ((Heap.get?_update_other _ _ (Ne.symm hb)).trans e)
  refine wpAny_pure ⟨plainId_quiet F.plain_extend_loop _, zloop D nS hh rx ry hn hz N0 hN _ 0 _ H _ [] _ rfl (Nat.zero_le _) ?_ I2 hf (d.keep nS ks) u2 .nil rfl (fun j x y hj => absurd hj (Nat.not_lt_zero _)) hR⟩
  exact Nat.le_trans hNs (Nat.le_of_eq ((Heap.size_update _ _ _).trans (Heap.size_update _ _ _)).symm)
theorem zinit (D : ZipApart z TI TO i1 i2 l1 l2) (nS : S ∉ [z, TI, TO, i1, i2, l1, l2]) (hh : A.in1.handled = none) (rx : Vals xv ax) (ry : Vals yv ay) (hn : xv.length = yv.length) (hz : xv.length ≤ 10000000) (N0 : Nat) (hN : ∀ b ∈ S :: [z, TO, i1, i2], b < N0)
    {s : Shared} {H : Hp} (hNs : N0 ≤ s.heap.objs.size) (I : Inv X pins σ H s) (hf : ∀ b ∈ S :: [z, TO, i1, i2], FpOk X pins H b) (d : ZS z TI TO i1 i2 l1 l2 ax.toArray ay.toArray S 0 s.heap) (hz0 : IsZip s.heap z TI TO .none) (hL : s.heap.get? S = some { cls := .type "list", data := .seq #[] })
    (hR : ZEnd X pins σ H S xv yv fun s' => R (.ok (.ret .none)) s') :
    wpAny (model X.prog X.w) A.in1 (Builtin.«list.__init__» ⟨[.ref S, .ref z], []⟩) (fun fin s' => match fin with | .done f => R (.ok f) s' | .again c' => c'.quiet = true ∧ codeAny (model X.prog X.w) A c' R s') (fun e s' => R (.error e) s') s := by
  have nz : z ≠ S := fun e => nS (by simp [e])
  show wpAny _ _ (Builtin.List.listItems (.ref S) >>= fun old => Builtin.List.listUpdate (.ref S) (fun _ => #[]) >>= fun _ => letGo old.toList.reverse >>= fun _ => Builtin.List.listExtendWith (.ref S) (.ref z) .none) _ _ s
  unfold Builtin.List.listItems
  refine wpAny_bind (wpAny_bind (wpAny_seqItems hL rfl (wpAny_pure ?_)))
  show wpAny _ _ (updateSeq S (fun _ => #[]) >>= fun _ => letGo (#[] : Array Value).toList.reverse >>= fun _ => Builtin.List.listExtendWith (.ref S) (.ref z) Value.none) _ _ s
  refine wpAny_bind (wpAny_updateSeq hL rfl (wpAny_bind (wpAny_letGo ?_)))
  have u := Heap.get?_update_self (Obj.mapSeq fun _ => (#[] : Array Value)) hL rfl
  have ks : ∀ b o, b ≠ S → s.heap.get? b = some o → (s.heap.update S (Obj.mapSeq fun _ => (#[] : Array Value))).get? b = some o := fun b o hb e => (Heap.get?_update_other _ _ (Ne.symm hb)).trans e
  exact zextend D nS hh rx ry hn hz N0 hN (Nat.le_trans hNs (Nat.le_of_eq (Heap.size_update _ _ _).symm)) (upd_ls I (hf S List.mem_cons_self)) hf (d.keep nS ks) (ks z _ nz hz0) u hR
/-- list(z) of a zip that was just made -/
theorem zcall {A : Around} {E : Value → Shared → Prop} {Q : Value → Shared → Prop} (D : ZipApart z TI TO i1 i2 l1 l2) (hh : A.handled = none) (rx : Vals xv ax) (ry : Vals yv ay) (hn : xv.length = yv.length) (hz : xv.length ≤ 10000000) {s : Shared} {H : Hp} (I : Inv X pins σ H s)
    (hf : ∀ b ∈ [z, TO, i1, i2], FpOk X pins H b) (hlt : ∀ b ∈ [z, TI, TO, i1, i2, l1, l2], b < s.heap.objs.size) (d : ∀ S, S ∉ [z, TI, TO, i1, i2, l1, l2] → ZS z TI TO i1 i2 l1 l2 ax.toArray ay.toArray S 0 s.heap) (hz0 : IsZip s.heap z TI TO .none)
    (hQ : ZEnd X pins σ H s.heap.objs.size xv yv fun s' => Q (.ref s.heap.objs.size) s') : wpAny (model X.prog X.w) A (call (.type "list") [.ref z]) Q E s := by
  refine callType_codes (Q₁ := fun obj s₁ => obj = .ref s.heap.objs.size ∧ s₁ = { s with heap := s.heap.push { cls := .type "list", data := .seq #[] } }) F.called_list (F.typeCall_list_1 _) F.entry_list_init (code_list_new _ ⟨rfl, rfl⟩) fun obj s₁ h₁ => ?_
  obtain ⟨rfl, rfl⟩ := h₁
  have u : (s.heap.push { cls := .type "list", data := .seq #[] }).get? s.heap.objs.size = some { cls := .type "list", data := .seq #[] } := Heap.get?_push_size _ rfl
  have kp : ∀ b o, s.heap.get? b = some o → (s.heap.push { cls := .type "list", data := .seq #[] }).get? b = some o := fun b o e => Heap.get?_push_of_some _ e
  have nS : s.heap.objs.size ∉ [z, TI, TO, i1, i2, l1, l2] := fun q => Nat.lt_irrefl _ (hlt _ q)
  have fS : FpOk X pins H s.heap.objs.size := I.fpOk (Nat.le_refl _) (I.hok.fresh (Nat.le_refl _))
  refine ⟨⟨_, u, rfl⟩, F.args_list_init_2 _ _, zinit (A := A.in1) D nS hh rx ry hn hz (s.heap.objs.size + 1) ?_ (Nat.le_of_eq (Heap.size_push ..).symm) (I.kept (t' := s.toks) kp) ?_ ((d _ nS).keep nS fun c o _ e => kp c o e) (kp _ _ hz0) u ?_⟩
  · intro b hb
    rcases List.mem_cons.mp hb with q | q
    · rw [q]; exact Nat.lt_succ_self _
    · exact Nat.lt_succ_of_lt (hlt b (by simp only [List.mem_cons, List.not_mem_nil, or_false] at q ⊢; rcases q with q | q | q | q <;> simp [q]))
  · intro b hb
    rcases List.mem_cons.mp hb with q | q
    · rw [q]; exact fS
    · exact hf b q
  · intro s' H' acc' out' c' h1 h2 h3 h4 h5 h6 h7
    exact ⟨rfl, hQ s' H' acc' out' c' h1 h2 h3 h4 h5 h6 h7⟩
end
end DW

set_option Elab.async false
set_option linter.all false
set_option maxRecDepth 100000
set_option maxHeartbeats 1000000
namespace DW
variable [TabsC]
open PySem PySem.Spec PyProof.Rows L2
section
variable {X : Cx} {a b : Expr} {ta : TA} {p p2 pos pos2 : Pos}
/-- a zip that was just made of two lists -/
def ZMade (X : Cx) (pins : List (Addr × Obj)) (σ : L2.St) (Z : List V → List V → Hp → Prop) (v : Value) (s : Shared) : Prop :=
  ∃ (z TI TO i1 i2 l1 l2 : Addr) (xv yv : List V) (ax ay : List Value) (H : Hp), v = .ref z ∧ ZipApart z TI TO i1 i2 l1 l2 ∧ Vals xv ax ∧ Vals yv ay ∧ xv.length = yv.length ∧ xv.length ≤ 10000000 ∧ Inv X pins σ H s ∧
    (∀ b ∈ [z, TO, i1, i2], FpOk X pins H b) ∧ (∀ b ∈ [z, TI, TO, i1, i2, l1, l2], b < s.heap.objs.size) ∧ (∀ S, S ∉ [z, TI, TO, i1, i2, l1, l2] → ZS z TI TO i1 i2 l1 l2 ax.toArray ay.toArray S 0 s.heap) ∧ IsZip s.heap z TI TO .none ∧ Z xv yv H
def tZip (K : PySem.W.Frag) (ta : TA) : L2.St → Hp → (List V → List V → Hp → Prop) → Prop := fun σ H Z => ta σ H fun vs H1 => ∃ l1 l2 xs ys, vs = [.ref l1, .ref l2] ∧ SqL K H1 l1 xs ∧ SqL K H1 l2 ys ∧ xs.length = ys.length ∧ xs.length ≤ 10000000 ∧ Z xs ys H1
theorem zmade (hg1 : Gl X "zip") (hm1 : X.mg "zip" = none) (ha : PA X [a, b] ta) (hs : starEach [a, b] X.env = (false, eval a X.env) :: starEach [b] X.env) (hpl : (backTo pos2 (starEach [b] X.env)).any (·.1) = false)
    {pins : List (Addr × Obj)} {s : Shared} {σ : L2.St} {H : Hp} {Z : List V → List V → Hp → Prop} {E : Value → Shared → Prop} (I : Inv X pins σ H s) (h : tZip X.K ta σ H Z) (hE : E = X.xe) :
    wpAny (model X.prog X.w) X.A (eval (.Call (.Name "zip" p2) [a, b] [] pos2) X.env) (ZMade X pins σ Z) E s := by
  subst hE
  refine Call_ (ld_blt I hg1 hm1 boot_zip (callWith_type1 (thn (ha.run pos2 pins s σ H _ I h) fun us s1 ⟨vs, H1, I1, r1, q1⟩ => ?_) hs hpl))
  obtain ⟨l1, l2, xs, ys, ex, hqx, hqy, hl, hz, q⟩ := q1
  subst ex
  cases r1 with
  | cons r rr =>
    cases rr with
    | cons r' rr =>
      cases rr
      cases r
      cases r'
      obtain ⟨its, rv, p1, _⟩ := I1.list hqx
      obtain ⟨its2, rv2, p3, _⟩ := I1.list hqy
      refine call_zip_2 p1.isList p3.isList fun h' hz1 hTI hTO h1 h2 hsz hk => ?_
      have o1 := p1.lt
      have o2 := p3.lt
      have I2 : Inv X pins σ H1 { s1 with heap := h' } := I1.kept (t' := s1.toks) hk
      have fresh : ∀ c, s1.heap.objs.size ≤ c → FpOk X pins H1 c := fun c hc => I1.fpOk hc (I1.hok.fresh hc)
      refine ⟨_, _, _, _, _, _, _, xs, ys, its, its2, H1, rfl, PySem.W.ktu_apart s1.heap.objs.size l1 l2 o1 o2, rv, rv2, hl, hz, I2, ?_, ?_, fun S nS => ⟨hTI, h1, h2, p1.isList.at fun o e => hk _ o e, p3.isList.at fun o e => hk _ o e, .inl ⟨hz1, _, _, hTO⟩⟩, hz1, q⟩
      · intro b hb
        simp only [List.mem_cons, List.not_mem_nil, or_false] at hb
        refine fresh b ?_
        rcases hb with q | q | q | q <;> rw [q] <;> first | exact Nat.le_add_right _ _ | exact Nat.le_refl _
      · intro b hb
        simp only [List.mem_cons, List.not_mem_nil, or_false] at hb
        show b < h'.objs.size
        rw [hsz]
        have e1 : l1 < s1.heap.objs.size := o1
        have e2 : l2 < s1.heap.objs.size := o2
        rcases hb with q | q | q | q | q | q | q <;> (rw [q]; simp only [Nat.lt_iff_add_one_le]; first | exact Nat.le_refl _ | exact Nat.add_le_add_left (by decide) _ | (rw [Nat.add_assoc]; exact Nat.add_le_add_left (by decide) _) | exact Nat.le_trans e1 (Nat.le_add_right _ _) | exact Nat.le_trans e2 (Nat.le_add_right _ _))
theorem pe_listZip (hc : X.calm = true) (hg : Gl X "list") (hm : X.mg "list" = none) (hg1 : Gl X "zip") (hm1 : X.mg "zip" = none) (ha : PA X [a, b] ta)
    (hs : starEach [a, b] X.env = (false, eval a X.env) :: starEach [b] X.env := by rfl) (hpl : (backTo pos2 (starEach [b] X.env)).any (·.1) = false := by rfl)
    (na : starEach [.Call (.Name "zip" p2) [a, b] [] pos2] X.env = (false, eval (.Call (.Name "zip" p2) [a, b] [] pos2) X.env) :: starEach [] X.env := by rfl) :
    PE X (.Call (.Name "list" p) [.Call (.Name "zip" p2) [a, b] [] pos2] [] pos) (fun σ H Q => tZip X.K ta σ H fun xs ys H1 => ∀ S H' out, Same H1 H' → H' S = none → out.length = xs.length → ZO H' out xs ys xs.length → Q (.ref S) (upd H' S (.lst out))) := by
  refine ⟨fun pins s σ H Q I h => ?_⟩
  refine Call_ (ld_blt I hg hm boot_list (callWith_type1 (args_cons (thn (zmade hg1 hm1 ha hs hpl I h rfl) fun v s1 hM => args_nil ?_) na) na))
  obtain ⟨z, TI, TO, i1, i2, l1, l2, xv, yv, ax, ay, H1, rfl, D, rx, ry, hn, hz, I1, hf, hlt, d, hz0, q⟩ := hM
  refine zcall D (I1.ok.hd hc) rx ry hn hz I1 hf hlt d hz0 fun s' H' acc' out' c' sm I' fS hL rv' ho hO => ?_
  refine ⟨.ref s1.heap.objs.size, upd H' s1.heap.objs.size (.lst out'), I'.take (t' := s'.toks) (fun _ _ _ e => e) fS ⟨?_, acc'.toList, c', rv', ?_⟩, rfl, q _ H' out' sm fS.1 ho hO⟩
  · rw [ho]; exact Nat.le_trans hz (by decide)
  · rw [Array.toArray_toList]; exact hL
end
section
variable {X : Cx} {env : DEnv} {m : Me} {k : Dat → Me → Prop} {a b : Expr} {p p2 pos pos2 : Pos}
/-- pairs, item by item -/
def pairsD (xs ys : List PyData) : List PyData := (xs.zip ys).map fun q => .tuple [q.1, q.2]
theorem dp_of_at {K : PySem.W.Frag} {H : Hp} : ∀ {vs : List V} {ds : List PyData}, vs.length = ds.length → (∀ (j : Nat) v d, vs[j]? = some v → ds[j]? = some d → Dp K H v d) → DpAll K H vs ds
  | [], [], _, _ => .nil
  | v :: vs, d :: ds, hl, h => .cons (h 0 v d rfl rfl) (dp_of_at (by simpa using hl) fun j v d a b => h (j + 1) v d a b)
theorem wE_listZip (hc : X.calm = true) (hg : Gl X "list") (hm : X.mg "list" = none) (hg1 : Gl X "zip") (hm1 : X.mg "zip" = none)
    (h : wA X [a, b] env m fun ds m1 => ∃ xs ys : List PyData, ds = [.d (.list xs), .d (.list ys)] ∧ xs.length = ys.length ∧ xs.length ≤ 10000000 ∧ k (.d (.list (pairsD xs ys))) m1)
    (hs : starEach [a, b] X.env = (false, eval a X.env) :: starEach [b] X.env := by rfl) (hpl : (backTo pos2 (starEach [b] X.env)).any (·.1) = false := by rfl)
    (na : starEach [.Call (.Name "zip" p2) [a, b] [] pos2] X.env = (false, eval (.Call (.Name "zip" p2) [a, b] [] pos2) X.env) :: starEach [] X.env := by rfl) :
    wE X (.Call (.Name "list" p) [.Call (.Name "zip" p2) [a, b] [] pos2] [] pos) env m k :=
  wE_of (pe_listZip hc hg hm hg1 hm1 paW hs hpl na) fun σ H Q he hm0 hq => h σ H _ he hm0 fun vs ds m1 H1 e1 hm1 dv ⟨xs, ys, q, hl, hz, hk⟩ => by
    subst q
    cases dv with
    | cons d1 r1 =>
      cases r1 with
      | cons d2 r2 =>
        cases r2
        cases d1 with
        | @lst ad1 ws1 _ s1 a1 =>
          cases d2 with
          | @lst ad2 ws2 _ s2 a2 =>
            have n1 := dpAll_len a1
            have n2 := dpAll_len a2
            refine ⟨ad1, ad2, ws1, ws2, rfl, hid_sub.seq s1, hid_sub.seq s2, by omega, by omega, fun S H' out sm hS ho hO => ?_⟩
            have hSm := same_new (o := .lst out) hS
            have e2 : Ext m1 H1 m1 (upd H' S (.lst out)) := Ext.of (sm.trans hSm)
            have hm2 : MemOk X.K m1 (upd H' S (.lst out)) := (hm1.mono sm).mono hSm
            refine hq _ (.d (.list (pairsD xs ys))) m1 _ (e1.trans e2) hm2 (Dp.lst (SqL.of (same_hid (hm1.mono sm) hS)) ?_) hk
            refine dp_of_at (by rw [ho]; simp [pairsD]; omega) fun j v d hv hd => ?_
            have hj : j < ws1.length := by
              have := (List.getElem?_eq_some_iff.mp hv).1
              omega
            obtain ⟨T, t1, t2⟩ := hO j _ _ hj (List.getElem?_eq_getElem hj) (List.getElem?_eq_getElem (show j < ws2.length by omega))
            rw [hv] at t1
            cases t1
            unfold pairsD at hd
            have j1 : j < xs.length := by omega
            have j2 : j < ys.length := by omega
            rw [List.getElem?_map, zip_get, List.getElem?_eq_getElem j1, List.getElem?_eq_getElem j2] at hd
            cases hd
            have tT : upd H' S (.lst out) T = some (.tup [ws1[j], ws2[j]]) := hSm T _ t2
            have nh : ¬ m1.hd T := fun z => by
              rcases z with z | z
              · obtain ⟨x, y, k, q, _⟩ := hm2.pot T z
                rw [tT] at q
                cases q
              · obtain ⟨⟨a', zs⟩, z1, z2⟩ := List.mem_map.mp z
                cases z2
                obtain ⟨us, q, _⟩ := hm2.own _ _ z1
                rw [tT] at q
                cases q
            obtain ⟨u1, g1, p1⟩ := dpAll_get a1 (List.getElem?_eq_getElem j1)
            obtain ⟨u2, g2, p2⟩ := dpAll_get a2 (List.getElem?_eq_getElem j2)
            rw [List.getElem?_eq_getElem hj] at g1
            rw [List.getElem?_eq_getElem (show j < ws2.length by omega)] at g2
            cases g1
            cases g2
            exact Dp.tup (SqT.of (hid_of nh tT (fun q => by
              obtain ⟨p, hp, e⟩ := List.mem_map.mp q
              obtain ⟨ps, h1, _⟩ := hm2.tab p hp
              rw [e, tT] at h1
              cases h1))) (.cons (dp_mono (Ext.of (sm.trans hSm)) _ _ p1) (.cons (dp_mono (Ext.of (sm.trans hSm)) _ _ p2) .nil))
end
end DW

set_option Elab.async false
set_option linter.all false
set_option maxRecDepth 100000
set_option maxHeartbeats 1000000
namespace DW
variable [TabsC]
open PySem PySem.Spec PyProof.Rows L2
/-! ### hull -/
def MinOf (bs : List BoxN) (f : BoxN → Int) (v : Int) : Prop := v ∈ bs.map f ∧ ∀ y, y ∈ bs.map f → v ≤ y
def MaxOf (bs : List BoxN) (f : BoxN → Int) (v : Int) : Prop := v ∈ bs.map f ∧ ∀ y, y ∈ bs.map f → y ≤ v
def spHull : DSp := fun m ds k => ∃ bs : List BoxN, ds = [.d (.tuple (bs.map BoxN.d))] ∧ 0 < bs.length ∧ bs.length ≤ 1000 ∧ (∀ b ∈ bs, b.Ok) ∧
  ∀ r : BoxN, (MinOf bs (fun b => b.nat 0) r.x0 ∧ MinOf bs (fun b => b.nat 2) r.y0 ∧ MinOf bs (fun b => b.nat 4) r.z0) → (MaxOf bs (fun b => b.nat 1) r.x1 ∧ MaxOf bs (fun b => b.nat 3) r.y1 ∧ MaxOf bs (fun b => b.nat 5) r.z1) → k (.d r.d) m
def itemD (i : Nat) : PyData → PyData
  | .tuple xs => xs.getD i .none
  | _ => .none
theorem ints_item (i : Nat) (hi : i < 6) : ∀ bs : List BoxN, intsOf ((bs.map BoxN.d).map (itemD i)) = some (bs.map fun b => b.nat i)
  | [] => rfl
  | b :: r => by
    have e : itemD i b.d = .int (b.nat i) := by
      match i, hi with
      | 0, _ => rfl
      | 1, _ => rfl
      | 2, _ => rfl
      | 3, _ => rfl
      | 4, _ => rfl
      | 5, _ => rfl
    rw [List.map_cons, List.map_cons, e]
    show (intsOf ((r.map BoxN.d).map (itemD i))).map (b.nat i :: ·) = _
    rw [ints_item i hi r]
    rfl
theorem truT {m : Me} {xs : List PyData} (h : 0 < xs.length) : truD m (.d (.tuple xs)) = some true := by
  cases xs with
  | nil => exact absurd h (Nat.lt_irrefl _)
  | cons x r => rfl
def lcSc : Stmt → Scope
  | .Assign _ (.ListComp _ _ sc _) _ => sc
  | _ => { kind := .function, names := [], isGenerator := false, isCoroutine := false, more := [] }
end DW

set_option Elab.async false
set_option linter.all false
set_option maxRecDepth 100000
set_option maxHeartbeats 1000000
namespace DW
variable [TabsC]
open PySem PySem.Spec PyProof.Rows L2
/-- slots behind a walk: what was known ahead of it, the walk's own names aside -/
def Kp (vs : List Nat) (σ σ' : L2.St) : Prop := σ.length = σ'.length ∧ ∀ (j : Nat) v, (L2.wipe σ vs)[j]? = some (some v) → σ'[j]? = some (some v)
/-- an act does what its word says -/
def Does (B : Cx) (act : Act) (vs : List Nat) (word : (Hp → Prop) → L2.St → Hp → Prop) : Prop := ∀ (pins : List (Addr × Obj)) (σ : L2.St) (H : Hp) (s : Shared) (Nx : Hp → Prop) (K : Shared → Prop) (R : Result → Shared → Prop), Inv B pins σ H s → word Nx σ H →
  (∀ s' σ' H', Inv B pins σ' H' s' → Kp vs σ σ' → Nx H' → K s') → act K R s
/-- a walk's word -/
def wk (wi : TI) (g : TG) (vs : List Nat) (word : (Hp → Prop) → L2.St → Hp → Prop) : (Hp → Prop) → L2.St → Hp → Prop := fun Nx σ H => wi σ H fun J H4 => ∃ W : Nat → Nat → Hp → Prop, (∃ m, W 0 m H4) ∧ ∀ j k H, W j k H →
  (J.stop j H ∧ Nx H) ∨ (J.go j H ∧ ∃ N1 : Hp → Prop, (∀ H', N1 H' → ∃ k', k' < k ∧ W (j + 1) k' H') ∧ ∀ x H', J.yld j H x H' → g x (L2.wipe σ vs) H' fun σ3 H5 => L2.wipe σ3 vs = L2.wipe σ vs ∧ word N1 σ3 H5)
/-- the last clause's word -/
def wkL (tt : TT) (te : TE) (D : Addr) : (Hp → Prop) → L2.St → Hp → Prop := fun Nx σ H => tt σ H fun b H6 => if b = true then te σ H6 fun y H7 => ∃ xs, H7 D = some (.lst xs) ∧ xs.length < sizeLine ∧ Nx (upd H7 D (.lst (xs ++ [y]))) else Nx H6
theorem does_l {B : Cx} {elt : Expr} {tests : List Expr} {tt : TT} {te : TE} {D : Addr} (hx : B.xe = fun _ _ => False) (ht : PTs B tests tt) (he : PE B elt te) : Does B (actL B.prog B.w B.A elt tests (.ref D) B.env) [] (wkL tt te D) := by
  intro pins σ H s Nx K R I h hK
  have z1 := ht.run pins s σ H _ I h
  rw [hx] at z1
  refine thnF z1 fun b s1 ⟨H1, I1, q1⟩ => ?_
  have kp : Kp [] σ σ := ⟨rfl, fun _ _ e => e⟩
  cases b with
  | false =>
    simp only [Bool.false_eq_true, if_false] at q1 ⊢
    exact hK _ _ _ I1 kp q1
  | true =>
    simp only [if_true] at q1 ⊢
    have z2 := he.run pins s1 σ H1 _ I1 q1
    rw [hx] at z2
    refine thnF z2 fun u s2 ⟨y, H2, I2, r2, xs, hD, hl, nx⟩ => ?_
    exact app_ok I2 hD hl r2 fun s3 I3 => hK _ _ _ I3 kp nx
theorem does_o {B : Cx} {elt t1 i1 : Expr} {cs : List Comprehension} {tests : List Expr} {scope : Scope} {pos : Pos} {d : Nat} {D : Addr} {wi : TI} {g : TG} {vs vs1 : List Nat} {act : Act} {word : (Hp → Prop) → L2.St → Hp → Prop} (hc : B.calm = true) (hx : B.xe = fun _ _ => False)
    (h0 : cs[d]? = some ⟨t1, i1, tests, 0⟩) (hi : PI B t1 i1 wi) (hg : PG B t1 g) (hr : Rule B.prog B.w B.A (Nd elt cs scope pos) t1 d (.ref D) B.env act) (hd : Does B act vs1 word) (hv : ∀ j ∈ vs1, j ∈ vs) :
    Does B (actO B.prog B.w B.A (Nd elt cs scope pos) d i1 (.ref D) B.env) vs (wk wi g vs word) := by
  intro pins σ H s Nx K R I h hK
  have z1 := hi.run pins s σ H _ I h
  rw [hx] at z1
  refine thnF z1 fun xv s1 z2 => thnF z2 fun jv s2 z3 => ?_
  obtain ⟨it, fp, tn, J, H2, rfl, I2, T, st2, f2, W, ⟨m0, w0⟩, turn⟩ := z3
  have still : ∀ {H' : Hp}, (∀ b ∈ fp, H' b = none) → ∀ b ∈ fp, FpOk B pins H' b := fun z b hb => ⟨z b hb, (f2 b hb).2⟩
  have loop : codeAny (model B.prog B.w) B.A (.compLoop (Nd elt cs scope pos) d (.ref it) (.ref D) B.env) (fun r s6 => match r with | .ok _ => K s6 | .error _ => False) s2 := by
    refine hr _ _ (fun k s' => ∃ j H', Inv B pins (L2.wipe σ vs) H' s' ∧ tn j s'.heap ∧ (∀ b ∈ fp, H' b = none) ∧ W j k H') ?_ m0 _ ⟨0, H2, I2.weak (wipe_length _ _) (fun j v e => (wipe_some e).1), st2, fun b hb => (f2 b hb).1, w0⟩
    rintro k s3 ⟨j, H3, I3, st3, n3, w3⟩
    rcases turn j k H3 w3 with ⟨stop, nx⟩ | ⟨go, N1, hN, step⟩
    · refine thnF (T.done B rfl rfl rfl hc j _ s3 (L2.wipe σ vs) H3 (fun _ _ => False) I3 (still n3) st3 stop) fun r s4 ⟨hr2, I4⟩ => ?_
      subst hr2
      exact hK _ _ _ I4 ⟨(wipe_length _ _).symm, fun _ _ e => e⟩ nx
    · refine thnF (T.item B rfl rfl rfl hc j _ s3 (L2.wipe σ vs) H3 (fun _ _ => False) I3 (still n3) st3 go) fun r s4 ⟨u, hr2, z4⟩ => ?_
      subst hr2
      refine thnF z4 fun _ s5 ⟨x, H5, I5, r5, y5, st5, n5⟩ => ?_
      have I6 := I5.pinned (still n5) (T.obj _ _ st5)
      have z5 := hg.run _ s5 (L2.wipe σ vs) H5 x u _ I6 r5 (step x H5 y5)
      rw [hx] at z5
      refine thnF z5 fun _ s6 ⟨σ6, H6, I7, hw, q6⟩ => ?_
      refine hd _ σ6 H6 s6 N1 _ _ I7 q6 fun s7 σ7 H7 I8 kp nx => ?_
      obtain ⟨k', hk, w7⟩ := hN H7 nx
      have pin : ∀ b ∈ fp, ∀ o, s5.heap.get? b = some o → s7.heap.get? b = some o ∧ H7 b = none := fun b hb o e =>
        let z := I8.pin (b, o) (List.mem_append_right _ (List.mem_append_right _ (mem_pinsAt hb e)))
        ⟨z.1, z.2.1⟩
      refine ⟨k', hk, j + 1, H7, I8.unpinned.weak (by rw [← hw, wipe_length]; exact kp.1) (fun i v e => ?_), T.keep _ _ _ st5 fun b hb o e => (pin b hb o e).1, fun b hb => ?_, w7⟩
      · rw [← hw] at e
        obtain ⟨e1, e2⟩ := wipe_some e
        refine kp.2 i v ?_
        rw [wipe_out fun z => e2 (hv i z)]
        exact e1
      · obtain ⟨o, e, _⟩ := T.obj _ _ st5 b hb
        exact (pin b hb o e).2
  exact start_k h0 loop (T.self B.A 0 _ _ _ st2 loop)
section
variable {X : Cx}
/-- the whole -/
def tLcN (wi : TI) (g : TG) (vs : List Nat) (word : Addr → (Hp → Prop) → L2.St → Hp → Prop) : TE := fun σ H Q => wi σ H fun J H1 => ∀ D, H1 D = none → ∃ W : Nat → Nat → Hp → Prop, (∃ m, W 0 m (upd H1 D (.lst []))) ∧ ∀ i m H, W i m H →
  (J.stop i H ∧ Q (.ref D) H) ∨ (J.go i H ∧ ∃ Nx : Hp → Prop, (∀ H', Nx H' → ∃ m', m' < m ∧ W (i + 1) m' H') ∧ ∀ x H', J.yld i H x H' → g x (L2.wipe σ vs) H' fun σ2 H2 => L2.wipe σ2 vs = L2.wipe σ vs ∧ word D Nx σ2 H2)
theorem lcN_core {pins : List (Addr × Obj)} {s : Shared} {σ : L2.St} {H : Hp} {Q : VK} {elt tg iter : Expr} {rest : List Comprehension} {scope : Scope} {own : List (Str × Nat)} {vs1 : List Nat} {pos pos' : Pos} {wi : TI} {g : TG} {use : Option (Value → Sem Unit)} {Qf : Value → Shared → Prop}
    {word : Addr → (Hp → Prop) → L2.St → Hp → Prop} {act : Addr → Env → Act}
    (hc : X.calm = true) (hN : X.N.Nodup) (I : Inv X pins σ H s) (hi : PI X tg iter wi) (ok : BlkOk X.N X.env.scope scope own) (hv : ∀ i ∈ vs1, i ∈ own.map (·.2))
    (hg : ∀ (s : Shared) (H : Hp) (C : Addr) (cl : List (Str × Addr)) (fp : List Addr), PG (bk X scope s H C cl fp) tg g)
    (hr : ∀ (D : Addr) (s : Shared) (C : Addr) (cl : List (Str × Addr)), Rule X.prog X.w X.A (Nd elt (⟨tg, iter, [], 0⟩ :: rest) scope pos) tg 0 (.ref D) (compEnvC scope cl C X.env) (act D (compEnvC scope cl C X.env)))
    (hd : ∀ (D : Addr) (s : Shared) (H : Hp) (C : Addr) (cl : List (Str × Addr)) (fp : List Addr), Does (bk X scope s H C cl fp) (act D (compEnvC scope cl C X.env)) vs1 (word D))
    (hs : ∀ x, foldedSetIterable iter X.env x = pure x) (h : tLcN wi g (own.map (·.2)) word σ H Q)
    (hRR : ∀ D C s' m H', Inv X pins σ H' s' → Q (.ref D) H' → s'.heap.Ns C m → FpOk X pins H' C → compPost (model X.prog X.w) X.A X.xe use Qf (.ref D) C (.ok .next) s') :
    wpAny (model X.prog X.w) X.A (comprehension (Nd elt (⟨tg, iter, [], 0⟩ :: rest) scope pos) scope X.env pos' (newList []) false (eval iter X.env) use) Qf X.xe s := by
  have free : ∀ y ∈ scope.names, y.2 = .free → ∃ c, X.env.cells.lookup y.1 = some c := fun y hy e => by
    rcases ok.free y hy e with z | z
    · exact I.ok.has _ (.inl z)
    · exact I.ok.has _ (.inr z)
  refine wpAny_comprehension_free (use := use) rfl hs (closure_ok free) ok.kind (fun y hy e => by rw [ok.uniq y hy, e])
    (thn (hi.run pins s σ H _ I h) fun xv s1 z1 => thn z1 fun jv s2 z2 => ?_)
  obtain ⟨it, fp, tn, J, H2, rfl, I2, T, st2, f2, q⟩ := z2
  refine wpAny_newObj_type (newEnv_comp ?_) (by show 0 ≤ sizeLine; decide)
  generalize eD : s2.heap.objs.size = D
  obtain ⟨W, ⟨m0, w0⟩, turn⟩ := q D (I2.hok.fresh (Nat.le_of_eq eD))
  generalize es3 : ({ s2 with heap := s2.heap.push { cls := .type "list", data := .seq ([] : List Value).toArray } } : Shared) = s3
  have h3 : s3.heap = s2.heap.push { cls := .type "list", data := .seq ([] : List Value).toArray } := by rw [← es3]
  have I3 : Inv X pins σ (upd H2 D (.lst [])) s3 := by
    rw [← es3]
    refine I2.laid (t' := s2.toks) (fun b o z => Heap.get?_push_of_some _ z) (Nat.le_of_eq eD) ⟨Nat.zero_le _, [], 0, .nil, ?_⟩
    rw [← eD]
    exact Heap.get?_push_size _ rfl
  have f3 : ∀ b ∈ fp, FpOk X pins (upd H2 D (.lst [])) b ∧ b < s3.heap.objs.size := fun b hb => by
    obtain ⟨o, z, _⟩ := T.obj _ _ st2 b hb
    have hlt := Heap.lt_size z
    refine ⟨⟨?_, (f2 b hb).2⟩, by rw [h3, Heap.size_push]; exact Nat.lt_succ_of_lt hlt⟩
    rw [upd_ne (by rw [← eD]; exact Nat.ne_of_lt hlt)]
    exact (f2 b hb).1
  have st3 : tn 0 s3.heap := T.keep _ _ _ st2 fun b _ o z => by rw [h3]; exact Heap.get?_push_of_some _ z
  have I4 := block_start I3 ok hN f3
  have pg := hg s3 (upd H2 D (.lst [])) s3.heap.objs.size (cellsFrom (s3.heap.objs.size + 1) scope.names (cloFrom X.env.cells scope.names [])) fp
  have rl := hr D s3 s3.heap.objs.size (cellsFrom (s3.heap.objs.size + 1) scope.names (cloFrom X.env.cells scope.names []))
  have dd := hd D s3 (upd H2 D (.lst [])) s3.heap.objs.size (cellsFrom (s3.heap.objs.size + 1) scope.names (cloFrom X.env.cells scope.names [])) fp
  show codeAny _ _ (.compStart (Nd elt (⟨tg, iter, [], 0⟩ :: rest) scope pos) 0 (.ref it) (.ref D) (compEnvC scope (cellsFrom (s3.heap.objs.size + 1) scope.names (cloFrom X.env.cells scope.names [])) s3.heap.objs.size X.env)) (compPost (model X.prog X.w) X.A X.xe use Qf (.ref D) s3.heap.objs.size) { s3 with heap := pushCells (s3.heap.push { cls := .type "dict", data := .dict #[] }) scope.names }
  have nfp : ∀ b ∈ fp, (upd H2 D (.lst [])) b = none := fun b hb => (f3 b hb).1.1
  unfold bk at pg dd
  generalize ece : compEnvC scope (cellsFrom (s3.heap.objs.size + 1) scope.names (cloFrom X.env.cells scope.names [])) s3.heap.objs.size X.env = ce at I4 pg rl dd ⊢
  have cL : ce.locals = s3.heap.objs.size := by subst ece; rfl
  generalize eH3 : upd H2 D (.lst []) = H3 at I3 I4 pg dd w0 nfp f3
  generalize es4 : ({ s3 with heap := pushCells (s3.heap.push { cls := .type "dict", data := .dict #[] }) scope.names } : Shared) = s4 at I4 ⊢
  have st4 : tn 0 s4.heap := T.keep _ _ _ st3 fun b _ o z => by rw [← es4]; exact pushCells_keeps _ _ _ _ (Heap.get?_push_of_some _ z)
  have still : ∀ {σ' : L2.St} {H' : Hp} {s' : Shared}, Inv (X.blk s3 H3 scope ce fp) [] σ' H' s' → (∀ b ∈ fp, H' b = none) → ∀ b ∈ fp, FpOk (X.blk s3 H3 scope ce fp) [] H' b := fun {σ' H' s'} z n b hb =>
    ⟨n b hb, (z.ok.exf b hb).1, z.ok.exfs b hb, .inl hb, fun x c e => (z.ok.exf b hb).2 x c e, fun p hp => absurd (show p ∈ ([] : List (Addr × Obj)) ++ [] from hp) (by simp)⟩
  have loop : codeAny (model X.prog X.w) X.A (.compLoop (Nd elt (⟨tg, iter, [], 0⟩ :: rest) scope pos) 0 (.ref it) (.ref D) ce) (compPost (model X.prog X.w) X.A X.xe use Qf (.ref D) s3.heap.objs.size) s4 := by
    refine rl _ _ (fun n s' => ∃ i H', Inv (X.blk s3 H3 scope ce fp) [] (L2.wipe σ (own.map (·.2))) H' s' ∧ tn i s'.heap ∧ (∀ b ∈ fp, H' b = none) ∧ W i n H') ?_ m0 _ ⟨0, H3, I4, st4, nfp, w0⟩
    rintro n s5 ⟨i, H5, I5, st5, n5, w5⟩
    rcases turn i n H5 w5 with ⟨stop, qq⟩ | ⟨go, Nx, hNx, step⟩
    · refine thnF (T.done (X.blk s3 H3 scope ce fp) rfl rfl rfl hc i [] s5 _ H5 (fun _ _ => False) I5 (still I5 n5) st5 stop) fun r s6 ⟨hr2, I6⟩ => ?_
      subst hr2
      have I7 : Inv X pins σ H5 s6 := I3.call' (ch := fp) I6.os I6.base I6.hok I6.bare fun b hb => ⟨(f3 b hb).1.2.2.2.1, (f3 b hb).1.2.1, (f3 b hb).1.2.2.2.2.1, (f3 b hb).1.2.2.2.2.2⟩
      have nC : H5 ce.locals = none := I6.free
      rw [cL] at nC
      obtain ⟨mm, hn, _⟩ := I6.loc
      have hn2 : s6.heap.Ns ce.locals mm := hn
      rw [cL] at hn2
      exact hRR D s3.heap.objs.size s6 mm H5 I7 qq hn2 (I3.fpOk (Nat.le_refl _) nC)
    · refine thnF (T.item (X.blk s3 H3 scope ce fp) rfl rfl rfl hc i [] s5 _ H5 (fun _ _ => False) I5 (still I5 n5) st5 go) fun r s6 ⟨u, hr2, z6⟩ => ?_
      subst hr2
      refine thnF z6 fun _ s7 ⟨x, H7, I7, r7, y7, st7, n7⟩ => ?_
      have I8 := I7.pinned (still I7 n7) (T.obj _ _ st7)
      refine thnF (pg.run _ s7 _ H7 x u _ I8 r7 (step x H7 y7)) fun _ s8 ⟨σ8, H8, I9, hw, q8⟩ => ?_
      refine dd _ σ8 H8 s8 Nx _ _ I9 q8 fun s9 σ9 H9 I10 kp nx => ?_
      obtain ⟨m', hm, w9⟩ := hNx H9 nx
      have pin : ∀ b ∈ fp, ∀ o, s7.heap.get? b = some o → s9.heap.get? b = some o ∧ H9 b = none := fun b hb o z =>
        let z' := I10.pin (b, o) (List.mem_append_right _ (List.mem_append_right _ (mem_pinsAt hb z)))
        ⟨z'.1, z'.2.1⟩
      refine ⟨m', hm, i + 1, H9, (I10.unpinned (pins := [])).weak (by rw [← hw, wipe_length]; exact kp.1) (fun j v z => ?_), T.keep _ _ _ st7 fun b hb o z => (pin b hb o z).1, fun b hb => ?_, w9⟩
      · rw [← hw] at z
        obtain ⟨z1, z2⟩ := wipe_some z
        refine kp.2 j v ?_
        rw [wipe_out fun y => z2 (hv j y)]
        exact z1
      · obtain ⟨o, z, _⟩ := T.obj _ _ st7 b hb
        exact (pin b hb o z).2
  exact codeAny_compStart_list loop (T.self X.A 0 _ _ _ st4 loop)
theorem pe_lcN {elt tg iter : Expr} {rest : List Comprehension} {scope : Scope} {own : List (Str × Nat)} {vs1 : List Nat} {pos : Pos} {wi : TI} {g : TG} {word : Addr → (Hp → Prop) → L2.St → Hp → Prop} {act : Addr → Env → Act}
    (hc : X.calm = true) (hN : X.N.Nodup) (hi : PI X tg iter wi) (ok : BlkOk X.N X.env.scope scope own) (hv : ∀ i ∈ vs1, i ∈ own.map (·.2))
    (hg : ∀ (s : Shared) (H : Hp) (C : Addr) (cl : List (Str × Addr)) (fp : List Addr), PG (bk X scope s H C cl fp) tg g)
    (hr : ∀ (D : Addr) (s : Shared) (C : Addr) (cl : List (Str × Addr)), Rule X.prog X.w X.A (Nd elt (⟨tg, iter, [], 0⟩ :: rest) scope pos) tg 0 (.ref D) (compEnvC scope cl C X.env) (act D (compEnvC scope cl C X.env)))
    (hd : ∀ (D : Addr) (s : Shared) (H : Hp) (C : Addr) (cl : List (Str × Addr)) (fp : List Addr), Does (bk X scope s H C cl fp) (act D (compEnvC scope cl C X.env)) vs1 (word D))
    (hs : ∀ x, foldedSetIterable iter X.env x = pure x := by intro _; rfl) : PE X (Nd elt (⟨tg, iter, [], 0⟩ :: rest) scope pos) (tLcN wi g (own.map (·.2)) word) := by
  refine ⟨fun pins s σ H Q I h => ?_⟩
  rw [eval_ListComp]
  refine lcN_core hc hN I hi ok hv hg hr hd hs h fun D C s' mm H' I' q hn f => ⟨mm, hn, fun h2 sb => ?_⟩
  obtain ⟨f0, f1, f2, f3, f4, f5⟩ := f
  exact ⟨.ref D, H', I'.turned (t' := s'.toks) (fun b o hb z => (sb.2 b hb).trans z) f0 f1 f3 f4 f5, rfl, q⟩
end
end DW

set_option Elab.async false
set_option linter.all false
set_option maxRecDepth 100000
set_option maxHeartbeats 1000000
namespace DW
variable [TabsC]
open PySem PySem.Spec PyProof.Rows L2
/-! ### comprehensions of three clauses, the last with a test -/
/-- a walk that carries a list -/
def runA (step : Me → List PyData → PyData → (List PyData → Me → Prop) → Prop) : List PyData → List PyData → Me → (List PyData → Me → Prop) → Prop
  | [], acc, m, k => k acc m
  | x :: r, acc, m, k => step m acc x fun acc' m' => acc'.length ≤ 10000000 ∧ runA step r acc' m' k
abbrev AW := DEnv → Me → List PyData → (List PyData → Me → Prop) → Prop
def tB (X : Cx) (scope : Scope) (c : Expr) : TT := fun σ H Q => ∀ s H' C cl fp, ttW (bk X scope s H' C cl fp) c σ H Q
theorem ptB_ {X : Cx} {scope : Scope} {c : Expr} (s H C cl fp) : PT (bk X scope s H C cl fp) c (tB X scope c) := ⟨fun pins s1 _ _ _ I h => h s H C cl fp pins s1 I⟩
/-- the last clause: a test, and the item -/
def awL (X : Cx) (scope : Scope) (D : Addr) (c elt : Expr) : AW := fun env m acc kk => acc.length < 10000000 ∧ ∀ s H C cl fp, wT (bk X scope s H C cl fp) c env (m.own D acc) fun b m1 =>
  ∃ m2, m1 = Me.own m2 D acc ∧ (b = false → kk acc m2) ∧ (b = true → ∀ s H C cl fp, wE (bk X scope s H C cl fp) elt env (m2.own D acc) fun d m3 => ∃ y m4, d = .d y ∧ m3 = Me.own m4 D acc ∧ kk (acc ++ [y]) m4)
/-- a clause with more behind it -/
def awO (X : Cx) (scope : Scope) (D : Addr) (vs : List Nat) (tg iter : Expr) (inn : AW) : AW := fun env m acc kk => ∀ s H C cl fp, wI (bk X scope s H C cl fp) tg iter env (m.own D acc) fun ys m1 =>
  ∃ m2, m1 = Me.own m2 D acc ∧ acc.length ≤ 10000000 ∧ runA (fun m acc y kk => ∀ s H C cl fp, wG (bk X scope s H C cl fp) vs tg (wipeE env vs) (m.own D acc) (.d y) fun env' => inn env' m acc kk) ys acc m2 kk
/-- the word of the hand layer follows from the word over data -/
def Br (X : Cx) (D : Addr) (word : (Hp → Prop) → L2.St → Hp → Prop) (aw : AW) : Prop := ∀ (σ : L2.St) (H : Hp) (Nx : Hp → Prop) (env : DEnv) (m : Me) (acc : List PyData) (kk : List PyData → Me → Prop), EnvOk X.K (m.own D acc) H σ env → MemOk X.K (m.own D acc) H → aw env m acc kk →
  (∀ acc' m' H', MemOk X.K (Me.own m' D acc') H' → Ext (m.own D acc) H (Me.own m' D acc') H' → kk acc' m' → Nx H') → word Nx σ H
theorem br_l {X : Cx} {scope : Scope} {D : Addr} {c elt : Expr} : Br X D (wkL (tB X scope c) (eB X scope elt) D) (awL X scope D c elt) := by
  intro σ H Nx env m acc kk he hm ⟨hl, h⟩ hq
  intro s Hs C cl fp
  refine h s Hs C cl fp σ H _ he hm ?_
  rintro b m1 H1 e1 hm1 ⟨m2, rfl, h0, h1⟩
  cases b with
  | false =>
    rw [if_neg Bool.false_ne_true]
    exact hq acc m2 H1 hm1 e1 (h0 rfl)
  | true =>
    rw [if_pos rfl]
    intro s Hs C cl fp
    refine h1 rfl s Hs C cl fp σ H1 _ (he.mono e1) hm1 ?_
    rintro u d m3 H3 e3 hm3 dv ⟨y, m4, rfl, rfl, hk⟩
    obtain ⟨ws, w1, w2⟩ := own_at hm3
    obtain ⟨o1, o2⟩ := own_set (acc' := acc ++ [y]) hm3 (dpAll_append w2 (dpAll_one dv))
    have wl := dpAll_len w2
    exact ⟨ws, w1, Nat.lt_of_lt_of_le (by omega : ws.length < 10000001) (by decide), hq _ m4 _ o1 ((e1.trans e3).trans o2) hk⟩
theorem br_o {X : Cx} {scope : Scope} {D : Addr} {vs : List Nat} {tg iter : Expr} {word : (Hp → Prop) → L2.St → Hp → Prop} {inn : AW} (hb : Br X D word inn) : Br X D (wk (iB X scope tg iter) (gB X scope tg) vs word) (awO X scope D vs tg iter inn) := by
  intro σ H Nx env m acc kk he hm h hq
  intro s Hs C cl fp
  refine h s Hs C cl fp σ H _ he hm ?_
  rintro J ys m1 H1 e1 hm1 dit ⟨m2, rfl, ha, hk⟩
  refine ⟨fun j n H' => n = ys.length - j ∧ j ≤ ys.length ∧ ∃ m' acc', MemOk X.K (Me.own m' D acc') H' ∧ Ext (m.own D acc) H (Me.own m' D acc') H' ∧ Ext (Me.own m2 D acc) H1 (Me.own m' D acc') H' ∧ runA (fun m acc y kk => ∀ s H C cl fp, wG (bk X scope s H C cl fp) vs tg (wipeE env vs) (m.own D acc) (.d y) fun env' => inn env' m acc kk) (ys.drop j) acc' m' kk,
    ⟨ys.length, rfl, Nat.zero_le _, m2, acc, hm1, e1, Ext.refl, hk⟩, ?_⟩
  rintro j n H2 ⟨rfl, hj, m3, acc3, hm3, e03, e13, hk3⟩
  have dt := (dit.mono e13) (Me.own m3 D acc3) H2 Ext.refl hm3 j
  by_cases hlt : j < ys.length
  · have hx : ys[j]? = some ys[j] := List.getElem?_eq_getElem hlt
    obtain ⟨go, yl⟩ := dt.1 _ hx
    rw [List.drop_eq_getElem_cons hlt] at hk3
    refine .inr ⟨go, fun H' => ∃ m' acc', MemOk X.K (Me.own m' D acc') H' ∧ Ext (m.own D acc) H (Me.own m' D acc') H' ∧ Ext (Me.own m2 D acc) H1 (Me.own m' D acc') H' ∧ runA (fun m acc y kk => ∀ s H C cl fp, wG (bk X scope s H C cl fp) vs tg (wipeE env vs) (m.own D acc) (.d y) fun env' => inn env' m acc kk) (ys.drop (j + 1)) acc' m' kk,
      fun H' z => ⟨ys.length - (j + 1), by omega, rfl, hlt, z⟩, fun v H3 y => ?_⟩
    obtain ⟨sm, dv⟩ := yl v H3 y
    have hm4 := hm3.mono sm
    have e04 := e03.trans (Ext.of sm)
    intro s Hs C cl fp
    refine hk3 s Hs C cl fp (L2.wipe σ vs) H3 v _ ((he.mono e04).wipe _) hm4 dv fun σ2 env2 eo ag hE => ⟨wipe_agree ag, ?_⟩
    refine hb σ2 H3 _ env2 m3 acc3 _ eo hm4 hE fun acc' m' H' y1 y2 y3 => ⟨m', acc', y1, e04.trans y2, (e13.trans (Ext.of sm)).trans y2, y3.2⟩
  · have ej : j = ys.length := by omega
    have stop := dt.2 (by omega)
    rw [ej, List.drop_length] at hk3
    exact .inl ⟨stop, hq acc3 m3 H2 hm3 e03 hk3⟩
section
variable {X : Cx} {env : DEnv} {m : Me} {k : Dat → Me → Prop} {pos : Pos} {scope : Scope} {t0 i0 t1 i1 t2 i2 c elt : Expr}
theorem wE_lc3 (own : List (Str × Nat)) (vs1 vs2 : List Nat) (hc : X.calm = true) (hN : X.N.Nodup) (ok : BlkOk X.N X.env.scope scope own) (hv1 : ∀ j ∈ vs1, j ∈ own.map (·.2)) (hv2 : ∀ j ∈ vs2, j ∈ vs1)
    (h : wI X t0 i0 env m fun xs m1 => ∀ D, runA (fun m acc x kk => ∀ s H C cl fp, wG (bk X scope s H C cl fp) (own.map (·.2)) t0 (wipeE env (own.map (·.2))) (m.own D acc) (.d x) fun env' =>
      awO X scope D vs1 t1 i1 (awO X scope D vs2 t2 i2 (awL X scope D c elt)) env' m acc kk) xs [] m1 fun ys m2 => k (.d (.list ys)) m2)
    (hs : ∀ x, foldedSetIterable i0 X.env x = pure x := by intro _; rfl) (hs1 : ∀ env x, foldedSetIterable i1 env x = pure x := by intro _ _; rfl) (hs2 : ∀ env x, foldedSetIterable i2 env x = pure x := by intro _ _; rfl) :
    wE X (.ListComp elt [⟨t0, i0, [], 0⟩, ⟨t1, i1, [], 0⟩, ⟨t2, i2, [c], 0⟩] scope pos) env m k := by
  refine wE_of (pe_lcN (vs1 := vs1) (wi := iW X t0 i0) (g := gB X scope t0) (word := fun D => wk (iB X scope t1 i1) (gB X scope t1) vs1 (wk (iB X scope t2 i2) (gB X scope t2) vs2 (wkL (tB X scope c) (eB X scope elt) D)))
    (act := fun D en => actO X.prog X.w X.A (Nd elt [⟨t0, i0, [], 0⟩, ⟨t1, i1, [], 0⟩, ⟨t2, i2, [c], 0⟩] scope pos) 1 i1 (.ref D) en) hc hN piW ok hv1 pgB (fun D s C cl => rule_o rfl rfl (hs1 _)) (fun D s H C cl fp => ?_) hs) fun σ H Q he hm hq => ?_
  · exact does_o (B := bk X scope s H C cl fp) (vs1 := vs2) hc rfl rfl (piB _ _ _ _ _) (pgB _ _ _ _ _) (rule_o rfl rfl (hs2 _)) (does_o (B := bk X scope s H C cl fp) (vs1 := []) hc rfl rfl (piB _ _ _ _ _) (pgB _ _ _ _ _) (rule_l rfl rfl) (does_l rfl (pts_one (ptB_ _ _ _ _ _)) (peB _ _ _ _ _)) (fun j hj => nomatch hj)) hv2
  · refine h σ H _ he hm fun J xs m1 H1 e1 hm1 dit hk => fun D hD => ?_
    obtain ⟨s1, s2⟩ := own_ok (vs := []) (xs := []) hm1 hD .nil
    refine ⟨fun i n H' => n = xs.length - i ∧ i ≤ xs.length ∧ ∃ m' acc, MemOk X.K (Me.own m' D acc) H' ∧ Ext m1 H1 (Me.own m' D acc) H' ∧ runA (fun m acc x kk => ∀ s H C cl fp, wG (bk X scope s H C cl fp) (own.map (·.2)) t0 (wipeE env (own.map (·.2))) (m.own D acc) (.d x) fun env' =>
      awO X scope D vs1 t1 i1 (awO X scope D vs2 t2 i2 (awL X scope D c elt)) env' m acc kk) (xs.drop i) acc m' fun ys m2 => k (.d (.list ys)) m2, ⟨xs.length, rfl, Nat.zero_le _, m1, [], s1, s2, hk D⟩, ?_⟩
    rintro i n H2 ⟨rfl, hi, m3, acc, hm3, e3, hk3⟩
    have dt := (dit.mono e3) (Me.own m3 D acc) H2 Ext.refl hm3 i
    by_cases hlt : i < xs.length
    · have hx : xs[i]? = some xs[i] := List.getElem?_eq_getElem hlt
      obtain ⟨go, yl⟩ := dt.1 _ hx
      rw [List.drop_eq_getElem_cons hlt] at hk3
      refine .inr ⟨go, fun H' => ∃ m' acc', MemOk X.K (Me.own m' D acc') H' ∧ Ext m1 H1 (Me.own m' D acc') H' ∧ runA (fun m acc x kk => ∀ s H C cl fp, wG (bk X scope s H C cl fp) (own.map (·.2)) t0 (wipeE env (own.map (·.2))) (m.own D acc) (.d x) fun env' =>
        awO X scope D vs1 t1 i1 (awO X scope D vs2 t2 i2 (awL X scope D c elt)) env' m acc kk) (xs.drop (i + 1)) acc' m' fun ys m2 => k (.d (.list ys)) m2, fun H' z => ⟨xs.length - (i + 1), by omega, rfl, hlt, z⟩, fun v H3 y => ?_⟩
      obtain ⟨sm, dv⟩ := yl v H3 y
      have hm4 := hm3.mono sm
      have e04 : Ext m H (Me.own m3 D acc) H3 := (e1.trans e3).trans (Ext.of sm)
      intro s Hs C cl fp
      refine hk3 s Hs C cl fp (L2.wipe σ (own.map (·.2))) H3 v _ ((he.mono e04).wipe _) hm4 dv ?_
      intro σ2 env2 eo ag hE
      refine ⟨wipe_agree ag, ?_⟩
      exact br_o (br_o br_l) σ2 H3 _ env2 m3 acc _ eo hm4 hE fun acc' m' H' y1 y2 y3 => ⟨m', acc', y1, (e3.trans (Ext.of sm)).trans y2, y3.2⟩
    · have ei : i = xs.length := by omega
      have stop := dt.2 (by omega)
      rw [ei, List.drop_length] at hk3
      obtain ⟨d1, d2, d3⟩ := own_drop hm3
      exact .inl ⟨stop, hq _ _ m3 H2 ((e1.trans e3).trans d2) d1 d3 hk3⟩
end
/-- a walk whose turns only add -/
theorem runA_add {step : Me → List PyData → PyData → (List PyData → Me → Prop) → Prop} (f : PyData → List PyData) {m : Me} {N : Nat} (hN : N ≤ 10000000) : ∀ {xs acc : List PyData} {k : List PyData → Me → Prop},
    (∀ x ∈ xs, ∀ (acc : List PyData) kk, acc.length + (f x).length ≤ N → kk (acc ++ f x) m → step m acc x kk) → acc.length + (xs.flatMap f).length ≤ N → k (acc ++ xs.flatMap f) m → runA step xs acc m k
  | [], acc, k, _, _, hk => by rw [List.flatMap_nil, List.append_nil] at hk; exact hk
  | x :: r, acc, k, h, hl, hk => by
    rw [List.flatMap_cons, List.length_append] at hl
    refine h x List.mem_cons_self acc _ (by omega) ⟨by rw [List.length_append]; omega, ?_⟩
    refine runA_add f hN (fun y hy => h y (List.mem_cons_of_mem _ hy)) (by rw [List.length_append]; omega) ?_
    rw [List.flatMap_cons, ← List.append_assoc] at hk
    exact hk
end DW

set_option Elab.async false
set_option linter.all false
set_option maxRecDepth 100000
set_option maxHeartbeats 1000000
namespace DW
variable [TabsC]
open PySem PySem.Spec PyProof.Rows L2
/-! ### enumerate(tuple) -/
abbrev tuIt (a : Addr) : Obj := { cls := .type "tuple_iterator", data := .fields #[.ref a, .int 0 0] }
abbrev enOb (j : Addr) : Obj := { cls := .type "enumerate", data := .fields #[.none, .bool false, .ref j, rawInt 0, .none, .none] }
theorem enumT_meets (a : Addr) (its : Array Value) : Meets (Builtin.«enumerate.__new__» ⟨[.type "enumerate", .ref a], []⟩) (fun _ R s => s.heap.IsTuple a its ∧
    R (.ok (.ret (.ref (s.heap.push (tuIt a)).objs.size))) { s with heap := (s.heap.push (tuIt a)).push (enOb s.heap.objs.size) }) :=
  .of_wp fun prog w A R s h => by
    obtain ⟨hp, g, d, tk, os⟩ := s
    obtain ⟨hT, h⟩ := h
    have hsub := sub_enumerate
    have q1 : ∀ {A' : Around} {E : Value → Shared → Prop} {Q : Value → Shared → Prop}, Q (.ref hp.objs.size) ⟨hp.push (tuIt a), g, d, tk, os⟩ → wpAny (model prog w) A' (pyIter (.ref a)) Q E ⟨hp, g, d, tk, os⟩ := fun q => wpAny_pyIter_tuple hT q
    wp_walk using q1
    refine wpAny_stack_any fun st => wpAny_pure ?_
    split
    · rename_i c _ _ _ _ _
      cases (c == Value.type "enumerate") <;> (wp_walk using q1; exact ⟨_, rfl, h⟩)
    · wp_walk using q1
      exact ⟨_, rfl, h⟩
theorem enumT_call {prog : Program} {w : World} {A : Around} {E : Value → Shared → Prop} {s : Shared} {a : Addr} {its : Array Value} {Q : Value → Shared → Prop} (hT : s.heap.IsTuple a its)
    (h : ∀ h', IsEnum h' (s.heap.objs.size + 1) s.heap.objs.size 0 .none → h'.IsTupleIter s.heap.objs.size a 0 → (∀ b o, s.heap.get? b = some o → h'.get? b = some o) → Q (.ref (s.heap.objs.size + 1)) { s with heap := h' }) :
    wpAny (model prog w) A (call (.type "enumerate") [.ref a]) Q E s := by
  refine callType_new F.called_enumerate (by decide) (F.typeCall_enumerate_1 _) (F.newCall_enumerate_1 _) (fun o => F.args_object_init_2 o _) F.entry_enumerate_new (enumT_meets a its) ⟨hT, ?_⟩
  have sz : (s.heap.push (tuIt a)).objs.size = s.heap.objs.size + 1 := Heap.size_push ..
  show _ ∧ _
  rw [sz]
  have he : IsEnum ((s.heap.push (tuIt a)).push (enOb s.heap.objs.size)) (s.heap.objs.size + 1) s.heap.objs.size 0 .none := by
    have q := Heap.get?_push_size (s.heap.push (tuIt a)) (o := enOb s.heap.objs.size) rfl
    rw [sz] at q
    exact q
  refine ⟨⟨_, he, rfl⟩, h _ he ⟨_, Heap.get?_push_of_some _ (Heap.get?_push_size _ rfl), rfl, rfl⟩ fun b o x => Heap.get?_push_of_some _ (Heap.get?_push_of_some _ x)⟩
theorem enumT_end {prog : Program} {w : World} {A : Around} {E : Value → Shared → Prop} {s : Shared} {a e j : Addr} {i : Nat} {k : Int} {its : Array Value} {old : Value} {Q : Option Value → Shared → Prop} (hh : A.handled = none) (he : IsEnum s.heap e j k old) (hj : s.heap.IsTupleIter j a i) (ht : s.heap.IsTuple a its) (hx : its[i]? = none)
    (hQ : ∀ h', Heap.ExtBut j s.heap h' → Q none { s with heap := h' }) : wpAny (model prog w) A (pyNext (.ref e)) Q E s := by
  have ty : s.TypeIs (.ref e) "enumerate" := ⟨_, he, rfl⟩
  unfold pyNext
  refine wpAny_bind (wpAny_attempt (wpAny_callSpecial?_slot (name := Str.ofString "__next__") ty F.slot_enumerate_next (wpAny_call_entry F.slot_enumerate_next ty F.entry_enumerate_next ?_ (F.args_enumerate_next_1 _))))
  show wpAny _ _ (field (.ref e) 2 >>= _) _ _ _
  refine wpAny_bind (wpAny_field he rfl (x := .ref j) rfl (wpAny_bind (wpAny_nextOf_tuple_end hh hj ht hx fun h' x eb ⟨o, ho, hc⟩ => ?_)))
  exact wpAny_bind (wpAny_isInstance (T := "StopIteration") (b := true) ⟨o, ho, hc⟩ isSubtype_stop (wpAny_pure (hQ _ eb)))
def IteT (K : PySem.W.Frag) (a : Addr) : It :=
  ⟨fun i H => ∃ (xs : List V) (x : V), SqT K H a xs ∧ xs[i]? = some x, fun i H v H' => ∃ T x, v = .ref T ∧ H T = none ∧ H' = upd H T (.tup [.int (i : Nat), x]) ∧ ∀ xs, SqT K H a xs → xs[i]? = some x, fun i H => ∃ xs : List V, SqT K H a xs ∧ xs.length ≤ i⟩
theorem turn_enumT {P : Program} {w : World} {K : PySem.W.Frag} {elts : List Expr} {kk : Nat} {tpos : Pos} (a e j : Addr) (haj : a ≠ j) (hae : e ≠ a) :
    Turn P w K (.Tuple elts kk tpos) (IteT K a) [e, j] e (fun i h => (∃ old, IsEnum h e j ((i : Nat) : Int) old) ∧ h.IsTupleIter j a i ∧ e ≠ j) where
  mem := by simp
  obj := fun i h st b hb => by
    obtain ⟨⟨old, he⟩, ⟨o, ho, hc, hd⟩, _⟩ := st
    have e' : b = e ∨ b = j := by simpa using hb
    rcases e' with rfl | rfl
    · exact ⟨_, he, fun v q => nomatch q⟩
    · exact ⟨o, ho, fun v q => by rw [hd] at q; cases q⟩
  keep := fun i h h' st k => ⟨⟨st.1.choose, k e (by simp) _ st.1.choose_spec⟩, st.2.1.at fun o q => k j (by simp) o q, st.2.2⟩
  item := by
    intro X hP hw hK hc i pins s σ H E I hf st hg
    subst hP hw hK
    obtain ⟨⟨old, he⟩, hit, hne⟩ := st
    obtain ⟨xs, x, hq, hx⟩ := hg
    obtain ⟨its, rv, p, hz⟩ := I.tuple hq
    obtain ⟨u, hu, ru⟩ := rv.get hx
    have pt : s.heap.IsTuple a its.toArray := p
    have hel : e < s.heap.objs.size := Heap.lt_size he
    have hjl : j < s.heap.objs.size := by obtain ⟨_, q, _⟩ := hit; exact Heap.lt_size q
    have hlt : i < its.toArray.size := by
      have := (List.getElem?_eq_some_iff.mp hu).1
      simpa using this
    refine wpAny_pyNext_enum_itemD (Draws.tuple (A := X.A.in1) (I.ok.hd hc) j a haj its.toArray) he ⟨hit, pt⟩ hlt hne (by simp [hne, hae]) fun x' h' tk hP ho st' hT hsz hk => ?_
    have hxu : x' = u := by
      have q : its.toArray[i]? = some x' := hP
      rw [List.getElem?_toArray, hu] at q
      exact (Option.some.inj q).symm
    subst hxu
    refine ⟨_, rfl, wpAny_letOwnedTupleGo_enum (s := { s with heap := h', toks := tk + 1 }) ho fun h'' he' sb => ?_⟩
    have hT2 : h''.get? s.heap.objs.size = some { cls := .type "tuple", data := .seq #[.int i tk, x'] } := (sb.2 _ (Nat.ne_of_gt hel)).trans hT
    have new : ObjOk X.prog X.w (upd H s.heap.objs.size (.tup [.int (i : Nat), x])) h'' s.heap.objs.size (.tup [.int (i : Nat), x]) :=
      ⟨szl (by show 2 ≤ 10000000; decide), [.int i tk, x'], .cons ⟨_, rfl⟩ (.cons ru .nil), ⟨_, hT2, rfl, _, rfl⟩⟩
    have I1 : Inv X pins σ (upd H s.heap.objs.size (.tup [.int (i : Nat), x])) { s with heap := h'', toks := tk + 1 } :=
      I.turnedNew (ch := [e, j]) (fun b ob hb q => (sb.2 b (fun z => hb (by simp [z]))).trans (hk b ob (fun z => hb (by simp [z])) (fun z => hb (by simp [z])) q)) hf (Nat.le_refl _) new
    refine ⟨.ref s.heap.objs.size, _, I1, rfl, ⟨_, x, rfl, I.hok.fresh (Nat.le_refl _), rfl, fun ys hy => by rw [I.tuple_inj hy hq]; exact hx⟩, ⟨⟨x', ?_⟩, st'.1.at fun o q => (sb.2 j (Ne.symm hne)).trans q, hne⟩, fun b hb => ?_⟩
    · rw [show ((i + 1 : Nat) : Int) = (i : Int) + 1 from by omega]
      exact he'
    · have hb' : b < s.heap.objs.size := by
        have e' : b = e ∨ b = j := by simpa using hb
        rcases e' with rfl | rfl
        · exact hel
        · exact hjl
      rw [upd_ne (Nat.ne_of_lt hb')]
      exact (hf b hb).1
  done := by
    intro X hP hw hK hc i pins s σ H E I hf st hg
    subst hP hw hK
    obtain ⟨⟨old, he⟩, hit, hne⟩ := st
    obtain ⟨xs, hq, hx⟩ := hg
    obtain ⟨its, rv, p, hz⟩ := I.tuple hq
    have pt : s.heap.IsTuple a its.toArray := p
    obtain ⟨f0, f1, f2, f3, f4, f5⟩ := hf j (by simp)
    have hl := rv.length
    refine enumT_end (I.ok.hd hc) he hit pt (by simp; omega) fun h' eb => ⟨rfl, I.turned (t' := s.toks) (fun b o hb q => eb b o hb q) f0 f1 f3 f4 f5⟩
  self := fun A i s Q E st h => let ⟨⟨_, he⟩, _⟩ := st; wpAny_pyIter_enum he h
def iEnumT (K : PySem.W.Frag) (ta : TA) : TI := fun σ H R => ta σ H fun vs H1 => ∃ a xs, vs = [.ref a] ∧ SqT K H1 a xs ∧ R (IteT K a) H1
theorem pi_enumT {X : Cx} {e : Expr} {ta : TA} {p pos tpos : Pos} {elts : List Expr} {kk : Nat} (hg : Gl X "enumerate") (hm : X.mg "enumerate" = none) (ha : PA X [e] ta) (hs : starEach [e] X.env = [(false, eval e X.env)] := by rfl) :
    PI X (.Tuple elts kk tpos) (.Call (.Name "enumerate" p) [e] [] pos) (iEnumT X.K ta) := by
  refine ⟨fun pins s σ H R I h => ?_⟩
  refine Call_ (ld_blt I hg hm boot_enumerate (PyProof.Rows.callWith_type1 (thn (ha.run pos pins s σ H _ I h) fun us s1 ⟨vs, H1, I1, r1, a, xs, ex, hq, q⟩ => ?_) hs rfl))
  subst ex
  cases r1 with
  | cons r rr =>
    cases rr
    cases r
    obtain ⟨its, rv, p', hz⟩ := I1.tuple hq
    have pt : s1.heap.IsTuple a its.toArray := p'
    have ha : a < s1.heap.objs.size := by obtain ⟨o, ho, _⟩ := pt; exact Heap.lt_size ho
    refine enumT_call pt fun h' he hit hk => wpAny_pyIter_enum he ?_
    have I2 : Inv X pins σ H1 { s1 with heap := h' } := I1.kept (t' := s1.toks) hk
    refine ⟨s1.heap.objs.size + 1, [s1.heap.objs.size + 1, s1.heap.objs.size], _, _, H1, rfl, I2, turn_enumT a (s1.heap.objs.size + 1) s1.heap.objs.size (Nat.ne_of_lt ha) (Nat.ne_of_gt (Nat.lt_succ_of_lt ha)), ⟨⟨.none, he⟩, hit, Nat.succ_ne_self _⟩, fun b hb => ?_, q⟩
    have hle : s1.heap.objs.size ≤ b := by
      have e' : b = s1.heap.objs.size + 1 ∨ b = s1.heap.objs.size := by simpa using hb
      rcases e' with rfl | rfl
      · exact Nat.le_add_right _ _
      · exact Nat.le_refl _
    exact I1.fpOk hle (I1.hok.fresh hle)
theorem dit_enumT {K : PySem.W.Frag} {m : Me} {H : Hp} {a : Addr} {vs : List V} {xs : List PyData} (hs : SqT K (hid m H) a vs) (ha : DpAll K (hid m H) vs xs) : DIt K m H (IteT K a) (xs.zipIdx.map fun q => .tuple [.int (q.2 : Int), q.1]) := fun m' H' e hm i => by
  have h1 : SqT K H' a vs := seqT_mono hid_sub (seqT_mono e hs)
  have l := dpAll_len ha
  refine ⟨fun x hx => ?_, fun hl => ⟨vs, h1, by rw [List.length_map, List.length_zipIdx] at hl; omega⟩⟩
  rw [List.getElem?_map, List.getElem?_zipIdx, Nat.zero_add] at hx
  cases q1 : xs[i]? with
  | none => rw [q1] at hx; cases hx
  | some x1 =>
    rw [q1] at hx
    cases hx
    obtain ⟨v, hv, dv⟩ := dpAll_get ha q1
    refine ⟨⟨vs, v, h1, hv⟩, fun u H'' y => ?_⟩
    obtain ⟨T, v', rfl, hT, rfl, f1⟩ := y
    have z1 := f1 vs h1
    rw [hv] at z1
    cases z1
    have s := same_new (o := .tup [.int (i : Nat), v]) hT
    have e2 := e.trans (Ext.of (m := m') s)
    exact ⟨s, Dp.tup (SqT.of (same_hid hm hT)) (.cons (Dp.int _) (.cons (dp_mono e2 _ _ dv) .nil))⟩
theorem wI_enumT {X : Cx} {env : DEnv} {m : Me} {ki : List PyData → Me → Prop} {e : Expr} {p pos tpos : Pos} {elts : List Expr} {j : Nat} (h : wE X e env m fun d m1 => ∃ xs, d = .d (.tuple xs) ∧ ki (xs.zipIdx.map fun q => .tuple [.int (q.2 : Int), q.1]) m1)
    (hg : Gl X "enumerate") (hm0 : X.mg "enumerate" = none) (hs : starEach [e] X.env = [(false, eval e X.env)] := by rfl) (hs1 : starEach [e] X.env = (false, eval e X.env) :: starEach [] X.env := by rfl) : wI X (.Tuple elts j tpos) (.Call (.Name "enumerate" p) [e] [] pos) env m ki :=
  wI_of (pi_enumT hg hm0 paW hs) fun σ H R he hm hq => (wA_cons (ka := fun ds m1 => ∃ d xs, ds = [d] ∧ d = .d (.tuple xs) ∧ ki (xs.zipIdx.map fun q => .tuple [.int (q.2 : Int), q.1]) m1) (wE.mono h fun d m1 ⟨xs, hd⟩ => wA_nil ⟨d, xs, rfl, hd⟩) hs1) σ H _ he hm fun vs ds m1 H1 e1 hm1 dvs ⟨d, xs, q1, q2, hk⟩ => by
    subst q1 q2
    obtain ⟨v, rfl, dv⟩ := dvs1 dvs
    cases dv with
    | tup s1 a1 => exact ⟨_, _, rfl, seqT_mono hid_sub s1, hq _ _ m1 H1 e1 hm1 (dit_enumT s1 a1) hk⟩
end DW

set_option Elab.async false
set_option linter.all false
set_option maxRecDepth 100000
set_option maxHeartbeats 1000000
namespace DW
variable [TabsC]
open PySem PySem.Spec PyProof.Rows L2
section
variable {X : Cx} {env : DEnv} {m : Me} {k : Dat → Me → Prop} {kb : Bool → Me → Prop} {a b : Expr} {pos : Pos}
theorem room65 {A : Around} {j : Nat} (h : RoomG j A) : A.units + 65 < cLine := by
  have q := h.room.un
  omega
/-! ### list + list -/
def rCatL (K : PySem.W.Frag) : R2 := fun x y H Q => ∃ l b xs ys, x = .ref l ∧ y = .ref b ∧ SqL K H l xs ∧ SqL K H b ys ∧ xs.length + ys.length ≤ 10000000 ∧ ∀ p, H p = none → Q (.ref p) (upd H p (.lst (xs ++ ys)))
theorem op_catL : OpR X (binaryOp .Add) (rCatL X.K) := fun pins s σ H x y v u Q I rx ry ⟨l, b, xs, ys, ex, ey, hl, hb, hz, q⟩ => by
  subst ex ey
  cases rx
  cases ry
  obtain ⟨its, r1, ⟨⟨c1, dd1, dt1, sl1⟩, n1, ho1, hc1, hdn1, hd1⟩, _⟩ := I.list hl
  obtain ⟨its2, r2, ⟨⟨c2, dd2, dt2, sl2⟩, n2, ho2, hc2, hdn2, hd2⟩, _⟩ := I.list hb
  simp only at hc1 hd1 hdn1 hc2 hd2 hdn2
  subst hc1 hd1 hdn1 hc2 hd2 hdn2
  have z1 := r1.length
  have z2 := r2.length
  have big : its.length + its2.length ≤ sizeLine := szl (by omega)
  refine concat_meets ⟨_, ho1, rfl⟩ ⟨_, ho2, rfl⟩ noFill_list_add seq_list_add PySem.F.slot_list_add PySem.F.entry_list_add (PySem.F.args_list_add_2 _ _) (list_addW l b its.toArray its2.toArray n1 n2 _ _ sl1 sl2 (by rw [List.size_toArray, List.size_toArray]; exact big)) ⟨ho1, ho2, ?_⟩
  rw [show its.toArray ++ its2.toArray = (its ++ its2).toArray from by simp]
  exact ⟨.ref _, _, I.lnew (t' := s.toks) (r1.append r2) (by rw [List.length_append, z1, z2]; exact big), rfl, q _ I.fresh⟩
theorem opD_catL {K : PySem.W.Frag} : OpD K (rCatL K) fCat := fun m H x y dx dy k Q hm h1 h2 ⟨xs, ys, e1, e2, hl, hk⟩ hq => by
  subst e1 e2
  cases h1 with
  | lst s1 a1 => cases h2 with
    | lst s2 a2 =>
      refine ⟨_, _, _, _, rfl, rfl, hid_sub.seq s1, hid_sub.seq s2, by rw [dpAll_len a1, dpAll_len a2]; exact hl, fun p hp => ?_⟩
      rename_i l1 vs1 l2 vs2
      have s := same_new (o := .lst (vs1 ++ vs2)) hp
      have z := hm.fresh hp
      exact hq _ (.d (.list (xs ++ ys))) _ s (Dp.lst (SqL.of (hid_of z upd_same (hm.new hp))) (dpAll_mono (Ext.of s) _ _ (dpAll_append a1 a2))) hk
theorem wE_catL (h : wE X a env m fun dx m1 => wE X b env m1 fun dy m2 => fCat m2 dx dy fun d => k d m2) : wE X (.BinOp a .Add b pos) env m k := wE_op op_catL opD_catL h
/-! ### whole data: =, !=, in, is -/
def datOf (m : Me) : Dat → Option PyData
  | .d x => some x
  | .r (.ref l) => (m.ls.lookup l).map .list
  | _ => none
theorem datOf_ok {K : PySem.W.Frag} {H : Hp} {v : V} {d : Dat} {x : PyData} (hm : MemOk K m H) (h : DV K m H v d) (e : datOf m d = some x) : Dp K H v x := by
  cases d with
  | e C x => cases e
  | clo f c q σ env => cases e
  | pe C x => cases e
  | o C fs => cases e
  | k ks => cases e
  | d y => cases e; exact dp_mono hid_sub _ _ h
  | r u =>
    have h2 : v = u := h
    subst h2
    cases v <;> try cases e
    rename_i l
    cases q : m.ls.lookup l with
    | none => rw [datOf, q] at e; cases e
    | some xs =>
      rw [datOf, q] at e
      cases e
      obtain ⟨vs, e1, r⟩ := hm.own l xs (lookup_mem q)
      exact Dp.lst (SqL.of e1) (dpAll_mono hid_sub _ _ r)
def fEqD (g : Bool → Bool) (m : Me) (dx dy : Dat) (k : Dat → Prop) : Prop := ∃ x y, datOf m dx = some x ∧ datOf m dy = some y ∧ SeqAt.shaped x = true ∧ SeqAt.shaped y = true ∧ k (.d (.bool (g (PyData.eqv x y))))
theorem opD_eqD {K : PySem.W.Frag} : OpD K (rEqD K) (fEqD id) := fun m H x y dx dy k Q hm h1 h2 ⟨d, e, q1, q2, s1, s2, hk⟩ hq =>
  ⟨d, e, datOf_ok hm h1 q1, datOf_ok hm h2 q2, s1, s2, hq _ _ H (Same.refl _) dv_bl hk⟩
theorem opD_neD {K : PySem.W.Frag} : OpD K (rNeD K) (fEqD not) := fun m H x y dx dy k Q hm h1 h2 ⟨d, e, q1, q2, s1, s2, hk⟩ hq =>
  ⟨d, e, datOf_ok hm h1 q1, datOf_ok hm h2 q2, s1, s2, hq _ _ H (Same.refl _) dv_bl hk⟩
theorem wE_neD (hu : X.A.units + 65 < cLine) (h : wE X a env m fun dx m1 => wE X b env m1 fun dy m2 => fEqD not m2 dx dy fun d => k d m2) : wE X (.Compare a [.NotEq] [b] pos) env m k := wE_cmp (op_neD (by omega)) opD_neD (nomark _) h
theorem wT_neD (hu : X.A.units + 65 < cLine) (h : wE X a env m fun dx m1 => wE X b env m1 fun dy m2 => fEqD not m2 dx dy fun d => ∃ c, d = .d (.bool c) ∧ kb c m2) : wT X (.Compare a [.NotEq] [b] pos) env m kb := wT_cmp (op_neD (by omega)) opD_neD (nomark _) h
def fInL (m : Me) (dx dy : Dat) (k : Dat → Prop) : Prop := ∃ d ds, dx = .d d ∧ dy = .d (.list ds) ∧ SeqAt.shaped d = true ∧ SeqAt.shaped (.list ds) = true ∧ k (.d (.bool (ds.any fun z => PyData.eqv z d)))
theorem opD_inL {K : PySem.W.Frag} : OpD K (rInD K) fInL := fun m H x y dx dy k Q hm h1 h2 ⟨d, ds, e1, e2, sd, se, hk⟩ hq => by
  subst e1 e2
  exact ⟨d, ds, dp_mono hid_sub _ _ h1, dp_mono hid_sub _ _ h2, sd, se, hq _ _ H (Same.refl _) dv_bl hk⟩
theorem wE_inL (hu : X.A.units + 65 < cLine) (h : wE X a env m fun dx m1 => wE X b env m1 fun dy m2 => fInL m2 dx dy fun d => k d m2) (hb : behindInMarks .In b = false := by rfl) : wE X (.Compare a [.In] [b] pos) env m k :=
  wE_cmp (op_inD hu) opD_inL hb h
def fIsB (_ : Me) (dx dy : Dat) (k : Dat → Prop) : Prop := ∃ p q : Bool, dx = .d (.bool p) ∧ dy = .d (.bool q) ∧ k (.d (.bool (decide (p = q))))
theorem opD_isB {K : PySem.W.Frag} : OpD K (fun x y H Q => ∃ a b, x = .bl a ∧ y = .bl b ∧ Q (.bl (decide (a = b))) H) fIsB := fun m H x y dx dy k Q hm h1 h2 ⟨p, q, e1, e2, hk⟩ hq => by
  subst e1 e2
  cases h1
  cases h2
  exact ⟨p, q, rfl, rfl, hq _ _ H (Same.refl _) dv_bl hk⟩
theorem wE_isB (h : wE X a env m fun dx m1 => wE X b env m1 fun dy m2 => fIsB m2 dx dy fun d => k d m2) : wE X (.Compare a [.Is] [b] pos) env m k := wE_cmp op_is_bl opD_isB (nomark _) h
/-! ### list(..): a list that will change -/
theorem wE_listO {e : Expr} {p : Pos} (hg : Gl X "list") (hm0 : X.mg "list" = none) (h : wE X e env m fun d m1 => ∃ xs, (d = .d (.tuple xs) ∨ d = .d (.list xs)) ∧ ∀ l, k (.r (.ref l)) (m1.own l xs))
    (hs : starEach [e] X.env = (false, eval e X.env) :: starEach [] X.env := by rfl) (hpl : (backTo pos (starEach [] X.env)).any (·.1) = false := by rfl) : wE X (.Call (.Name "list" p) [e] [] pos) env m k :=
  wE_of (pe_callTy call_list_of hg hm0 (by decide +kernel) paW (by decide) (by decide) hs hpl) fun σ H Q he hm hq => (wA_cons (ka := fun ds m1 => ∃ d xs, ds = [d] ∧ (d = .d (.tuple xs) ∨ d = .d (.list xs)) ∧ ∀ l, k (.r (.ref l)) (m1.own l xs)) (wE.mono h fun d m1 ⟨xs, hd⟩ => wA_nil ⟨d, xs, rfl, hd⟩) hs) σ H _ he hm fun vs ds m1 H1 e1 hm1 dvs ⟨d, xs, q1, q2, q3⟩ => by
    subst q1
    obtain ⟨v, rfl, dv⟩ := dvs1 dvs
    rcases q2 with rfl | rfl
    · cases dv with
      | tup s1 a1 =>
        refine ⟨_, _, rfl, .inr (seqT_mono hid_sub s1), fun l hl => ?_⟩
        obtain ⟨o1, o2⟩ := own_ok hm1 hl a1
        exact hq _ (.r (.ref l)) _ _ (e1.trans o2) o1 rfl (q3 l)
    · cases dv with
      | lst s1 a1 =>
        refine ⟨_, _, rfl, .inl (hid_sub.seq s1), fun l hl => ?_⟩
        obtain ⟨o1, o2⟩ := own_ok hm1 hl a1
        exact hq _ (.r (.ref l)) _ _ (e1.trans o2) o1 rfl (q3 l)
end
section
variable {X : Cx} {env : DEnv} {m : Me} {S : List Nat} {d : Dat} {ds : List PyData} {ke : DEnv → Prop} {pos : Pos}
theorem wG_lst {ts : List Expr} {j n : Nat} (hc : X.calm = true) (hd : d = .d (.list ds)) (hl : ds.length = n) (h : wGs X S ts env m ds ke)
    (hn : (assignEach ts X.env).length = n := by rfl) (hst : (assignEach ts X.env).findIdx? (·.1) = none := by rfl) : wG X S (.Tuple ts j pos) env m d ke :=
  fun σ H v Q he hm dv hq pins s u I r => by
    subst hd
    cases dv with
    | lst hs ha => exact (pg_unl hc pgsW hn hst).run pins s σ H _ u Q I r ⟨_, _, rfl, hid_sub.seq hs, by rw [dpAll_len ha, hl], h σ H _ Q he hm ha hq⟩
end
/-! ### the pot: how often at most -/
def Me.to (m : Me) (n : Nat) : Me := { m with n := n }
theorem MTo.more {K : PySem.W.Frag} {p : Option Addr} {n n' : Nat} {ls : List (Addr × List PyData)} (h : n ≤ n') : MTo K ⟨p, n, ls⟩ ⟨p, n', ls⟩ := fun H hm => by
  refine ⟨⟨fun a e => ?_, hm.own, hm.sep, hm.nd, hm.tab⟩, Ext.refl⟩
  obtain ⟨x, y, k, e1, r1, r2, r3, r4, r5, r6⟩ := (hm.pot a e).at_
  exact ⟨x, y, k, e1, r1, r2, r3, r4, r5, Int.le_trans r6 (by exact_mod_cast h)⟩
end DW

set_option Elab.async false
set_option linter.all false
set_option maxRecDepth 100000
set_option maxHeartbeats 1000000
namespace DW
variable [TabsC]
open PySem PySem.Spec PyProof.Rows L2 TL
/-! ### texts of small boxes -/
def allP (lo n : Nat) (P : Int → Int → Bool) : Bool := (List.range n).all fun i => (List.range n).all fun j => P ((i : Int) - lo) ((j : Int) - lo)
theorem allP_get {lo n : Nat} {P : Int → Int → Bool} (h : allP lo n P = true) {a b : Int} (a1 : -(lo : Int) ≤ a) (a2 : a < (n : Int) - lo) (b1 : -(lo : Int) ≤ b) (b2 : b < (n : Int) - lo) : P a b = true := by
  have e := List.all_eq_true.mp (List.all_eq_true.mp h (a + lo).toNat (List.mem_range.mpr (by omega))) (b + lo).toNat (List.mem_range.mpr (by omega))
  rw [show (((a + lo).toNat : Nat) : Int) - lo = a from by omega, show (((b + lo).toNat : Nat) : Int) - lo = b from by omega] at e
  exact e
def wordB (x : Str) : Bool := x.cps.toList.all (fun c => decide (c < 128) && decide (c ≠ 32)) && decide (x.length < 15)
theorem word_span {a b : Int} (a1 : -10 ≤ a) (a2 : a < 10) (b1 : -10 ≤ b) (b2 : b < 10) : wordB (textS a b) = true :=
  allP_get (lo := 10) (n := 20) (P := fun a b => wordB (textS a b)) (by decide +kernel) (by omega) (by omega) (by omega) (by omega)
theorem read_span {a b : Int} (a1 : -3 ≤ a) (a2 : a < 4) (b1 : -3 ≤ b) (b2 : b < 4) : (isI (readI (Txt.partition (textS a b) "..").1) a && isI (readI (Txt.partition (textS a b) "..").2.2) b) = true :=
  allP_get (lo := 3) (n := 7) (P := fun a b => isI (readI (Txt.partition (textS a b) "..").1) a && isI (readI (Txt.partition (textS a b) "..").2.2) b) (by decide +kernel) (by omega) (by omega) (by omega) (by omega)
theorem tI_small {n : Int} (h1 : -20 ≤ n) (h2 : n < 40) : toString n = textI n := of_decide_eq_true (all60 (P := fun n => decide ((toString n : Str) = textI n)) (by decide +kernel) h1 h2)
theorem word_tl {x : Str} (h : wordB x = true) : (∀ c ∈ tl x, c < 128 ∧ c ≠ 32) ∧ x.length < 15 := by
  unfold wordB at h
  rw [Bool.and_eq_true, List.all_eq_true, decide_eq_true_eq] at h
  refine ⟨fun c hc => ?_, h.2⟩
  have q := h.1 c hc
  rw [Bool.and_eq_true, decide_eq_true_eq, decide_eq_true_eq] at q
  exact q
structure BoxN.Tiny (b : BoxN) (B : Int) : Prop where
  x : (-B ≤ b.x0 ∧ b.x0 < B) ∧ -B ≤ b.x1 ∧ b.x1 < B
  y : (-B ≤ b.y0 ∧ b.y0 < B) ∧ -B ≤ b.y1 ∧ b.y1 < B
  z : (-B ≤ b.z0 ∧ b.z0 < B) ∧ -B ≤ b.z1 ∧ b.z1 < B
theorem textB_sz {b : BoxN} (h : b.Tiny 10) : Sz (.str (textB b)) 1 10002 ∧ (textB b).length < 60 := by
  have w1 := word_tl (word_span h.x.1.1 h.x.1.2 h.x.2.1 h.x.2.2)
  have w2 := word_tl (word_span h.y.1.1 h.y.1.2 h.y.2.1 h.y.2.2)
  have w3 := word_tl (word_span h.z.1.1 h.z.1.2 h.z.2.1 h.z.2.2)
  have e : textB b = textS b.x0 b.x1 ++ " " ++ (textS b.y0 b.y1 ++ " " ++ textS b.z0 b.z1) := join3 _ _ _ _
  have l : (textB b).length < 60 := by
    rw [e]
    simp only [Str.length_append]
    rw [show (" " : Str).length = 1 from by decide]
    omega
  refine ⟨Sz.str (fun c hc => ?_) (by omega), l⟩
  have hc2 : c ∈ tl (textB b) := hc
  rw [e, tl_append, tl_append, tl_append, tl_append] at hc2
  have sp : ∀ c ∈ tl (" " : Str), c < 16 ^ 8 := by decide +kernel
  have big : (128 : Nat) < 16 ^ 8 := by decide
  simp only [List.mem_append] at hc2
  rcases hc2 with (h | h) | ((h | h) | h)
  · exact Nat.lt_trans (w1.1 c h).1 big
  · exact sp c h
  · exact Nat.lt_trans (w2.1 c h).1 big
  · exact sp c h
  · exact Nat.lt_trans (w3.1 c h).1 big
theorem textB_split {b : BoxN} (h : b.Tiny 10) : Txt.split (textB b) " " = [textS b.x0 b.x1, textS b.y0 b.y1, textS b.z0 b.z1] := by
  have w1 := word_tl (word_span h.x.1.1 h.x.1.2 h.x.2.1 h.x.2.2)
  have w2 := word_tl (word_span h.y.1.1 h.y.1.2 h.y.2.1 h.y.2.2)
  have w3 := word_tl (word_span h.z.1.1 h.z.1.2 h.z.2.1 h.z.2.2)
  refine TL.split_join (y := " ") (s := 32) (S := []) (by decide +kernel) (by decide +kernel) (by simp) fun p hp => ?_
  simp only [List.mem_cons, List.not_mem_nil, or_false] at hp
  rcases hp with rfl | rfl | rfl
  · exact fun q => (w1.1 _ q).2 rfl
  · exact fun q => (w2.1 _ q).2 rfl
  · exact fun q => (w3.1 _ q).2 rfl
theorem span_len {a b : Int} (a1 : -10 ≤ a) (a2 : a < 10) (b1 : -10 ≤ b) (b2 : b < 10) : (textS a b).length < 60 := by
  have := (word_tl (word_span a1 a2 b1 b2)).2
  omega
theorem span_read {a b : Int} (a1 : -3 ≤ a) (a2 : a < 4) (b1 : -3 ≤ b) (b2 : b < 4) : readI (Txt.partition (textS a b) "..").1 = some (.int a) ∧ readI (Txt.partition (textS a b) "..").2.2 = some (.int b) := by
  have h := read_span a1 a2 b1 b2
  rw [Bool.and_eq_true] at h
  exact ⟨isI_eq h.1, isI_eq h.2⟩
theorem BoxN.Tiny.wide {b : BoxN} {B C : Int} (h : b.Tiny B) (hc : B ≤ C) : b.Tiny C := by
  obtain ⟨⟨⟨h1, h2⟩, h3, h4⟩, ⟨⟨h5, h6⟩, h7, h8⟩, ⟨⟨h9, h10⟩, h11, h12⟩⟩ := h
  exact ⟨⟨⟨by omega, by omega⟩, by omega, by omega⟩, ⟨⟨by omega, by omega⟩, by omega, by omega⟩, ⟨⟨by omega, by omega⟩, by omega, by omega⟩⟩
theorem In_tiny {b : BoxN} {lo hi B : Int} (h : b.In lo hi) (o : b.Ok) (h1 : -B ≤ lo) (h2 : hi < B) : b.Tiny B := by
  obtain ⟨⟨a1, a2⟩, ⟨a3, a4⟩, a5, a6⟩ := h
  have := o.x; have := o.y; have := o.z
  exact ⟨⟨⟨by omega, by omega⟩, by omega, by omega⟩, ⟨⟨by omega, by omega⟩, by omega, by omega⟩, ⟨⟨by omega, by omega⟩, by omega, by omega⟩⟩
theorem BoxN.Tiny.sml {b : BoxN} {B : Int} (h : b.Tiny B) (hB : B < 1000) : b.Sml := by
  obtain ⟨⟨⟨h1, h2⟩, h3, h4⟩, ⟨⟨h5, h6⟩, h7, h8⟩, ⟨⟨h9, h10⟩, h11, h12⟩⟩ := h
  refine ⟨⟨?_, ?_⟩, ⟨?_, ?_⟩, ⟨?_, ?_⟩, ⟨?_, ?_⟩, ⟨?_, ?_⟩, ⟨?_, ?_⟩⟩ <;> omega
/-! ### the law's own meeting -/
theorem below_low {t b g X : Int} (hg : 0 < g) (h1 : g ∣ t) (h2 : g ∣ b) : (t / g * 1 < X * (b / g)) ↔ t < X * b := by
  obtain ⟨c, rfl⟩ := h1
  obtain ⟨d, rfl⟩ := h2
  rw [Int.mul_ediv_cancel_left _ (by omega), Int.mul_ediv_cancel_left _ (by omega), Int.mul_one, show X * (g * d) = g * (X * d) from by rw [← Int.mul_assoc, Int.mul_comm X g, Int.mul_assoc]]
  exact ⟨fun h => Int.mul_lt_mul_of_pos_left h hg, fun h => Int.lt_of_mul_lt_mul_left h (Int.le_of_lt hg)⟩
theorem below_high {t b g X : Int} (hg : 0 < g) (h1 : g ∣ t) (h2 : g ∣ b) : (X * (b / g) < t / g * 1) ↔ X * b < t := by
  obtain ⟨c, rfl⟩ := h1
  obtain ⟨d, rfl⟩ := h2
  rw [Int.mul_ediv_cancel_left _ (by omega), Int.mul_ediv_cancel_left _ (by omega), Int.mul_one, show X * (g * d) = g * (X * d) from by rw [← Int.mul_assoc, Int.mul_comm X g, Int.mul_assoc]]
  exact ⟨fun h => Int.mul_lt_mul_of_pos_left h hg, fun h => Int.lt_of_mul_lt_mul_left h (Int.le_of_lt hg)⟩
/-- on one axis: the one from x0 to x1, the other from u0 to u1, moved by t / b -/
def lowB (x1 u0 t b : Int) : Bool := decide ((u0 * b + t) / gcdI (u0 * b + t) b * 1 < x1 * (b / gcdI (u0 * b + t) b))
def highB (x0 u1 t b : Int) : Bool := decide (x0 * (b / gcdI (u1 * b + t) b) < (u1 * b + t) / gcdI (u1 * b + t) b * 1)
theorem low_iff {x1 u0 t b : Int} (hb : 0 < b) : lowB x1 u0 t b = true ↔ t < (x1 - u0) * b := by
  unfold lowB
  rw [decide_eq_true_eq, below_low (gcdI_pos hb) gcdI_dvd.1 gcdI_dvd.2, Int.sub_mul]
  omega
theorem high_iff {x0 u1 t b : Int} (hb : 0 < b) : highB x0 u1 t b = true ↔ (x0 - u1) * b < t := by
  unfold highB
  rw [decide_eq_true_eq, below_high (gcdI_pos hb) gcdI_dvd.1 gcdI_dvd.2, Int.sub_mul]
  omega
theorem ax_meet {x0 x1 u0 u1 t b : Int} (hb : 0 < b) : (lowB x1 u0 t b = true ∧ highB x0 u1 t b = true) ↔ whAx (x0 - u1) (x1 - u0) t b = 1 := by
  rw [low_iff hb, high_iff hb]
  unfold whAx
  constructor
  · rintro ⟨h1, h2⟩
    rw [if_pos ⟨h2, h1⟩]
  · intro h
    split at h
    · rename_i q
      exact ⟨q.2, q.1⟩
    · split at h <;> cases h
theorem wh_one {b : BoxN} {p : PtN} : b.wh p = 1 ↔ whAx b.x0 b.x1 p.a p.a' = 1 ∧ whAx b.y0 b.y1 p.b p.b' = 1 ∧ whAx b.z0 b.z1 p.c p.c' = 1 := by
  have h1 := whAx_cases b.x0 b.x1 p.a p.a'
  have h2 := whAx_cases b.y0 b.y1 p.b p.b'
  have h3 := whAx_cases b.z0 b.z1 p.c p.c'
  unfold BoxN.wh dueW min2
  generalize whAx b.x0 b.x1 p.a p.a' = u at *
  generalize whAx b.y0 b.y1 p.b p.b' = v at *
  generalize whAx b.z0 b.z1 p.c p.c' = w at *
  rcases h1 with rfl | rfl | rfl <;> rcases h2 with rfl | rfl | rfl <;> rcases h3 with rfl | rfl | rfl <;> decide
def meetB (s u : BoxN) (p : PtN) : Bool := (lowB s.x1 u.x0 p.a p.a' && highB s.x0 u.x1 p.a p.a') && ((lowB s.y1 u.y0 p.b p.b' && highB s.y0 u.y1 p.b p.b') && (lowB s.z1 u.z0 p.c p.c' && highB s.z0 u.z1 p.c p.c'))
theorem meet_wh {s u : BoxN} {p : PtN} (hp : p.Ok) : meetB s u p = decide ((s.gr u).wh p = 1) := by
  rw [Bool.eq_iff_iff, decide_eq_true_eq, wh_one]
  unfold meetB
  rw [Bool.and_eq_true, Bool.and_eq_true, Bool.and_eq_true, Bool.and_eq_true, Bool.and_eq_true]
  have ha := hp.a.1
  have hb := hp.b.1
  have hc := hp.c.1
  rw [ax_meet (by omega), ax_meet (by omega), ax_meet (by omega)]
  exact Iff.rfl
theorem mulB {i j B : Int} (h1 : -B ≤ i) (h2 : i ≤ B) (h3 : 0 < j) (h4 : j < 100) (hB : 0 ≤ B) : -(B * 100) ≤ i * j ∧ i * j ≤ B * 100 := by
  have a1 : i * j ≤ B * j := Int.mul_le_mul_of_nonneg_right h2 (Int.le_of_lt h3)
  have a2 : -B * j ≤ i * j := Int.mul_le_mul_of_nonneg_right h1 (Int.le_of_lt h3)
  have a3 : B * j ≤ B * 100 := Int.mul_le_mul_of_nonneg_left (by omega) hB
  rw [Int.neg_mul] at a2
  omega
theorem frac_sm {t b : Int} (h : -10000 < t ∧ t < 10000) (hb : 0 < b) (hb2 : b < 100) : Sm (t / gcdI t b) ∧ Sm (b / gcdI t b) := by
  have hg := gcdI_pos (t := t) hb
  have h1 := div_lit hg (B := 10000) (by decide) h
  have h2 := div_lit hg (B := 100) (by decide) (by omega : -100 < b ∧ b < 100)
  exact ⟨⟨by omega, by omega⟩, ⟨by omega, by omega⟩⟩
def spMeet : DSp := fun m ds k => ∃ (s u : BoxN) (p : PtN), ds = [.d s.d, .d u.d, .d p.d] ∧ s.Tiny 20 ∧ u.Tiny 20 ∧ p.Ok ∧ p.Lit ∧ k (.d (.bool (meetB s u p))) m
theorem bool_nf {b : Bool} (h : b = false) : ¬ (!b) = false := fun e => by rw [h] at e; cases e
theorem meet_f1 {s u : BoxN} {p : PtN} (h : lowB s.x1 u.x0 p.a p.a' = false) : meetB s u p = false := by unfold meetB; rw [h]; rfl
theorem meet_f2 {s u : BoxN} {p : PtN} (h : highB s.x0 u.x1 p.a p.a' = false) : meetB s u p = false := by unfold meetB; rw [h]; simp
theorem meet_f3 {s u : BoxN} {p : PtN} (h : lowB s.y1 u.y0 p.b p.b' = false) : meetB s u p = false := by unfold meetB; rw [h]; simp
theorem meet_f4 {s u : BoxN} {p : PtN} (h : highB s.y0 u.y1 p.b p.b' = false) : meetB s u p = false := by unfold meetB; rw [h]; simp
theorem meet_f5 {s u : BoxN} {p : PtN} (h : lowB s.z1 u.z0 p.c p.c' = false) : meetB s u p = false := by unfold meetB; rw [h]; simp
theorem meet_f6 {s u : BoxN} {p : PtN} (h : highB s.z0 u.z1 p.c p.c' = false) : meetB s u p = false := by unfold meetB; rw [h]; simp
theorem meet_t {s u : BoxN} {p : PtN} (h1 : lowB s.x1 u.x0 p.a p.a' = true) (h2 : highB s.x0 u.x1 p.a p.a' = true) (h3 : lowB s.y1 u.y0 p.b p.b' = true) (h4 : highB s.y0 u.y1 p.b p.b' = true) (h5 : lowB s.z1 u.z0 p.c p.c' = true) (h6 : highB s.z0 u.z1 p.c p.c' = true) : meetB s u p = true := by
  unfold meetB; rw [h1, h2, h3, h4, h5, h6]; rfl
def spWhole : DSp := fun m ds k => ∃ a b c : Int, ds = [.d (.list [.int a, .int b, .int c])] ∧ k (.d (⟨a, 1, b, 1, c, 1⟩ : PtN).d) m
def spTextB2 : DSp := fun m ds k => ∃ b : BoxN, ds = [.d b.d] ∧ b.Tiny 20 ∧ k (.d (.str (textB b))) m
/-! ### hulls -/
theorem min_uniq {bs : List BoxN} {f : BoxN → Int} {v w : Int} (h1 : MinOf bs f v) (h2 : MinOf bs f w) : v = w := Int.le_antisymm (h1.2 w h2.1) (h2.2 v h1.1)
theorem max_uniq {bs : List BoxN} {f : BoxN → Int} {v w : Int} (h1 : MaxOf bs f v) (h2 : MaxOf bs f w) : v = w := Int.le_antisymm (h2.2 v h1.1) (h1.2 w h2.1)
theorem box_ext {b c : BoxN} (h : b.x0 = c.x0 ∧ b.x1 = c.x1 ∧ b.y0 = c.y0 ∧ b.y1 = c.y1 ∧ b.z0 = c.z0 ∧ b.z1 = c.z1) : b = c := by
  obtain ⟨h1, h2, h3, h4, h5, h6⟩ := h
  cases b; cases c
  cases h1; cases h2; cases h3; cases h4; cases h5; cases h6; rfl
theorem min_one {b : BoxN} {f : BoxN → Int} {v : Int} (h : MinOf [b] f v) : v = f b := List.mem_singleton.mp h.1
theorem max_one {b : BoxN} {f : BoxN → Int} {v : Int} (h : MaxOf [b] f v) : v = f b := List.mem_singleton.mp h.1
theorem mid_in {x0 x1 : Int} (h : x0 < x1) : whAx x0 x1 ((x0 + x1) / gcdI (x0 + x1) 2) (2 / gcdI (x0 + x1) 2) = 1 := by
  have g := gcdI_pos (t := x0 + x1) (b := 2) (by decide)
  have q1 := below_low (X := x1) g (gcdI_dvd (t := x0 + x1) (b := 2)).1 (gcdI_dvd (t := x0 + x1) (b := 2)).2
  have q2 := below_high (X := x0) g (gcdI_dvd (t := x0 + x1) (b := 2)).1 (gcdI_dvd (t := x0 + x1) (b := 2)).2
  rw [Int.mul_one] at q1 q2
  unfold whAx
  rw [if_pos ⟨q2.mpr (by omega), q1.mpr (by omega)⟩]
end DW
namespace DW
variable [TabsC]
open PySem PySem.Spec PyProof.Rows L2
/-- x, y = a, b where one of them is also an inner def's -/
theorem wS_par2 {X : Cx} {env : DEnv} {m : Me} {D : DE} {a b : Expr} {pos : Pos} {x y : Str} {px py pt pt2 : Pos} {kt k2} (i j : Nat) (hc : X.calm = true) (hN : X.N.Nodup) (h : wA X [a, b] env m fun ds m' => ∃ d1 d2, ds = [d1, d2] ∧ D.nx ((env.set i (some d1)).set j (some d2)) m')
    (hi : X.N[i]? = some x := by rfl) (hj : X.N[j]? = some y := by rfl) (hx : Loc X.env.scope x := by first | exact .inl rfl | exact .inr rfl) (hy : Loc X.env.scope y := by first | exact .inl rfl | exact .inr rfl)
    (fx : X.fn x = true ∨ X.env.scope.names.lookup x = some .local := by first | exact .inl rfl | exact .inr rfl) (fy : X.fn y = true ∨ X.env.scope.names.lookup y = some .local := by first | exact .inl rfl | exact .inr rfl)
    (hs : swapsWithSole [.Tuple [.Name x px, .Name y py] kt pt] (.Tuple [a, b] k2 pt2) pos.line X.env = pure false := by rfl) (hw : swappedStores [.Tuple [.Name x px, .Name y py] kt pt] (.Tuple [a, b] k2 pt2) X.env = pure none := by rfl)
    (h1 : (assignEach [.Tuple [.Name x px, .Name y py] kt pt] X.env).map (·.2) = [assign (.Tuple [.Name x px, .Name y py] kt pt) X.env] := by rfl)
    (hn : (assignEach [.Name x px, .Name y py] X.env).length = 2 := by rfl) (hst : (assignEach [.Name x px, .Name y py] X.env).findIdx? (·.1) = none := by rfl)
    (hq1 : (assignEach [.Name x px, .Name y py] X.env).map (·.2) = assign (.Name x px) X.env :: (assignEach [.Name y py] X.env).map (·.2) := by rfl) (hq2 : (assignEach [.Name y py] X.env).map (·.2) = assign (.Name y py) X.env :: (assignEach [] X.env).map (·.2) := by rfl) :
    wS X (.Assign [.Tuple [.Name x px, .Name y py] kt pt] (.Tuple [a, b] k2 pt2) pos) env m D :=
  wS_of (ps_asg (pe_tup paW) (pg_tup hc (pgs_cons (pg_name hN hi hx fx) (pgs_cons (pg_name hN hj hy fy) pgs_nil hq2) hq1) hn hst) hs hw h1) fun σ H E he hm hE => h σ H _ he hm fun vs ds m' H' e1 hm1 dvs ⟨d1, d2, e, hk⟩ => by
    subst e
    obtain ⟨v, w, rfl, dv, dw⟩ := dvs2 dvs
    refine ⟨szl (by simp), fun p hp => ?_⟩
    have s := same_new (o := .tup [v, w]) hp
    have ex := Ext.of (m := m') s
    refine ⟨p, [v, w], rfl, SqT.of upd_same, rfl, ?_⟩
    exact ⟨_, _, rfl, ⟨_, _, rfl, ⟨rfl, hE.nx _ _ m' _ (e1.trans ex) (((he.mono (e1.trans ex)).set i (dv.mono ex)).set j (dw.mono ex)) (hm1.mono s) hk⟩⟩⟩
end DW
namespace DW
variable [TabsC]
open PySem PySem.Spec PyProof.Rows L2
theorem szB2 {b : BoxN} (h : b.Sml) : Sz b.d 2 12015 := by
  have I : ∀ {i : Int}, Sm i → Sz (.int i) 1 2000 := fun h => Sz.int (small_log ⟨by have := h.1; omega, by have := h.2; omega⟩)
  exact Sz.tup (.cons (I h.x0) (.cons (I h.x1) (.cons (I h.y0) (.cons (I h.y1) (.cons (I h.z0) (.cons (I h.z1) .nil))))))
theorem nat_tiny {b : BoxN} {B : Int} (h : b.Tiny B) (i : Nat) : -B ≤ b.nat i ∧ b.nat i < B ∨ b.nat i = b.nat 6 := by
  obtain ⟨⟨⟨h1, h2⟩, h3, h4⟩, ⟨⟨h5, h6⟩, h7, h8⟩, ⟨⟨h9, h10⟩, h11, h12⟩⟩ := h
  match i with
  | 0 => exact .inl ⟨h1, h2⟩
  | 1 => exact .inl ⟨h3, h4⟩
  | 2 => exact .inl ⟨h5, h6⟩
  | 3 => exact .inl ⟨h7, h8⟩
  | 4 => exact .inl ⟨h9, h10⟩
  | 5 => exact .inl ⟨h11, h12⟩
  | n + 6 => exact .inr rfl
theorem mem_sm {bs : List BoxN} (h : ∀ b ∈ bs, b.Ok ∧ b.Tiny 6) {i : Nat} (hi : i < 6) {v : Int} (hv : v ∈ bs.map fun b => b.nat i) : Sm v := by
  obtain ⟨b, hb, rfl⟩ := List.mem_map.mp hv
  obtain ⟨⟨⟨h1, h2⟩, h3, h4⟩, ⟨⟨h5, h6⟩, h7, h8⟩, ⟨⟨h9, h10⟩, h11, h12⟩⟩ := (h b hb).2
  match i, hi with
  | 0, _ => exact ⟨by show _ < b.x0; omega, by show b.x0 < _; omega⟩
  | 1, _ => exact ⟨by show _ < b.x1; omega, by show b.x1 < _; omega⟩
  | 2, _ => exact ⟨by show _ < b.y0; omega, by show b.y0 < _; omega⟩
  | 3, _ => exact ⟨by show _ < b.y1; omega, by show b.y1 < _; omega⟩
  | 4, _ => exact ⟨by show _ < b.z0; omega, by show b.z0 < _; omega⟩
  | 5, _ => exact ⟨by show _ < b.z1; omega, by show b.z1 < _; omega⟩
theorem gr_tiny {s u : BoxN} (h : s.Tiny 6) (g : u.Tiny 4) : (s.gr u).Tiny 20 := by
  obtain ⟨⟨⟨h1, h2⟩, h3, h4⟩, ⟨⟨h5, h6⟩, h7, h8⟩, ⟨⟨h9, h10⟩, h11, h12⟩⟩ := h
  obtain ⟨⟨⟨g1, g2⟩, g3, g4⟩, ⟨⟨g5, g6⟩, g7, g8⟩, ⟨⟨g9, g10⟩, g11, g12⟩⟩ := g
  unfold BoxN.gr
  exact ⟨⟨⟨by dsimp only; omega, by dsimp only; omega⟩, by dsimp only; omega, by dsimp only; omega⟩, ⟨⟨by dsimp only; omega, by dsimp only; omega⟩, by dsimp only; omega, by dsimp only; omega⟩, ⟨⟨by dsimp only; omega, by dsimp only; omega⟩, by dsimp only; omega, by dsimp only; omega⟩⟩
theorem gr_ok {s u : BoxN} (h : s.Ok) (g : u.Ok) : (s.gr u).Ok := by
  have := h.x; have := h.y; have := h.z; have := g.x; have := g.y; have := g.z
  unfold BoxN.gr
  exact ⟨by dsimp only; omega, by dsimp only; omega, by dsimp only; omega⟩
theorem mv_sml {s : BoxN} (h : s.Tiny 6) {a b c : Int} (ha : -20 ≤ a ∧ a ≤ 20) (hb : -20 ≤ b ∧ b ≤ 20) (hc : -20 ≤ c ∧ c ≤ 20) : (s.mv a b c).Sml := by
  obtain ⟨⟨⟨h1, h2⟩, h3, h4⟩, ⟨⟨h5, h6⟩, h7, h8⟩, ⟨⟨h9, h10⟩, h11, h12⟩⟩ := h
  unfold BoxN.mv
  refine ⟨?_, ?_, ?_, ?_, ?_, ?_⟩ <;> exact ⟨by dsimp only; omega, by dsimp only; omega⟩
theorem told_at {g : BoxN} (h : g.Tiny 20) {i t : Int} (h0 : 0 ≤ t) (h1 : t < 2) (hi : i = 0 ∨ i = 2 ∨ i = 4) : ∃ v : Int, atI [PyData.int g.x0, .int g.x1, .int g.y0, .int g.y1, .int g.z0, .int g.z1] (i + t) = some (.int v) ∧ -20 ≤ v ∧ v < 20 := by
  obtain ⟨⟨⟨h1', h2⟩, h3, h4⟩, ⟨⟨h5, h6⟩, h7, h8⟩, ⟨⟨h9, h10⟩, h11, h12⟩⟩ := h
  have ht : t = 0 ∨ t = 1 := by omega
  rcases hi with rfl | rfl | rfl <;> rcases ht with rfl | rfl
  · exact ⟨g.x0, rfl, by omega, by omega⟩
  · exact ⟨g.x1, rfl, by omega, by omega⟩
  · exact ⟨g.y0, rfl, by omega, by omega⟩
  · exact ⟨g.y1, rfl, by omega, by omega⟩
  · exact ⟨g.z0, rfl, by omega, by omega⟩
  · exact ⟨g.z1, rfl, by omega, by omega⟩
theorem whole_ok {a b c : Int} (ha : -20 ≤ a ∧ a < 20) (hb : -20 ≤ b ∧ b < 20) (hc : -20 ≤ c ∧ c < 20) : (⟨a, 1, b, 1, c, 1⟩ : PtN).Ok ∧ (⟨a, 1, b, 1, c, 1⟩ : PtN).Lit :=
  ⟨⟨⟨by (dsimp only) <;> decide, Nat.gcd_one_right _⟩, ⟨by (dsimp only) <;> decide, Nat.gcd_one_right _⟩, ⟨by (dsimp only) <;> decide, Nat.gcd_one_right _⟩, ⟨⟨by dsimp only; omega, by dsimp only; omega⟩, by (dsimp only) <;> decide, by (dsimp only) <;> decide⟩, ⟨⟨by dsimp only; omega, by dsimp only; omega⟩, by (dsimp only) <;> decide, by (dsimp only) <;> decide⟩, ⟨⟨by dsimp only; omega, by dsimp only; omega⟩, by (dsimp only) <;> decide, by (dsimp only) <;> decide⟩⟩,
    ⟨⟨by dsimp only; omega, by dsimp only; omega⟩, by (dsimp only) <;> decide⟩, ⟨⟨by dsimp only; omega, by dsimp only; omega⟩, by (dsimp only) <;> decide⟩, ⟨⟨by dsimp only; omega, by dsimp only; omega⟩, by (dsimp only) <;> decide⟩⟩
def midG (g : BoxN) : PtN := ⟨(g.x0 + g.x1) / gcdI (g.x0 + g.x1) 2, 2 / gcdI (g.x0 + g.x1) 2, (g.y0 + g.y1) / gcdI (g.y0 + g.y1) 2, 2 / gcdI (g.y0 + g.y1) 2, (g.z0 + g.z1) / gcdI (g.z0 + g.z1) 2, 2 / gcdI (g.z0 + g.z1) 2⟩
theorem midG_ok {g : BoxN} (h : g.Tiny 20) : (midG g).Ok ∧ (midG g).Lit := by
  obtain ⟨⟨⟨h1, h2⟩, h3, h4⟩, ⟨⟨h5, h6⟩, h7, h8⟩, ⟨⟨h9, h10⟩, h11, h12⟩⟩ := h
  have f0 := frac_lit (t := g.x0 + g.x1) (b := 2) (by omega) (by decide) (by decide)
  have f1 := frac_lit (t := g.y0 + g.y1) (b := 2) (by omega) (by decide) (by decide)
  have f2 := frac_lit (t := g.z0 + g.z1) (b := 2) (by omega) (by decide) (by decide)
  exact ⟨⟨f0.2.2, f1.2.2, f2.2.2, f0.2.1, f1.2.1, f2.2.1⟩, ⟨f0.1, f1.1, f2.1⟩⟩
theorem midG_in {g : BoxN} (h : g.Ok) : g.wh (midG g) = 1 := wh_one.mpr ⟨mid_in h.x, mid_in h.y, mid_in h.z⟩
theorem ne_b {p q : Bool} (e : p = q) (h : (!decide (p = q)) = true) : False := by rw [decide_eq_true e] at h; cases h
end DW
namespace DW
variable [TabsC]
open PySem PySem.Spec PyProof.Rows L2
theorem at_is {xs : List PyData} {i : Int} {j : Nat} {z : PyData} (hi : i = (j : Int)) (h : xs[j]? = some z) : atI xs i = some z := by rw [hi]; exact atI_nat h
end DW
namespace DW
variable [TabsC]
open PySem PySem.Spec PyProof.Rows L2
theorem wSs_freeC {X : Cx} {sts : List Stmt} {env : DEnv} {D : DE} {p : Option Addr} {n : Nat} {ls : List (Addr × List PyData)} (i : Nat) {l : Addr} {xs : List PyData} (hi : env[i]? = some (some (.r (.ref l)))) (h : wSs X sts (env.set i (some (.d (.list xs)))) ⟨p, n, ls⟩ D) : wSs X sts env ⟨p, n, (l, xs) :: ls⟩ D :=
  wSs_free (m := ⟨p, n, ls⟩) i hi h
end DW

set_option Elab.async false
set_option linter.all false
set_option maxRecDepth 100000
set_option maxHeartbeats 1000000
namespace DW
variable [TabsC]
open PySem PySem.Spec PyProof.Rows L2 TL NumText
/-! ### words that tell a whole number: the program's reading, and one by figures -/
theorem tl_dash : tl ("-" : Str) = [45] := by decide +kernel
theorem tl_len (w : Str) : (tl w).length = w.length := Array.length_toList
theorem starts_minus (w : Str) : Txt.startswith w "-" = true ↔ (tl w).head? = some 45 := by
  unfold Txt.startswith
  rw [PySem.StrLaws.subAt_eq, Bool.and_eq_true, decide_eq_true_eq, show ("-" : Str).length = 1 from by decide, show ("-" : Str).cps.toList = [45] from tl_dash, ← tl_len]
  cases h : tl w with
  | nil => simp [h]
  | cons c r => simp [h]
theorem tl_cut1 (w : Str) : tl (cutS w (some 1) none) = (tl w).drop 1 := by
  show ((tl w).drop (HT.sIx w.length 0 (some 1))).take (HT.sIx w.length w.length none - HT.sIx w.length 0 (some 1)) = _
  rw [show (some 1 : Option Int) = some ((1 : Nat) : Int) from rfl, HT.sIx_nat, HT.sIx_none, ← tl_len]
  cases h : tl w with
  | nil => simp
  | cons c r =>
    have e : min 1 (c :: r).length = 1 := by simp
    rw [e, List.drop_one, List.tail_cons, List.take_of_length_le (by simp)]
theorem tl_cutAll (w : Str) : tl (cutS w none (some ((w.length : Nat) : Int))) = tl w := by
  show ((tl w).drop (HT.sIx w.length 0 none)).take (HT.sIx w.length w.length (some ((w.length : Nat) : Int)) - HT.sIx w.length 0 none) = _
  rw [HT.sIx_nat, HT.sIx_none, List.drop_zero, Nat.min_self, Nat.sub_zero, ← tl_len, List.take_length]
theorem tl_figs (w : Str) : tl (figsOf w) = if (tl w).head? = some 45 then (tl w).drop 1 else tl w := by
  unfold figsOf
  by_cases h : Txt.startswith w "-" = true
  · rw [if_pos h, if_pos ((starts_minus w).mp h), tl_cut1]
  · rw [if_neg h, if_neg (fun q => h ((starts_minus w).mpr q))]
theorem digits_iff (z : Str) : digits z = true ↔ AllDigits (tl z) := by
  unfold digits signs AllDigits
  rw [List.map_map, List.all_map, List.all_eq_true]
  have e : ∀ c : Nat, (digB (.str ⟨#[c]⟩)) = true ↔ (48 ≤ c ∧ c ≤ 57) := fun c => by
    show decide (c ∈ ("0123456789" : Str).cps.toList) = true ↔ _
    rw [decide_eq_true_eq, show ("0123456789" : Str).cps.toList = [48, 49, 50, 51, 52, 53, 54, 55, 56, 57] from by decide +kernel]
    simp only [List.mem_cons, List.not_mem_nil, or_false]
    omega
  exact ⟨fun h c hc => (e c).mp (h c hc), fun h c hc => (e c).mpr (h c hc)⟩
theorem numOf_digits {z : Str} (hl : z.length < 60) (h : AllDigits (tl z)) : numOf z = some ((digitsVal (tl z) : Nat) : Int) := by
  unfold numOf
  rw [if_pos hl, show (z.length : Int) % 60 = ((z.length : Nat) : Int) from by omega]
  have e : tl ("0" ++ cutS z none (some ((z.length : Nat) : Int))) = 48 :: tl z := by
    rw [tl_append, tl_cutAll, show tl ("0" : Str) = [48] from by decide +kernel]; rfl
  have l : ("0" ++ cutS z none (some ((z.length : Nat) : Int)) : Str).length ≤ 4300 := by
    rw [← tl_len, e, List.length_cons, tl_len]; omega
  rw [intText_digits (x := "0" ++ cutS z none (some ((z.length : Nat) : Int))) (by rw [show ("0" ++ cutS z none (some ((z.length : Nat) : Int)) : Str).cps.toList = 48 :: tl z from e]; intro c hc; rcases List.mem_cons.mp hc with rfl | hc; exact ⟨by decide, by decide⟩; exact h c hc) (by rw [show ("0" ++ cutS z none (some ((z.length : Nat) : Int)) : Str).cps.toList = 48 :: tl z from e]; simp) l]
  rw [show ("0" ++ cutS z none (some ((z.length : Nat) : Int)) : Str).cps.toList = 48 :: tl z from e, digitsVal_zero]
theorem fold_lt : ∀ (cs : List Nat) (a : Nat), AllDigits cs → cs.foldl (fun acc c => acc * 10 + (c - 48)) a < (a + 1) * 10 ^ cs.length
  | [], a, _ => by simp
  | c :: r, a, h => by
    have hc := h c List.mem_cons_self
    have ih := fold_lt r (a * 10 + (c - 48)) fun d hd => h d (List.mem_cons_of_mem _ hd)
    rw [List.foldl_cons, List.length_cons, Nat.pow_succ]
    refine Nat.lt_of_lt_of_le ih ?_
    rw [Nat.mul_comm (10 ^ r.length) 10, ← Nat.mul_assoc]
    exact Nat.mul_le_mul_right _ (by omega)
theorem val_lt {cs : List Nat} (h : AllDigits cs) (hl : cs.length < 60) : digitsVal cs < 10 ^ 60 := by
  have q := fold_lt cs 0 h
  rw [Nat.zero_add, Nat.one_mul] at q
  exact Nat.lt_trans q (Nat.pow_lt_pow_right (by decide) hl)
theorem tl_text (n : Nat) : tl (textI (n : Int)) = numL n := by
  unfold textI
  rw [if_neg (by omega), join1]
  exact tl_num n
theorem tl_textNeg {n : Nat} (h : 0 < n) : tl (textI (-(n : Int))) = 45 :: numL n := by
  unfold textI
  rw [if_pos (by omega), join2, tl_append, tl_append, tl_dash, Int.neg_neg, show tl ("" : Str) = [] from by decide +kernel]
  show [45] ++ [] ++ tl (Str.ofString (toString ((n : Nat) : Int))) = _
  rw [tl_num]; rfl
theorem back_digits {cs : List Nat} (h : AllDigits cs) : (cs.map Char.ofNat).map Char.toNat = cs := by
  rw [List.map_map]
  refine (List.map_congr_left fun c hc => ?_).trans (List.map_id cs)
  have := h c hc
  have e : ∀ c : Nat, c < 58 → (Char.ofNat c).toNat = c := by decide
  exact e c (by omega)
theorem numL_fix {cs : List Nat} (h : AllDigits cs) (h1 : cs ≠ []) : numL (digitsVal cs) = cs ↔ ¬ (cs.head? = some 48 ∧ cs ≠ [48]) := by
  have t := toDigits_all cs h
  have e : numL (digitsVal cs) = (Nat.toDigits 10 (digitsVal cs)).map Char.toNat := rfl
  rw [e, t]
  cases cs with
  | nil => exact absurd rfl h1
  | cons c r =>
    by_cases hc : c = 48
    · subst hc
      rw [List.dropWhile_cons_of_pos (by simp)]
      have hr : AllDigits r := fun d hd => h d (List.mem_cons_of_mem _ hd)
      have hd : (r.dropWhile (· == 48)).length ≤ r.length := (List.dropWhile_sublist _).length_le
      cases q : r.dropWhile (· == 48) with
      | nil =>
        show [48] = 48 :: r ↔ _
        constructor
        · intro z
          have z2 : r = [] := by injection z with _ z; exact z.symm
          subst z2
          simp
        · intro z
          by_cases z2 : r = []
          · rw [z2]
          · exact absurd ⟨rfl, fun y => z2 (by injection y)⟩ z
      | cons d s =>
        rw [q] at hd
        have hs : AllDigits (d :: s) := fun x hx => hr x ((List.dropWhile_sublist (p := (· == 48)) (l := r)).subset (by rw [q]; exact hx))
        show ((d :: s).map Char.ofNat).map Char.toNat = 48 :: r ↔ _
        rw [back_digits hs]
        constructor
        · intro z
          have := congrArg List.length z
          rw [List.length_cons (as := r)] at this
          omega
        · intro z
          exfalso
          refine z ⟨rfl, fun y => ?_⟩
          have : r = [] := by injection y
          rw [this] at q
          cases q
    · rw [List.dropWhile_cons_of_neg (by simpa using hc)]
      show ((c :: r).map Char.ofNat).map Char.toNat = c :: r ↔ _
      rw [back_digits h]
      constructor
      · intro _ z
        have : c = 48 := Option.some.inj z.1
        exact hc this
      · intro _; rfl
/-- the number that a word tells, by its figures: none ahead of others is 0 -/
def lawIL (l : List Nat) : Option Int :=
  let f := if l.head? = some 45 then l.drop 1 else l
  if f = [] ∨ (f.all (fun c => decide (48 ≤ c ∧ c ≤ 57))) = false ∨ (f.head? = some 48 ∧ l ≠ [48]) then none
  else some (if l.head? = some 45 then -((digitsVal f : Nat) : Int) else ((digitsVal f : Nat) : Int))
def optD : Option Int → PyData
  | some n => .int n
  | none => .none
theorem all_digits {f : List Nat} : (f.all (fun c => decide (48 ≤ c ∧ c ≤ 57))) = true ↔ AllDigits f := by
  rw [List.all_eq_true]
  exact ⟨fun h c hc => of_decide_eq_true (h c hc), fun h c hc => decide_eq_true (h c hc)⟩
theorem text_inj {x y : Str} (h : tl x = tl y) : x = y := by
  obtain ⟨⟨a⟩⟩ := x
  obtain ⟨⟨b⟩⟩ := y
  have h' : a = b := h
  rw [h']
theorem readI_law {w : Str} (hl : w.length < 60) : readI w = some (optD (lawIL (tl w))) := by
  unfold readI
  rw [if_pos hl]
  have hfl : (figsOf w).length < 60 := Nat.lt_of_le_of_lt (figs_len w) hl
  have ft := tl_figs w
  unfold lawIL
  dsimp only
  rw [← ft]
  by_cases h0 : (figsOf w).length = 0
  · have e : tl (figsOf w) = [] := List.eq_nil_of_length_eq_zero (by rw [tl_len]; exact h0)
    rw [if_pos h0, if_pos (.inl e)]; rfl
  rw [if_neg h0]
  have hne : tl (figsOf w) ≠ [] := fun e => h0 (by rw [← tl_len, e]; rfl)
  by_cases hd : digits (figsOf w) = true
  · have hD := (digits_iff _).mp hd
    rw [if_pos hd, numOf_digits hfl hD]
    dsimp only
    rw [if_pos (by rw [Int.natAbs_natCast]; exact val_lt hD (by rw [tl_len]; exact hfl))]
    have fix := numL_fix hD hne
    have hall : ((tl (figsOf w)).all (fun c => decide (48 ≤ c ∧ c ≤ 57))) = true := all_digits.mpr hD
    by_cases hm : (tl w).head? = some 45
    · have hs : Txt.startswith w "-" = true := (starts_minus w).mpr hm
      have hw : tl w = 45 :: tl (figsOf w) := by
        rw [ft, if_pos hm]
        cases q : tl w with
        | nil => rw [q] at hm; cases hm
        | cons c r => rw [q] at hm; cases hm; rfl
      have n48 : tl w ≠ [48] := fun e => by rw [e] at hm; cases hm
      unfold sgn
      rw [if_pos hs, if_pos hm]
      by_cases hz : (tl (figsOf w)).head? = some 48
      · have nt : ¬ textI (-((digitsVal (tl (figsOf w)) : Nat) : Int)) = w := by
          intro e
          have e2 := congrArg tl e
          by_cases v0 : 0 < digitsVal (tl (figsOf w))
          · rw [tl_textNeg v0, hw] at e2
            injection e2 with _ e2
            have := fix.mp e2
            by_cases one : tl (figsOf w) = [48]
            · rw [one] at v0; exact absurd v0 (by decide)
            · exact this ⟨hz, one⟩
          · have v1 : digitsVal (tl (figsOf w)) = 0 := by omega
            rw [v1, show (-((0 : Nat) : Int)) = ((0 : Nat) : Int) from rfl, tl_text, hw, numL_lt (by decide)] at e2
            injection e2 with e3 _
            exact absurd e3 (by decide)
        rw [if_neg nt, if_pos (.inr (.inr ⟨hz, n48⟩))]; rfl
      · have nt : textI (-((digitsVal (tl (figsOf w)) : Nat) : Int)) = w := by
          refine text_inj ?_
          have v0 : 0 < digitsVal (tl (figsOf w)) := by
            cases q : tl (figsOf w) with
            | nil => exact absurd q hne
            | cons c r =>
              rw [q] at hz hD
              have := hD c List.mem_cons_self
              have hc : c ≠ 48 := fun z => hz (by rw [z]; rfl)
              exact digitsVal_pos (by omega)
          rw [tl_textNeg v0, hw, fix.mpr fun q => hz q.1]
        rw [if_pos nt, if_neg (by rintro (q | q | q); exact hne q; rw [hall] at q; cases q; exact hz q.1)]; rfl
    · have hs : ¬ Txt.startswith w "-" = true := fun q => hm ((starts_minus w).mp q)
      have hw : tl (figsOf w) = tl w := by rw [ft, if_neg hm]
      unfold sgn
      rw [if_neg hs, if_neg hm]
      by_cases hz : (tl (figsOf w)).head? = some 48 ∧ tl w ≠ [48]
      · have nt : ¬ textI ((digitsVal (tl (figsOf w)) : Nat) : Int) = w := by
          intro e
          have e2 := congrArg tl e
          rw [tl_text] at e2
          exact fix.mp (e2.trans hw.symm) ⟨hz.1, fun q => hz.2 (by rw [← hw]; exact q)⟩
        rw [if_neg nt, if_pos (.inr (.inr hz))]; rfl
      · have nt : textI ((digitsVal (tl (figsOf w)) : Nat) : Int) = w := by
          refine text_inj ?_
          rw [tl_text, fix.mpr fun q => hz ⟨q.1, fun y => q.2 (by rw [hw]; exact y)⟩, hw]
        rw [if_pos nt, if_neg (by rintro (q | q | q); exact hne q; rw [hall] at q; cases q; exact hz q)]; rfl
  · have hD : ¬ AllDigits (tl (figsOf w)) := fun q => hd ((digits_iff _).mpr q)
    have hall : ((tl (figsOf w)).all (fun c => decide (48 ≤ c ∧ c ≤ 57))) = false := by
      cases q : ((tl (figsOf w)).all (fun c => decide (48 ≤ c ∧ c ≤ 57))) with
      | false => rfl
      | true => exact absurd (all_digits.mp q) hD
    rw [if_neg hd, if_pos (.inr (.inl hall))]
    rfl
end DW

set_option Elab.async false
set_option linter.all false
set_option maxRecDepth 100000
set_option maxHeartbeats 1000000
namespace DW
variable [TabsC]
open PySem PySem.Spec PyProof.Rows L2 TL NumText
/-! ### fractions in words -/
/-- the list up to the first s, and what is behind it -/
def cutL (s : Nat) : List Nat → List Nat × Option (List Nat)
  | [] => ([], none)
  | c :: r => if c = s then ([], some r) else (c :: (cutL s r).1, (cutL s r).2)
theorem cutL_none {s : Nat} : ∀ {l : List Nat}, (cutL s l).2 = none → (cutL s l).1 = l ∧ s ∉ l
  | [], _ => ⟨rfl, fun h => nomatch h⟩
  | c :: r, h => by
    unfold cutL at h ⊢
    by_cases e : c = s
    · rw [if_pos e] at h; cases h
    · rw [if_neg e] at h ⊢
      obtain ⟨h1, h2⟩ := cutL_none (l := r) h
      exact ⟨by dsimp only; rw [h1], fun q => (List.mem_cons.mp q).elim (fun z => e z.symm) h2⟩
theorem cutL_some {s : Nat} : ∀ {l b : List Nat}, (cutL s l).2 = some b → l = (cutL s l).1 ++ s :: b ∧ s ∉ (cutL s l).1
  | [], _, h => by cases h
  | c :: r, b, h => by
    unfold cutL at h ⊢
    by_cases e : c = s
    · rw [if_pos e] at h ⊢
      cases h
      exact ⟨by rw [e]; rfl, fun q => nomatch q⟩
    · rw [if_neg e] at h ⊢
      obtain ⟨h1, h2⟩ := cutL_some (l := r) h
      exact ⟨by dsimp only; rw [List.cons_append, ← h1], fun q => (List.mem_cons.mp q).elim (fun z => e z.symm) h2⟩
/-- the fraction that a word tells -/
def lawFL (l : List Nat) : Option (Int × Int) :=
  match (cutL 47 l).2 with
  | none => (lawIL l).map fun n => (n, 1)
  | some b => match lawIL (cutL 47 l).1, lawIL b with
    | some t, some d => if 1 < d ∧ gcdI t d = 1 then some (t, d) else none
    | _, _ => none
def optF : Option (Int × Int) → PyData
  | some (t, b) => .tuple [.int t, .int b]
  | none => .none
theorem lawIL_slash {l : List Nat} (h : 47 ∈ l) : lawIL l = none := by
  unfold lawIL
  dsimp only
  refine if_pos ?_
  have hm : 47 ∈ (if l.head? = some 45 then l.drop 1 else l) := by
    by_cases e : l.head? = some 45
    · rw [if_pos e]
      cases l with
      | nil => cases h
      | cons c r =>
        cases e
        rcases List.mem_cons.mp h with z | z
        · cases z
        · exact z
    · rw [if_neg e]; exact h
  generalize (if l.head? = some 45 then l.drop 1 else l) = f at hm ⊢
  refine .inr (.inl ?_)
  cases q : f.all (fun c => decide (48 ≤ c ∧ c ≤ 57)) with
  | false => rfl
  | true =>
    have := all_digits.mp q 47 hm
    omega
theorem readI_text {w : Str} {n : Int} (hl : w.length < 60) (h : lawIL (tl w) = some n) : textI n = w ∧ n.natAbs < 10 ^ 60 := by
  have r := readI_law hl
  rw [h] at r
  obtain ⟨_, q⟩ := readI_inv r
  rcases q with ⟨_, e⟩ | ⟨_, _, e⟩ | ⟨m, _, _, _, hm, q⟩
  · cases e
  · cases e
  · rcases q with ⟨e1, e2⟩ | ⟨_, e2⟩
    · cases e2
      refine ⟨e1, ?_⟩
      unfold sgn
      split
      · rw [Int.natAbs_neg]; exact hm
      · exact hm
    · cases e2
theorem frB_1n (n : Int) : frB (.tuple [.int n, .int 1]) = true := FrOk.ok ⟨by decide, Nat.gcd_one_right _⟩
theorem frB_iff (t b : Int) : frB (.tuple [.int t, .int b]) = true ↔ 1 ≤ b ∧ gcdI t b = 1 := by
  show (decide (1 ≤ b) && decide (((Nat.gcd t.natAbs b.natAbs : Nat) : Int) = 1)) = true ↔ _
  rw [Bool.and_eq_true, decide_eq_true_eq, decide_eq_true_eq]
  exact Iff.rfl
theorem frB_non1 (y : PyData) : frB (.tuple [.none, y]) = false := frB_1 rfl
theorem frB_non2 (x : PyData) : frB (.tuple [x, .none]) = false := frB_2 rfl
theorem mk_of_tl (w : Str) : (⟨(tl w).toArray⟩ : Str) = w := mk_tl w
theorem readF_law {w : Str} (hl : w.length < 60) : readF w = some (optF (lawFL (tl w))) := by
  unfold readF lawFL
  rw [if_pos hl]
  cases hc : (cutL 47 (tl w)).2 with
  | none =>
    obtain ⟨h1, h2⟩ := cutL_none hc
    have hp : Txt.partition w "/" = (w, Str.empty, Str.empty) := partition_none (y := "/") (s := 47) (S := []) (by decide +kernel) h2
    rw [hp]
    dsimp only
    rw [readI_law hl, if_neg (by decide)]
    dsimp only
    cases hi : lawIL (tl w) with
    | none =>
      show (if frB (.tuple [.none, .int 1]) = true then _ else _) = _
      rw [if_neg (by rw [frB_non1]; decide)]; rfl
    | some n =>
      obtain ⟨e1, e2⟩ := readI_text hl hi
      show (if frB (.tuple [.int n, .int 1]) = true then (if n.natAbs < 10 ^ 60 ∧ (1 : Int).natAbs < 10 ^ 60 then (if textF n 1 = w then _ else _) else _) else _) = _
      rw [if_pos (frB_1n n), if_pos ⟨e2, by decide⟩, if_pos (show textF n 1 = w from by unfold textF; rw [if_pos rfl]; exact e1)]; rfl
  | some b =>
    obtain ⟨h1, h2⟩ := cutL_some hc
    obtain ⟨A, hA⟩ : ∃ A : Str, tl A = (cutL 47 (tl w)).1 := ⟨⟨((cutL 47 (tl w)).1).toArray⟩, rfl⟩
    obtain ⟨B, hB⟩ : ∃ B : Str, tl B = b := ⟨⟨b.toArray⟩, rfl⟩
    have sl : tl ("/" : Str) = [47] := by decide +kernel
    have hw : w = A ++ "/" ++ B := text_inj (by rw [tl_append, tl_append, hA, hB, sl, h1]; simp [← h1])
    have hp : Txt.partition w "/" = (A, ("/" : Str), B) := by rw [hw]; exact partition_app (y := "/") (s := 47) (S := []) sl (by rw [hA]; exact h2)
    have lw : A.length + 1 + B.length = w.length := by rw [hw, Str.length_append, Str.length_append]; rfl
    rw [hp]
    dsimp only
    rw [if_pos (by decide), readI_law (w := A) (by omega), readI_law (w := B) (by omega), hA, hB]
    dsimp only
    cases ha : lawIL (cutL 47 (tl w)).1 with
    | none =>
      show (if frB (.tuple [.none, _]) = true then _ else _) = _
      rw [if_neg (by rw [frB_non1]; decide)]
      cases lawIL b <;> rfl
    | some t =>
      cases hb : lawIL b with
      | none =>
        show (if frB (.tuple [_, .none]) = true then _ else _) = _
        rw [if_neg (by rw [frB_non2]; decide)]; rfl
      | some d =>
        obtain ⟨e1, e2⟩ := readI_text (w := A) (by omega) (by rw [hA]; exact ha)
        obtain ⟨e3, e4⟩ := readI_text (w := B) (by omega) (by rw [hB]; exact hb)
        show (if frB (.tuple [.int t, .int d]) = true then (if t.natAbs < 10 ^ 60 ∧ d.natAbs < 10 ^ 60 then (if textF t d = w then _ else _) else _) else _) = some (optF (if 1 < d ∧ gcdI t d = 1 then some (t, d) else none))
        by_cases hf : frB (.tuple [.int t, .int d]) = true
        · rw [if_pos hf, if_pos ⟨e2, e4⟩]
          obtain ⟨f1, f2⟩ := (frB_iff t d).mp hf
          by_cases d1 : d = 1
          · have nt : ¬ textF t d = w := by
              unfold textF
              rw [if_pos d1, e1]
              intro z
              have := congrArg Str.length z
              omega
            rw [if_neg nt, if_neg (by omega)]; rfl
          · have yt : textF t d = w := by
              unfold textF
              rw [if_neg d1, e1, e3, hw]
            rw [if_pos yt, if_pos ⟨by omega, f2⟩]; rfl
        · rw [if_neg hf]
          rw [if_neg fun q => hf ((frB_iff t d).mpr ⟨by omega, q.2⟩)]; rfl
end DW
namespace DW
variable [TabsC]
open PySem PySem.Spec PyProof.Rows L2 TL NumText
theorem lawF_ok {l : List Nat} {t b : Int} (h : lawFL l = some (t, b)) : FrOk t b := by
  unfold lawFL at h
  split at h
  · cases hi : lawIL l with
    | none => rw [hi] at h; cases h
    | some n => rw [hi] at h; cases h; exact ⟨by decide, Nat.gcd_one_right _⟩
  · split at h
    · split at h
      · rename_i q
        cases h
        refine ⟨by omega, ?_⟩
        have := q.2
        unfold gcdI at this
        omega
      · cases h
    · cases h
theorem optF_fr (l : List Nat) : frB (optF (lawFL l)) = (lawFL l).isSome := by
  cases h : lawFL l with
  | none => rfl
  | some q => obtain ⟨t, b⟩ := q; exact (lawF_ok h).ok
/-- three words that all tell fractions -/
theorem ptB_words (ws : List Str) : ptB (.tuple (ws.map fun w => optF (lawFL (tl w)))) = (decide (ws.length = 3) && ws.all fun w => (lawFL (tl w)).isSome) := by
  by_cases h : ws.length = 3
  · obtain ⟨a, b, c, rfl⟩ := len3 h
    show (frB _ && (frB _ && frB _)) = _
    rw [optF_fr, optF_fr, optF_fr]
    simp
  · rw [ptB_len (by rw [List.length_map]; exact h), decide_eq_false h]; rfl
end DW

set_option Elab.async false
set_option linter.all false
set_option maxRecDepth 100000
set_option maxHeartbeats 2000000
/-! Errors of one family: a base over ValueError whose __init__ keeps its one argument as `value`, and classes below it. -/
namespace PySem
namespace ErrX
open PySem.W PySem.Calls PyProof.Rows PySem.HandSPX
def iArgs (p1 p2 : Pos) : Arguments := { posonlyargs := [], args := [{ arg := "self", annotation := none, pos := p1 }, { arg := "value", annotation := none, pos := p2 }], vararg := none, kwonlyargs := [], kw_defaults := [], kwarg := none, defaults := [] }
def iBody (q1 q2 q3 q4 : Pos) : List Stmt := [.Assign [.Attribute (.Name "self" q1) "value" q2] (.Name "value" q3) q4]
def iScope : Scope := { kind := .function, names := [(PySem.Str.ofString "self", .local), (PySem.Str.ofString "value", .local)], isGenerator := false, isCoroutine := false, more := [] }
/-- what the written part says of the class at C, called x, and of the __init__ at fI -/
structure ErrTxt (K : Frag) (mg : Str → Option Value) (x : Str) (C fI : Addr) : Prop where
  gC : mg x = some (.ref C)
  cls : ∃ nm q N bs bm sn sub ab col dd k0 k1 k2 k3 k5, K.lookup C = some (excClassObj nm q C N bs bm true sn sub ab col dd k0 k1 k2 k3 k5 "ValueError.__new__") ∧ refsVE bm = true
  sa : findIn K (.ref C) "__setattr__" = some (some (.builtin "object.__setattr__"))
  ga : findIn K (.ref C) "__getattribute__" = some (some (.builtin "BaseException.__getattribute__"))
  gg : findIn K (.ref C) "__getattr__" = some none
  noV : findIn K (.ref C) "value" = some none
  iC : findIn K (.ref C) "__init__" = some (some (.ref fI))
  tC : typeIn K (.ref fI) = some (.type "function")
  kC : keepIn K (.ref C) = true
  exC : subIn K (.ref C) (.type "BaseException") = some true
  tyC : typeIn K (.ref C) = some (.type "type")
  hdC : hasDictIn K C = true
  ca : findIn K (.ref C) "__class__" = some (some (.builtin "object.__class__"))
  mo : mroIn K C (.type "object") = some true
  fn : ∃ (oc : Value) (od : Option Addr) (doc pm : Value) (an : Option Addr) (cdv ct : Value) (osl : Array (Option Value)) (p1 p2 q1 q2 q3 q4 : Pos),
    K.lookup fI = some ⟨oc, od, .func (fnOf "__init__" "ReachError.__init__" (iArgs p1 p2) (iBody q1 q2 q3 q4) iScope .none .none doc pm an cdv ct), osl⟩ ∧ codeIn K cdv "ReachError.__init__" = true
theorem ldV {M : Model} {s : Shared} {name : Str} {scope : Scope} {L a : Addr} {cd : Value} {m : Str → Option Value} {x : Str} {pos : Pos} {v : Value} {Q : Value → Shared → Prop} {A : Around} {E : Value → Shared → Prop} (hn : s.heap.Ns L m) (hv : m x = some v) (h : Q v s)
    (hk : scope.kind = .function := by rfl) (hl : (envOfC name scope L a cd).kindOf x = some .local := by rfl) (hd : (x == ("__debug__" : Str)) = false := by decide) :
    wpAny M A (eval (.Name x pos) (envOfC name scope L a cd)) Q E s := wpAny_Name (wpAny_loadName_local hk hl hn hv h) hd
/-- what __init__ leaves of a new error at x -/
structure Inited (h h' : Heap) (x C dx t1 : Addr) (v : Value) : Prop where
  rest : ∀ b o, b ≠ x → h.get? b = some o → h'.get? b = some o
  self : h'.get? x = some { cls := .ref C, dict := some dx, data := .fields #[.ref t1, .none, .none, .none, .bool false, .none] }
  late : h.objs.size ≤ dx
  apart : dx ≠ x
  names : h'.Ns1 dx (fun y => if y = "value" then some v else none)
/-- a made error -/
structure Made (h h' : Heap) (e C d : Addr) (v : Value) : Prop where
  rest : ∀ b o, h.get? b = some o → h'.get? b = some o
  late : h.objs.size ≤ e
  self : ∃ oe vs, h'.get? e = some oe ∧ oe.cls = .ref C ∧ oe.dict = some d ∧ oe.data = .fields vs ∧ vs[1]? = some .none
  lateD : h.objs.size ≤ d
  apart : d ≠ e
  names : h'.Ns1 d (fun y => if y = "value" then some v else none)
section
variable {prog : Program} {w : World} {A : Around} {E : Value → Shared → Prop} {R : Result → Shared → Prop} {s : Shared} {K : Frag} {mg : Str → Option Value} {x : Str} {C fI : Addr}
theorem err_init (T : ErrTxt K mg x C fI) {e t0 : Addr} {v : Value} (X : K.In s.heap) (hlim : s.heap.NoLimit) (he : s.heap.get? e = some (excO C t0)) (hne : K.lookup e = none) (hroom : A.depth < recursionLimit)
    (hq : ∀ h' tk dx, Inited s.heap h' e C dx t0 v → R (.ok (.ret .none)) { s with heap := h', toks := tk }) :
    codeAny (model prog w) A (.call (.ref fI) ⟨[.ref e, v], []⟩) R s := by
  obtain ⟨oc, od, doc, pm, an, cdv, ct, osl, p1, p2, q1, q2, q3, q4, ho, hcd⟩ := T.fn
  obtain ⟨nm, q, N, bs, bm, sn, sub, ab, col, dd, k0, k1, k2, k3, k5, hC, hbm⟩ := T.cls
  have hcl : clsIn K C = some { name := nm, bases := bs, mro := .ref C :: bm, ns := N, qualname := q, hasDict := true, slotNames := sn, subclasses := sub, abstract := ab, collection := col, hasDel := false } := by
    unfold clsIn
    rw [hC] <;> rfl
  refine Att.call_fn (binds := [("self", .ref e), ("value", v)]) X hlim ho hcd hroom (BindsTo.of_eq (by first | rfl | with_unfolding_all rfl)) (by first | rfl | decide | with_unfolding_all rfl) (fun s₁ IC => ?_) rfl rfl rfl
  obtain ⟨h₁, tk₁, rfl⟩ := IC.toInCall.same
  have old : ∀ b o, s.heap.get? b = some o → h₁.get? b = some o := IC.toInCall.keep
  have hn := IC.toInCall.ns
  have he₁ := old _ _ he
  show wpAny _ _ (execs _ _) _ _ _
  refine wpAny_execs_cons (plainObj_wpAny_Assign_Attribute ?_)
  refine ldV (v := v) hn (by first | rfl | with_unfolding_all rfl | kernel_rfl) (ldV (v := .ref e) hn (by first | rfl | with_unfolding_all rfl | kernel_rfl) ?_)
  refine set_plain (X.keeps old) (ox := excO C t0) (od := none) ⟨he₁, rfl, rfl, trivial⟩ T.sa ?_
  refine exc_osa (X.keeps old) he₁ hcl (show refsVE (.ref C :: bm) = true from hbm) rfl T.noV (fun h₃ tk₃ dx k₃ dn dne hx₃ hn₃ => ?_)
  show wpAny _ _ (execs _ _) _ _ _
  have lt : s.heap.objs.size < h₁.objs.size := hn.lt
  exact wpAny_execs_nil (hq h₃ tk₃ dx ⟨fun b o hb q => k₃ b o hb (old b o q), hx₃, Nat.le_of_lt (Nat.lt_of_lt_of_le lt dn), dne, hn₃⟩)
theorem err_made (T : ErrTxt K mg x C fI) {v : Value} (X : K.In s.heap) (hlim : s.heap.NoLimit) (hroom : A.depth + 1 < recursionLimit)
    (hq : ∀ h' tk e d, Made s.heap h' e C d v → R (.ok (.ret (.ref e))) { s with heap := h', toks := tk }) :
    codeAny (model prog w) A (.call (.ref C) ⟨[v], []⟩) R s := by
  obtain ⟨nm, q, N, bs, bm, sn, sub, ab, col, dd, k0, k1, k2, k3, k5, hC, hbm⟩ := T.cls
  obtain ⟨hp, g, dr, tk, os⟩ := s
  have up : ∀ b o, hp.get? b = some o → ((hp.push (kdv_tup [v])).push (excO C hp.objs.size)).get? b = some o := fun b o e => Heap.get?_push_of_some _ (Heap.get?_push_of_some _ e)
  have at_ : ((hp.push (kdv_tup [v])).push (excO C hp.objs.size)).get? (hp.objs.size + 1) = some (excO C hp.objs.size) := by heap_get
  have off : K.lookup (hp.objs.size + 1) = none := by
    cases e : K.lookup (hp.objs.size + 1) with
    | none => rfl
    | some o => exact absurd (Nat.lt_of_succ_lt (Heap.lt_size (X _ _ e))) (Nat.lt_irrefl _)
  have sz1 : [v].length ≤ sizeLine := by rw [sizeLine_eq]; exact (by decide : 1 ≤ 16777216)
  refine call_own F.excBase_ValueError (fun X => refsVE_contains X bm hbm) (X _ _ hC) (looks_findIn X T.iC) (fun self => bind_fn X self T.tC) sz1 ?_
  refine err_init (s := ⟨(hp.push (kdv_tup [v])).push (excO C hp.objs.size), g, dr, tk, os⟩) T (X.keeps up) (hlim.keeps up) at_ off (show A.depth + 1 < recursionLimit from hroom) fun h' tk' dx ⟨k', hx, dn, dne, hns⟩ => ?_
  have old : ∀ b o, hp.get? b = some o → h'.get? b = some o := fun b o e => k' b o (Nat.ne_of_lt (Nat.lt_succ_of_lt (Heap.lt_size e))) (up b o e)
  have big : hp.objs.size + 1 + 1 ≤ dx := by
    first
      | (simpa only [Heap.size_push] using dn)
      | exact dn
      | (have q := dn; rw [Heap.size_push, Heap.size_push] at q; exact q)
  exact ⟨rfl, hq h' tk' (hp.objs.size + 1) dx ⟨old, Nat.le_succ _, ⟨_, _, hx, rfl, rfl, rfl, rfl⟩, Nat.le_trans (Nat.le_trans (Nat.le_succ _) (Nat.le_succ _)) big, dne, hns⟩⟩
end
end ErrX
end PySem
namespace DW
open PySem PySem.Spec PyProof.Rows L2
theorem relO_value {v : V} {v' : Value} (r : RelV v v') (f : Str) : RelO (List.lookup f [(("value" : Str), v)]) (if f = "value" then some v' else none) := by
  by_cases hw : f = "value"
  · subst hw
    rw [if_pos rfl, show List.lookup ("value" : Str) [(("value" : Str), v)] = some v from by simp [List.lookup]]
    exact r
  · have qw : (f == ("value" : Str)) = false := by simpa using hw
    rw [if_neg hw, show List.lookup f [(("value" : Str), v)] = none from by simp [List.lookup, qw]]
    trivial
section
variable {X : Cx} {C fI : Addr} {x : Str}
/-- x(e), x a class of the family: its error is made, its own dict at d -/
def tMkErr (C : Addr) (ta : TA) : L2.St → Hp → XK → Prop := fun σ H Q => ta σ H fun vs H1 => ∃ v, vs = [v] ∧ ∀ d, H1 d = none → Q (.ref C) (some d) (upd H1 d (.xd [(("value" : Str), v)]))
theorem pmk_err {a : Expr} {ta : TA} {p pos : Pos} {k : Nat} (T : PySem.ErrX.ErrTxt X.K X.mg x C fI) (hr : Room k X.A) (ha : PA X [a] ta) (hg : Gl X x)
    (hdb : (x == ("__debug__" : Str)) = false := by decide) (he : starEach (a :: []) X.env = (false, eval a X.env) :: starEach [] X.env := by rfl) (hpl : (backTo pos (starEach [] X.env)).any (·.1) = false := by rfl) :
    PMk X (.Call (.Name x p) [a] [] pos) (tMkErr C ta) := by
  intro pins s σ H Q I h
  refine wpAny_Call_Name_kw (ld_glob I hg T.gC ?_ hdb)
  refine PySem.W.callWith_K (h₀ := X.base) I.ok.mod.kin T.kC (thn (ha.run pos pins s σ H _ I h) fun us s1 hh => ?_) he hpl
  obtain ⟨vs, H1, I1, r1, v, ev, q1⟩ := hh
  subst ev
  refine ⟨I1.kIn, ?_⟩
  cases r1 with
  | cons rv rn =>
    rename_i v' us'
    cases rn
    show wpAny _ _ (call (.ref C) [v']) _ _ _
    have hlim := I1.nolimit
    obtain ⟨hp, g, dr, tk, os⟩ := s1
    refine wpAny_call (PySem.ErrX.err_made T I1.kIn hlim (by have := hr.dp; omega) fun h' tk' e d M => ?_)
    show MkP X pins σ Q (.ref e) ⟨h', g, dr, tk', os⟩
    obtain ⟨oe, fv, hoe, hc, hd, hdat, h1⟩ := M.self
    obtain ⟨G', g1, g2⟩ := restrict h' fun b => decide (b ≠ e)
    have gk : ∀ b, b ≠ e → G'.get? b = h'.get? b := fun b hb => g1 b (decide_eq_true hb)
    have ge : G'.get? e = none := g2 e (by simp)
    have old : ∀ b o, hp.get? b = some o → G'.get? b = some o := fun b o q => (gk b (Nat.ne_of_lt (Nat.lt_of_lt_of_le (Heap.lt_size q) M.late))).trans (M.rest b o q)
    have ob : ObjOk X.prog X.w (upd H1 d (.xd [(("value" : Str), v)])) G' d (.xd [(("value" : Str), v)]) := ⟨_, M.names.at (fun o q => (gk d M.apart).trans q), fun f => relO_value rv f⟩
    have J : Inv X pins σ (upd H1 d (.xd [(("value" : Str), v)])) ⟨G', g, dr, tk', os⟩ := I1.laid (t' := tk') old M.lateD ob
    refine ⟨e, oe, fv, ⟨G', g, dr, tk', os⟩, _, .ref C, some d, rfl, J, fun b o q => ?_, ge, hoe, ⟨hc, hd⟩, hdat, h1, ?_, rfl, I1.bare, raises_own T.exC T.tyC, q1 d (I1.hok.fresh M.lateD)⟩
    · by_cases hb : b = e
      · have q' : G'.get? b = some o := q
        rw [hb, ge] at q'
        cases q'
      · exact (gk b hb).symm.trans q
    · rw [upd_ne (Ne.symm M.apart)]
      exact I1.hok.fresh M.late
end
end DW

set_option Elab.async false
set_option linter.all false
set_option maxRecDepth 100000
set_option maxHeartbeats 2000000
namespace DW
open PySem PySem.Spec PyProof.Rows L2
/-! ### a caught error that is told of behind its suite -/
def ExV (cls : Value) (d : Option Addr) (a : Addr) : HO := .ext fun h => ∃ oe, h.get? a = some oe ∧ Zc cls d oe ∧ ∃ vs, oe.data = .fields vs
theorem exV_ok {P : Program} {w : World} {H : Hp} {h : Heap} {a : Addr} {cls : Value} {d : Option Addr} {oe : Obj} (e : h.get? a = some oe) (z : Zc cls d oe) (f : ∃ vs, oe.data = .fields vs) : ObjOk P w H h a (ExV cls d a) :=
  ⟨⟨oe, e, z, f⟩, ⟨oe, e⟩, fun _ _ ⟨o, q, r⟩ k => ⟨o, k o q, r⟩⟩
section
variable {X : Cx} {pins : List (Addr × Obj)} {σ : L2.St} {H : Hp} {s : Shared} {a : Addr} {o : HO}
/-- an object that was not there at the entry, and that nobody told of, is told of from now on -/
theorem Inv.tell (I : Inv X pins σ H s) (hex : X.ex = []) (na : H a = none) (n0 : X.s_0.heap.get? a = none) (nL : a ≠ X.env.locals) (nc : ∀ y c, X.env.cells.lookup y = some c → c ≠ a) (np : ∀ p ∈ X.pn ++ pins, p.1 ≠ a)
    (new : ObjOk X.prog X.w (upd H a o) s.heap a o) : Inv X pins σ (upd H a o) s := by
  have off : ∀ {b : Addr} {u : HO}, H b = some u → b ≠ a := fun e => ne_of_none e na
  refine ⟨I.ok, I.os, I.bare, ⟨I.base.keep, I.base.slot, fun b u e n hb => ?_, I.base.there, fun b xs e => ?_, fun b u y e => ?_, fun b ps e => ?_⟩, I.loc, I.cell, ?_, fun y c e => ?_, fun p hp => ?_, I.hok.laidN (fun _ _ q => q) na new, I.len⟩
  · have hba : b ≠ a := fun z => by
      rw [z, n0] at e
      cases e
    rw [upd_ne hba]
    exact I.base.free b u e n hb
  · have q := I.base.tups b xs e
    rw [upd_ne (off q)]
    exact q
  · have q := I.base.frzs b u y e
    rw [upd_ne (off q)]
    exact q
  · obtain ⟨more, q⟩ := I.base.tbls b ps e
    exact ⟨more, by rw [upd_ne (off q)]; exact q⟩
  · rw [upd_ne (Ne.symm nL)]
    exact I.free
  · rw [upd_ne (nc y c e)]
    exact I.freeC y c e
  · obtain ⟨h1, h2, h3⟩ := I.pin p hp
    exact ⟨h1, by rw [upd_ne (np p hp)]; exact h2, h3⟩
end
theorem sky_none {B : Heap} {l : List Env} {a L : Addr} {Z : Obj → Prop} {h : Heap} (k : Sky B l a Z L h) : B.get? a = none := by
  rcases k with k | k | k
  · exact k.2.1
  · exact k.2.1
  · exact k.2.1
/-- what «except x as n: .. return ..» wishes: the suite returns, and the error is told of behind it -/
def wTold (K : PySem.W.Frag) (c : Value) (i : Nat) (ts : Addr → Value → Option Addr → TS) (D : Ends) : WX := fun cls d σ H =>
  PySem.W.exmOne K cls c = some true ∧ ∀ a, H a = none → ts a cls d { nx := fun _ _ => False, rt := fun v H' => H' a = none → D.rt v (upd H' a (ExV cls d a)) } (σ.set i (some (.ref a))) H
section
variable {X : Cx} {x n : Str} {c : Value} {i : Nat} {body suite : List Stmt} {b0 : Stmt} {np pos pos' : Pos} {tb : WX → TS} {ts : Addr → Value → Option Addr → TS}
theorem ps_told (hex : X.ex = []) (hs : X.stack = X.env :: X.outer) (hf : X.env.frame = some X.env.locals) (hN : X.N.Nodup) (hi : X.N[i]? = some n) (hln : X.env.kindOf n = some .local) (hc : Names X x c)
    (hb : ∀ (W : WX) (pn : List (Addr × Obj)) (xe : Value → Shared → Prop), Takes (X.tr pn xe) W → PassesOwn (model X.prog X.w) X.A X.env xe → PSs (X.tr pn xe) body (tb W))
    (hsu : ∀ (a : Addr) (oe : Obj) (cls : Value) (d : Option Addr) (pn : List (Addr × Obj)), Zc cls d oe → (∃ vs, oe.data = .fields vs) → PSs (X.suite a ((a, oe) :: pn)) (b0 :: suite) (ts a cls d)) :
    PS X (.Try body [.ExceptHandler (some (.Name x np)) (some n) (b0 :: suite) pos'] [] [] pos) (fun D σ H => tb (wTold X.K c i ts D) D σ H) := by
  refine ⟨fun pins s σ H D I h => ?_⟩
  have okX := I.ok
  have frX : X.A.frames = some (X.env :: X.outer) := by rw [okX.frames, hs]
  refine wpAny_Try_except ?_
  have run := (hb (wTold X.K c i ts D) (X.pn ++ pins) (fun e t1 => wpAny (model X.prog X.w) X.A (noteFrame e X.env) (fun _ t2 => wpAny (model X.prog X.w) X.A (setFlight e none)
    (fun _ t3 => wpAny (model X.prog X.w) X.A (handleBy e X.env [.ExceptHandler (some (.Name x np)) (some n) (b0 :: suite) pos']) (SP X pins D) X.xe t3) X.xe t2) X.xe t1) ?_ PassesOwn.looking).run [] s σ H D (I.toTry _) h
  · refine wpAny_mono run (fun fl t hsp => ?_) fun _ _ z => z
    match fl, hsp with
    | .next, ⟨σ1, H1, J, q⟩ => exact wpAny_execs_nil ⟨σ1, H1, J.ofTry okX, q⟩
    | .brk, ⟨σ1, H1, J, q⟩ => exact ⟨σ1, H1, J.ofTry okX, q⟩
    | .cont, ⟨σ1, H1, J, q⟩ => exact ⟨σ1, H1, J.ofTry okX, q⟩
    | .ret _, ⟨v1, σ1, H1, J, r, q⟩ => exact ⟨v1, σ1, H1, J.ofTry okX, r, q⟩
  · intro u t xx
    obtain ⟨a, B, sI, pins1, σ1, H1, cls, d, rfl, J0, nb, up, sky, na, os, ag, yes, told⟩ := xx
    have J : Inv X pins σ1 H1 sI := J0.ofTry okX
    have nB := sky_none sky
    rw [hs] at sky
    show wpAny (model X.prog X.w) X.A (noteFrame (.ref a) X.env) _ _ _
    refine Sky.land Zc.steady frX hf sky fun h3 fl3 up3 => ?_
    have J3 : Inv X pins σ1 H1 { t with heap := h3 } := J.landed nb fl3.1 (up.trans up3) os ag
    obtain ⟨o3, w3, at3, z3, d3⟩ := fl3.there
    have nfr : a ∉ frs (X.env :: X.outer) := fun hm => by
      obtain ⟨_, o, e, q⟩ := fl3.2.2.1.mem hm
      rw [at3] at e
      cases e
      exact q _ d3
    have nI : sI.heap.get? a = none := by
      cases e : sI.heap.get? a with
      | none => rfl
      | some o =>
        have q := nb a o e (by rw [hs]; exact nfr)
        rw [nB] at q
        cases q
    have nL : a ≠ X.env.locals := fun z => nfr (List.mem_filterMap.mpr ⟨X.env, List.mem_cons_self, by rw [hf, z]⟩)
    have nF : a ∉ X.fs := fun hm => by
      obtain ⟨e, he, q⟩ := List.mem_filterMap.mp hm
      exact nfr (List.mem_filterMap.mpr ⟨e, List.mem_cons_of_mem _ he, q⟩)
    have n0 : X.s_0.heap.get? a = none := by
      cases e : X.s_0.heap.get? a with
      | none => rfl
      | some o =>
        obtain ⟨o', q⟩ := J.base.there a o e (by rw [hex]; exact fun z => nomatch z)
        rw [nI] at q
        cases q
    have nc : ∀ y c, X.env.cells.lookup y = some c → c ≠ a := fun y c e z => by
      obtain ⟨_, o, q, _⟩ := J.cell y c e
      rw [z, nI] at q
      cases q
    have npn : ∀ p ∈ X.pn ++ pins, p.1 ≠ a := fun p hp z => by
      obtain ⟨q, _⟩ := J.pin p hp
      rw [z, nI] at q
      cases q
    have S3 := J3.suite at3 d3 na nL nF
    refine wpAny_handleBy_cons (codeAny_handlers_test ?_) (by intro q; cases q)
    have lt : PySem.W.Looks (model X.prog X.w) h3 (typeOf (.ref a)) cls := fun A Q E s k q => wpAny_typeOf_ref (k _ _ at3) (by rw [z3.1]; exact q)
    have lm := PySem.W.exm_one (M := model X.prog X.w) J3.kIn lt yes
    have clsAt : ∀ {Q : Value → Shared → Prop} {E : Value → Shared → Prop}, Q c { t with heap := h3 } → wpAny (model X.prog X.w) (X.A.mark (some (.ref a))) (eval (.Name x np) X.env) Q E { t with heap := h3 } := fun {Q E} q => by
      obtain ⟨g1, g2, g3 | ⟨g3, g4, g5⟩⟩ := hc
      · exact ld_glob (X := X.suite a ((a, o3) :: (X.pn ++ pins))) S3 g1 g3 q g2
      · exact ld_blt (X := X.suite a ((a, o3) :: (X.pn ++ pins))) S3 g1 g3 g4 q g5 g2
    refine clsAt (lm.here ?_)
    refine codeAny_handlers_suite_as (HandSPX.lands_againZ fl3 fun h4 fl4 up4 => ?_)
    have J4 : Inv X pins σ1 H1 { t with heap := h4 } := J.landed nb fl4.1 ((up.trans up3).trans up4) os ag
    obtain ⟨o4, w4, at4, z4, d4⟩ := fl4.there
    have S4 := J4.suite at4 d4 na nL nF
    refine store_ok (X := X.suite a ((a, o4) :: (X.pn ++ pins))) (v := .ref a) S4 hN hi (.inl hln) rfl (fun t5 S5 => ?_) (.inr hln)
    refine wpAny_mono ((hsu a o4 cls d (X.pn ++ pins) z4 ⟨_, d4⟩).run [] t5 _ H1 _ S5 (told a na)) (fun f6 t6 hsp => ?_) fun _ _ z => False.elim z
    match f6, hsp with
    | .next, ⟨_, _, _, q⟩ => exact False.elim q
    | .brk, ⟨_, _, _, q⟩ => exact False.elim q
    | .cont, ⟨_, _, _, q⟩ => exact False.elim q
    | .ret _, ⟨v6, σ6, H6, S6, r6, q6⟩ =>
      obtain ⟨at6, n6, _⟩ := S6.pin (a, o4) (List.mem_append_left _ List.mem_cons_self)
      have J6 : Inv X pins σ6 H6 t6 := S6.unsuite okX
      have J7 := Inv.tell (o := ExV cls d a) J6 hex n6 n0 nL nc npn (exV_ok at6 z4 ⟨_, d4⟩)
      exact gone_ok J7 hN hi hln fun t7 J8 => ⟨_, _, _, J8, r6, q6 n6⟩
end
end DW

set_option Elab.async false
set_option linter.all false
set_option maxRecDepth 100000
set_option maxHeartbeats 4000000
namespace PySem.W
open PySem PySem.Spec PySem.Calls PyProof.Rows
section
variable {prog : Program} {w : World} {A : Around} {E : Value → Shared → Prop} {s : Shared} {K : Frag} {x D : Addr} {ox : Obj} {od : Option Obj}
theorem dw_findCls (hdct : hasDictIn K D = true) (ha : findIn K (.ref D) "__class__" = some (some (.builtin "object.__class__")))
    (hn : specialIn K (.builtin "object.__class__") "__get__" = some (some (.builtin "getset_descriptor.__get__"))) (htk : takesIn K (.builtin "object.__class__") = some true) :
    findObj K D od "__class__" = some (.bind (.builtin "getset_descriptor.__get__") (.builtin "object.__class__")) := by
  obtain ⟨cd, hc, _⟩ := any_some hdct
  unfold findObj
  rw [hc, Option.bind_some, ha, Option.bind_some]
  simp [hn, htk]
/-- e.__class__ of an error with its own dict -/
theorem dw_errCls {Q : Option Value → Shared → Prop} (f0 : findObj K D od "__class__" = some (.bind (.builtin "getset_descriptor.__get__") (.builtin "object.__class__"))) (hga : findIn K (.ref D) "__getattribute__" = some (some (.builtin "BaseException.__getattribute__")))
    (hgt : findIn K (.ref D) "__getattr__" = some none) (hsub : subIn K (.ref D) (.type "BaseException") = some true) (hm : mroIn K D (.type "object") = some true)
    (X : K.In s.heap) (I : InstAt s.heap x ox D od) (h : Q (some (.ref D)) { s with toks := s.toks + 1 }) : wpAny (model prog w) A (getAttr? (.ref x) "__class__") Q E s := by
  obtain ⟨hp, g, d, t, os⟩ := s
  have ty := I.type (M := model prog w)
  have la := looks_findIn (M := model prog w) X hga
  have lb := looks_findIn (M := model prog w) X hgt
  have lf := looks_find (M := model prog w) X I f0
  have isE : Looks (model prog w) hp (isInstance (.ref x) (.type "BaseException")) true := ty.andThen (looks_subIn X hsub)
  have q2 : (Value.builtin "BaseException.__getattribute__" == Value.builtin "object.__getattribute__") = false := by decide +kernel
  have q1 : (onTheHeap (Value.ref D) && Value.builtin "BaseException.__getattribute__" == Value.builtin "object.__getattribute__") = false := by
    rw [q2]
    rfl
  have q0 : (false && onTheHeap (Value.builtin "BaseException.__getattribute__")) = false := rfl
  unfold getAttr? getAttrBy? getAttrBy
  refine wpAny_bind (wpAny_mkText ?_)
  refine wpAny_bind (wpAny_attempt (wpAny_holding ?_))
  refine wpAny_bind (ty.at (wpAny_bind (la.at ?_)))
  show wpAny _ _ (if (onTheHeap (Value.ref D) && Value.builtin "BaseException.__getattribute__" == Value.builtin "object.__getattribute__") = true then _ else _) _ _ _
  rw [q1, if_neg Bool.false_ne_true]
  unfold getAttrByItsOwn hookBefore
  refine wpAny_bind ?_
  rw [if_pos (show onTheHeap (Value.ref D) = true from rfl)]
  refine lb.at (wpAny_bind (wpAny_attempt (wpAny_holding ?_)))
  unfold callGetattribute
  rw [q0, if_neg Bool.false_ne_true]
  unfold boundAndCalled
  rw [PySem.F.excAttr_ValueError.ga.bind (.ref x)]
  refine wpAny_bind (wpAny_pure ?_)
  show wpAny _ _ (call (.builtin "BaseException.__getattribute__") [.ref x, .str "__class__" t]) _ _ _
  refine wpAny_call (codeAny_call_builtin PySem.F.excAttr_ValueError.ga.plain PySem.F.entry_bexc_ga ?_)
  refine @check_slot (model prog w) _ _ ⟨hp, g, d, t + 1, os⟩ "BaseException.__getattribute__" "BaseException" "__getattribute__" (.ref x) [.str "__class__" t] [] _ (by decide +kernel) (by decide +kernel) isE (PySem.F.args_bexc_ga (.ref x) (.str "__class__" t)) ?_
  unfold Builtin.«object.__getattribute__»
  refine wpAny_bind (wpAny_of_eq (a := ((Value.ref x : Value), [Value.str "__class__" t])) ?_ ?_)
  · first
      | rfl
      | (simp only [slotArgs]; rfl)
  refine wpAny_bind (wpAny_pure ?_)
  refine wpAny_bind (ty.at (wpAny_bind (lf.at ?_)))
  show wpAny _ _ (holding [Value.builtin "object.__class__"] (call (.builtin "getset_descriptor.__get__") [.builtin "object.__class__", .ref x, .ref D]) >>= ret) _ _ _
  refine wpAny_bind (wpAny_holding (wpAny_call ?_))
  refine class_get (s := ⟨hp, g, d, t + 1, os⟩) (ox := ox) (od := od) X I hm ?_
  refine wpAny_pure ?_
  show wpAny _ _ (handedOut (.ref D)) _ _ _
  rw [handedOut_of (v := .ref D) rfl]
  first
    | exact wpAny_pure (wpAny_pure h)
    | exact wpAny_pure h
    | exact wpAny_pure (wpAny_bind (wpAny_pure (wpAny_pure h)))
theorem dw_errKit (f0 : findObj K D od "__class__" = some (.bind (.builtin "getset_descriptor.__get__") (.builtin "object.__class__"))) (hga : findIn K (.ref D) "__getattribute__" = some (some (.builtin "BaseException.__getattribute__")))
    (hgt : findIn K (.ref D) "__getattr__" = some none) (hsub : subIn K (.ref D) (.type "BaseException") = some true) (hdct : hasDictIn K D = true) (hm : mroIn K D (.type "object") = some true) : KitX K (.ref x) (.ref D) (fun h => InstAt h x ox D od) where
  ty := fun _ _ _ I => I.type
  it := fun _ _ X _ => by
    obtain ⟨cd, hc, _⟩ := any_some hdct
    unfold clsIn at hc
    split at hc
    · rename_i o1 o2 o3 o4 ho
      intro A1 Q1 E1 s1 k q
      unfold isType loadHead
      exact wpAny_bind (wpAny_loadPart (k _ _ (X _ _ ho)) (wpAny_pure q))
    · cases hc
  ne := fun h tp dd its n sl X htp => by
    obtain ⟨cd, hc, _⟩ := any_some hdct
    refine Bool.eq_false_iff.mpr fun q => ?_
    obtain rfl : D = tp := Value.ref.inj (beq_iff_eq.mp q)
    unfold clsIn at hc
    split at hc
    · rename_i o1 o2 o3 o4 ho
      have z := (X _ _ ho).symm.trans htp
      cases z
    · cases hc
  ca := fun X I k => dw_errCls f0 hga hgt hsub hm X I k
end
end PySem.W
namespace DW
variable [TabsC]
open PySem PySem.Spec PyProof.Rows L2
/-- the two facts of object.__class__ -/
structure ClsTxt (K : PySem.W.Frag) : Prop where
  hn : PySem.W.specialIn K (.builtin "object.__class__") "__get__" = some (some (.builtin "getset_descriptor.__get__"))
  ht : PySem.W.takesIn K (.builtin "object.__class__") = some true
section
variable {X : Cx} {env : DEnv} {m : Me} {k : Dat → Me → Prop} {a b e : Expr} {es : List Expr} {pos p : Pos} {x : Str} {C fI : Addr}
theorem exT_at {H : Hp} {s : Shared} {pins : List (Addr × Obj)} {σ : L2.St} {ad dd : Addr} (I : Inv X pins σ H s) (h : H ad = some (ExT C dd ad)) (h2 : ∃ u, H dd = some (.xd [(("value" : Str), u)])) :
    ∃ (oe od : Obj), PySem.W.InstAt s.heap ad oe C (some od) ∧ s.heap.get? dd = some od := by
  obtain ⟨⟨oe, e1, ⟨z1, z2⟩, vs, hd⟩, _, _⟩ := I.hok ad _ h
  obtain ⟨u, h2⟩ := h2
  obtain ⟨mA, hns, _⟩ := I.hok dd _ h2
  obtain ⟨od, ho, _⟩ := lookIn_ns hns
  exact ⟨oe, od, ⟨e1, z1, by unfold PySem.W.notCls; rw [hd] <;> rfl, by rw [z2]; exact ho⟩, ho⟩
/-- isinstance(e, C) of a told error -/
def rIsT (K : PySem.W.Frag) : List V → Hp → VK → Prop := fun xs H Q => ∃ (ad dd C : Addr) (u : V) (c : Addr) (b : Bool), xs = [.ref ad, .ref c] ∧ H ad = some (ExT C dd ad) ∧ H dd = some (.xd [(("value" : Str), u)]) ∧
  (∃ mg x fI, PySem.ErrX.ErrTxt K mg x C fI) ∧ PySem.W.kitOne K (.ref C) (.ref c) = some b ∧ Q (.bl b) H
theorem call_isT (Z : ClsTxt X.K) : CallR X (.builtin "isinstance") (rIsT X.K) := by
  intro pins s σ H xs us Q I r h
  obtain ⟨ad, dd, C, u, c, b, rfl, h1, h2, ⟨mg, x, fI, T⟩, e, q⟩ := h
  cases r with
  | cons rx rr =>
    cases rr with
    | cons rt rr =>
      cases rr
      cases rx
      cases rt
      obtain ⟨oe, od, J, _⟩ := exT_at I h1 ⟨u, h2⟩
      exact PySem.W.kia_one (PySem.W.dw_errKit (PySem.W.dw_findCls T.hdC T.ca Z.hn Z.ht) T.ga T.gg T.exC T.hdC T.mo) I.kIn J e (fun z => nomatch z) fun tk => ⟨.bl b, H, I.kept (t' := tk) fun _ _ z => z, rfl, q⟩
def fIsT (K : PySem.W.Frag) (_ : Me) (ds : List Dat) (k : Dat → Prop) : Prop := ∃ (C c : Addr) (x : PyData) (b : Bool), ds = [.e C x, .r (.ref c)] ∧ (∃ mg x fI, PySem.ErrX.ErrTxt K mg x C fI) ∧ PySem.W.kitOne K (.ref C) (.ref c) = some b ∧ k (.d (.bool b))
theorem callD_isT {K : PySem.W.Frag} : CallD K (rIsT K) (fIsT K) := fun m H vs ds k Q hm dvs ⟨C, c, x, b, e, T, hb, hk⟩ hq => by
  subst e
  obtain ⟨v, v', rfl, ⟨ad, dd, u, rfl, h1, h2, _⟩, d2⟩ := dvs2 dvs
  obtain rfl : v' = .ref c := d2
  exact ⟨ad, dd, C, u, c, b, rfl, hid_sub _ _ h1, hid_sub _ _ h2, T, hb, hq _ _ H (Same.refl _) dv_bl hk⟩
/-- a class of one's own by its name, as a value -/
theorem wE_cls (hg : Gl X x) (hm : X.mg x = some (.ref C)) (hk : k (.r (.ref C)) m) (hdb : (x == ("__debug__" : Str)) = false := by decide) : wE X (.Name x pos) env m k :=
  wE_c (v := .ref C) (pe_glob hg hm rfl hdb) (fun _ => dv_r) hk
/-- e.value of a told error -/
theorem wE_value (h : wE X e env m fun d m1 => ∃ C x, d = .e C x ∧ (∃ mg nm fI, PySem.ErrX.ErrTxt X.K mg nm C fI) ∧ k (.d x) m1) (hb : attributeBase e "value" X.env (eval e X.env) = eval e X.env := by rfl) :
    wE X (.Attribute e "value" pos) env m k := fun σ H Q he hm hq pins s I => by
  refine attr_of hb (thn (h σ H (fun v H1 => ∃ C x m1, Ext m H m1 H1 ∧ MemOk X.K m1 H1 ∧ DVe X.K (hid m1 H1) v C x ∧ (∃ mg nm fI, PySem.ErrX.ErrTxt X.K mg nm C fI) ∧ k (.d x) m1) he hm (fun v d m1 H1 e1 hm1 dv ⟨C, x, q, T, hk⟩ => by
    subst q
    exact ⟨C, x, m1, e1, hm1, dv, T, hk⟩) pins s I) fun u s1 hh => ?_)
  obtain ⟨v, H1, I1, rv, C, x, m1, e1, hm1, ⟨ad, dd, w, rfl, h1, h2, h3⟩, ⟨mg, nm, fI, T⟩, hk⟩ := hh
  obtain rfl : u = Value.ref ad := rv
  obtain ⟨oe, od, J, hod⟩ := exT_at I1 (hid_sub _ _ h1) ⟨w, hid_sub _ _ h2⟩
  obtain ⟨mA, hns, hr⟩ := I1.hok dd _ (hid_sub _ _ h2)
  obtain ⟨od2, ho, hl⟩ := lookIn_ns hns
  rw [hod] at ho
  cases ho
  have l : List.lookup ("value" : Str) [(("value" : Str), w)] = some w := by simp [List.lookup]
  obtain ⟨u2, hu, ru⟩ := RelO.some_of (v := w) (o := mA "value") (by rw [← l]; exact hr "value")
  exact HandSPX.exc_get I1.kIn J T.ga T.gg T.exC (PySem.W.findObj_own T.hdC T.noV rfl (by rw [hl, hu])) (handed_of ru) ⟨w, H1, I1.tok _, ru, hq _ (.d x) m1 H1 e1 hm1 h3 hk⟩
end
end DW

set_option Elab.async false
set_option linter.all false
set_option maxRecDepth 100000
set_option maxHeartbeats 1000000
namespace DW
variable [TabsC]
open PySem PySem.Spec PyProof.Rows L2
/-! ### what surely raises an error of the family -/
/-- what is wished of an error: from the memory (m, H) on -/
def Wish (K : PySem.W.Frag) (m : Me) (H : Hp) (ee : Addr → PyData → Me → Prop) (W : Addr → Addr → Hp → Prop) : Prop :=
  ∀ C dd v x m' H', Ext m H m' H' → MemOk K m' H' → hid m' H' dd = some (.xd [(("value" : Str), v)]) → Dp K (hid m' H') v x → ee C x m' → W C dd H'
theorem Wish.mono {K : PySem.W.Frag} {m m1 : Me} {H H1 : Hp} {ee : Addr → PyData → Me → Prop} {W : Addr → Addr → Hp → Prop} (h : Wish K m H ee W) (e : Ext m H m1 H1) : Wish K m1 H1 ee W :=
  fun C dd v x m' H' e1 => h C dd v x m' H' (e.trans e1)
abbrev RSp := Me → List Dat → (Addr → PyData → Me → Prop) → Prop
def spR (K : PySem.W.Frag) (n : Nat) (w : RSp) : Sp := fun vs H _ E => vs.length = n ∧ ∃ m ds ee, MemOk K m H ∧ DVs K m H vs ds ∧ w m ds ee ∧ Wish K m H ee fun C dd H' => E (.ref C) (some dd) H'
section
variable {X : Cx} {env : DEnv} {m : Me} {ee : Addr → PyData → Me → Prop} {pos p : Pos} {e c : Expr} {es : List Expr} {x : Str} {st : Stmt} {sts body els : List Stmt}
def rE (X : Cx) (e : Expr) (env : DEnv) (m : Me) (ee : Addr → PyData → Me → Prop) : Prop :=
  ∀ (σ : L2.St) (H : Hp) (W : WX) (Q : VK), EnvOk X.K m H σ env → MemOk X.K m H → Takes X W → Wish X.K m H ee (fun C dd H' => ∀ σ', W (.ref C) (some dd) σ' H') → tW X e σ H Q
def rA (X : Cx) (es : List Expr) (env : DEnv) (m : Me) (ee : Addr → PyData → Me → Prop) : Prop :=
  ∀ (σ : L2.St) (H : Hp) (W : WX) (Q : List V → Hp → Prop), EnvOk X.K m H σ env → MemOk X.K m H → Takes X W → Wish X.K m H ee (fun C dd H' => ∀ σ', W (.ref C) (some dd) σ' H') → aW X es σ H Q
def rS (X : Cx) (st : Stmt) (env : DEnv) (m : Me) (ee : Addr → PyData → Me → Prop) : Prop :=
  ∀ (σ : L2.St) (H : Hp) (W : WX) (D : Ends), EnvOk X.K m H σ env → MemOk X.K m H → Takes X W → Wish X.K m H ee (fun C dd H' => ∀ σ', W (.ref C) (some dd) σ' H') → sW X st D σ H
def rSs (X : Cx) (sts : List Stmt) (env : DEnv) (m : Me) (ee : Addr → PyData → Me → Prop) : Prop :=
  ∀ (σ : L2.St) (H : Hp) (W : WX) (D : Ends), EnvOk X.K m H σ env → MemOk X.K m H → Takes X W → Wish X.K m H ee (fun C dd H' => ∀ σ', W (.ref C) (some dd) σ' H') → ssW X sts D σ H
/-! arguments -/
theorem rA_here (h : rE X e env m ee) (hs : starEach (e :: es) X.env = (false, eval e X.env) :: starEach es X.env := by rfl) : rA X (e :: es) env m ee := fun σ H W Q he hm tk hw pos pins s I =>
  (pa_cons (te := tW X e) (t := aW X es) peW paW hs).run pos pins s σ H Q I (h σ H W _ he hm tk hw)
theorem rA_next (h : wE X e env m fun _ m1 => rA X es env m1 ee) (hs : starEach (e :: es) X.env = (false, eval e X.env) :: starEach es X.env := by rfl) : rA X (e :: es) env m ee := fun σ H W Q he hm tk hw pos pins s I =>
  (pa_cons (te := tW X e) (t := aW X es) peW paW hs).run pos pins s σ H Q I (h σ H _ he hm fun v d m1 H1 e1 hm1 dv h1 => h1 σ H1 W _ (he.mono e1) hm1 tk (hw.mono e1))
/-! calls -/
variable {n j : Nat} {f : Addr} {fd : FuncData} {ps ks : List Str} {sp : RSp} {kws : List Keyword}
theorem rE_call (F : FnG X.prog X.w X.K X.mg X.base (L2.CX X.prog X.w) j f fd ps (spR X.K n sp)) (hr : RoomG j X.A) (hg : Gl X x) (hm0 : X.mg x = some (.ref f)) (hk : PySem.W.keepIn X.K (.ref f) = true) (hb : Binds X.K fd ps [])
    (h : wA X (e :: es) env m fun ds m1 => ds.length = n ∧ sp m1 ds ee) (hdb : (x == ("__debug__" : Str)) = false := by decide)
    (hs : starEach (e :: es) X.env = (false, eval e X.env) :: starEach es X.env := by rfl) (hpl : (backTo pos (starEach es X.env)).any (·.1) = false := by rfl) : rE X (.Call (.Name x p) (e :: es) [] pos) env m ee :=
  fun σ H W Q he hm tk hw pins s I => (pe_callG (E := fun cls d H' => ∀ σ', W cls d σ' H') F hr hg hm0 hk hb .nil (passes_call tk fun cls d σ H z => z σ) paW hdb hs hpl).run pins s σ H Q I
    (h σ H _ he hm fun vs ds m1 H1 e1 hm1 dvs ⟨hl, hw1⟩ => by
      rw [List.append_nil]
      exact ⟨by rw [dvs.len]; exact hl, m1, ds, ee, hm1, dvs, hw1, hw.mono e1⟩)
/-- the arguments raise: F is any promise of the def -/
theorem rE_callA {CX : CXT} {spf : Sp} {E : XK} (F : FnG X.prog X.w X.K X.mg X.base CX j f fd ps spf) (hr : RoomG j X.A) (hg : Gl X x) (hm0 : X.mg x = some (.ref f)) (hk : PySem.W.keepIn X.K (.ref f) = true) (hb : Binds X.K fd ps []) (hx : Passes CX X E)
    (h : rA X (e :: es) env m ee) (hdb : (x == ("__debug__" : Str)) = false := by decide)
    (hs : starEach (e :: es) X.env = (false, eval e X.env) :: starEach es X.env := by rfl) (hpl : (backTo pos (starEach es X.env)).any (·.1) = false := by rfl) : rE X (.Call (.Name x p) (e :: es) [] pos) env m ee :=
  fun σ H W Q he hm tk hw pins s I => (pe_callG (E := E) F hr hg hm0 hk hb .nil hx paW hdb hs hpl).run pins s σ H Q I (h σ H W _ he hm tk hw)
theorem rE_callTyA {T : String} {r : List V → Hp → VK → Prop} (hc : CallR X (.type T) r) (hg : Gl X x) (hm0 : X.mg x = none) (hv : bootBuiltins x = some (.type T))
    (h : rA X (e :: es) env m ee) (hn : x ≠ "__name__" := by decide) (hdb : (x == ("__debug__" : Str)) = false := by decide)
    (hs : starEach (e :: es) X.env = (false, eval e X.env) :: starEach es X.env := by rfl) (hpl : (backTo pos (starEach es X.env)).any (·.1) = false := by rfl) : rE X (.Call (.Name x p) (e :: es) [] pos) env m ee :=
  fun σ H W Q he hm tk hw pins s I => (pe_callTy hc hg hm0 hv paW hn hdb hs hpl).run pins s σ H Q I (h σ H W _ he hm tk hw)
/-! statements -/
theorem rS_expr (h : rE X e env m ee) (hs : swapsWith e none pos.line X.env = pure false := by rfl) : rS X (.Expr e pos) env m ee :=
  fun σ H W D he hm tk hw pins s I => (ps_expr peW hs).run pins s σ H D I (h σ H W _ he hm tk hw)
theorem rS_ret (h : rE X e env m ee) : rS X (.Return (some e) pos) env m ee :=
  fun σ H W D he hm tk hw pins s I => (ps_ret peW).run pins s σ H D I (h σ H W _ he hm tk hw)
theorem rS_set (i : Nat) {p' : Pos} (hN : X.N.Nodup) (h : rE X e env m ee) (hi : X.N[i]? = some x := by rfl) (hx : Loc X.env.scope x := by first | exact .inl rfl | exact .inr rfl)
    (hs : swapsWith e (some (.Name x p')) pos.line X.env = pure false := by rfl) (hf : X.fn x = true ∨ X.env.scope.names.lookup x = some .local := by first | exact .inl rfl | exact .inr rfl) : rS X (.Assign [.Name x p'] e pos) env m ee :=
  fun σ H W D he hm tk hw pins s I => (ps_set hN hi hx peW hs hf).run pins s σ H D I (h σ H W _ he hm tk hw)
theorem rS_if (h : wT X c env m fun t m' => (t = true → rSs X body env m' ee) ∧ (t = false → rSs X els env m' ee)) : rS X (.If c body els pos) env m ee :=
  fun σ H W D he hm tk hw pins s I => (ps_if (t := ssW X body) (u := ssW X els) ptW pssW pssW).run pins s σ H D I (h σ H _ he hm fun t m1 H1 e1 hm1 ⟨h1, h2⟩ => by
    cases t with
    | true => exact h1 rfl σ H1 W D (he.mono e1) hm1 tk (hw.mono e1)
    | false => exact h2 rfl σ H1 W D (he.mono e1) hm1 tk (hw.mono e1))
theorem rSs_here (h : rS X st env m ee) : rSs X (st :: sts) env m ee := fun σ H W D he hm tk hw pins s I =>
  (pss_cons psW pssW).run pins s σ H D I (h σ H W _ he hm tk hw)
theorem rSs_next (h : wS X st env m { nx := fun env' m' => rSs X sts env' m' ee, rt := fun _ _ => False }) : rSs X (st :: sts) env m ee := fun σ H W D he hm tk hw pins s I =>
  (pss_cons psW pssW).run pins s σ H D I (h σ H { D with nx := ssW X sts D } he hm ⟨fun σ' env' m' H' e1 he1 hm1 h1 => h1 σ' H' W D he1 hm1 tk (hw.mono e1), fun _ _ _ _ _ _ _ z => z.elim, fun _ _ _ _ _ _ _ z => z.elim, fun _ _ _ _ _ _ _ z => z.elim⟩)
/-- raise x(e) -/
theorem rS_raise {C fI : Addr} {pos2 : Pos} {kr : Nat} (hc : X.calm = true) (T : PySem.ErrX.ErrTxt X.K X.mg x C fI) (hr : Room kr X.A) (hg : Gl X x) (h : wE X e env m fun d m1 => ∃ y, d = .d y ∧ ee C y m1)
    (hdb : (x == ("__debug__" : Str)) = false := by decide) (he : starEach (e :: []) X.env = (false, eval e X.env) :: starEach [] X.env := by rfl) (hpl : (backTo pos (starEach [] X.env)).any (·.1) = false := by rfl) :
    rS X (.Raise (some (.Call (.Name x p) [e] [] pos)) none pos2) env m ee := fun σ H W D eo hm tk hw pins s I =>
  (ps_raise hc tk (pmk_err T hr (pa_cons (te := tW X e) peW pa_nil he) hg hdb he hpl)).run pins s σ H D I (h σ H _ eo hm fun v d m1 H1 e1 hm1 dv ⟨y, q, hk⟩ => by
    subst q
    refine ⟨v, rfl, fun dd hd => ?_⟩
    have sm := same_new (o := .xd [(("value" : Str), v)]) hd
    exact hw C dd v y m1 _ (e1.trans (Ext.of sm)) (hm1.mono sm) (same_hid hm1 hd) (dp_mono (Ext.of sm) _ _ dv) hk σ)
end
section
variable {P : Program} {w : World} {K : PySem.W.Frag} {mg : Str → Option Value} {base : Heap}
abbrev rX (P : Program) (w : World) (K : PySem.W.Frag) (mg : Str → Option Value) (base : Heap) (N : List Str) (qual : Str) (st : Stmt) (f : Addr) (cdv : Value) (A : Around) (outer : List Env) (s : Shared) (H : Hp) (E : XK) : Cx :=
  cxOf (L2.CX P w) P w K mg base N qual (defScope st) f cdv A outer s H E
/-- a def that surely raises -/
theorem fnR {x qual : Str} {st : Stmt} {f : Addr} {fd : FuncData} {N ps : List Str} {k : Nat} {sp : RSp} (F : Fun K x qual st f fd) (S : FnScope N ps (defScope st))
    (hb : ∀ (cdv : Value) (A : Around) (outer : List Env) (s : Shared) (H : Hp) (E : XK), RoomG k (rX P w K mg base N qual st f cdv A outer s H E).A → ∀ m ds ee, sp m ds ee → ds.length = ps.length →
      rSs (rX P w K mg base N qual st f cdv A outer s H E) (defBody st) (env0 N ds) m ee) : FnG P w K mg base (L2.CX P w) (k + 1) f fd ps (spR K ps.length sp) := by
  refine fnG_of F S (fun vs H Q E h => h.1) (fun cdv A outer s H vs Q E hr ⟨hl, m, ds, ee, hm, dvs, hw, hq⟩ => ?_)
  refine ⟨_, pssW (X := rX P w K mg base N qual st f cdv A outer s H E), ?_⟩
  exact hb cdv A outer s H E hr m ds ee hw (by rw [← dvs.len]; exact hl) _ H (fun cls d _ H' => E cls d H') _ (envOk0 dvs) hm (takes_of rfl rfl rfl rfl) fun C dd v x m' H' h1 h2 h3 h4 h5 _ => hq C dd v x m' H' h1 h2 h3 h4 h5
end
end DW

set_option Elab.async false
set_option linter.all false
set_option maxRecDepth 100000
set_option maxHeartbeats 2000000
namespace DW
variable [TabsC]
open PySem PySem.Spec PyProof.Rows L2
/-! ### defs whose promise is told of the very state -/
structure FnS (P : Program) (w : World) (K : PySem.W.Frag) (mg : Str → Option Value) (base : Heap) (CX : CXT) (k : Nat) (f : Addr) (fd : FuncData) (ps : List Str) (sp : List Env → Shared → Sp) : Prop where
  len : ∀ outer s vs H Q E, sp outer s vs H Q E → vs.length = ps.length
  go : ∀ (A : Around) (outer : List Env) (s : Shared) (H : Hp) (args : Args) (us : List Value) (vs : List V) (Q : VK) (E : XK),
    RoomG k A → Env0 P w K mg base A outer s H → BindsTo s fd args (ps.zip us) → Vals vs us → sp outer s vs H Q E →
      codeAny (model P w) A (.call (.ref f) args) (CR CX outer P w H s Q E) s
section
variable {P : Program} {w : World} {K : PySem.W.Frag} {mg : Str → Option Value} {base : Heap} {CX : CXT}
theorem fnS_of {x qual : Str} {st : Stmt} {f : Addr} {fd : FuncData} {N ps : List Str} {k : Nat} {sp : List Env → Shared → Sp} (F : Fun K x qual st f fd) (S : FnScope N ps (defScope st)) (hl : ∀ outer s vs H Q E, sp outer s vs H Q E → vs.length = ps.length)
    (hb : ∀ (cdv : Value) (A : Around) (outer : List Env) (s : Shared) (H : Hp) (vs : List V) (Q : VK) (E : XK), RoomG k (A.deeper (envOfC qual (defScope st) s.heap.objs.size f cdv)) → sp outer s vs H Q E →
      ∃ t, PSs (cxOf CX P w K mg base N qual (defScope st) f cdv A outer s H E) (defBody st) t ∧ t { nx := fun _ H' => Q .non H', rt := Q } (start N vs) H) : FnS P w K mg base CX (k + 1) f fd ps sp := by
  obtain ⟨oc, od, kV, doc, pm, an, cdv, ct, osl, rfl, lk, hcd⟩ := F.ex
  refine ⟨hl, fun A outer s H args us vs Q E hr e0 hbn r hsp => ?_⟩
  have len := hl _ _ _ _ _ _ hsp
  have old : ∀ b o, base.get? b = some o → s.heap.get? b = some o := fun b o e => (e0.bs b o e).1
  have KX := e0.mod.kin.keeps old
  have par : ∀ y ∈ ps.zip us, (defScope st).names.lookup y.1 = some .local ∨
      ((defScope st).names.lookup y.1 = some .cell ∧ ((cellsFrom (s.heap.objs.size + 1) (defScope st).names []).lookup y.1).isSome = true) := by
    rintro ⟨n, v⟩ hy
    rcases S.par n (List.of_mem_zip hy).1 with q | q
    · exact .inl q
    · exact .inr ⟨q, PySem.W.cellsFrom_some _ _ _ (.inl q)⟩
  have dpt := hr.room.depth
  refine codeAny_call_function dpt (KX _ _ lk) rfl S.co S.gen rfl (PySem.W.codeRec_of KX hcd) (hbn _ _ _ _ ?_)
  refine wpAny_newFunctionEnv_cells S.kind par fun env he s1 ic => ?_
  subst he
  refine ⟨(e0.mod.nolimit.keeps old).keeps ic.toInCall.keep, codeAny_func ?_⟩
  obtain ⟨t, ht, hq⟩ := hb cdv A outer s H vs Q E ⟨hr.room.deeper _, hr.gd⟩ hsp
  have I := inv_start (CX := CX) (P := P) (w := w) (mg := mg) (E := E) S hr.room.hd e0 len r ic
  refine wpAny_mono (ht.run [] s1 (start N vs) H _ I hq) (fun fl s' hs => ?_) (fun e s' hs => hs)
  match fl, hs with
  | .next, ⟨σ', H', J, q⟩ => exact ⟨V.non, H', J.os, J.bare, J.base, J.hok, rfl, q⟩
  | .brk, ⟨_, _, _, q⟩ => exact q.elim
  | .cont, ⟨_, _, _, q⟩ => exact q.elim
  | .ret u, ⟨v, σ', H', J, rv, q⟩ => exact ⟨v, H', J.os, J.bare, J.base, J.hok, rv, q⟩
end
abbrev DSpS := List Env → Shared → Hp → Me → List Dat → (Dat → Me → Prop) → Prop
def spDS (K : PySem.W.Frag) (n : Nat) (w : DSpS) : List Env → Shared → Sp := fun outer s vs H Q _ => vs.length = n ∧ ∃ m ds k, MemOk K m H ∧ DVs K m H vs ds ∧ w outer s H m ds k ∧ ∀ v d m' H', Ext m H m' H' → MemOk K m' H' → DV K m' H' v d → k d m' → Q v H'
section
variable {X : Cx} {env : DEnv} {m : Me} {k : Dat → Me → Prop} {pos p : Pos} {e : Expr} {es : List Expr} {x : Str} {n j : Nat} {f : Addr} {fd : FuncData} {ps : List Str} {sp : DSpS}
theorem runS {CX : CXT} {E : XK} {sps : List Env → Shared → Sp} {pins : List (Addr × Obj)} {σ : L2.St} {H : Hp} {s : Shared} {Q : VK} {args : Args} {us : List Value} {vs : List V} (F : FnS X.prog X.w X.K X.mg X.base CX j f fd ps sps) (hr : RoomG j X.A) (hx : Passes CX X E)
    (I : Inv X pins σ H s) (hb : us.length = ps.length → BindsTo s fd args (ps.zip us)) (r : Vals vs us) (h : sps X.stack s vs H Q E) :
    wpAny (model X.prog X.w) X.A (call (.ref f) args.pos args.kw) (EP X pins σ Q) X.xe s := by
  have hl : us.length = ps.length := by rw [← r.length]; exact F.len _ _ _ _ _ _ h
  refine wpAny_call (codeAny_mono (F.go X.A X.stack s H _ us vs Q E hr I.env0 (hb hl) r h) fun res s' hq => ?_)
  match res, hq with
  | .error e, hq => exact hx pins σ H s e s' I hq
  | .ok (.ret u), hq => exact I.after hq
  | .ok .next, hq => exact hq.elim
  | .ok .brk, hq => exact hq.elim
  | .ok .cont, hq => exact hq.elim
theorem wE_callS (F : FnS X.prog X.w X.K X.mg X.base CX0 j f fd ps (spDS X.K n sp)) (hr : RoomG j X.A) (hg : Gl X x) (hm0 : X.mg x = some (.ref f)) (hk : PySem.W.keepIn X.K (.ref f) = true) (hb : Binds X.K fd ps [])
    (h : wA X (e :: es) env m fun ds m1 => ds.length = n ∧ ∀ pins σ H s, Inv X pins σ H s → sp X.stack s H m1 ds k) (hdb : (x == ("__debug__" : Str)) = false := by decide)
    (hs : starEach (e :: es) X.env = (false, eval e X.env) :: starEach es X.env := by rfl) (hpl : (backTo pos (starEach es X.env)).any (·.1) = false := by rfl) : wE X (.Call (.Name x p) (e :: es) [] pos) env m k := fun σ H Q he hm hq pins s I => by
  refine wpAny_Call_Name_kw (ld_glob I hg hm0 ?_ hdb)
  refine PySem.W.callWith_K (h₀ := X.base) I.ok.mod.kin hk (thn (h σ H (fun vs H1 => ∃ ds m1, Ext m H m1 H1 ∧ MemOk X.K m1 H1 ∧ DVs X.K m1 H1 vs ds ∧ ds.length = n ∧ ∀ pins σ H s, Inv X pins σ H s → sp X.stack s H m1 ds k) he hm
    (fun vs ds m1 H1 e1 hm1 dvs ⟨hl, hw⟩ => ⟨ds, m1, e1, hm1, dvs, hl, hw⟩) pos pins s I) ?_) hs hpl
  rintro us s1 ⟨vs, H1, I1, r, ds, m1, e1, hm1, dvs, hl, hw⟩
  have hb1 : us.length = ps.length → BindsTo s1 fd ⟨us, []⟩ (ps.zip us) := fun z => by
    have := hb s1 us I1.kIn (by simpa using z)
    simpa using this
  exact ⟨I1.kIn, runS (args := ⟨us, []⟩) (E := fun _ _ _ => False) F hr pass0 I1 hb1 r
    ⟨by rw [dvs.len]; exact hl, m1, ds, k, hm1, dvs, hw pins σ H1 s1 I1, fun v d m' H' e2 => hq v d m' H' (e1.trans e2)⟩⟩
end
/-! ### lambdas without parameters -/
/-- what a lambda does: it returns data, or an error of the class at C leaves it -/
inductive Out where
  | ret (x : PyData)
  | err (C : Addr) (x : PyData)
def OutOk (K : PySem.W.Frag) (m : Me) (H : Hp) (Q : VK) (E : XK) : Out → Prop
  | .ret x => ∀ v H', Ext m H m H' → MemOk K m H' → Dp K (hid m H') v x → Q v H'
  | .err C x => ∀ dd v H', Ext m H m H' → MemOk K m H' → hid m H' dd = some (.xd [(("value" : Str), v)]) → Dp K (hid m H') v x → E (.ref C) (some dd) H'
/-- the lambda at f, as it stood in h0 (abstractly H0, over the frames fs): called later, it does what o says -/
structure CloO (P : Program) (w : World) (K : PySem.W.Frag) (mg : Str → Option Value) (base : Heap) (j : Nat) (f c : Addr) (q : Str) (h0 : Heap) (H0 : Hp) (fs : List Addr) (σ : L2.St) (denv : List (Option PyData)) (o : Out) : Prop where
  fn : ∃ oc od fd sl, h0.get? f = some ⟨oc, od, .func fd, sl⟩
  n : H0 f = none
  fr : f ∉ fs
  go : ∀ (A : Around) (outer : List Env) (s1 : Shared) (HZ : Hp) (m : Me) (Q : VK) (E : XK), RoomG j A → Env0 P w K mg base A outer s1 HZ → Un fs [] H0 HZ h0 s1.heap → MemOk K m HZ → EnvD K (hid m HZ) σ denv → hid m HZ c = some (LamX.CodeO c q) →
    OutOk K m HZ Q E o → codeAny (model P w) A (.call (.ref f) ⟨[], []⟩) (CR (L2.CX P w) outer P w HZ s1 Q E) s1
theorem Un.comp {fs fs' : List Addr} {H0 H1 H2 : Hp} {h0 h1 h2 : Heap} (a : Un fs [] H0 H1 h0 h1) (b : Un fs' [] H1 H2 h1 h2) (sub : ∀ y o, h0.get? y = some o → y ∈ fs' → y ∈ fs) : Un fs [] H0 H2 h0 h2 := by
  have nn : ∀ y : Addr, y ∉ ([] : List Addr) := fun y z => nomatch z
  refine ⟨fun y o e z hf _ => ?_, fun y o e z hf _ => ?_, fun y o e z _ => ?_, fun y o e _ => ?_, fun y xs e => b.tups y xs (a.tups y xs e), fun y o u e => b.frzs y o u (a.frzs y o u e), fun y ps e => ?_⟩
  · exact b.keep y o (a.keep y o e z hf (nn y)) (a.free y o e z (nn y)) (fun q => hf (sub y o e q)) (nn y)
  · obtain ⟨sl, e1⟩ := a.slot y o e z hf (nn y)
    obtain ⟨sl2, e2⟩ := b.any e1 (a.free y o e z (nn y)) (nn y)
    exact ⟨sl2, e2⟩
  · obtain ⟨o', e1⟩ := a.there y o e (nn y)
    exact b.free y o' e1 (a.free y o e z (nn y)) (nn y)
  · obtain ⟨o', e1⟩ := a.there y o e (nn y)
    exact b.there y o' e1 (nn y)
  · obtain ⟨m1, e1⟩ := a.tbls y ps e
    obtain ⟨m2, e2⟩ := b.tbls y _ e1
    exact ⟨m1 ++ m2, by rw [e2, Array.append_assoc]⟩
section
variable {P : Program} {w : World} {K : PySem.W.Frag} {mg : Str → Option Value} {base : Heap} {j : Nat} {f c : Addr} {q : Str} {h0 h1 : Heap} {H0 H1 : Hp} {fs fs' : List Addr} {σ : L2.St} {denv : List (Option PyData)} {o : Out}
theorem CloO.mono (C : CloO P w K mg base j f c q h0 H0 fs σ denv o) (u : Un fs [] H0 H1 h0 h1) (sub : ∀ y o, h0.get? y = some o → y ∈ fs' → y ∈ fs) : CloO P w K mg base j f c q h1 H1 fs' σ denv o where
  fn := by
    obtain ⟨oc, od, fd, sl, e⟩ := C.fn
    exact ⟨oc, od, fd, sl, u.keep f _ e C.n C.fr (fun z => nomatch z)⟩
  n := by
    obtain ⟨oc, od, fd, sl, e⟩ := C.fn
    exact u.free f _ e C.n (fun z => nomatch z)
  fr := fun z => by
    obtain ⟨oc, od, fd, sl, e⟩ := C.fn
    exact C.fr (sub f _ e z)
  go := fun A outer s1 HZ m Q E hr e0 u2 => C.go A outer s1 HZ m Q E hr e0 (Un.comp u u2 sub)
theorem CloO.lev {j' : Nat} (C : CloO P w K mg base j f c q h0 H0 fs σ denv o) (h : j ≤ j') : CloO P w K mg base j' f c q h0 H0 fs σ denv o :=
  ⟨C.fn, C.n, C.fr, fun A outer s1 HZ m Q E hr => C.go A outer s1 HZ m Q E (hr.mono h)⟩
end
section
variable {X : Cx} {pins : List (Addr × Obj)} {σ : L2.St} {H : Hp} {s : Shared} {j : Nat} {f c : Addr} {q a : Str} {σ0 : L2.St} {denv : List (Option PyData)} {o : Out}
/-- within a def: the lambda that came in, told of the present state -/
theorem CloO.now (C : CloO X.prog X.w X.K X.mg X.base j f c q X.s_0.heap X.H_0 X.fs σ0 denv o) (hex : X.ex = []) (I : Inv X pins σ H s) : CloO X.prog X.w X.K X.mg X.base j f c q s.heap H (frs X.stack) σ0 denv o := by
  refine C.mono (by have := I.base; rw [hex] at this; exact this) fun y o e hy => ?_
  rcases List.mem_cons.mp (I.stkSub y hy) with z | z
  · exact absurd (Nat.lt_of_lt_of_le (Heap.lt_size e) I.ok.above) (by rw [z]; exact Nat.lt_irrefl _)
  · exact z
/-- a(), a the name of a lambda that came in -/
def tClo (K : PySem.W.Frag) (i : Nat) (f c : Addr) (q : Str) (σ0 : L2.St) (denv : List (Option PyData)) (o : Out) (W : WX) : TE := fun σ H Q =>
  σ[i]? = some (some (.ref f)) ∧ ∃ m, MemOk K m H ∧ EnvD K (hid m H) σ0 denv ∧ hid m H c = some (LamX.CodeO c q) ∧ OutOk K m H Q (fun cls d H' => W cls d σ H') o
theorem pe_clo {W : WX} {i : Nat} {p1 p2 : Pos} (tk : Takes X W) (hex : X.ex = []) (C : CloO X.prog X.w X.K X.mg X.base j f c q X.s_0.heap X.H_0 X.fs σ0 denv o) (hr : RoomG j X.A)
    (hN : X.N[i]? = some a) (hv : Vis X.env.scope a) (hd : (a == ("__debug__" : Str)) = false := by decide) (hcd : (a == ("__classdict__" : Str)) = false := by decide) :
    PE X (.Call (.Name a p1) [] [] p2) (tClo X.K i f c q σ0 denv o W) := by
  refine ⟨fun pins s σ H Q I h => ?_⟩
  obtain ⟨hs, m, hm, hE, hc, ho⟩ := h
  refine wpAny_Call_Name_kw (thn ((pe_var (pos := p1) (i := i) hN hv hd hcd).run pins s σ H (fun v H1 => v = .ref f ∧ H1 = H) I ⟨.ref f, hs, rfl, rfl⟩) fun u s1 ⟨v, H1, I1, r1, ev, eH⟩ => ?_)
  subst ev
  subst eH
  obtain rfl : u = Value.ref f := r1
  have C1 := C.now hex I1
  obtain ⟨oc, od, fd, sl, e⟩ := C1.fn
  refine PySem.W.callWith_F0 ⟨_, _, _, _, e⟩ ?_
  have un : Un (frs X.stack) [] H1 H1 s1.heap s1.heap := Un.refl
  refine wpAny_call (codeAny_mono (C1.go X.A X.stack s1 H1 m Q (fun cls d H' => W cls d σ H') hr I1.env0 un hm hE hc ho) fun r s' hq => ?_)
  match r, hq with
  | .error e, hq => exact tk e s' (XE.of_call I1 (fun _ _ _ z => z) hq)
  | .ok (.ret u), hq => exact I1.after hq
  | .ok .next, hq => exact False.elim hq
  | .ok .brk, hq => exact False.elim hq
  | .ok .cont, hq => exact False.elim hq
end
end DW

set_option Elab.async false
set_option linter.all false
set_option maxRecDepth 100000
set_option maxHeartbeats 2000000
namespace DW
variable [TabsC]
open PySem PySem.Spec PyProof.Rows L2
/-! ### a lambda is made and handed to a def -/
def keepD : Option Dat → Option PyData
  | some (.d x) => some x
  | _ => none
def dOf (env : DEnv) : List (Option PyData) := env.map keepD
def eOf (denv : List (Option PyData)) : DEnv := denv.map (Option.map .d)
theorem envD_of {K : PySem.W.Frag} {m : Me} {H : Hp} {σ : L2.St} {env : DEnv} (h : EnvOk K m H σ env) : EnvD K (hid m H) σ (dOf env) := by
  refine ⟨by unfold dOf; rw [List.length_map]; exact h.1, fun i x hi => ?_⟩
  unfold dOf at hi
  rw [List.getElem?_map] at hi
  cases e : env[i]? with
  | none => rw [e] at hi; cases hi
  | some u =>
    rw [e] at hi
    have hk : keepD u = some x := Option.some.inj hi
    unfold keepD at hk
    split at hk
    · cases hk
      obtain ⟨v, h1, h2⟩ := h.2 i _ e
      exact ⟨v, h1, h2⟩
    · cases hk
theorem envOk_of {K : PySem.W.Frag} {m : Me} {H : Hp} {σ : L2.St} {denv : List (Option PyData)} (h : EnvD K (hid m H) σ denv) : EnvOk K m H σ (eOf denv) := by
  refine ⟨by unfold eOf; rw [List.length_map]; exact h.1, fun i d hi => ?_⟩
  unfold eOf at hi
  rw [List.getElem?_map] at hi
  cases e : denv[i]? with
  | none => rw [e] at hi; cases hi
  | some u =>
    cases u with
    | none => rw [e] at hi; cases hi
    | some x =>
      rw [e] at hi
      have q : some (Dat.d x) = some d := Option.some.inj hi
      cases q
      obtain ⟨v, h1, h2⟩ := h.2 i x e
      exact ⟨v, h1, h2⟩
theorem ext_of_extN {m : Me} {H H1 : Hp} (e : LamX.ExtN H H1) : Ext m H m H1 := fun a o h => by
  obtain ⟨z, h1⟩ := hid_some h
  exact hid_of z (e a o h1 (hid_nb h)) (hid_nt h) (hid_nb h)
theorem MemOk.extN {K : PySem.W.Frag} {m : Me} {H H1 : Hp} (h : MemOk K m H) (e : LamX.ExtN H H1) (t : LamX.Tabs TabsC.T H1) : MemOk K m H1 := by
  refine ⟨fun a q => ?_, fun a xs q => ?_, h.sep, h.nd, t⟩
  · obtain ⟨x, y, k, e1, r⟩ := (h.pot a q).at_
    exact ⟨x, y, k, e _ _ e1 (fun _ z => nomatch z), r⟩
  · obtain ⟨vs, e1, r⟩ := h.own a xs q
    exact ⟨vs, e _ _ e1 (fun _ z => nomatch z), dpAll_mono (ext_of_extN e) _ _ r⟩
/-- what a lambda of this def asks of the text -/
structure LamTxt (X : Cx) (params : Arguments) (scope : Scope) : Prop where
  tab : ∃ c P, LamX.TabB X.base X.mg c P ∧ X.env.code = .ref c ∧ (P, X.env.qual ++ "<lambda>") ∈ TabsC.T ∧ ∀ p ∈ TabsC.T, p.1 = P → p.2 = X.env.qual ++ "<lambda>"
  L : LamX.LamS X.env.scope scope
  dflt : defaultsOf params X.env = ([], [])
/-- what the lambda's body does, in any memory -/
def BodyO (X : Cx) (scope : Scope) (body : Expr) (j : Nat) (denv : List (Option PyData)) : Out → Prop
  | .ret x => ∀ (A : Around) (outer : List Env) (s : Shared) (H : Hp) (E : XK) (f c : Addr) (m : Me), RoomG j (LamX.lamCx X A outer s H E scope f c).A → wE (LamX.lamCx X A outer s H E scope f c) body (eOf denv) m fun d m' => d = .d x ∧ m' = m
  | .err C x => ∀ (A : Around) (outer : List Env) (s : Shared) (H : Hp) (E : XK) (f c : Addr) (m : Me), RoomG j (LamX.lamCx X A outer s H E scope f c).A → rE (LamX.lamCx X A outer s H E scope f c) body (eOf denv) m fun C' x' m' => C' = C ∧ x' = x ∧ m' = m
section
variable {X : Cx} {env : DEnv} {m : Me} {k : Dat → Me → Prop} {pos p lpos : Pos} {es : List Expr} {x : Str} {n j jl : Nat} {f : Addr} {fd : FuncData} {ps : List Str} {sp : DSpS} {params : Arguments} {body : Expr} {scope : Scope} {o : Out}
theorem clo_at {pins : List (Addr × Obj)} {σ : L2.St} {H : Hp} {s : Shared} {f c : Addr} {pm ctv : Value} (L : LamX.LamS X.env.scope scope) (hbind : ∀ (q : Str) (cl : List (Str × Addr)) (pm cv ctv : Value), bindArgs (PySem.W.kla_fn "<lambda>" q params body scope cl pm cv ctv) ⟨[], []⟩ = pure [])
    (I : Inv X pins σ H s) (hf : s.heap.get? f = some (PySem.W.kla_obj "<lambda>" (X.env.qual ++ "<lambda>") params body scope (cloFrom X.env.cells scope.names []) pm c ctv)) (hfn : H f = none) (hfr : f ∉ frs X.stack) (hb : BodyO X scope body jl (dOf env) o) :
    CloO X.prog X.w X.K X.mg X.base (jl + 1) f c (X.env.qual ++ "<lambda>") s.heap H (frs X.stack) σ (dOf env) o := by
  refine ⟨⟨_, _, _, _, hf⟩, hfn, hfr, fun A outer s1 HZ m1 Q E hr e0 un hm1 hE hc ho => ?_⟩
  have of1 := un.keep f _ hf hfn hfr (fun z => nomatch z)
  obtain ⟨hcO, hcN⟩ : HZ c = some (LamX.CodeO c (X.env.qual ++ "<lambda>")) ∧ True := ⟨(hid_some hc).2, trivial⟩
  obtain ⟨⟨oc, vs, t, hoc, hdc, hvc⟩, _, _⟩ := e0.hok c _ hcO
  refine PySem.W.kla_callFunE hr.room.depth of1 rfl L.co L.gen rfl ⟨c, oc, vs, t, rfl, hoc, hdc, hvc⟩ ?_
  rw [hbind]
  have lim : s1.heap.NoLimit := e0.mod.nolimit.keeps fun b o e => (e0.bs b o e).1
  refine wpAny_pure (wpAny_newFunctionEnv (fun y hy => (L.own y hy).2) (fun y hy => absurd hy (by simp)) (fun h₁ hns hsb => ⟨lim.fresh _ hsb, ?_⟩) L.kind)
  show codeAny _ _ (.expr body (LamX.lamEnv X scope s1.heap.objs.size f c)) _ _
  have kp : ∀ b o, s1.heap.get? b = some o → h₁.get? b = some o := fun b o e => hsb.extBut b o (Nat.ne_of_lt (Heap.lt_size e)) (Heap.get?_push_of_some _ e)
  have J : Inv (LamX.lamCx X A outer s1 HZ E scope f c) [] σ HZ { s1 with heap := h₁, toks := s1.toks + ([] : List (Str × Value)).length } := LamX.lam_start2 I L e0 hr.room.hd un hns kp
  have r2 : RoomG jl (LamX.lamCx X A outer s1 HZ E scope f c).A := ⟨hr.room.deeper _, hr.gd⟩
  have fin : ∀ (v : Value) (s' : Shared), EP (LamX.lamCx X A outer s1 HZ E scope f c) [] σ Q v s' → CR (L2.CX X.prog X.w) outer X.prog X.w HZ s1 Q E (.ok (.ret v)) s' := fun v s' ⟨w', H', J', rv, q⟩ => ⟨w', H', J'.os, J'.bare, J'.base, J'.hok, rv, q⟩
  cases o with
  | ret x =>
    refine PySem.W.kla_codeExpr (wpAny_mono (hb A outer s1 HZ E f c m1 r2 σ HZ Q (envOk_of hE) hm1 (fun v d m' H' e1 hm' dv ⟨q1, q2⟩ => ?_) [] _ J) fin fun e s' hq => hq)
    subst q1
    subst q2
    exact ho v H' e1 hm' dv
  | err C x =>
    refine PySem.W.kla_codeExpr (wpAny_mono (hb A outer s1 HZ E f c m1 r2 σ HZ (fun cls d _ H' => E cls d H') Q (envOk_of hE) hm1 (takes_of rfl rfl rfl rfl) (fun C' dd v x' m' H' e1 hm' h1 h2 ⟨q1, q2, q3⟩ _ => ?_) [] _ J) fin fun e s' hq => hq)
    subst q1
    subst q2
    subst q3
    exact ho dd v H' e1 hm' h1 h2
/-- x(lambda: body, ..) -/
theorem wE_callLam (o : Out) (F : FnS X.prog X.w X.K X.mg X.base CX0 j f fd ps (spDS X.K n sp)) (hr : RoomG j X.A) (hg : Gl X x) (hm0 : X.mg x = some (.ref f)) (hk : PySem.W.keepIn X.K (.ref f) = true) (hb : Binds X.K fd ps [])
    (T : LamTxt X params scope) (hbind : ∀ (q : Str) (cl : List (Str × Addr)) (pm cv ctv : Value), bindArgs (PySem.W.kla_fn "<lambda>" q params body scope cl pm cv ctv) ⟨[], []⟩ = pure []) (hbody : BodyO X scope body jl (dOf env) o)
    (h : wA X es env m fun ds m1 => ds.length + 1 = n ∧ ∀ (fl c : Addr) (σ : L2.St) (H : Hp) (s : Shared), CloO X.prog X.w X.K X.mg X.base (jl + 1) fl c (X.env.qual ++ "<lambda>") s.heap H (frs X.stack) σ (dOf env) o →
      sp X.stack s H m1 (.clo fl c (X.env.qual ++ "<lambda>") σ (dOf env) :: ds) k) (hdb : (x == ("__debug__" : Str)) = false := by decide)
    (hs : starEach (.Lambda params body scope lpos :: es) X.env = (false, eval (.Lambda params body scope lpos) X.env) :: starEach es X.env := by rfl) (hpl : (backTo pos (starEach es X.env)).any (·.1) = false := by rfl) :
    wE X (.Call (.Name x p) (.Lambda params body scope lpos :: es) [] pos) env m k := fun σ H Q he hm hq pins s I => by
  obtain ⟨c0, P0, TB, hcode, hmT, hu⟩ := T.tab
  refine wpAny_Call_Name_kw (ld_glob I hg hm0 ?_ hdb)
  refine PySem.W.callWith_K (h₀ := X.base) I.ok.mod.kin hk ?_ hs hpl
  rw [hs]
  show wpAny _ _ (spliced ((false, eval (.Lambda params body scope lpos) X.env) :: backTo pos (starEach es X.env))) _ _ s
  refine Calls.spliced_cons (LamX.lam_make2 I TB hcode hmT hu hm.tab T.dflt (T.L.has I.ok) fun fl c' pm' ctv H1 s' I1 eN T1 hf hfn hfr hco => ?_)
  have hm1 : MemOk X.K m H1 := hm.extN eN T1
  have e1 : Ext m H m H1 := ext_of_extN eN
  have nFs : fl ∉ X.fs := fun z => by
    rcases I1.ok.stk with q | ⟨q, _⟩
    · exact hfr (by rw [q]; exact z)
    · refine hfr ?_
      rw [q]
      obtain ⟨y, hy, q2⟩ := List.mem_filterMap.mp z
      exact List.mem_filterMap.mpr ⟨y, List.mem_cons_of_mem _ hy, q2⟩
  have nL : fl ≠ X.env.locals := fun z => by
    obtain ⟨mm, ⟨ob, es, ep, h1, h2, _⟩, _⟩ := I1.loc
    rw [← z, hf] at h1
    cases h1
    cases h2
  have I2 : Inv X ((fl, PySem.W.kla_obj "<lambda>" (X.env.qual ++ "<lambda>") params body scope (cloFrom X.env.cells scope.names []) pm' c' ctv) :: pins) σ H1 s' := by
    refine I1.pins_of fun q hq => ?_
    rcases List.mem_cons.mp hq with z | z
    · subst z
      exact ⟨hf, hfn, nL, nFs, fun v z => by cases z⟩
    · exact I1.pin q (List.mem_append_right _ z)
  refine wpAny_mono (h σ H1 (fun vs H2 => ∃ ds m1, Ext m H m1 H2 ∧ MemOk X.K m1 H2 ∧ EnvOk X.K m1 H2 σ env ∧ hid m1 H2 c' = some (LamX.CodeO c' (X.env.qual ++ "<lambda>")) ∧ DVs X.K m1 H2 vs ds ∧ ds.length + 1 = n ∧
    ∀ (fl c : Addr) (σ : L2.St) (H : Hp) (s : Shared), CloO X.prog X.w X.K X.mg X.base (jl + 1) fl c (X.env.qual ++ "<lambda>") s.heap H (frs X.stack) σ (dOf env) o → sp X.stack s H m1 (.clo fl c (X.env.qual ++ "<lambda>") σ (dOf env) :: ds) k) (he.mono e1) hm1
    (fun vs ds m1' H2 e2 hm2 dvs ⟨hl, hw⟩ => ⟨ds, m1', e1.trans e2, hm2, he.mono (e1.trans e2), ?hco2, dvs, hl, hw⟩) pos _ s' I2) (fun us s2 ⟨vs, H2, I3, r, ds, m2, e2, hm2, he2, hc2, dvs, hl, hw⟩ => ?_) fun _ _ z => z
  case hco2 =>
    refine e2 _ _ (hid_of (fun z => ?_) hco (fun z => ?_) (fun ps z => ?_))
    · obtain ⟨u, q⟩ := hm.used z
      rcases z with z | z
      · obtain ⟨x, y, kk, q2, _⟩ := hm1.pot _ z
        rw [hco] at q2
        cases q2
      · obtain ⟨⟨a', zs⟩, z1, z2⟩ := List.mem_map.mp z
        cases z2
        obtain ⟨us, q2, _⟩ := hm1.own _ _ z1
        rw [hco] at q2
        cases q2
    · obtain ⟨p', hp', q2⟩ := List.mem_map.mp z
      obtain ⟨ps', q3, _⟩ := T1 p' hp'
      rw [q2, hco] at q3
      cases q3
    · cases z
  obtain ⟨f1, f2, f3, f4, f5⟩ := I3.pin (fl, _) (List.mem_append_right _ List.mem_cons_self)
  have hfr2 : fl ∉ frs X.stack := hfr
  have I4 : Inv X pins σ H2 s2 := I3.pins_of fun q hq => I3.pin q (List.mem_append_right _ (List.mem_cons_of_mem _ hq))
  have clo := clo_at (env := env) T.L hbind I4 f1 f2 hfr2 hbody
  have hb1 : (Value.ref fl :: us).length = ps.length → BindsTo s2 fd ⟨Value.ref fl :: us, []⟩ (ps.zip (Value.ref fl :: us)) := fun z => by
    have := hb s2 (Value.ref fl :: us) I4.kIn (by simpa using z)
    simpa using this
  exact ⟨I4.kIn, runS (args := ⟨Value.ref fl :: us, []⟩) (vs := .ref fl :: vs) (E := fun _ _ _ => False) F hr pass0 I4 hb1 (.cons rfl r)
    ⟨by rw [List.length_cons, dvs.len]; exact hl, m2, .clo fl c' (X.env.qual ++ "<lambda>") σ (dOf env) :: ds, k, hm2, .cons ⟨rfl, hc2, envD_of he2⟩ dvs, hw fl c' σ H2 s2 clo, fun v d m' H' e3 => hq v d m' H' (e2.trans e3)⟩⟩
end
end DW

set_option Elab.async false
set_option linter.all false
set_option maxRecDepth 100000
set_option maxHeartbeats 2000000
namespace DW
variable [TabsC]
open PySem PySem.Spec PyProof.Rows L2
/-! ### the laws' own catcher: try: act = call() / except .. as caught: return (caught, None) / return (None, act) -/
def spCaught (P : Program) (w : World) (K : PySem.W.Frag) (mg : Str → Option Value) (base : Heap) (j : Nat) (CR : Addr) : DSpS := fun outer s H m ds k => ∃ f c q σ denv o, ds = [.clo f c q σ denv] ∧ CloO P w K mg base j f c q s.heap H (frs outer) σ denv o ∧
  (∀ x, o = .ret x → k (.d (.tuple [.none, x])) m) ∧ ∀ C x, o = .err C x → PySem.W.exmOne K (.ref C) (.ref CR) = some true ∧ k (.pe C x) m
section
variable {P : Program} {w : World} {K : PySem.W.Frag} {mg : Str → Option Value} {base : Heap} {qual x : Str} {st : Stmt} {f : Addr} {fd : FuncData} {j : Nat} {CR : Addr} {p1 p2 p3 p4 p5 p6 p7 p8 p9 p10 p11 p12 p13 p14 p15 : Pos} {j1 : Option Str} {j2 j4 : Nat}
theorem ok_caught {u1 u2} (F : Fun K x qual st f fd) (S : FnScope ["call", "caught", "act"] ["call"] (defScope st))
    (hbody : defBody st = [.Try [.Assign [.Name "act" p1] (.Call (.Name "call" p2) [] [] p3) p4] [.ExceptHandler (some (.Name "ReachError" p5)) (some "caught") [.Return (some (.Tuple [.Name "caught" p6, .Constant .none u1 p7] j2 p8)) p9] p10] [] [] p11,
      .Return (some (.Tuple [.Constant .none u2 p12, .Name "act" p13] j4 p14)) p15])
    (lc : (defScope st).names.lookup ("call" : Str) = some .local) (la : (defScope st).names.lookup ("act" : Str) = some .local) (lx : (defScope st).names.lookup ("caught" : Str) = some .local) (lg : (defScope st).names.lookup ("ReachError" : Str) = some .globalImplicit)
    (gR : mg "ReachError" = some (.ref CR)) : FnS P w K mg base CX0 (j + 1) f fd ["call"] (spDS K 1 (spCaught P w K mg base j CR)) := by
  refine fnS_of F S (fun outer s vs H Q E h => h.1) (fun cdv A outer s H vs Q E hr hsp => ?_)
  obtain ⟨hl, m, ds, k, hm, dvs, ⟨fl, c, q, σ0, denv, o, e, C, hret, herr⟩, hq⟩ := hsp
  subst e
  obtain ⟨v, rfl, dv⟩ := dvs1 dvs
  obtain ⟨rfl, hc, hE⟩ : v = .ref fl ∧ hid m H c = some (LamX.CodeO c q) ∧ EnvD K (hid m H) σ0 denv := dv
  rw [hbody]
  have hX : (cxOf CX0 P w K mg base ["call", "caught", "act"] qual (defScope st) f cdv A outer s H E).K = K := rfl
  refine ⟨_, pss_cons (ps_told (X := cxOf CX0 P w K mg base ["call", "caught", "act"] qual (defScope st) f cdv A outer s H E) (tb := fun W => tAsg (tClo K 0 fl c q σ0 denv o W) (gName 2)) (c := .ref CR) (i := 1) rfl rfl rfl S.nd rfl lx ⟨lg, by decide, .inl gR⟩
    (fun W pn xe tk _ => pss_one (ps_set (i := 2) S.nd rfl (.inl la) (pe_clo (i := 0) tk rfl C hr rfl (.inl lc))))
    (fun a oe cls d pn hz hf => pss_one (ps_ret (pe_tup (pa_cons (pe_var (i := 1) rfl (.inl lx)) (pa_cons pe_non pa_nil))))))
    (pss_one (ps_ret (pe_tup (pa_cons pe_non (pa_cons (pe_var (i := 2) rfl (.inl la)) pa_nil))))), ?_⟩
  refine ⟨rfl, m, hm, hE, hc, ?_⟩
  cases o with
  | ret x =>
    intro v H' e1 hm' dv'
    refine ⟨v, rfl, by show 2 ≤ sizeLine; decide, fun p hp => ?_⟩
    have sm := same_new (o := .tup [.non, v]) hp
    exact hq _ (.d (.tuple [.none, x])) m _ (e1.trans (Ext.of sm)) (hm'.mono sm) (Dp.tup (SqT.of (same_hid hm' hp)) (.cons .non (.cons (dp_mono (Ext.of sm) _ _ dv') .nil))) (hret x rfl)
  | err C1 x =>
    intro dd v H' e1 hm' hdd dv'
    refine ⟨(herr C1 x rfl).1, fun a na => ⟨.ref a, rfl, by show 2 ≤ sizeLine; decide, fun p hp hpa => ?_⟩⟩
    have s1 := same_new (o := .tup [.ref a, .non]) hp
    have s2 := same_new (o := ExV (.ref C1) (some dd) a) hpa
    have hm1 := hm'.mono s1
    have hpN : upd (upd H' p (.tup [.ref a, .non])) a (ExV (.ref C1) (some dd) a) p = some (.tup [.ref a, .non]) := s2 p _ upd_same
    have hmp := hm1.mono s2
    have ntp : NT p := hm'.new hp
    refine hq _ (.pe C1 x) m _ (e1.trans ((Ext.of s1).trans (Ext.of s2))) hmp ⟨p, .ref a, rfl, SqT.of (hid_of ?_ hpN ntp), a, dd, v, rfl, same_hid hm1 hpa (fun ps z => by unfold ExV at z; cases z), ?_, dp_mono ((Ext.of s1).trans (Ext.of s2)) _ _ dv'⟩ (herr C1 x rfl).2
    · exact hm'.fresh hp
    · exact ((Ext.of s1).trans (Ext.of s2) : Ext m H' m _) _ _ hdd
end
end DW

set_option Elab.async false
set_option linter.all false
set_option maxRecDepth 100000
set_option maxHeartbeats 2000000
namespace DW
open PySem PySem.Spec PyProof.Rows L2
/-! ### the end of a row, one table of code objects told of -/
section
variable {P : Program} {w : World} {K : PySem.W.Frag} {mg mb : Str → Option Value} {k : Nat} {fa a c Pt : Addr} {fd : FuncData} {x : Str} {sp : Sp} {s1 : Shared} {vs : List Value} {ns : List Int}
/-- the script and the table alone are told of -/
def OnlyT (H : Hp) (Pt : Addr) : Prop := H Pt = some (.tbl #[]) ∧ ∀ b, H b = none ∨ b = Pt ∨ ∃ o xs, H b = some (.frz o (.lst xs))
theorem lawT1 (H : Hp) (KX : K.In s1.heap) (hns : s1.heap.Ns mainGlobals mg) (hb : s1.heap.Ns builtinsNs mb) (hbb : ∀ y : Str, y ≠ "__name__" → mb y = bootBuiltins y) (hlim : s1.heap.NoLimit) (hg : s1.gens = #[])
    (obj : s1.heap.get? a = some { cls := .type "list", data := .seq vs.toArray }) (tob : s1.heap.get? Pt = some (PySem.W.tabObj #[])) (chd : PySem.W.CodeHd s1.heap c Pt) (kt : K.lookup Pt = none)
    (bmn : ∃ bm ob, mg "__builtins__" = some (.ref bm) ∧ bm ≠ builtinsNs ∧ s1.heap.get? bm = some ob ∧ ob.cls = .type "module" ∧ ob.dict = some builtinsNs ∧ ob.data = .plain)
    (hr : RoomG k callerA) (F : ∀ g : Heap, K.In g → g.Ns mainGlobals mg → LamX.TabB g mg c Pt → FnG P w K mg g CX0 k fa fd [x] sp)
    (bind : ∀ (s : Shared) (u : Value), BindsTo s fd ⟨[u], []⟩ [(x, u)]) (sat : sp [.ref a] H (fun z _ => z = .bl true) fun _ _ _ => False) (only : OnlyT H Pt) (hok : HOk P w H s1.heap) (one : ∀ b, H b ≠ none → b = a ∨ b = Pt) (out : H a ≠ none → K.lookup a = none) :
    codeAny (model P w) callerA (.call (.ref fa) ⟨[.ref a], []⟩) (fun r s2 => r = .ok (.ret (.bool true)) ∧ OldK s1.heap s2.heap ∧ s2.os = s1.os ∧ AllBare s2.gens) s1 := by
  have free : ∀ (b : Addr) (o : Obj), s1.heap.get? b = some o → (∀ ws n, o.data ≠ .seq ws n) → o.data ≠ .fields #[] → H b = none := by
    intro b o e n1 n2
    match q : H b with
    | none => rfl
    | some u =>
      rcases one b (by rw [q]; exact fun z => nomatch z) with eb | eb
      · rw [eb, obj] at e
        cases e
        exact absurd rfl (n1 _ _)
      · rw [eb, tob] at e
        cases e
        exact absurd rfl n2
  have freeD : ∀ (b : Addr) (o : Obj) (es : Array DictEntry) (ep : Nat), s1.heap.get? b = some o → o.data = .dict es ep → H b = none := fun b o es ep e d =>
    free b o e (fun ws n z => by rw [d] at z; cases z) fun z => by rw [d] at z; cases z
  have space : ∀ (b : Addr) (m : Str → Option Value), s1.heap.Ns b m → (hidT s1.heap H).Ns b m := by
    rintro b m ⟨o, es, ep, e, d, r⟩
    exact ⟨o, es, ep, hidT_get e (freeD b o es ep e d), d, r⟩
  have kin : K.In (hidT s1.heap H) := by
    intro b o e
    refine hidT_get (KX b o e) ?_
    match q : H b with
    | none => rfl
    | some u =>
      have nz : H b ≠ none := by rw [q]; exact fun z => nomatch z
      rcases one b nz with eb | eb
      · subst eb
        rw [out nz] at e
        cases e
      · rw [eb, kt] at e
        cases e
  have lim : (hidT s1.heap H).NoLimit := by
    obtain ⟨mc, h1, h2⟩ := hlim
    exact ⟨mc, space _ _ h1, h2⟩
  have md : Mod K mg (hidT s1.heap H) := ⟨kin, space _ _ hns, ⟨mb, space _ _ hb, hbb⟩, lim⟩
  have tb : LamX.TabB (hidT s1.heap H) mg c Pt := by
    refine ⟨?_, ?_, fun z => ?_⟩
    · obtain ⟨o, us, fi, tf, fl, tg, iF, tx, tt, e1, r1, r2, r3, r⟩ := chd
      refine ⟨o, us, fi, tf, fl, tg, iF, tx, tt, hidT_get e1 (free c o e1 (fun ws n z => by rw [r2] at z; cases z) fun z => ?_), r1, r2, r3, r⟩
      rw [r2] at z
      cases z
      simp at r3
    · obtain ⟨bm, ob, b1, b2, b3, b4, b5, b6⟩ := bmn
      have n1 : bm ≠ mainGlobals := fun q => by
        obtain ⟨o, es, ep, e, d, _⟩ := hns
        rw [q, e] at b3
        cases b3
        rw [d] at b6
        cases b6
      have n2 : bm ≠ Pt := fun q => by
        rw [q, tob] at b3
        cases b3
        cases b6
      exact ⟨bm, ob, b1, b2, n1, n2, hidT_get b3 (free bm ob b3 (fun ws n z => by rw [b6] at z; cases z) fun z => by rw [b6] at z; cases z), b4, b5, b6⟩
    · obtain ⟨o, es, ep, e, d, _⟩ := hns
      rw [z, tob] at e
      cases e
      cases d
  have noFr : ∀ b : Addr, b ∉ frs [] := fun b hb => by cases (show b ∈ ([] : List Addr) from hb)
  have env0 : Env0 P w K mg (hidT s1.heap H) callerA [] s1 H :=
    ⟨rfl, md, fun _ _ e => of_hidT e, Nat.le_of_eq (hidT_size _ _), trivial, fun b hb => absurd hb (noFr b), hok, .of_eq hg⟩
  have run := (F _ kin (space _ _ hns) tb).go callerA [] s1 H ⟨[.ref a], []⟩ [.ref a] [.ref a] _ _ hr env0 (bind s1 (.ref a)) (.cons rfl .nil) sat
  refine codeAny_mono run ?_
  intro r s2 h
  match r, h with
  | .error e, h => exact h.elim
  | .ok .next, h => exact h.elim
  | .ok .brk, h => exact h.elim
  | .ok .cont, h => exact h.elim
  | .ok (.ret u), ⟨z, H2, os, bare, un, hok2, rz, q⟩ =>
    have ez : z = .bl true := q
    subst ez
    have eu : u = Value.bool true := rz
    subst eu
    have stays : ∀ b o, b ≠ Pt → s1.heap.get? b = some o → s2.heap.get? b = some o := by
      intro b o nb e
      rcases only.2 b with n | n | ⟨ob, xs, n⟩
      · exact un.keep b o e n (noFr b) (by simp)
      · exact absurd n nb
      · have n2 := un.frzs b ob _ n
        have e1 := (hok b _ n).1
        have e2 := (hok2 b _ n2).1
        rw [e] at e1
        cases e1
        exact e2
    obtain ⟨more, ht⟩ := un.tbls Pt #[] only.1
    have grown : s2.heap.get? Pt = some { cls := .none, data := .fields (#[] ++ more) } := hok2 Pt _ ht
    refine ⟨rfl, ⟨fun b o e => ?_, fun b o e => ?_⟩, os, bare⟩
    · by_cases eb : b = Pt
      · subst eb
        rw [tob] at e
        cases e
        exact .inr (.inl ⟨(chd.tab tob).isCodeTable, rfl, #[], more, rfl, grown⟩)
      · exact .inl (stays b o eb e)
    · by_cases eb : b = Pt
      · rw [eb]
        exact ⟨_, grown⟩
      · exact ⟨o, stays b o eb e⟩
theorem lawT (KX : K.In s1.heap) (hns : s1.heap.Ns mainGlobals mg) (hb : s1.heap.Ns builtinsNs mb) (hbb : ∀ y : Str, y ≠ "__name__" → mb y = bootBuiltins y) (hlim : s1.heap.NoLimit) (hg : s1.gens = #[])
    (obj : s1.heap.get? a = some { cls := .type "list", data := .seq vs.toArray }) (tob : s1.heap.get? Pt = some (PySem.W.tabObj #[])) (chd : PySem.W.CodeHd s1.heap c Pt) (kt : K.lookup Pt = none)
    (bmn : ∃ bm ob, mg "__builtins__" = some (.ref bm) ∧ bm ≠ builtinsNs ∧ s1.heap.get? bm = some ob ∧ ob.cls = .type "module" ∧ ob.dict = some builtinsNs ∧ ob.data = .plain)
    (hi : IntsAre vs ns) (hl : ns.length ≤ sizeLine) (hr : RoomG k callerA) (F : ∀ g : Heap, K.In g → g.Ns mainGlobals mg → LamX.TabB g mg c Pt → FnG P w K mg g CX0 k fa fd [x] sp)
    (bind : ∀ (s : Shared) (u : Value), BindsTo s fd ⟨[u], []⟩ [(x, u)]) (sat : ∀ H : Hp, OnlyT H Pt → SqL K H a (ns.map V.int) → sp [.ref a] H (fun z _ => z = .bl true) fun _ _ _ => False) :
    codeAny (model P w) callerA (.call (.ref fa) ⟨[.ref a], []⟩) (fun r s2 => r = .ok (.ret (.bool true)) ∧ OldK s1.heap s2.heap ∧ s2.os = s1.os ∧ AllBare s2.gens) s1 := by
  have rv := @vals_of_ints ⟨[]⟩ _ _ hi
  have aT : a ≠ Pt := fun z => by
    rw [z, tob] at obj
    cases obj
  match hk : K.lookup a with
  | some o =>
    have e := KX a o hk
    rw [obj] at e
    cases e
    let G : Hp := fun b => if b = Pt then some (.tbl #[]) else none
    have atP : G Pt = some (.tbl #[]) := if_pos rfl
    have off : ∀ b, b ≠ Pt → G b = none := fun b hb => if_neg hb
    have sq : SqL K G a (ns.map V.int) := .inr ⟨_, vs.toArray, _, hk, rfl, rfl, rfl, by rw [List.size_toArray, hi.length]; exact hl, by simpa using rv⟩
    have on : OnlyT G Pt := ⟨atP, fun b => by
      by_cases q : b = Pt
      · exact .inr (.inl q)
      · exact .inl (off b q)⟩
    refine lawT1 G KX hns hb hbb hlim hg obj tob chd kt bmn hr F bind (sat G on sq) on (fun b u z => ?_) (fun b z => ?_) (fun z => absurd (off a aT) z)
    · by_cases q : b = Pt
      · subst q
        rw [atP] at z
        cases z
        exact tob
      · rw [off b q] at z
        cases z
    · by_cases q : b = Pt
      · exact .inr q
      · exact absurd (off b q) z
  | none =>
    let G : Hp := fun b => if b = a then some (.frz { cls := .type "list", data := .seq vs.toArray } (.lst (ns.map V.int))) else if b = Pt then some (.tbl #[]) else none
    have at_ : G a = some (.frz { cls := .type "list", data := .seq vs.toArray } (.lst (ns.map V.int))) := if_pos rfl
    have atP : G Pt = some (.tbl #[]) := (if_neg (Ne.symm aT)).trans (if_pos rfl)
    have off : ∀ b, b ≠ a → b ≠ Pt → G b = none := fun b h1 h2 => (if_neg h1).trans (if_neg h2)
    have on : OnlyT G Pt := ⟨atP, fun b => by
      by_cases q : b = a
      · subst q; exact .inr (.inr ⟨_, _, at_⟩)
      · by_cases q2 : b = Pt
        · exact .inr (.inl q2)
        · exact .inl (off b q q2)⟩
    refine lawT1 G KX hns hb hbb hlim hg obj tob chd kt bmn hr F bind (sat G on (.inl (.inr ⟨_, at_⟩))) on ?_ ?_ (fun _ => hk)
    · intro b u z
      by_cases q : b = a
      · subst q
        rw [at_] at z
        cases z
        exact ⟨obj, by rw [List.length_map]; exact hl, vs, _, rv, obj⟩
      · by_cases q2 : b = Pt
        · subst q2
          rw [atP] at z
          cases z
          exact tob
        · rw [off b q q2] at z
          cases z
    · intro b z
      by_cases q : b = a
      · exact .inl q
      · by_cases q2 : b = Pt
        · exact .inr q2
        · exact absurd (off b q q2) z
end
/-- the goal that k_head leaves, for a law one of whose defs, called y, makes lambdas -/
theorem walkT {l : PySem.W.OpenLaw} {n k : Nat} {q : Program} {loose : List Str} {XP : (Str → Option Value) → Heap → Prop} {YP : World → Heap → Prop} {d : DefRec} {K : Params → PySem.W.Frag} {x : Str} (y : Str)
    (most : l.most = some n) (small : n ≤ sizeLine) (plain : d.params.defaults = []) (hr : RoomG k callerA) (hY : ∀ (w : World) (h : Heap), YP w h → (K w.params).In h)
    (F : ∀ (w : World) (mg : Str → Option Value) (fa : Addr) (h : Heap), (K w.params).In h → h.Ns mainGlobals mg → mg d.name = some (.ref fa) →
      ∃ (c Pt : Addr) (dy : DefRec) (sp : Sp), (recsOf q).find? (fun e => e.name == y) = some dy ∧ PySem.W.tabIn (K w.params) y = some (c, Pt) ∧ (K w.params).lookup Pt = none ∧
        (∃ fd : FuncData, (∀ (s : Shared) (u : Value), BindsTo s fd ⟨[u], []⟩ [(x, u)]) ∧ ∀ g : Heap, (K w.params).In g → g.Ns mainGlobals mg → LamX.TabB g mg c Pt → FnG l.prog w (K w.params) mg g CX0 k fa fd [x] sp) ∧
        ∀ (H : Hp) (a : Addr) (ns : List Int), ns.length ≤ n → OnlyT H Pt → SqL (K w.params) H a (ns.map V.int) → sp [.ref a] H (fun z _ => z = .bl true) fun _ _ _ => False) :
    PySem.W.WalkO q loose XP YP l.row.toRowW d [] (fun f us => PySem.call f us) := by
  refine Att.attach_call most plain ?_
  intro w s0 s1 mg mb fa o pm cd doc a vs ns G Y ho hd hcd hmg hobj hints hlen hg
  obtain ⟨c, Pt, dy, sp, hdy, ht, kt, ⟨fd, hb, hF⟩, sat⟩ := F w mg fa _ (hY w _ Y) G.T.g hmg
  obtain ⟨chd, tob⟩ := PySem.W.tab_of G.T (hY w _ Y) hdy ht
  exact lawT (hY w _ Y) G.T.g G.T.b G.T.builtins G.T.nolimit hg hobj tob chd kt G.T.bmain hints (Nat.le_trans hlen small) hr hF hb fun H hO hS => sat H a ns hlen hO hS
theorem lawSatT {K : PySem.W.Frag} {H : Hp} {a Pt : Addr} {ns : List Int} {qn : Str} (hl : ns.length ≤ 63) (hO : OnlyT H Pt) (hS : SqL K H a (ns.map V.int)) :
    letI : TabsC := ⟨[(Pt, qn)]⟩
    spD K 1 spLawD [.ref a] H (fun z _ => z = .bl true) fun _ _ _ => False := by
  letI : TabsC := ⟨[(Pt, qn)]⟩
  have nP : ∀ b u, H b = some u → b ≠ Pt → NT b ∧ NTb u := fun b u e nb => ⟨fun z => by
      rcases List.mem_singleton.mp (show b ∈ [Pt] from z) with rfl
      exact nb rfl, fun ps z => by
      rcases hO.2 b with n | n | ⟨o, xs, n⟩
      · rw [n] at e; cases e
      · exact nb n
      · rw [n] at e; cases e; cases z⟩
  have low : ∀ b u, H b = some u → b ≠ Pt → hid ⟨none, 0, []⟩ H b = some u := fun b u e nb => hid_of (fun z => z.elim (fun z => by cases z) fun z => by cases z) e (nP b u e nb).1 (nP b u e nb).2
  refine ⟨rfl, ⟨none, 0, []⟩, [.d (.list (ns.map .int))], fun d _ => d = .d (.bool true), ⟨fun b q => (by cases q), fun b xs q => (by cases q), fun b q => (by cases q), List.nodup_nil, fun p hp => ?_⟩, .cons ?_ .nil, ⟨ns, rfl, hl, rfl, fun _ => rfl⟩, ?_⟩
  · obtain rfl := List.mem_singleton.mp hp
    exact LamX.TabS.nil hO.1
  · show Dp K (hid ⟨none, 0, []⟩ H) _ _
    have sq : SqL K (hid ⟨none, 0, []⟩ H) a (ns.map V.int) := by
      rcases hS with (h | ⟨o, h⟩) | h
      · refine .inl (.inl (low _ _ h fun z => ?_))
        rw [z, hO.1] at h
        cases h
      · refine .inl (.inr ⟨o, low _ _ h fun z => ?_⟩)
        rw [z, hO.1] at h
        cases h
      · exact .inr h
    exact .lst sq (dp_ints ns)
  · rintro v d m' H' _ _ dv rfl
    cases dv
    rfl
end DW

set_option Elab.async false
set_option linter.all false
set_option maxRecDepth 100000
set_option maxHeartbeats 1000000
namespace DW
variable [TabsC]
open PySem PySem.Spec PyProof.Rows L2 TL NumText
/-! ### None, told errors, pairs -/
def isNon : PyData → Bool
  | .none => true
  | _ => false
section
variable {X : Cx} {env : DEnv} {m : Me} {k : Dat → Me → Prop} {kb : Bool → Me → Prop} {a b e : Expr} {pos p : Pos} {j : Nat} {ke : DEnv → Prop} {x y : Str} {S : List Nat} {j' : Nat}
theorem dec_non {K : PySem.W.Frag} {H : Hp} {v : V} {z : PyData} (h : Dp K H v z) : decide (v = .non) = isNon z := by
  cases h <;> rfl
theorem wE_isN (h : wE X a env m fun d m1 => ∃ z, d = .d z ∧ k (.d (.bool (isNon z))) m1) : wE X (.Compare a [.Is] [.Constant .none j p] pos) env m k :=
  wE_of (pe_cmpR op_isN peW pe_non (nomark _)) fun σ H Q he hm hq => h σ H _ he hm fun v d m1 H1 e1 hm1 dv ⟨z, q, hk⟩ => by
    subst q
    refine ⟨rfl, ?_⟩
    rw [dec_non dv]
    exact hq _ _ m1 H1 e1 hm1 dv_bl hk
theorem wT_isN (h : wE X a env m fun d m1 => ∃ z, d = .d z ∧ kb (isNon z) m1) : wT X (.Compare a [.Is] [.Constant .none j p] pos) env m kb :=
  wT_of (pt_cmpR op_isN peW pe_non (nomark _)) fun σ H Q he hm hq => h σ H _ he hm fun v d m1 H1 e1 hm1 dv ⟨z, q, hk⟩ => by
    subst q
    refine ⟨rfl, decide (v = .non), rfl, ?_⟩
    rw [dec_non dv]
    exact hq _ m1 H1 e1 hm1 hk
theorem wE_notN (h : wE X a env m fun d m1 => ∃ z, d = .d z ∧ k (.d (.bool (!isNon z))) m1) : wE X (.Compare a [.IsNot] [.Constant .none j p] pos) env m k :=
  wE_of (pe_cmpR op_notN peW pe_non (nomark _)) fun σ H Q he hm hq => h σ H _ he hm fun v d m1 H1 e1 hm1 dv ⟨z, q, hk⟩ => by
    subst q
    refine ⟨rfl, ?_⟩
    rw [dec_non dv]
    exact hq _ _ m1 H1 e1 hm1 dv_bl hk
theorem wT_notN (h : wE X a env m fun d m1 => ∃ z, d = .d z ∧ kb (!isNon z) m1) : wT X (.Compare a [.IsNot] [.Constant .none j p] pos) env m kb :=
  wT_of (pt_cmpR op_notN peW pe_non (nomark _)) fun σ H Q he hm hq => h σ H _ he hm fun v d m1 H1 e1 hm1 dv ⟨z, q, hk⟩ => by
    subst q
    refine ⟨rfl, !decide (v = .non), rfl, ?_⟩
    rw [dec_non dv]
    exact hq _ m1 H1 e1 hm1 hk
/-- x, y = the pair of a told error and None -/
theorem wG_pe {C : Addr} {z : PyData} {p1 p2 : Pos} (i i' : Nat) (hc : X.calm = true) (hN : X.N.Nodup) (hk : ke ((env.set i (some (.e C z))).set i' (some (.d .none)))) (hi : X.N[i]? = some x := by rfl) (hi' : X.N[i']? = some y := by rfl)
    (hx : Loc X.env.scope x := by first | exact .inl rfl | exact .inr rfl) (hy : Loc X.env.scope y := by first | exact .inl rfl | exact .inr rfl) (hS : i ∈ S := by decide) (hS' : i' ∈ S := by decide)
    (hf : X.fn x = true ∨ X.env.scope.names.lookup x = some .local := by first | exact .inl rfl | exact .inr rfl) (hf' : X.fn y = true ∨ X.env.scope.names.lookup y = some .local := by first | exact .inl rfl | exact .inr rfl)
    (hn : (assignEach [.Name x p1, .Name y p2] X.env).length = 2 := by rfl) (hst : (assignEach [.Name x p1, .Name y p2] X.env).findIdx? (·.1) = none := by rfl)
    (h1 : (assignEach [.Name x p1, .Name y p2] X.env).map (·.2) = assign (.Name x p1) X.env :: (assignEach [.Name y p2] X.env).map (·.2) := by rfl) (h2 : (assignEach [.Name y p2] X.env).map (·.2) = assign (.Name y p2) X.env :: (assignEach [] X.env).map (·.2) := by rfl) :
    wG X S (.Tuple [.Name x p1, .Name y p2] j' pos) env m (.pe C z) ke := fun σ H v Q he hm ⟨ad, u, hv, hs, hu⟩ hq pins s w I r => by
  subst hv
  refine (pg_tup hc (pgs_cons (pg_name hN hi hx hf) (pgs_cons (pg_name hN hi' hy hf') pgs_nil h2) h1) hn hst).run pins s σ H _ w Q I r ⟨ad, [u, .non], rfl, seqT_mono hid_sub hs, rfl, u, [.non], rfl, .non, [], rfl, rfl, ?_⟩
  exact hq _ _ ((he.set i (d := .e C z) hu).set i' (d := .d .none) dv_non) ((Agree.set hS).trans (Agree.set hS')) hk
/-- the first of the pair -/
theorem wE_pe0 (h : wE X a env m fun d m1 => wE X b env m1 fun d2 m2 => ∃ C z, d = .pe C z ∧ d2 = .d (.int 0) ∧ k (.e C z) m2) (hs : PlainIx b := by exact fun _ _ => rfl) : wE X (.Subscript a b pos) env m k :=
  wE_of (pe_ix ix_seq peW peW hs) fun σ H Q he hm hq => h σ H _ he hm fun v d m1 H1 e1 hm1 dv h1 => h1 σ H1 _ (he.mono e1) hm1 fun v2 d2 m2 H2 e2 hm2 dv2 ⟨C, z, q1, q2, hk⟩ => by
    subst q1
    subst q2
    cases dv2
    obtain ⟨ad, u, rfl, hs, hu⟩ := dv
    refine .inr (.inl ⟨ad, [u, .non], 0, u, rfl, rfl, seqT_mono hid_sub (seqT_mono e2 hs), rfl, hq u (.e C z) m2 H2 (e1.trans e2) hm2 (hu.mono e2) hk⟩)
end
theorem kit_self {K : PySem.W.Frag} {C : Addr} : PySem.W.kitOne K (.ref C) (.ref C) = some true := by
  unfold PySem.W.kitOne
  rw [if_pos (by simp)]
/-! ### texts -/
theorem spl_le {S : List Nat} : ∀ (l : List Nat) (n : Nat) (acc p : List Nat), p ∈ spl S n acc l → p.length ≤ acc.length + l.length
  | [], n, acc, p, h => by
    rw [spl_nil] at h
    rcases List.mem_singleton.mp h with rfl
    omega
  | c :: r, 0, acc, p, h => by
    by_cases q : pre S (c :: r) = true
    · rw [spl_hit q] at h
      rcases List.mem_cons.mp h with rfl | h
      · omega
      · have := spl_le r _ [] p h
        simp only [List.length_nil, List.length_cons] at this ⊢
        omega
    · rw [spl_miss (by simpa using q)] at h
      have := spl_le r 0 _ p h
      simp only [List.length_append, List.length_cons, List.length_nil] at this ⊢
      omega
  | c :: r, n + 1, acc, p, h => by
    have := spl_le r n acc p h
    simp only [List.length_cons]
    omega
theorem spl_many {S : List Nat} : ∀ (l : List Nat) (n : Nat) (acc : List Nat), (spl S n acc l).length ≤ 1 + l.length
  | [], n, acc => by rw [spl_nil]; simp
  | c :: r, 0, acc => by
    by_cases q : pre S (c :: r) = true
    · rw [spl_hit q]
      have := spl_many (S := S) r (S.length - 1) []
      simp only [List.length_cons]
      omega
    · rw [spl_miss (by simpa using q)]
      have := spl_many (S := S) r 0 (acc ++ [c])
      simp only [List.length_cons]
      omega
  | c :: r, n + 1, acc => by
    have := spl_many (S := S) r n acc
    simp only [List.length_cons]
    exact Nat.le_trans this (by omega)
theorem split_tl {w y : Str} {s : Nat} {T : List Nat} (ey : tl y = s :: T) (hk : y.cps.all (· < 256) = true) : (Txt.split w y).map tl = spl (s :: T) 0 [] (tl w) := by
  rw [← ey]
  exact split_spl w y (by rw [ey]; simp) (kind_ok hk)
theorem split_le {w y : Str} {s : Nat} {T : List Nat} (ey : tl y = s :: T) (hk : y.cps.all (· < 256) = true) {p : Str} (h : p ∈ Txt.split w y) : p.length ≤ w.length := by
  have h1 : tl p ∈ (Txt.split w y).map tl := List.mem_map.mpr ⟨p, h, rfl⟩
  rw [split_tl ey hk] at h1
  have := spl_le _ _ _ _ h1
  rw [tl_len, tl_len] at this
  simpa using this
theorem split_many {w y : Str} {s : Nat} {T : List Nat} (ey : tl y = s :: T) (hk : y.cps.all (· < 256) = true) : (Txt.split w y).length ≤ 1 + w.length := by
  have h1 := congrArg List.length (split_tl (w := w) ey hk)
  rw [List.length_map] at h1
  rw [h1, ← tl_len w]
  exact spl_many _ _ _
theorem tl_slash : tl ("/" : Str) = [47] := by decide +kernel
theorem tl_blank : tl (" " : Str) = [32] := by decide +kernel
theorem all_slash : ("/" : Str).cps.all (· < 256) = true := by decide +kernel
theorem all_blank : (" " : Str).cps.all (· < 256) = true := by decide +kernel
/-! ### the law's own reading of words -/
theorem tl_cutTo1 (w : Str) : tl (cutS w none (some 1)) = (tl w).take 1 := by
  unfold cutS
  show ((tl w).drop (HT.sIx w.length 0 none)).take (HT.sIx w.length w.length (some 1) - HT.sIx w.length 0 none) = _
  have e0 : HT.sIx w.length 0 none = 0 := rfl
  rw [e0, List.drop_zero, Nat.sub_zero]
  by_cases h : w.length = 0
  · have : tl w = [] := List.eq_nil_of_length_eq_zero (by rw [tl_len]; exact h)
    rw [this]; simp
  · have e1 : HT.sIx w.length w.length (some 1) = 1 := by
      unfold HT.sIx
      simp
      omega
    rw [e1]
theorem cut1_dash (w : Str) : cutS w none (some 1) = "-" ↔ (tl w).head? = some 45 := by
  constructor
  · intro h
    have := congrArg tl h
    rw [tl_cutTo1, tl_dash] at this
    cases q : tl w with
    | nil => rw [q] at this; cases this
    | cons c r => rw [q] at this; cases this; rfl
  · intro h
    refine text_inj ?_
    rw [tl_cutTo1, tl_dash]
    cases q : tl w with
    | nil => rw [q] at h; cases h
    | cons c r => rw [q] at h; cases h; rfl
/-- the figures, by the first sign -/
def figL (w : Str) : Str := if (tl w).head? = some 45 then cutS w (some 1) none else w
theorem tl_figL (w : Str) : tl (figL w) = if (tl w).head? = some 45 then (tl w).drop 1 else tl w := by
  unfold figL
  split
  · exact tl_cut1 w
  · rfl
theorem figL_len (w : Str) : (figL w).length ≤ w.length := by
  rw [← tl_len, ← tl_len, tl_figL]
  split
  · simp
  · exact Nat.le_refl _
theorem tl_eq {x y : Str} : x = y ↔ tl x = tl y := ⟨congrArg tl, text_inj⟩
theorem str_empty {x : Str} : x = "" ↔ tl x = [] := by
  rw [tl_eq, show tl ("" : Str) = [] from by decide +kernel]
theorem str_zero {x : Str} : x = "0" ↔ tl x = [48] := by
  rw [tl_eq, show tl ("0" : Str) = [48] from by decide +kernel]
theorem lawIL_none1 {w : Str} (h : figL w = "") : lawIL (tl w) = none := by
  unfold lawIL
  dsimp only
  rw [← tl_figL]
  exact if_pos (.inl (str_empty.mp h))
theorem lawIL_none2 {w : Str} (h : digits (figL w) = false) : lawIL (tl w) = none := by
  unfold lawIL
  dsimp only
  rw [← tl_figL]
  refine if_pos (.inr (.inl ?_))
  cases q : (tl (figL w)).all (fun c => decide (48 ≤ c ∧ c ≤ 57)) with
  | false => rfl
  | true =>
    have := (digits_iff _).mpr (all_digits.mp q)
    rw [h] at this
    cases this
theorem lawIL_none3 {w : Str} (h : (tl (figL w)).head? = some 48) (h2 : w ≠ "0") : lawIL (tl w) = none := by
  unfold lawIL
  dsimp only
  rw [← tl_figL]
  exact if_pos (.inr (.inr ⟨h, fun q => h2 (str_zero.mpr q)⟩))
theorem lawIL_some {w : Str} (hl : w.length < 60) (h0 : figL w ≠ "") (hd : digits (figL w) = true) (h3 : ¬ ((tl (figL w)).head? = some 48 ∧ w ≠ "0")) : ∃ n, PySem.intText? w = some n ∧ lawIL (tl w) = some n := by
  have hD := (digits_iff _).mp hd
  have ne : tl (figL w) ≠ [] := fun q => h0 (str_empty.mpr q)
  have hall := all_digits.mpr hD
  unfold lawIL
  dsimp only
  rw [← tl_figL, if_neg (by
    rintro (q | q | q)
    · exact ne q
    · rw [hall] at q; cases q
    · exact h3 ⟨q.1, fun z => q.2 (str_zero.mp z)⟩)]
  by_cases hm : (tl w).head? = some 45
  · have e : tl w = 45 :: tl (figL w) := by
      rw [tl_figL, if_pos hm]
      cases q : tl w with
      | nil => rw [q] at hm; cases hm
      | cons c r => rw [q] at hm; cases hm; rfl
    refine ⟨_, intText_neg (x := w) e hD ne (by omega), ?_⟩
    rw [if_pos hm]
  · have e : tl (figL w) = tl w := by rw [tl_figL, if_neg hm]
    refine ⟨_, intText_digits (x := w) (by rw [show w.cps.toList = tl (figL w) from e.symm]; exact hD) (by rw [show w.cps.toList = tl (figL w) from e.symm]; exact ne) (by omega), ?_⟩
    rw [if_neg hm, show w.cps.toList = tl (figL w) from e.symm]
theorem figL_head {w : Str} (h0 : figL w ≠ "") : ∃ c, atI (figL w).cps.toList 0 = some c ∧ (tl (figL w)).head? = some c := by
  cases q : tl (figL w) with
  | nil => exact absurd (str_empty.mpr q) h0
  | cons c r =>
    have q' : (figL w).cps.toList = c :: r := q
    exact ⟨c, by rw [q']; exact atI_nat (xs := c :: r) (j := 0) rfl, rfl⟩
theorem one_zero (c : Nat) : ((⟨#[c]⟩ : Str) = "0") ↔ c = 48 := by
  rw [str_zero]
  show [c] = [48] ↔ _
  simp
def spWholeIn : DSp := fun m ds k => ∃ w : Str, ds = [.d (.str w)] ∧ w.length < 60 ∧ k (.d (optD (lawIL (tl w)))) m
def spFracIn : DSp := fun m ds k => ∃ w : Str, ds = [.d (.str w)] ∧ w.length < 60 ∧ k (.d (optF (lawFL (tl w)))) m
/-- the fractions of a text's words -/
def frs (w : Str) : List PyData := (Txt.split w " ").map fun s => optF (lawFL (tl s))
def ptL (w : Str) : PyData := if ptB (.tuple (frs w)) = true then .tuple (frs w) else .none
def spPointIn : DSp := fun m ds k => ∃ w : Str, ds = [.d (.str w)] ∧ w.length < 60 ∧ k (.d (ptL w)) m
end DW

set_option Elab.async false
set_option linter.all false
set_option maxRecDepth 100000
set_option maxHeartbeats 1000000
namespace DW
variable [TabsC]
open PySem PySem.Spec PyProof.Rows L2 TL NumText
section
variable {P : Program} {w : World} {K : PySem.W.Frag} {mg : Str → Option Value} {base : Heap} {CX : CXT}
/-- a def of the text whose code object is known -/
theorem fnG_ofC {x qual : Str} {st : Stmt} {f c : Addr} {fd : FuncData} {N ps : List Str} {k : Nat} {sp : Sp} (F : Fun K x qual st f fd) (hcode : fd.code = .ref c) (S : FnScope N ps (defScope st)) (hl : ∀ vs H Q E, sp vs H Q E → vs.length = ps.length)
    (hb : ∀ (A : Around) (outer : List Env) (s : Shared) (H : Hp) (vs : List V) (Q : VK) (E : XK), RoomG k (A.deeper (envOfC qual (defScope st) s.heap.objs.size f (.ref c))) → sp vs H Q E →
      ∃ t, PSs (cxOf CX P w K mg base N qual (defScope st) f (.ref c) A outer s H E) (defBody st) t ∧ t { nx := fun _ H' => Q .non H', rt := Q } (start N vs) H) : FnG P w K mg base CX (k + 1) f fd ps sp := by
  obtain ⟨oc, od, kV, doc, pm, an, cdv, ct, osl, rfl, lk, hcd⟩ := F.ex
  obtain rfl : cdv = .ref c := hcode
  refine ⟨hl, fun A outer s H args us vs Q E hr e0 hbn r hsp => ?_⟩
  have len := hl _ _ _ _ hsp
  have old : ∀ b o, base.get? b = some o → s.heap.get? b = some o := fun b o e => (e0.bs b o e).1
  have KX := e0.mod.kin.keeps old
  have par : ∀ y ∈ ps.zip us, (defScope st).names.lookup y.1 = some .local ∨
      ((defScope st).names.lookup y.1 = some .cell ∧ ((cellsFrom (s.heap.objs.size + 1) (defScope st).names []).lookup y.1).isSome = true) := by
    rintro ⟨n, v⟩ hy
    rcases S.par n (List.of_mem_zip hy).1 with q | q
    · exact .inl q
    · exact .inr ⟨q, PySem.W.cellsFrom_some _ _ _ (.inl q)⟩
  have dpt := hr.room.depth
  refine codeAny_call_function dpt (KX _ _ lk) rfl S.co S.gen rfl (PySem.W.codeRec_of KX hcd) (hbn _ _ _ _ ?_)
  refine wpAny_newFunctionEnv_cells S.kind par fun env he s1 ic => ?_
  subst he
  refine ⟨(e0.mod.nolimit.keeps old).keeps ic.toInCall.keep, codeAny_func ?_⟩
  obtain ⟨t, ht, hq⟩ := hb A outer s H vs Q E ⟨hr.room.deeper _, hr.gd⟩ hsp
  have I := inv_start (CX := CX) (P := P) (w := w) (mg := mg) (E := E) S hr.room.hd e0 len r ic
  refine wpAny_mono (ht.run [] s1 (start N vs) H _ I hq) (fun fl s' hs => ?_) (fun e s' hs => hs)
  match fl, hs with
  | .next, ⟨σ', H', J, q⟩ => exact ⟨V.non, H', J.os, J.bare, J.base, J.hok, rfl, q⟩
  | .brk, ⟨_, _, _, q⟩ => exact q.elim
  | .cont, ⟨_, _, _, q⟩ => exact q.elim
  | .ret u, ⟨v, σ', H', J, rv, q⟩ => exact ⟨v, H', J.os, J.bare, J.base, J.hok, rv, q⟩
theorem fnDT {x qual : Str} {st : Stmt} {f c : Addr} {fd : FuncData} {N ps : List Str} {k : Nat} {sp : DSp} (F : Fun K x qual st f fd) (hcode : fd.code = .ref c) (S : FnScope N ps (defScope st))
    (hb : ∀ (A : Around) (outer : List Env) (s : Shared) (H : Hp) (E : XK), RoomG k (bX P w K mg base N qual st f (.ref c) A outer s H E).A → ∀ m ds kk, sp m ds kk → ds.length = ps.length →
      wSs (bX P w K mg base N qual st f (.ref c) A outer s H E) (defBody st) (env0 N ds) m { nx := fun _ m' => kk (.d .none) m', rt := kk }) : FnG P w K mg base CX0 (k + 1) f fd ps (spD K ps.length sp) := by
  refine fnG_ofC F hcode S (fun vs H Q E h => h.1) (fun A outer s H vs Q E hr ⟨hl, m, ds, kk, hm, dvs, hw, hq⟩ => ?_)
  refine ⟨_, (pssW (X := bX P w K mg base N qual st f (.ref c) A outer s H E)).nox, ?_⟩
  refine hb A outer s H E hr m ds kk hw (by rw [← dvs.len]; exact hl) _ H _ (envOk0 dvs) hm ?_
  exact ⟨fun σ env m' H' e1 he hm1 hk => hq _ _ m' H' e1 hm1 dv_non hk, fun v d m' H' => hq v d m' H', fun _ _ _ _ _ _ _ h => h, fun _ _ _ _ _ _ _ h => h⟩
/-- the lambdas of a def whose code object is c -/
theorem lamTxt {N : List Str} {qual qn : Str} {st : Stmt} {f c Pt : Addr} {A : Around} {outer : List Env} {s : Shared} {H : Hp} {E : XK} {params : Arguments} {scope : Scope} (hT : TabsC.T = [(Pt, qn)]) (hq : qual ++ ".<locals>." ++ "<lambda>" = qn) (TB : LamX.TabB base mg c Pt)
    (L : LamX.LamS (defScope st) scope) (hd : defaultsOf params (bX P w K mg base N qual st f (.ref c) A outer s H E).env = ([], [])) : LamTxt (bX P w K mg base N qual st f (.ref c) A outer s H E) params scope where
  tab := ⟨c, Pt, TB, rfl, by rw [hT, ← hq]; exact List.mem_singleton.mpr rfl, fun p hp _ => by
    rw [hT] at hp
    rcases List.mem_singleton.mp hp with rfl
    exact hq.symm⟩
  L := L
  dflt := hd
end
/-! ### a text that is bent: how long, of which signs -/
def Plain (w : Str) (n : Nat) : Prop := w.length ≤ n ∧ ∀ c ∈ tl w, c < 128
theorem Plain.cut {w : Str} {n : Nat} (h : Plain w n) (lo hi : Option Int) : Plain (cutS w lo hi) n := by
  refine ⟨Nat.le_trans (cutS_length w lo hi) h.1, fun c hc => h.2 c ?_⟩
  exact List.mem_of_mem_drop (List.mem_of_mem_take (show c ∈ ((tl w).drop (HT.sIx w.length 0 lo)).take (HT.sIx w.length w.length hi - HT.sIx w.length 0 lo) from hc))
theorem Plain.app {x y : Str} (hx : ∀ c ∈ tl x, c < 128) (hy : ∀ c ∈ tl y, c < 128) : ∀ c ∈ tl (x ++ y), c < 128 := fun c hc => by
  rw [tl_append] at hc
  rcases List.mem_append.mp hc with z | z
  · exact hx c z
  · exact hy c z
theorem Plain.sz {w : Str} {n : Nat} (h : Plain w n) (hn : n ≤ 1000) : Sz (.str w) 1 10002 := Sz.str (fun c hc => Nat.lt_trans (h.2 c hc) (by decide)) (Nat.le_trans h.1 hn)
end DW

set_option Elab.async false
set_option linter.all false
set_option maxRecDepth 100000
set_option maxHeartbeats 1000000
namespace DW
variable [TabsC]
open PySem PySem.Spec PyProof.Rows L2 TL NumText
section
variable {X : Cx} {env : DEnv} {m : Me} {k : Dat → Me → Prop} {kb : Bool → Me → Prop} {a b : Expr} {pos : Pos}
theorem wT_inL (hu : X.A.units + 65 < cLine) (h : wE X a env m fun dx m1 => wE X b env m1 fun dy m2 => fInL m2 dx dy fun d => ∃ c, d = .d (.bool c) ∧ kb c m2) (hb : behindInMarks .In b = false := by rfl) : wT X (.Compare a [.In] [b] pos) env m kb :=
  wT_cmp (op_inD hu) opD_inL hb h
theorem wE_eqD (hu : X.A.units + 65 < cLine) (h : wE X a env m fun dx m1 => wE X b env m1 fun dy m2 => fEqD id m2 dx dy fun d => k d m2) : wE X (.Compare a [.Eq] [b] pos) env m k := wE_cmp (op_eqD (by omega)) opD_eqD (nomark _) h
theorem wT_eqD (hu : X.A.units + 65 < cLine) (h : wE X a env m fun dx m1 => wE X b env m1 fun dy m2 => fEqD id m2 dx dy fun d => ∃ c, d = .d (.bool c) ∧ kb c m2) : wT X (.Compare a [.Eq] [b] pos) env m kb := wT_cmp (op_eqD (by omega)) opD_eqD (nomark _) h
end
/-! ### fractions in a list -/
def fracD : PyData → PyData
  | .str s => optF (lawFL (tl s))
  | _ => .none
theorem frs_eq (w : Str) : [] ++ ((Txt.split w " ").map PyData.str).map fracD = frs w := by
  rw [List.nil_append, List.map_map]
  rfl
def numD : PyData → PyData
  | .str s => optD (lawIL (tl s))
  | _ => .none
/-- the numbers of the parts between the slashes -/
def nums (w : Str) : List PyData := (Txt.split w "/").map fun s => optD (lawIL (tl s))
theorem nums_eq (w : Str) : [] ++ ((Txt.split w "/").map PyData.str).map numD = nums w := by
  rw [List.nil_append, List.map_map]
  rfl
theorem nums_len (w : Str) : (nums w).length ≤ 1 + w.length := by
  unfold nums
  rw [List.length_map]
  exact split_many tl_slash all_slash
theorem nums_one {w : Str} (h : 47 ∉ tl w) : nums w = [optD (lawIL (tl w))] := by
  have e := split_tl (w := w) tl_slash all_slash
  rw [spl_last1 h] at e
  unfold nums
  rw [show ((Txt.split w "/").map fun s => optD (lawIL (tl s))) = ((Txt.split w "/").map tl).map fun l => optD (lawIL l) from by rw [List.map_map]; rfl, e]
  rfl
theorem nums_two {w : Str} {A B : List Nat} (h : tl w = A ++ 47 :: B) (hA : 47 ∉ A) (hB : 47 ∉ B) : nums w = [optD (lawIL A), optD (lawIL B)] := by
  have e := split_tl (w := w) tl_slash all_slash
  rw [h, show A ++ 47 :: B = A ++ ([47] ++ B) from rfl, spl_part1 hA, spl_last1 hB] at e
  unfold nums
  rw [show ((Txt.split w "/").map fun s => optD (lawIL (tl s))) = ((Txt.split w "/").map tl).map fun l => optD (lawIL l) from by rw [List.map_map]; rfl, e]
  rfl
theorem spl_pos {S : List Nat} : ∀ (l : List Nat) (n : Nat) (acc : List Nat), 1 ≤ (spl S n acc l).length
  | [], n, acc => by rw [spl_nil]; simp
  | c :: r, 0, acc => by
    by_cases q : pre S (c :: r) = true
    · rw [spl_hit q]; simp
    · rw [spl_miss (by simpa using q)]
      exact spl_pos r 0 _
  | c :: r, n + 1, acc => spl_pos r n acc
theorem spl_two {B : List Nat} {acc : List Nat} (h : 47 ∈ B) : 2 ≤ (spl [47] 0 acc B).length := by
  induction B generalizing acc with
  | nil => cases h
  | cons c r ih =>
    by_cases q : pre [47] (c :: r) = true
    · rw [spl_hit q]
      have := spl_pos (S := [47]) r ([47].length - 1) []
      exact Nat.succ_le_succ this
    · rw [spl_miss (by simpa using q)]
      refine ih ?_
      rcases List.mem_cons.mp h with z | z
      · exfalso
        rw [← z] at q
        exact q (by simp [pre])
      · exact z
theorem nums_more {w : Str} {A B : List Nat} (h : tl w = A ++ 47 :: B) (hA : 47 ∉ A) (hB : 47 ∈ B) : 2 < (nums w).length := by
  have e := congrArg List.length (split_tl (w := w) tl_slash all_slash)
  rw [h, show A ++ 47 :: B = A ++ ([47] ++ B) from rfl, spl_part1 hA, List.length_map, List.length_cons] at e
  have := spl_two (acc := []) hB
  unfold nums
  rw [List.length_map]
  omega
theorem optD_lay (o : Option Int) : PyData.canLay0 (optD o) = true ∧ (optD o).depth ≤ 0 ∧ SeqAt.shaped (optD o) = true := by
  cases o <;> simp [optD, PyData.canLay0, PyData.depth, SeqAt.shaped]
theorem nums_shaped {xs : List PyData} (h : ∀ z ∈ xs, ∃ o, z = optD o) : SeqAt.shaped (.list xs) = true ∧ SeqAt.shaped (.tuple xs) = true := by
  have h1 : PyData.canLayAll0 xs = true ∧ PyData.depthAll xs ≤ 0 := by
    induction xs with
    | nil => simp [PyData.canLayAll0, PyData.depthAll]
    | cons z r ih =>
      obtain ⟨i1, i2⟩ := ih fun y hy => h y (List.mem_cons_of_mem _ hy)
      obtain ⟨o, rfl⟩ := h z List.mem_cons_self
      obtain ⟨l1, l2, _⟩ := optD_lay o
      simp [PyData.canLayAll0, PyData.depthAll, l1, i1]
      omega
  obtain ⟨h2, h3⟩ := h1
  constructor <;> simp [SeqAt.shaped, PyData.canLay0, PyData.depth, h2] <;> omega
theorem nums_opt (w : Str) : ∀ z ∈ nums w, ∃ o, z = optD o := fun z hz => by
  obtain ⟨s, _, rfl⟩ := List.mem_map.mp hz
  exact ⟨_, rfl⟩
theorem eqv_non (o : Option Int) : PyData.eqv (optD o) .none = o.isNone := by
  cases o <;> simp [optD, PyData.eqv]
theorem optF_lay (o : Option (Int × Int)) : PyData.canLay0 (optF o) = true ∧ (optF o).depth ≤ 1 := by
  cases o with
  | none => simp [optF, PyData.canLay0, PyData.depth]
  | some q => simp [optF, PyData.canLay0, PyData.canLayAll0, PyData.depth, PyData.depthAll]
theorem frs_lay (w : Str) : PyData.canLayAll0 (frs w) = true := by
  unfold frs
  induction Txt.split w " " with
  | nil => simp [PyData.canLayAll0]
  | cons s r ih =>
    rw [List.map_cons]
    simp [PyData.canLayAll0, (optF_lay _).1, ih]
theorem eqv_nonF (o : Option (Int × Int)) : PyData.eqv (optF o) .none = o.isNone := by
  cases o with
  | none => simp [optF, PyData.eqv]
  | some q => simp [optF, PyData.eqv]
theorem frs_any (w : Str) : (frs w).any (fun z => PyData.eqv z .none) = !((Txt.split w " ").all fun s => (lawFL (tl s)).isSome) := by
  unfold frs
  rw [List.any_map]
  induction Txt.split w " " with
  | nil => rfl
  | cons s r ih =>
    simp only [List.any_cons, List.all_cons, Function.comp_apply, eqv_nonF]
    have : (List.any r fun x => ((fun z => z.eqv PyData.none) ∘ fun s => optF (lawFL (tl s))) x) = _ := ih
    simp only [Function.comp_apply] at this ih ⊢
    rw [show (r.any ((fun z => z.eqv PyData.none) ∘ fun s => optF (lawFL (tl s)))) = _ from ih]
    cases lawFL (tl s) <;> simp
theorem frs_ptB (w : Str) : ptB (.tuple (frs w)) = (decide ((frs w).length = 3) && !((frs w).any fun z => PyData.eqv z .none)) := by
  rw [frs_any, Bool.not_not]
  have := ptB_words (Txt.split w " ")
  unfold frs
  rw [this, List.length_map]
theorem frs_len (w : Str) : (frs w).length ≤ 1 + w.length := by
  unfold frs
  rw [List.length_map]
  exact split_many tl_blank all_blank
/-- t / g = t and b / g = b just for g = 1 -/
theorem whole_iff {t d : Int} (hd : 0 < d) : PyData.eqv (fr (t / gcdI t d) (d / gcdI t d)) (.tuple [.int t, .int d]) = decide (gcdI t d = 1) := by
  have hg := gcdI_pos (t := t) hd
  have e : PyData.eqv (fr (t / gcdI t d) (d / gcdI t d)) (.tuple [.int t, .int d]) = ((t / gcdI t d == t) && (d / gcdI t d == d)) := by
    simp [fr, PyData.eqv, PyData.eqvAll]
  rw [e]
  by_cases h : gcdI t d = 1
  · rw [h, Int.ediv_one, Int.ediv_one]; simp
  · rw [decide_eq_false h]
    have h2 : d / gcdI t d ≠ d := fun q => by
      have h3 : d * 2 ≤ d * gcdI t d := Int.mul_le_mul_of_nonneg_left (by omega) (by omega)
      have h4 := Int.ediv_lt_of_lt_mul hg (show d < d * gcdI t d by omega)
      omega
    simp [h2]
/-- lawFL by its parts -/
theorem lawFL_no {w : Str} (h : 47 ∉ tl w) : lawFL (tl w) = (lawIL (tl w)).map fun n => (n, 1) := by
  have hc : (cutL 47 (tl w)).2 = none := by
    cases q : (cutL 47 (tl w)).2 with
    | none => rfl
    | some b =>
      obtain ⟨e, _⟩ := cutL_some q
      exact absurd (by rw [e]; simp) h
  unfold lawFL
  rw [hc]
theorem cutL_at {A B : List Nat} (hA : 47 ∉ A) : cutL 47 (A ++ 47 :: B) = (A, some B) := by
  induction A with
  | nil => simp [cutL]
  | cons c r ih =>
    have hc : c ≠ 47 := fun z => hA (by rw [z]; exact List.mem_cons_self)
    have hr : 47 ∉ r := fun z => hA (List.mem_cons_of_mem _ z)
    rw [List.cons_append]
    unfold cutL
    rw [if_neg hc, ih hr]
theorem lawFL_at {w : Str} {A B : List Nat} (h : tl w = A ++ 47 :: B) (hA : 47 ∉ A) : lawFL (tl w) = match lawIL A, lawIL B with
    | some t, some d => if 1 < d ∧ gcdI t d = 1 then some (t, d) else none
    | _, _ => none := by
  unfold lawFL
  rw [h, cutL_at hA] <;> rfl
theorem slash_cases (w : Str) : 47 ∉ tl w ∨ ∃ A B, tl w = A ++ 47 :: B ∧ 47 ∉ A := by
  cases q : (cutL 47 (tl w)).2 with
  | none => exact .inl (cutL_none q).2
  | some b =>
    obtain ⟨e, h⟩ := cutL_some q
    exact .inr ⟨_, b, e, h⟩
theorem lawIL_small {l : List Nat} {n : Int} (hl : l.length < 60) (h : lawIL l = some n) : n.natAbs < 10 ^ 60 := by
  have e : tl (⟨l.toArray⟩ : Str) = l := rfl
  exact (readI_text (w := ⟨l.toArray⟩) (n := n) (by rw [← tl_len, e]; exact hl) (by rw [e]; exact h)).2
def spFracW : DSp := fun m ds k => ∃ t b : Int, ds = [.d (.int t), .d (.int b)] ∧ t.natAbs < 10 ^ 60 ∧ 0 < b ∧ b.natAbs < 10 ^ 60 ∧ k (.d (fr (t / gcdI t b) (b / gcdI t b))) m
theorem cdivB {i j : Int} (h1 : 0 < j) (h2 : j.natAbs < 10 ^ 60) : CDivW i j :=
  wide_div (b := 200) h1 (Nat.lt_trans h2 (by decide +kernel)) (by decide) (by decide)
/-! ### the law's own texts of points -/
def lawTF (t b : Int) : Str := if b = 1 then toString t else toString t ++ "/" ++ toString b
theorem textI_str {n : Int} (h1 : -100 < n) (h2 : n < 100) : textI n = toString n := by
  have key : (List.range 200).all (fun i => decide (textI ((i : Int) - 100) = toString ((i : Int) - 100))) = true := by decide +kernel
  have := List.all_eq_true.mp key (n + 100).toNat (List.mem_range.mpr (by omega))
  have e : (((n + 100).toNat : Nat) : Int) - 100 = n := by omega
  rw [e] at this
  exact of_decide_eq_true this
theorem textF_law {t b : Int} (ht : -100 < t ∧ t < 100) (hb : -100 < b ∧ b < 100) : textF t b = lawTF t b := by
  unfold textF lawTF
  rw [textI_str ht.1 ht.2, textI_str hb.1 hb.2]
def short1 (t b : Int) : Bool := decide ((textF t b).length ≤ 6) && (tl (textF t b)).all fun c => decide (c < 128)
theorem textI_short {n : Int} (h1 : -100 < n) (h2 : n < 100) : (textI n).length ≤ 3 ∧ ∀ c ∈ tl (textI n), c = 45 ∨ (48 ≤ c ∧ c ≤ 57) := by
  have key : (List.range 199).all (fun i => decide ((textI ((i : Int) - 99)).length ≤ 3) && (tl (textI ((i : Int) - 99))).all fun c => decide (c = 45 ∨ (48 ≤ c ∧ c ≤ 57))) = true := by decide +kernel
  have := List.all_eq_true.mp key (n + 99).toNat (List.mem_range.mpr (by omega))
  have e : (((n + 99).toNat : Nat) : Int) - 99 = n := by omega
  rw [e, Bool.and_eq_true] at this
  exact ⟨of_decide_eq_true this.1, fun c hc => of_decide_eq_true (List.all_eq_true.mp this.2 c hc)⟩
theorem textI_read {n : Int} (h1 : -100 < n) (h2 : n < 100) : lawIL (tl (textI n)) = some n := by
  have key : (List.range 200).all (fun i => decide (lawIL (tl (textI ((i : Int) - 100))) = some ((i : Int) - 100))) = true := by decide +kernel
  have := List.all_eq_true.mp key (n + 100).toNat (List.mem_range.mpr (by omega))
  have e : (((n + 100).toNat : Nat) : Int) - 100 = n := by omega
  rw [e] at this
  exact of_decide_eq_true this
theorem textF_read {t b : Int} (hf : FrOk t b) (ht : -100 < t ∧ t < 100) (hb : b < 100) : lawFL (tl (textF t b)) = some (t, b) ∧ (textF t b).length ≤ 7 ∧ ∀ c ∈ tl (textF t b), c ≠ 32 ∧ c < 128 := by
  have s1 := textI_short ht.1 ht.2
  have hb1 := hf.1
  have s2 := textI_short (n := b) (by omega) hb
  have n1 : 47 ∉ tl (textI t) := fun z => by have := s1.2 47 z; omega
  have n2 : 47 ∉ tl (textI b) := fun z => by have := s2.2 47 z; omega
  unfold textF
  by_cases h : b = 1
  · rw [if_pos h]
    refine ⟨?_, by omega, fun c hc => by have := s1.2 c hc; omega⟩
    rw [lawFL_no n1, textI_read ht.1 ht.2, h]
    rfl
  · rw [if_neg h]
    have e : tl (textI t ++ "/" ++ textI b) = tl (textI t) ++ 47 :: tl (textI b) := by
      rw [tl_append, tl_append, tl_slash]
      simp
    refine ⟨?_, ?_, fun c hc => ?_⟩
    · rw [lawFL_at e n1, textI_read ht.1 ht.2, textI_read (by omega) hb]
      have g : gcdI t b = 1 := by
        unfold gcdI
        rw [hf.2]
        rfl
      dsimp only
      rw [if_pos ⟨by omega, g⟩]
    · rw [Str.length_append, Str.length_append, show ("/" : Str).length = 1 from by decide]
      omega
    · rw [e] at hc
      rcases List.mem_append.mp hc with z | z
      · have := s1.2 c z; omega
      · rcases List.mem_cons.mp z with z | z
        · omega
        · have := s2.2 c z; omega
/-- a drawn point's text: read back, short, plain -/
theorem textP_facts {p : PtN} (hp : p.Ok) (hl : p.Lit) : frs (textP p) = [fr p.a p.a', fr p.b p.b', fr p.c p.c'] ∧ Plain (textP p) 23 ∧ textP p = Txt.join " " [lawTF p.a p.a', lawTF p.b p.b', lawTF p.c p.c'] := by
  have fa := textF_read hp.a hl.a.1 hl.a.2
  have fb := textF_read hp.b hl.b.1 hl.b.2
  have fc := textF_read hp.c hl.c.1 hl.c.2
  have sp : Txt.split (textP p) " " = [textF p.a p.a', textF p.b p.b', textF p.c p.c'] := by
    unfold textP
    refine split_join tl_blank all_blank (by simp) ?_
    intro q hq
    simp only [List.mem_cons, List.not_mem_nil, or_false] at hq
    rcases hq with rfl | rfl | rfl
    · exact fun z => (fa.2.2 _ z).1 rfl
    · exact fun z => (fb.2.2 _ z).1 rfl
    · exact fun z => (fc.2.2 _ z).1 rfl
  refine ⟨?_, ⟨?_, ?_⟩, ?_⟩
  · unfold frs
    rw [sp]
    show [optF (lawFL _), optF (lawFL _), optF (lawFL _)] = _
    rw [fa.1, fb.1, fc.1]
    rfl
  · unfold textP
    rw [join3]
    simp only [Str.length_append]
    rw [show (" " : Str).length = 1 from by decide]
    omega
  · unfold textP
    rw [join3]
    have b1 : ∀ c ∈ tl (" " : Str), c < 128 := by rw [tl_blank]; decide
    exact Plain.app (Plain.app (fun c hc => (fa.2.2 c hc).2) b1) (Plain.app (Plain.app (fun c hc => (fb.2.2 c hc).2) b1) fun c hc => (fc.2.2 c hc).2)
  · have q1 := hp.a.1
    have q2 := hp.b.1
    have q3 := hp.c.1
    unfold textP
    rw [textF_law hl.a.1 ⟨by omega, hl.a.2⟩, textF_law hl.b.1 ⟨by omega, hl.b.2⟩, textF_law hl.c.1 ⟨by omega, hl.c.2⟩]
end DW

set_option Elab.async false
set_option linter.all false
set_option maxRecDepth 100000
set_option maxHeartbeats 1000000
namespace DW
variable [TabsC]
open PySem PySem.Spec PyProof.Rows L2 TL NumText
/-! ### k01: what its defs promise -/
def spTold : DSp := fun m ds k => ∃ w : Str, ds = [.d (.str w)] ∧ w.length < 60 ∧ k (.d (ptL w)) m
def spPtOk : DSp := fun m ds k => ∃ w : Str, ds = [.d (.str w)] ∧ w.length < 60 ∧ ptB (.tuple (frs w)) = true ∧ k (.d (.tuple (frs w))) m
def spPtNo (CB : Addr) : RSp := fun m ds ee => ∃ w : Str, ds = [.d (.str w)] ∧ w.length < 60 ∧ ptB (.tuple (frs w)) = false ∧ ee CB (.str w) m
def spFracTxt : DSp := fun m ds k => ∃ t b : Int, ds = [.d (fr t b)] ∧ t.natAbs < 10 ^ 60 ∧ b.natAbs < 10 ^ 60 ∧ k (.d (.str (lawTF t b))) m
def spPtTxt : DSp := fun m ds k => ∃ p : PtN, ds = [.d p.d] ∧ p.Ok ∧ p.Lit ∧ k (.d (.str (textP p))) m
def spBent : DSp := fun m ds k => ∃ a w, ds = [.r (.ref a), .d (.str w)] ∧ m.p = some a ∧ m.n < 90000 ∧ Plain w 23 ∧ ∀ z, Plain z 59 → k (.d (.str z)) (m.drawn 3)
theorem ptL_t {w : Str} (h : ptB (.tuple (frs w)) = true) : ptL w = .tuple (frs w) := if_pos h
theorem ptL_f {w : Str} (h : ptB (.tuple (frs w)) = false) : ptL w = .none := if_neg (by rw [h]; exact Bool.false_ne_true)
theorem lawTF_len {t b : Int} (h1 : t.natAbs < 10 ^ 60) (h2 : b.natAbs < 10 ^ 60) : (lawTF t b).length ≤ 4010 := by
  have l1 := int_text_len_1921 (i := t) (log60 h1)
  have l2 := int_text_len_1921 (i := b) (log60 h2)
  unfold lawTF
  split
  · omega
  · simp only [Str.length_append]
    have e1 : ("/" : Str).length = 1 := by decide
    omega
theorem cut2_len {w : Str} (h : w.length ≤ 23) {a b c d : Option Int} : (cutS w a b).length + (cutS w c d).length ≤ 10000000 := by
  have := cutS_length w a b
  have := cutS_length w c d
  omega
theorem cut3_len {w g : Str} (h : w.length ≤ 23) (hg : g.length ≤ 1) {a b : Option Int} : (cutS w a b).length + g.length ≤ 10000000 := by
  have := cutS_length w a b
  omega
theorem cut4_len {w g : Str} (h : w.length ≤ 23) (hg : g.length ≤ 1) {a b c d : Option Int} : (cutS w a b ++ g).length + (cutS w c d).length ≤ 10000000 := by
  have := cutS_length w a b
  have := cutS_length w c d
  rw [Str.length_append]
  omega
theorem plain2 {w : Str} (h : Plain w 23) {a b c d : Option Int} : Plain (cutS w a b ++ cutS w c d) 59 := by
  refine ⟨?_, Plain.app (h.cut a b).2 (h.cut c d).2⟩
  have := (h.cut a b).1
  have := (h.cut c d).1
  rw [Str.length_append]
  omega
theorem plain3 {w g : Str} (h : Plain w 23) (hg : Plain g 1) {a b c d : Option Int} : Plain (cutS w a b ++ g ++ cutS w c d) 59 := by
  refine ⟨?_, Plain.app (Plain.app (h.cut a b).2 hg.2) (h.cut c d).2⟩
  have := (h.cut a b).1
  have := (h.cut c d).1
  have := hg.1
  rw [Str.length_append, Str.length_append]
  omega
def plainB (g : Str) : Bool := decide (g.length ≤ 1) && (tl g).all fun c => decide (c < 128)
theorem plain_of {g : Str} (h : plainB g = true) : Plain g 1 := by
  unfold plainB at h
  rw [Bool.and_eq_true] at h
  exact ⟨of_decide_eq_true h.1, fun c hc => of_decide_eq_true (List.all_eq_true.mp h.2 c hc)⟩
theorem sign_mem {gs : List Str} (hg : gs.all plainB = true) {x : PyData} (h : x ∈ gs.map PyData.str) : ∃ g, x = .str g ∧ Plain g 1 := by
  obtain ⟨g, h1, rfl⟩ := List.mem_map.mp h
  exact ⟨g, rfl, plain_of (List.all_eq_true.mp hg g h1)⟩
/-! sizes of what is shown -/
theorem Sz.weak {d : PyData} {p q a b : Nat} (h : Sz d p a) (h1 : p ≤ q) (h2 : a ≤ b) : Sz d q b := ⟨h.sh, h.nd, Nat.le_trans h.dp h1, Nat.le_trans h.ln h2⟩
theorem szFr {t b : Int} (h1 : t.natAbs < 10 ^ 60) (h2 : b.natAbs < 10 ^ 60) : Sz (fr t b) 2 4007 :=
  (Sz.tup (.cons (Sz.int (log60 h1)) (.cons (Sz.int (log60 h2)) .nil))).weak (by decide) (by decide)
theorem sz3 {a b c : PyData} (h1 : Sz a 2 4007) (h2 : Sz b 2 4007) (h3 : Sz c 2 4007) : Sz (.tuple [a, b, c]) 3 20000 :=
  (Sz.tup (.cons h1 (.cons h2 (.cons h3 .nil)))).weak (by decide) (by decide)
theorem szPt {p : PtN} (h : p.Ok) : Sz p.d 3 20000 :=
  sz3 (szFr (smAbs h.sa.1) (smAbs h.sa.2)) (szFr (smAbs h.sb.1) (smAbs h.sb.2)) (szFr (smAbs h.sc.1) (smAbs h.sc.2))
theorem cutL_le (l : List Nat) : (cutL 47 l).1.length ≤ l.length ∧ ∀ b, (cutL 47 l).2 = some b → b.length ≤ l.length := by
  cases q : (cutL 47 l).2 with
  | none =>
    have := (cutL_none q).1
    exact ⟨by rw [this]; exact Nat.le_refl _, fun b h => (by cases h)⟩
  | some b =>
    obtain ⟨e, _⟩ := cutL_some q
    have := congrArg List.length e
    rw [List.length_append, List.length_cons] at this
    exact ⟨by omega, fun b' h => by cases h; omega⟩
theorem lawFL_small {l : List Nat} {t b : Int} (hl : l.length < 60) (h : lawFL l = some (t, b)) : t.natAbs < 10 ^ 60 ∧ b.natAbs < 10 ^ 60 := by
  obtain ⟨c1, c2⟩ := cutL_le l
  unfold lawFL at h
  split at h
  · cases q : lawIL l with
    | none => rw [q] at h; cases h
    | some n => rw [q] at h; cases h; exact ⟨lawIL_small hl q, by decide⟩
  · rename_i B hB
    split at h
    · rename_i t1 d1 q1 q2
      split at h
      · cases h
        exact ⟨lawIL_small (by omega) q1, lawIL_small (by have := c2 _ hB; omega) q2⟩
      · cases h
    · cases h
theorem szOptF {l : List Nat} (hl : l.length < 60) : Sz (optF (lawFL l)) 2 4007 := by
  cases q : lawFL l with
  | none => exact Sz.non.weak (by decide) (by decide)
  | some z =>
    obtain ⟨t, b⟩ := z
    obtain ⟨h1, h2⟩ := lawFL_small hl q
    exact szFr h1 h2
theorem szFrs {w : Str} (hl : w.length < 60) (h : ptB (.tuple (frs w)) = true) : Sz (.tuple (frs w)) 3 20000 := by
  have h3 : (frs w).length = 3 := by
    rw [frs_ptB, Bool.and_eq_true] at h
    exact of_decide_eq_true h.1
  have hall : ∀ z ∈ frs w, Sz z 2 4007 := fun z hz => by
    obtain ⟨s, hs, rfl⟩ := List.mem_map.mp hz
    have := split_le tl_blank all_blank hs
    exact szOptF (by rw [tl_len]; omega)
  generalize frs w = xs at h3 hall
  match xs, h3 with
  | [a, b, c], _ => exact sz3 (hall a (by simp)) (hall b (by simp)) (hall c (by simp))
/-! words -/
theorem nums_in1 {w : Str} (h : 47 ∉ tl w) (n : Int) (q : lawIL (tl w) = some n) : nums w = [.int n] := by rw [nums_one h, q]; rfl
theorem lawFL_more {w : Str} {A B : List Nat} (h : tl w = A ++ 47 :: B) (hA : 47 ∉ A) (hB : 47 ∈ B) : lawFL (tl w) = none := by
  rw [lawFL_at h hA, lawIL_slash hB]
  cases lawIL A <;> rfl
theorem tl_parts {w : Str} {A B : List Nat} (h : tl w = A ++ 47 :: B) : A.length + B.length + 1 = w.length := by
  have := congrArg List.length h
  rw [tl_len, List.length_append, List.length_cons] at this
  omega
theorem tup2_shaped (a b : Int) : SeqAt.shaped (.tuple [.int a, .int b]) = true := fr_shaped a b
theorem ne_t {p : Prop} [Decidable p] (h : ¬ p) : ¬ ((!decide p) = false) := fun e => by rw [decide_eq_false h] at e; cases e
theorem non_shaped : SeqAt.shaped PyData.none = true := (optD_lay none).2.2
theorem point_tuple {p : PtN} (h : frs (textP p) = [fr p.a p.a', fr p.b p.b', fr p.c p.c']) : PyData.tuple (frs (textP p)) = p.d := by
  rw [h]; rfl
end DW

set_option Elab.async false
set_option linter.all false
set_option maxRecDepth 100000
set_option maxHeartbeats 2000000
namespace PySem
namespace ErrX
open PySem.W PySem.Calls PyProof.Rows PySem.HandSPX
theorem err_mk {K : Frag} {h : Heap} {mg : Str → Option Value} {x : Str} {C fI : Addr} (X : K.In h) (G : h.Ns mainGlobals mg)
    {nm q : Str} {N : Addr} {bs bm : List Value} {sn : List Str} {sub : List Value} {ab : Bool} {col : Option Bool} {dd : Option Addr} {m0 m1 m2 m3 m5 : Option Value}
    {od an : Option Addr} {sl : Array (Option Value)} {oc dc pm cd ct : Value} {p1 p2 q1 q2 q3 q4 : Pos}
    (aC : nsIn K mainGlobals x = some (some (.ref C))) (xL : K.lookup C = some (excClassObj nm q C N bs bm true sn sub ab col dd m0 m1 m2 m3 m5 "ValueError.__new__")) (rv : refsVE bm = true)
    (sa : findIn K (.ref C) "__setattr__" = some (some (.builtin "object.__setattr__"))) (ga : findIn K (.ref C) "__getattribute__" = some (some (.builtin "BaseException.__getattribute__"))) (gg : findIn K (.ref C) "__getattr__" = some none) (nv : findIn K (.ref C) "value" = some none)
    (a1 : findIn K (.ref C) "__init__" = some (some (.ref fI))) (t1 : typeIn K (.ref fI) = some (.type "function"))
    (l1 : K.lookup fI = some ⟨oc, od, .func (fnOf "__init__" "ReachError.__init__" (iArgs p1 p2) (iBody q1 q2 q3 q4) iScope .none .none dc pm an cd ct), sl⟩) (c1 : codeIn K cd "ReachError.__init__" = true)
    (kC : keepIn K (.ref C) = true) (eC : subIn K (.ref C) (.type "BaseException") = some true) (tC : typeIn K (.ref C) = some (.type "type")) (hC : hasDictIn K C = true)
    (ca : findIn K (.ref C) "__class__" = some (some (.builtin "object.__class__"))) (mo : mroIn K C (.type "object") = some true) : ErrTxt K mg x C fI where
  gC := mg_of X G aC
  cls := ⟨nm, q, N, bs, bm, sn, sub, ab, col, dd, m0, m1, m2, m3, m5, xL, rv⟩
  sa := sa
  ga := ga
  gg := gg
  noV := nv
  iC := a1
  tC := t1
  kC := kC
  exC := eC
  tyC := tC
  hdC := hC
  ca := ca
  mo := mo
  fn := ⟨oc, od, dc, pm, an, cd, ct, sl, p1, p2, q1, q2, q3, q4, l1, c1⟩
theorem tabIn_mk {K : Frag} {x : Str} {f c P : Addr} {oc oc2 : Value} {od od2 : Option Addr} {fd : FuncData} {sl sl2 : Array (Option Value)} {vs : Array Value} (a : nsIn K mainGlobals x = some (some (.ref f)))
    (l : K.lookup f = some ⟨oc, od, .func fd, sl⟩) (hc : fd.code = .ref c) (lc : K.lookup c = some ⟨oc2, od2, .fields vs, sl2⟩) (e : vs[11]? = some (.ref P)) : tabIn K x = some (c, P) := by
  unfold tabIn
  rw [a]
  dsimp only
  rw [l]
  dsimp only
  rw [hc]
  dsimp only
  rw [lc]
  dsimp only
  rw [e]
end ErrX
end PySem

set_option Elab.async false
set_option linter.all false
set_option maxRecDepth 100000
set_option maxHeartbeats 1000000
namespace DW
variable [TabsC]
open PySem PySem.Spec PyProof.Rows L2 TL NumText
/-! ### k40: rules -/
def leS (i j : Str) : Bool := !decide (j.cps.toList < i.cps.toList)
section
variable {X : Cx} {env : DEnv} {m : Me} {k : Dat → Me → Prop} {kb : Bool → Me → Prop} {a b c e o : Expr} {pos p : Pos} {cpos apos : Pos}
/-- a <= b <= c of texts -/
theorem wE_lele (h : wE X a env m fun dx m1 => wE X b env m1 fun dy m2 => ∃ i j : Str, dx = .d (.str i) ∧ dy = .d (.str j) ∧ (leS i j = true → wE X c env m2 fun dz m3 => ∃ l : Str, dz = .d (.str l) ∧ k (.d (.bool (leS j l))) m3) ∧ (leS i j = false → k (.d (.bool false)) m2))
    (hm : lastMarks [.LtE, .LtE] [b, c] = false := by with_unfolding_all rfl) : wE X (.Compare a [.LtE, .LtE] [b, c] pos) env m k :=
  wE_of (pe_chain op_le_str op_le_str peW peW peW hm) fun σ H Q he hm hq => h σ H _ he hm fun v d m1 H1 e1 hm1 dv h1 => h1 σ H1 _ (he.mono e1) hm1 fun v2 d2 m2 H2 e2 hm2 dv2 ⟨i, j, q1, q2, h2, h3⟩ => by
    subst q1 q2
    cases dv
    cases dv2
    refine ⟨i, j, rfl, rfl, leS i j, rfl, ?_⟩
    cases z : leS i j with
    | true =>
      rw [if_pos rfl]
      refine h2 z σ H2 _ (he.mono (e1.trans e2)) hm2 fun v3 d3 m3 H3 e3 hm3 dv3 ⟨l, q3, hk⟩ => ?_
      subst q3
      cases dv3
      exact ⟨j, l, rfl, rfl, hq _ _ m3 H3 ((e1.trans e2).trans e3) hm3 dv_bl hk⟩
    | false =>
      rw [if_neg Bool.false_ne_true]
      exact hq _ _ m2 H2 (e1.trans e2) hm2 dv_bl (h3 z)
/-- l.index(x) -/
theorem wE_index (hu : X.A.units + 65 < cLine) (h : wE X o env m fun d m1 => ∃ ds, d = .d (.list ds) ∧ wE X e env m1 fun d2 m2 => ∃ (y : PyData) (j : Nat) (z : PyData), d2 = .d y ∧ SeqAt.shaped (.list ds) = true ∧ SeqAt.shaped y = true ∧ ds[j]? = some z ∧ PyData.eqv z y = true ∧
      (∀ (i : Nat) (z' : PyData), i < j → ds[i]? = some z' → PyData.eqv z' y = false) ∧ k (.d (.int (j : Nat))) m2)
    (hbase : attributeBase o "index" X.env (eval o X.env) = eval o X.env := by rfl)
    (hfew : ((backTo cpos (starEach [e] X.env)).all (fun x => !x.1) && (backToKw cpos (keywordEach [] X.env)).all (fun x => x.1.isSome) && decide (([e] : List Expr).length + ([] : List Keyword).length + (if ([] : List Keyword).isEmpty then 0 else 1) < 30)) = true := by rfl)
    (hline : (apos.endLine == cpos.line) = true := by rfl) (hs : starEach [e] X.env = (false, eval e X.env) :: starEach [] X.env := by rfl) (hplain : (backTo cpos (starEach [] X.env)).any (·.1) = false := by rfl) :
    wE X (.Call (.Attribute o "index" apos) [e] [] cpos) env m k :=
  wE_of (pe_bm PySem.F.plainAttrs_list PySem.F.slot_list_index PySem.F.type_list_index (mt_indexD hu) peW (pa_cons peW pa_nil hs) hbase hfew hline hs hplain) fun σ H Q he hm hq =>
    h σ H _ he hm fun v d m1 H1 e1 hm1 dv ⟨ds, q1, h2⟩ => by
      subst q1
      cases dv with
      | lst hs ha =>
        rename_i ad vs
        refine ⟨.inl ⟨rfl, vs, hid_sub.seq hs⟩, h2 σ H1 _ (he.mono e1) hm1 ?_⟩
        rintro w d2 m2 H2 e2 hm2 dw ⟨y, j, z, rfl, s1, s2, hz, hq1, hno, hk⟩
        exact ⟨ad, w, y, ds, j, z, rfl, rfl, dp_mono hid_sub _ _ (dp_mono e2 _ _ (.lst hs ha)), dp_mono hid_sub _ _ dw, s1, s2, hz, hq1, hno, hq _ _ m2 H2 (e1.trans e2) hm2 dv_int hk⟩
end
section
variable {P : Program} {w : World} {K : PySem.W.Frag} {mg : Str → Option Value} {base : Heap}
/-- a def whose promise is told of the very state -/
theorem fnDS {x qual : Str} {st : Stmt} {f : Addr} {fd : FuncData} {N ps : List Str} {k : Nat} {sp : DSpS} (F : Fun K x qual st f fd) (S : FnScope N ps (defScope st))
    (hb : ∀ (cdv : Value) (A : Around) (outer : List Env) (s : Shared) (H : Hp) (E : XK), RoomG k (bX P w K mg base N qual st f cdv A outer s H E).A → ∀ m ds kk, sp outer s H m ds kk → ds.length = ps.length →
      wSs (bX P w K mg base N qual st f cdv A outer s H E) (defBody st) (env0 N ds) m { nx := fun _ m' => kk (.d .none) m', rt := kk }) : FnS P w K mg base CX0 (k + 1) f fd ps (spDS K ps.length sp) := by
  refine fnS_of F S (fun outer s vs H Q E h => h.1) (fun cdv A outer s H vs Q E hr ⟨hl, m, ds, kk, hm, dvs, hw, hq⟩ => ?_)
  refine ⟨_, (pssW (X := bX P w K mg base N qual st f cdv A outer s H E)).nox, ?_⟩
  refine hb cdv A outer s H E hr m ds kk hw (by rw [← dvs.len]; exact hl) _ H _ (envOk0 dvs) hm ?_
  exact ⟨fun σ env m' H' e1 he hm1 hk => hq _ _ m' H' e1 hm1 dv_non hk, fun v d m' H' => hq v d m' H', fun _ _ _ _ _ _ _ h => h, fun _ _ _ _ _ _ _ h => h⟩
end
end DW

set_option Elab.async false
set_option linter.all false
set_option maxRecDepth 100000
set_option maxHeartbeats 1000000
namespace DW
variable [TabsC]
open PySem PySem.Spec PyProof.Rows L2
/-! ### instances that never change: attributes, methods -/
theorem lookup_memS {α : Type} {f : Str} {x : α} : ∀ {ds : List (Str × α)}, ds.lookup f = some x → (f, x) ∈ ds
  | [], h => by cases h
  | (g, y) :: r, h => by
    rw [List.lookup_cons] at h
    cases q : f == g with
    | true => rw [q] at h; cases h; rw [eq_of_beq q]; exact .head _
    | false => rw [q] at h; exact .tail _ (lookup_memS h)
section
variable {X : Cx} {env : DEnv} {m : Me} {k : Dat → Me → Prop} {o e : Expr} {es : List Expr} {f mt : Str} {pos apos : Pos} {C : Addr}
/-- an attribute's word told as a value -/
def Fd (K : PySem.W.Frag) (φ : Hp → V → Prop) (x : Dat) : Prop := ∀ m H v, φ (hid m H) v → DV K m H v x
theorem fd_d {K : PySem.W.Frag} {x : PyData} : Fd K (vd K x) (.d x) := fun _ _ _ h => h
theorem fd_k {K : PySem.W.Frag} {ks : List (List Int)} : Fd K (vk K ks) (.k ks) := fun _ _ _ h => h
theorem fd_o {K : PySem.W.Frag} {C : Addr} {fs : List (Str × (Hp → V → Prop))} : Fd K (vo C fs) (.o C fs) := fun _ _ _ h => h
/-- e.f -/
theorem wE_fld (h : wE X e env m fun d m1 => ∃ C fs φ x, d = .o C fs ∧ Cls X.K C ∧ NoAttr X.K C f ∧ fs.lookup f = some φ ∧ Fd X.K φ x ∧ k x m1) (hb : attributeBase e f X.env (eval e X.env) = eval e X.env := by rfl) : wE X (.Attribute e f pos) env m k :=
  wE_of (pe_fld peW hb) fun σ H Q he hm hq => h σ H _ he hm fun v d m1 H1 e1 hm1 dv ⟨C, fs, φ, x, q, hc, hn, hl, hf, hk⟩ => by
    subst q
    obtain ⟨y, dx, us, rfl, h1, h2, _⟩ := dv
    obtain ⟨_, u, hu, hd⟩ := h2 _ (lookup_memS hl)
    exact ⟨y, C, dx, us, u, rfl, hid_sub _ _ h1, hc, hn, hu, hq _ x m1 H1 e1 hm1 (hf _ _ _ hd) hk⟩
theorem pe_methG {ta : TE} {t : TA} {f : Addr} {fd : FuncData} {ps : List Str} {sp : Sp} {dvs : List V} {ds : List Value} {E : XK} {CX : CXT} {j : Nat} {pl : Sem Bool} (he : PE X o ta) (c : Cls X.K C) (hm : Meth X.K C mt f) (F : FnG X.prog X.w X.K X.mg X.base CX j f fd ps sp) (hr : RoomG j X.A)
    (hb : Binds X.K fd ps ds) (hd : Vals dvs ds) (hx : Passes CX X E) (ha : PA X (e :: es) t)
    (hst : starEach (e :: es) X.env = (false, eval e X.env) :: starEach es X.env := by rfl) (hpl : (backTo pos (starEach es X.env)).any (·.1) = false := by rfl)
    (ht : eval (.Call (.Attribute o mt apos) (e :: es) [] pos) X.env = (do
      let ov ← eval o X.env
      standAt apos.atName
      let (f, first) ← holding [ov] (getMethod ov mt pl)
      callWith pos f first (backTo pos (starEach (e :: es) X.env)) (backToKw pos (keywordEach [] X.env))) := by rfl) :
    PE X (.Call (.Attribute o mt apos) (e :: es) [] pos) (tMeth C mt sp dvs E ta t) := by
  refine ⟨fun pins s σ H Q I h => ?_⟩
  refine PySem.W.methodCall_KW (pl := pl) (thn (he.run pins s σ H _ I h) fun u s1 ⟨x, H1, I1, rx, a, dx, fs, ex, ea, l, q⟩ => ?_) ht
  subst ex
  obtain rfl : u = Value.ref a := rx
  refine getmeth_ok I1 ea c hm l ?_
  refine PySem.W.callWith_K (first := [.ref a]) (h₀ := X.base) I.ok.mod.kin hm.kp (thn (ha.run pos pins s1 σ H1 _ I1 q) fun us s2 ⟨vs, H2, I2, r, q2⟩ => ⟨I2.kIn, ?_⟩) hst hpl
  have r2 : Vals (V.ref a :: (vs ++ dvs)) (Value.ref a :: (us ++ ds)) := .cons rfl (r.append hd)
  exact runG (args := ⟨Value.ref a :: us, []⟩) F hr hx I2 (fun hl => by
    have := hb s2 (Value.ref a :: us) I2.kIn (by simpa using hl)
    simpa using this) r2 q2
/-- o.m(e, ..) -/
theorem wE_meth {f : Addr} {fd : FuncData} {ps : List Str} {sp : DSp} {j n : Nat} {pl : Sem Bool} (c : Cls X.K C) (hm : Meth X.K C mt f) (F : FnG X.prog X.w X.K X.mg X.base CX0 j f fd ps (spD X.K n sp)) (hr : RoomG j X.A) (hb : Binds X.K fd ps [])
    (h : wE X o env m fun d m1 => ∃ fs, d = .o C fs ∧ mt ∉ fs.map (·.1) ∧ wA X (e :: es) env m1 fun as m2 => as.length + 1 = n ∧ sp m2 (.o C fs :: as) k)
    (hst : starEach (e :: es) X.env = (false, eval e X.env) :: starEach es X.env := by rfl) (hpl : (backTo pos (starEach es X.env)).any (·.1) = false := by rfl)
    (ht : eval (.Call (.Attribute o mt apos) (e :: es) [] pos) X.env = (do
      let ov ← eval o X.env
      standAt apos.atName
      let (f, first) ← holding [ov] (getMethod ov mt pl)
      callWith pos f first (backTo pos (starEach (e :: es) X.env)) (backToKw pos (keywordEach [] X.env))) := by rfl) : wE X (.Call (.Attribute o mt apos) (e :: es) [] pos) env m k :=
  wE_of (pe_methG (E := fun _ _ _ => False) (dvs := []) (ds := []) peW c hm F hr hb .nil pass0 paW hst hpl ht) fun σ H Q he hm0 hq => h σ H _ he hm0 fun v d m1 H1 e1 hm1 dv ⟨gs, q, h1, h3⟩ => by
    subst q
    have dv0 : DVo (hid m1 H1) v C gs := dv
    obtain ⟨y, dx, us, rfl, g1, g2, g6⟩ := dv
    refine ⟨y, dx, us, rfl, hid_sub _ _ g1, g6 mt h1, h3 σ H1 _ (he.mono e1) hm1 fun vs as m2 H2 e2 hm2 dvs ⟨hl, hw⟩ => ?_⟩
    rw [List.append_nil]
    exact ⟨by rw [List.length_cons, dvs.len]; exact hl, m2, .o C gs :: as, k, hm2, .cons (DVo.mono e2 dv0) dvs, hw, fun v d m' H' e3 => hq v d m' H' ((e1.trans e2).trans e3)⟩
/-! ### making: C(e, ..) -/
/-- what __init__ promises: self, at x, is new and bare at the entry (the heap ahead of it: H0); at the end it is what d tells -/
def spI (K : PySem.W.Frag) (C : Addr) (n : Nat) (w : DSp) : Sp := fun vs H Q _ => vs.length = n + 1 ∧ ∃ (x dx : Addr) (us : List V) (H0 : Hp) (m : Me) (ds : List Dat) (k : Dat → Me → Prop), vs = .ref x :: us ∧
  H0 x = none ∧ H0 dx = none ∧ dx ≠ x ∧ H = upd (upd H0 dx (.own x)) x (.ins C dx []) ∧ MemOk K m H0 ∧ DVs K m H0 us ds ∧ w m ds k ∧
  ∀ d m' H', Ext m H0 m' H' → MemOk K m' H' → DV K m' H' (.ref x) d → k d m' → Q .non H'
theorem pe_makeG {f : Addr} {fd : FuncData} {ps : List Str} {sp : Sp} {dvs : List V} {ds : List Value} {E : XK} {CX : CXT} {j : Nat} {x : Str} {p : Pos} {t : TA} (M : Mk X.K C f) (F : FnG X.prog X.w X.K X.mg X.base CX j f fd ps sp) (hr : RoomG (j + 1) X.A) (hg : Gl X x) (hm : X.mg x = some (.ref C)) (hb : Binds X.K fd ps ds) (hd : Vals dvs ds) (hx : Passes CX X E)
    (ha : PA X (e :: es) t) (hdb : (x == ("__debug__" : Str)) = false := by decide) (he : starEach (e :: es) X.env = (false, eval e X.env) :: starEach es X.env := by rfl) (hpl : (backTo pos (starEach es X.env)).any (·.1) = false := by rfl) :
    PE X (.Call (.Name x p) (e :: es) [] pos) (tMake C sp dvs E t) := by
  refine ⟨fun pins s σ H Q I h => ?_⟩
  refine wpAny_Call_Name_kw (ld_glob I hg hm ?_ hdb)
  refine PySem.W.callWith_K (h₀ := X.base) I.ok.mod.kin M.kp (thn (ha.run pos pins s σ H _ I h) fun us s1 ⟨vs, H1, I1, r, q⟩ => ⟨I1.kIn, ?_⟩) he hpl
  have hq := q (s1.heap.objs.size + 1) s1.heap.objs.size (I1.hok.fresh (Nat.le_succ _)) (I1.hok.fresh (Nat.le_refl _)) (Nat.ne_of_lt (Nat.lt_succ_self _))
  have I2 := Inv.made (C := C) I1
  have r2 : Vals (V.ref (s1.heap.objs.size + 1) :: (vs ++ dvs)) (Value.ref (s1.heap.objs.size + 1) :: (us ++ ds)) := .cons rfl (r.append hd)
  have hl : (Value.ref (s1.heap.objs.size + 1) :: us ++ ds).length = ps.length := by
    have e := r2.length
    rw [F.len _ _ _ _ hq] at e
    exact e.symm
  refine wpAny_call (make_map (f := f) I1.kIn M.makes M.init (beq_iff_eq.mp M.fn) (codeAny_mono (F.go _ X.stack _ _ ⟨Value.ref (s1.heap.objs.size + 1) :: us, []⟩ (Value.ref (s1.heap.objs.size + 1) :: (us ++ ds)) _ _ E ⟨hr.room.make C us [], hr.gd⟩
    (I2.env0.make C us []) (hb _ (Value.ref (s1.heap.objs.size + 1) :: us) I2.kIn hl) r2 hq) fun r s' hq' => ?_))
  cases r with
  | error e => exact hx pins σ _ _ e s' I2 hq'
  | ok fl =>
    cases fl with
    | ret u =>
      obtain ⟨v, H', I3, rv, ev, q3⟩ := I2.after hq'
      subst ev
      exact ⟨rv, ⟨V.ref (s1.heap.objs.size + 1), H', I3, rfl, q3⟩⟩
    | next => exact False.elim hq'
    | brk => exact False.elim hq'
    | cont => exact False.elim hq'
/-- C(e, ..) -/
theorem wE_make {f : Addr} {fd : FuncData} {ps : List Str} {w : DSp} {j n : Nat} {x : Str} {p : Pos} (M : Mk X.K C f) (F : FnG X.prog X.w X.K X.mg X.base CX0 j f fd ps (spI X.K C n w)) (hr : RoomG (j + 1) X.A) (hg : Gl X x) (hm0 : X.mg x = some (.ref C)) (hb : Binds X.K fd ps [])
    (h : wA X (e :: es) env m fun ds m1 => ds.length = n ∧ w m1 ds k) (hdb : (x == ("__debug__" : Str)) = false := by decide)
    (hs : starEach (e :: es) X.env = (false, eval e X.env) :: starEach es X.env := by rfl) (hpl : (backTo pos (starEach es X.env)).any (·.1) = false := by rfl) : wE X (.Call (.Name x p) (e :: es) [] pos) env m k :=
  wE_of (pe_makeG (E := fun _ _ _ => False) (dvs := []) (ds := []) M F hr hg hm0 hb .nil pass0 paW hdb hs hpl) fun σ H Q he hm hq =>
    h σ H _ he hm fun vs ds m1 H1 e1 hm1 dvs ⟨hl, hw⟩ y dx ny nd ne => by
      rw [List.append_nil]
      exact ⟨by rw [List.length_cons, dvs.len, hl], y, dx, vs, H1, m1, ds, k, rfl, ny, nd, ne, rfl, hm1, dvs, hw, fun d m' H' e2 hm2 dv hk => ⟨rfl, hq _ d m' H' (e1.trans e2) hm2 dv hk⟩⟩
end
/-! ### x == y by an own __eq__ -/
section
variable {X : Cx} {env : DEnv} {m : Me} {k : Dat → Me → Prop} {a b : Expr} {pos : Pos} {C : Addr}
/-- x an instance of the class at C whose __eq__ is at g; y an instance too (of C, or of a class that is not asked first), or data -/
def rEqO (K : PySem.W.Frag) (C : Addr) (sp : Sp) (E : XK) : R2 := fun x y H Q => ∃ p dx fs, x = .ref p ∧ H p = some (.ins C dx fs) ∧ (∃ q C' dy gs, y = .ref q ∧ H q = some (.ins C' dy gs) ∧ PySem.W.notFirst K C (.ref C') = true) ∧ sp [x, y] H Q E
theorem op_eqO {g : Addr} {fd : FuncData} {ps : List Str} {sp : Sp} {E : XK} {CX : CXT} {n : Nat} (hs : PySem.W.findIn X.K (.ref C) "__eq__" = some (some (.ref g))) (hf : PySem.W.isFn X.K (.ref g) = true) (F : FnG X.prog X.w X.K X.mg X.base CX n g fd ps sp)
    (hr : RoomG n X.A) (hb : Binds X.K fd ps []) (hx : Passes CX X E) : OpR X (compareOp .Eq) (rEqO X.K C sp E) := by
  intro pins s σ H x y v u Q I rx ry h
  obtain ⟨p, dx, fs, rfl, hp, ⟨q, C', dy, gs, rfl, hq, hn⟩, hsp⟩ := h
  cases (show v = Value.ref p from rx)
  cases (show u = Value.ref q from ry)
  obtain ⟨mA, O, _, _, _, _⟩ := ins_get I.hok hp
  obtain ⟨mB, O', _, _, _, _⟩ := ins_get I.hok hq
  obtain ⟨od, J, _⟩ := O.look
  obtain ⟨od', J', _⟩ := O'.look
  obtain ⟨mm, hF⟩ := I.fr
  show wpAny (model X.prog X.w) X.A (richCompare .Eq (.ref p) (.ref q)) (EP X pins σ Q) X.xe s
  refine PySem.W.cmp_K (op := .Eq) (tb := .ref C') hr.room.units0 hF I.ok.mod.kin J J'.type hn hs hf ?_
  refine wpAny_mono (runG (args := ⟨[.ref p, .ref q], []⟩) (us := [.ref p, .ref q]) (vs := [.ref p, .ref q]) F hr hx I (fun hl => by
    have := hb s [.ref p, .ref q] I.kIn (by simpa using hl)
    simpa using this) (.cons rfl (.cons rfl .nil)) hsp) (fun w s' z => ?_) fun _ _ x => x
  obtain ⟨z', H', I', rz, qz⟩ := z
  exact SlX.cmpback rz ⟨z', H', I', rz, qz⟩
/-- x == y of two instances -/
theorem wE_eqO {g : Addr} {fd : FuncData} {ps : List Str} {sp : DSp} {j : Nat} (hs : PySem.W.findIn X.K (.ref C) "__eq__" = some (some (.ref g))) (hf : PySem.W.isFn X.K (.ref g) = true) (F : FnG X.prog X.w X.K X.mg X.base CX0 j g fd ps (spD X.K 2 sp))
    (hr : RoomG j X.A) (hb : Binds X.K fd ps []) (h : wE X a env m fun d1 m1 => wE X b env m1 fun d2 m2 => ∃ fs C' fs', d1 = .o C fs ∧ d2 = .o C' fs' ∧ PySem.W.notFirst X.K C (.ref C') = true ∧ sp m2 [d1, d2] k) : wE X (.Compare a [.Eq] [b] pos) env m k :=
  wE_of (pe_cmpR (op_eqO (E := fun _ _ _ => False) hs hf F hr hb pass0) peW peW (nomark _)) fun σ H Q he hm hq => h σ H _ he hm fun v d1 m1 H1 e1 hm1 dv1 h1 => h1 σ H1 _ (he.mono e1) hm1 fun u d2 m2 H2 e2 hm2 dv2 ⟨fs, C', fs', q1, q2, hn, hw⟩ => by
    subst q1 q2
    have dv1' : DV X.K m2 H2 v (.o C fs) := DV.mono e2 dv1
    have dv2' : DV X.K m2 H2 u (.o C' fs') := dv2
    obtain ⟨y, dx, us, rfl, g1, _⟩ := (show DVo (hid m2 H2) v C fs from dv1')
    obtain ⟨y', dx', us', rfl, g1', _⟩ := (show DVo (hid m2 H2) u C' fs' from dv2')
    exact ⟨y, dx, us, rfl, hid_sub _ _ g1, ⟨y', C', dx', us', rfl, hid_sub _ _ g1', hn⟩, rfl, m2, [.o C fs, .o C' fs'], k, hm2, .cons dv1' (.cons dv2' .nil), hw, fun v d m' H' e3 => hq v d m' H' ((e1.trans e2).trans e3)⟩
end
end DW

set_option Elab.async false
set_option linter.all false
set_option maxRecDepth 100000
set_option maxHeartbeats 1000000
namespace DW
open PySem PySem.Spec PyProof.Rows PySem.F
section
variable {prog : Program} {w : World} {A : Around} {E : Value → Shared → Prop} {s : Shared} {K : PySem.W.Frag} {y C f : Addr} {ox : Obj} {od : Option Obj} {Q : Value → Shared → Prop}
/-- len(x) by an own __len__ -/
theorem len_own (X : K.In s.heap) (J : PySem.W.InstAt s.heap y ox C od) (hs : PySem.W.findIn K (.ref C) "__len__" = some (some (.ref f))) (hf : PySem.W.typeIn K (.ref f) = some (.type "function"))
    (h : wpAny (model prog w) A.in1 (call (.ref f) [.ref y]) (fun r s' => ∃ (n : Int) (t : Tok), r = .int n t ∧ 0 ≤ n ∧ n < 2 ^ 63 ∧ Q (.int n s'.toks) { s' with toks := s'.toks + 1 }) E s) :
    wpAny (model prog w) A (call (.builtin "len") [.ref y]) Q E s := by
  refine Calls.call_function_entry kind_len plain_len entry_len (args_len1 _) ?_
  unfold Builtin.«len»
  refine wpAny_bind (m := oneArg "len" _) (wpAny_pure ?_)
  refine wpAny_bind (m := callSpecial? (.ref y) (PySem.Str.ofString "__len__")) (PySem.W.special_fn X J hs hf (wpAny_mono h (fun r s' hr => ?_) fun _ _ z => z))
  obtain ⟨n, t, rfl, h0, h1, hq⟩ := hr
  refine wpAny_bind (wpAny_holding (wpAny_pure ?_))
  refine wpAny_bind (wpAny_letGo ?_)
  show wpAny _ _ (if n < 0 then _ else _) _ _ _
  rw [if_neg (by omega)]
  show wpAny _ _ (if n ≥ 2 ^ 63 then _ else _) _ _ _
  rw [if_neg (by omega)]
  exact wpAny_bind (wpAny_mkInt (wpAny_pure ⟨_, rfl, hq⟩))
end
variable [TabsC]
open L2
section
variable {X : Cx} {C : Addr}
def rLenO (C : Addr) (sp : Sp) (E : XK) : List V → Hp → VK → Prop := fun xs H Q => ∃ a dx fs, xs = [V.ref a] ∧ H a = some (.ins C dx fs) ∧ sp [.ref a] H (fun z H' => ∃ i : Int, z = .int i ∧ 0 ≤ i ∧ i < 2 ^ 63 ∧ Q z H') E
theorem call_lenO {g : Addr} {fd : FuncData} {ps : List Str} {sp : Sp} {E : XK} {CX : CXT} {n : Nat} (hs : PySem.W.findIn X.K (.ref C) "__len__" = some (some (.ref g))) (hf : PySem.W.typeIn X.K (.ref g) = some (.type "function")) (F : FnG X.prog X.w X.K X.mg X.base CX n g fd ps sp)
    (hr : RoomG (n + 1) X.A) (hb : Binds X.K fd ps []) (hx : Passes CX X E) : CallR X (.builtin "len") (rLenO C sp E) := by
  intro pins s σ H xs us Q I r h
  obtain ⟨a, dx, fs, rfl, ha, q⟩ := h
  obtain ⟨u, rfl, ru⟩ := r.one
  cases (show u = Value.ref a from ru)
  obtain ⟨mA, O, _, _, _, _⟩ := ins_get I.hok ha
  obtain ⟨od, J, _⟩ := O.look
  have hl : ([Value.ref a] : List Value).length = ps.length := by
    have := F.len _ _ _ _ q
    simpa using this
  refine len_own I.kIn J hs hf (wpAny_call (codeAny_mono (F.go X.A.in1 X.stack s H ⟨[.ref a], []⟩ [.ref a] [.ref a] _ E ⟨Room.in1 hr.room, hr.gd⟩ I.env0.in1 (by
    have := hb s [.ref a] I.kIn (by simpa using hl)
    simpa using this) (.cons rfl .nil) q) fun res s' hq => ?_))
  match res, hq with
  | .error e, hq => exact hx pins σ H s e s' I hq
  | .ok (.ret w), hq =>
    obtain ⟨z', H', I', rz, i, ei, h0, h1, qz⟩ := I.after hq
    subst ei
    obtain ⟨t, e⟩ := (show ∃ t, w = Value.int i t from rz)
    cases e
    exact ⟨i, t, rfl, h0, h1, .int i, H', I'.tok _, ⟨_, rfl⟩, qz⟩
  | .ok .next, hq => exact hq.elim
  | .ok .brk, hq => exact hq.elim
  | .ok .cont, hq => exact hq.elim
theorem wE_lenO {env : DEnv} {m : Me} {k : Dat → Me → Prop} {e : Expr} {p pos : Pos} {g : Addr} {fd : FuncData} {ps : List Str} {sp : DSp} {n : Nat} (hs : PySem.W.findIn X.K (.ref C) "__len__" = some (some (.ref g))) (hf : PySem.W.typeIn X.K (.ref g) = some (.type "function"))
    (F : FnG X.prog X.w X.K X.mg X.base CX0 n g fd ps (spD X.K 1 sp)) (hr : RoomG (n + 1) X.A) (hb : Binds X.K fd ps []) (hg : Gl X "len") (hm0 : X.mg "len" = none)
    (h : wE X e env m fun d m1 => ∃ fs, d = .o C fs ∧ sp m1 [d] fun d2 m2 => ∃ i : Int, d2 = .d (.int i) ∧ 0 ≤ i ∧ i < 2 ^ 63 ∧ k d2 m2)
    (hst : starEach [e] X.env = (false, eval e X.env) :: starEach [] X.env := by rfl) (hpl : (backTo pos (starEach [] X.env)).any (·.1) = false := by rfl) : wE X (.Call (.Name "len" p) [e] [] pos) env m k :=
  wE_of (pe_callB (call_lenO (E := fun _ _ _ => False) hs hf F hr hb pass0) hg hm0 (by decide +kernel) (pa_cons peW pa_nil hst) (by decide) (by decide) hst hpl) fun σ H Q he hm hq => h σ H _ he hm fun v d m1 H1 e1 hm1 dv ⟨fs, q, hw⟩ => by
    subst q
    have dv0 : DV X.K m1 H1 v (.o C fs) := dv
    obtain ⟨y, dx, us, rfl, g1, _⟩ := (show DVo (hid m1 H1) v C fs from dv)
    refine ⟨y, dx, us, rfl, hid_sub _ _ g1, rfl, m1, [.o C fs], _, hm1, .cons dv0 .nil, hw, fun v d m' H' e3 hm3 dv3 ⟨i, q, h0, h1, hk⟩ => ?_⟩
    subst q
    have dv4 := dv3
    cases dv3
    exact ⟨i, rfl, h0, h1, hq _ _ m' H' (e1.trans e3) hm3 dv4 hk⟩
/-- isinstance(x, C), x an instance of C -/
def fIsC (C : Addr) (_ : Me) (ds : List Dat) (k : Dat → Prop) : Prop := ∃ fs, ds = [.o C fs, .r (.ref C)] ∧ k (.d (.bool true))
theorem callD_isC {K : PySem.W.Frag} {C : Addr} : CallD K (fun xs H Q => ∃ a dx fs, xs = [V.ref a, .ref C] ∧ H a = some (.ins C dx fs) ∧ Q (.bl true) H) (fIsC C) := fun m H vs ds k Q hm dvs ⟨fs, e, hk⟩ hq => by
  subst e
  obtain ⟨v, v', rfl, d1, d2⟩ := dvs2 dvs
  obtain rfl : v' = .ref C := d2
  obtain ⟨y, dx, us, rfl, g1, _⟩ := (show DVo (hid m H) v C fs from d1)
  exact ⟨y, dx, us, rfl, hid_sub _ _ g1, hq _ _ H (Same.refl _) dv_bl hk⟩
end
end DW

set_option Elab.async false
set_option linter.all false
set_option maxRecDepth 100000
set_option maxHeartbeats 1000000
namespace DW
variable [TabsC]
open PySem PySem.Spec PyProof.Rows L2
/-! ### dicts whose keys are tuples of ints -/
abbrev tupI (k : List Int) : PyData := .tuple (k.map .int)
/-- the keys' order -/
def leK (a b : List Int) : Bool := decide (a ≤ b)
def srt (ks : List (List Int)) : List (List Int) := ks.mergeSort leK
theorem dataLe_tups {β : Type} (x : β → List Int) : PySem.W.dataLe false (fun b => tupI (x b)) = fun p q => leK (x p) (x q) := by
  funext p q
  show (!PySem.W.dataLt (.tuple ((x q).map .int)) (.tuple ((x p).map .int))) = _
  rw [PySem.W.dataLt_tuple]
  show (!PySem.W.rowLt ((x q).map .int) ((x p).map .int)) = _
  rw [PySem.W.dataLt_ints]
  unfold leK
  by_cases h : x q < x p
  · have h' : ¬ x p ≤ x q := fun r => List.not_lt.mpr r h
    simp [h, h']
  · have h' : x p ≤ x q := List.not_lt.mp h
    simp [h, h']
section
variable {P : Program} {w : World} {K : PySem.W.Frag} {H : Hp} {h : Heap} {D a : Addr} {xs : List (List Int × Addr)} {ns : List Int}
theorem ints_items : ∀ {ns : List Int} {its : List Value}, Vals (ns.map V.int) its → ItemsAre (intKind P w) ns its
  | [], _, .nil => .nil
  | n :: ns, _, .cons r t => by
    obtain ⟨k, rfl⟩ := (show ∃ t, _ = Value.int n t from r)
    exact .cons (by show Value.isInt n (.int n k) = true; simp [Value.isInt]) (ints_items t)
theorem key_sq (ok : HOk P w H h) (KX : K.In h) (e : SqT K H a (ns.map V.int)) : (tupleKind (intKind P w)).is h ns a := by
  obtain ⟨its, o, n, hv, h1, h2, h3⟩ := sqT_at ok KX e
  exact ⟨o, its.toArray, n, h1, h2, h3, by simpa using ints_items hv⟩
theorem dtO_ok (x : DtAt D xs h) : ObjOk P w H h D (dtO D xs) := by
  refine ⟨x, ?_, fun h1 h2 z k => ?_⟩
  · obtain ⟨_, _, o, es, ep, e, _⟩ := x
    exact ⟨o, e⟩
  · obtain ⟨a, b, o, es, ep, e, r⟩ := z
    exact ⟨a, b, o, es, ep, k o e, r⟩
theorem dtO_at (ok : HOk P w H h) (hD : H D = some (dtO D xs)) : DtAt D xs h := (ok D _ hD).1
abbrev kx (x : List Int × Addr) : List Int × Addr × Value := (x.1, x.2, .bool true)
theorem dtO_H (ok : HOk P w H h) (KX : K.In h) (hD : H D = some (dtO D xs)) (hk : ∀ x ∈ xs, SqT K H x.2 (x.1.map V.int)) : h.DictOfH (tupleKind (intKind P w)) D (xs.map kx) := by
  obtain ⟨_, _, o, es, ep, e1, e2, e3, e4, e5⟩ := dtO_at ok hD
  refine ⟨o, es, ep, e1, e2, e3, ?_, fun y hy => ?_, ?_⟩
  · rw [e4, List.map_map]
    rfl
  · obtain ⟨x, hx, rfl⟩ := List.mem_map.mp hy
    exact key_sq ok KX (hk x hx)
  · rw [List.map_map]
    exact e5
/-- stored once more -/
def putX (xs : List (List Int × Addr)) (ns : List Int) (b : Addr) : List (List Int × Addr) := if ns ∈ xs.map (·.1) then xs else xs ++ [(ns, b)]
theorem atKey_kx (ns : List Int) : (atKey (xs.map kx) ns).isSome = decide (ns ∈ xs.map (·.1)) := by
  unfold atKey
  rw [Option.isSome_map]
  cases q : ((xs.map kx).find? fun x => decide (x.1 = ns)) with
  | none =>
    rw [List.find?_eq_none] at q
    refine (decide_eq_false fun hm => ?_).symm
    obtain ⟨x, hx, rfl⟩ := List.mem_map.mp hm
    exact q (kx x) (List.mem_map_of_mem hx) (by simp)
  | some y =>
    have h1 := List.mem_of_find?_eq_some q
    have h2 := List.find?_some q
    obtain ⟨x, hx, rfl⟩ := List.mem_map.mp h1
    have h3 : x.1 = ns := of_decide_eq_true h2
    exact (decide_eq_true (by rw [← h3]; exact List.mem_map_of_mem hx)).symm
theorem stored_kx (ns : List Int) (b : Addr) : storedH (xs.map kx) ns b (.bool true) = (putX xs ns b).map kx := by
  unfold putX
  by_cases z : ns ∈ xs.map (·.1)
  · rw [if_pos z]
    have q : (atKey (xs.map kx) ns).isSome = true := by rw [atKey_kx, decide_eq_true z]
    unfold storedH
    rw [if_pos q, List.map_map]
    refine List.map_congr_left fun x _ => ?_
    show putAt ns (.bool true) (kx x) = kx x
    unfold putAt
    split <;> rfl
  · rw [if_neg z]
    have q : (atKey (xs.map kx) ns).isSome = false := by rw [atKey_kx, decide_eq_false z]
    unfold storedH
    rw [if_neg (by rw [q]; exact Bool.false_ne_true), List.map_append]
    rfl
theorem putX_len (xs : List (List Int × Addr)) (ns : List Int) (b : Addr) : (putX xs ns b).length ≤ xs.length + 1 := by
  unfold putX
  split
  · omega
  · simp
end
section
variable {X : Cx} {pins : List (Addr × Obj)} {σ : L2.St} {H : Hp} {s : Shared} {A : Around} {E : Value → Shared → Prop} {D b : Addr} {xs : List (List Int × Addr)} {ns : List Int}
theorem kin_now (I : Inv X pins σ H s) : X.K.In s.heap := I.kIn
theorem dt_after {Q : Unit → Shared → Prop} {h' : Heap} {t' : Nat} (I : Inv X pins σ H s) (hD : H D = some (dtO D xs)) (hl : xs.length < sizeLine) (dd : h'.DictOfH (tupleKind (intKind X.prog X.w)) D (storedH (xs.map kx) ns b (.bool true))) (hs : Heap.SameBut D s.heap h')
    : Inv X pins σ (upd H D (dtO D (putX xs ns b))) { s with heap := h', toks := t' } := by
  obtain ⟨lo, _⟩ := dtO_at I.hok hD
  rw [stored_kx] at dd
  obtain ⟨o, es, ep, e1, e2, e3, e4, _, e5⟩ := dd
  refine d_write I (by rw [hD]; trivial) hs ⟨o, e1⟩ (dtO_ok ⟨lo, ?_, o, es, ep, e1, e2, e3, ?_, ?_⟩)
  · have := putX_len xs ns b
    omega
  · rw [e4, List.map_map]
    rfl
  · rw [List.map_map] at e5
    exact e5
/-- d[k] = True by a comprehension -/
theorem dt_dictSet {Q : Unit → Shared → Prop} (hu : A.units < cLine) (I : Inv X pins σ H s) (hD : H D = some (dtO D xs)) (hk : ∀ x ∈ xs, SqT X.K H x.2 (x.1.map V.int)) (hb : SqT X.K H b (ns.map V.int)) (hl : xs.length < sizeLine)
    (h : ∀ s', Inv X pins σ (upd H D (dtO D (putX xs ns b))) s' → Q () s') : wpAny (model X.prog X.w) A (dictSet D (.ref b) (.bool true)) Q E s :=
  wpAny_dictSet_heap (hsz := by rw [List.length_map]; omega) hu (key_sq I.hok I.kIn hb) (dtO_H I.hok I.kIn hD hk) fun h' dd hs => h _ (dt_after (Q := Q) I hD hl dd hs)
/-- d[k] = True -/
theorem dt_setItem {Q : Unit → Shared → Prop} (hu : A.units + 1 < cLine) (I : Inv X pins σ H s) (hD : H D = some (dtO D xs)) (hk : ∀ x ∈ xs, SqT X.K H x.2 (x.1.map V.int)) (hb : SqT X.K H b (ns.map V.int)) (hl : xs.length < sizeLine)
    (h : ∀ s', Inv X pins σ (upd H D (dtO D (putX xs ns b))) s' → Q () s') : wpAny (model X.prog X.w) A (setItem (.ref D) (.ref b) (.bool true)) Q E s :=
  wpAny_setItem_heap (hsz := by rw [List.length_map]; omega) (tupleKind_room_in1 hu) (key_sq I.hok I.kIn hb) (dtO_H I.hok I.kIn hD hk) fun h' dd hs => h _ (dt_after (Q := Q) I hD hl dd hs)
/-- k in d -/
def rInK (K : PySem.W.Frag) (g : Bool → Bool) : R2 := fun x y H Q => ∃ b D xs ns, x = .ref b ∧ y = .ref D ∧ H D = some (dtO D xs) ∧ (∀ x ∈ xs, SqT K H x.2 (x.1.map V.int)) ∧ SqT K H b (ns.map V.int) ∧ Q (.bl (g (decide (ns ∈ xs.map (·.1))))) H
theorem op_inK (hu : X.A.units + 1 < cLine) : OpR X (compareOp .In) (rInK X.K id) := by
  intro pins s σ H x y v u Q I rx ry h
  obtain ⟨b, D, xs, ns, rfl, rfl, hD, hk, hb, q⟩ := h
  cases (show v = Value.ref b from rx)
  cases (show u = Value.ref D from ry)
  refine wpAny_in_heap (tupleKind_room_in1 hu) (key_sq I.hok I.kIn hb) (dtO_at I.hok hD).1 (dtO_H I.hok I.kIn hD hk) ?_
  rw [atKey_kx]
  exact ⟨.bl _, H, I.tok _, rfl, q⟩
theorem op_notInK (hu : X.A.units + 1 < cLine) : OpR X (compareOp .NotIn) (rInK X.K not) := by
  intro pins s σ H x y v u Q I rx ry h
  obtain ⟨b, D, xs, ns, rfl, rfl, hD, hk, hb, q⟩ := h
  cases (show v = Value.ref b from rx)
  cases (show u = Value.ref D from ry)
  refine wpAny_notIn_heap (tupleKind_room_in1 hu) (key_sq I.hok I.kIn hb) (dtO_at I.hok hD).1 (dtO_H I.hok I.kIn hD hk) ?_
  rw [atKey_kx]
  exact ⟨.bl _, H, I.tok _, rfl, q⟩
end
/-! sorted of it -/
section
variable {X : Cx}
theorem keys_each {K : PySem.W.Frag} {H : Hp} {es : Array DictEntry} {xs : List (List Int × Addr)} {acc : List Value} (he : es.toList = xs.map eT) (hk : ∀ x ∈ xs, SqT K H x.2 (x.1.map V.int)) (hl : acc.length = xs.length)
    (h : ∀ (j : Nat) (v : Value), acc[j]? = some v → ∃ en : DictEntry, es[j]? = some en ∧ v = en.key) :
    acc = xs.map fun x => Value.ref x.2 := by
  apply List.ext_getElem?
  intro j
  rw [List.getElem?_map]
  cases hj : acc[j]? with
  | none =>
    have h1 := List.getElem?_eq_none_iff.mp hj
    rw [List.getElem?_eq_none (by omega)]
    rfl
  | some v =>
    obtain ⟨en, e1, e2⟩ := h j v hj
    rw [← Array.getElem?_toList, he, List.getElem?_map] at e1
    cases hx : xs[j]? with
    | none => rw [hx] at e1; cases e1
    | some x =>
      rw [hx] at e1
      cases e1
      rw [e2]
      rfl
theorem each_of {R : Value → List Int → Prop} : ∀ (xs : List (List Int × Addr)), (∀ x ∈ xs, R (.ref x.2) x.1) → PySem.W.EachIs R (xs.map fun x => Value.ref x.2) (xs.map (·.1))
  | [], _ => .nil
  | x :: r, h => .cons (h x (.head _)) (each_of r fun y hy => h y (.tail _ hy))
theorem each_dp {K : PySem.W.Frag} {xs : List (List Int × Addr)} : ∀ {out : List Value} {ks : List (List Int)}, PySem.W.EachIs (fun v k => ∃ b, v = .ref b ∧ (k, b) ∈ xs) out ks → ∃ vs, Vals vs out ∧ ∀ H : Hp, (∀ x ∈ xs, SqT K H x.2 (x.1.map V.int)) → DpAll K H vs (ks.map tupI)
  | _, _, .nil => ⟨[], .nil, fun _ _ => .nil⟩
  | _, _, .cons ⟨b, e, hb⟩ t => by
    obtain ⟨vs, h1, h2⟩ := each_dp t
    subst e
    exact ⟨.ref b :: vs, .cons rfl h1, fun H h => .cons (.tup (h _ hb) (dp_ints _)) (h2 H h)⟩
theorem alikeAll_ints : ∀ (xs ys : List Int), PySem.W.alikeAll (xs.map .int) (ys.map .int) = true
  | [], _ => by simp [PySem.W.alikeAll]
  | _ :: _, [] => by simp [PySem.W.alikeAll]
  | x :: xs, y :: ys => by simp only [List.map_cons, PySem.W.alikeAll, PySem.W.alike, Bool.true_and]; exact alikeAll_ints xs ys
theorem depthAll_ints : ∀ k : List Int, PyData.depthAll (k.map .int) ≤ 1
  | [] => by simp [PyData.depthAll]
  | i :: r => by
    have := depthAll_ints r
    simp only [List.map_cons, PyData.depthAll, PyData.depth]
    omega
theorem depth_tupI (k : List Int) : (tupI k).depth ≤ 2 := by
  have := depthAll_ints k
  simp only [tupI, PyData.depth]
  omega
theorem reads_key {pins : List (Addr × Obj)} {σ : L2.St} {H : Hp} {s : Shared} {b : Addr} {k : List Int} (I : Inv X pins σ H s) (hb : SqT X.K H b (k.map V.int)) : ∃ as, Reads s.heap (.ref b) (tupI k) as := Dp.reads I (tupI k) (.ref b) (.ref b) (.tup hb (dp_ints _)) rfl
theorem read_old {h : Heap} {k : List Int} {v : Value} {as : List Addr} (r : Reads h v (tupI k) as) {h' : Heap} {a : Addr} (hk : ∀ b o, h.get? b = some o → h'.get? b = some o) (ha : ∀ b o, h.get? b = some o → b ≠ a) : ∃ as, Reads h' v (tupI k) as ∧ a ∉ as := by
  cases r with
  | @tuple b o vs n _ as h1 h2 h3 h4 =>
    have all : ∀ {ks : List Int} {vs : List Value} {as : List Addr}, ReadsAll h vs (ks.map .int) as → ReadsAll h' vs (ks.map .int) [] := by
      intro ks
      induction ks with
      | nil => intro vs as r; cases r; exact .nil
      | cons i r ih =>
        intro vs as q
        cases q with
        | cons q1 q2 =>
          cases q1
          exact .cons (as := []) (.int _ _) (ih q2)
    exact ⟨_, .tuple (hk _ _ h1) h2 h3 (all h4), by simpa using fun e => ha _ _ h1 e.symm⟩
def rSortK (K : PySem.W.Frag) : List V → Hp → VK → Prop := fun vs H Q => ∃ D xs, vs = [.ref D] ∧ H D = some (dtO D xs) ∧ (∀ x ∈ xs, SqT K H x.2 (x.1.map V.int)) ∧ (∀ x ∈ xs, x.1 ≠ []) ∧
  ∀ ys p, H p = none → (∀ H' : Hp, (∀ x ∈ xs, SqT K H' x.2 (x.1.map V.int)) → DpAll K H' ys ((srt (xs.map (·.1))).map tupI)) → Q (.ref p) (upd H p (.lst ys))
theorem cr_sortK (hc : X.calm = true) (hu : X.A.units + 64 < cLine) : CallR X (.builtin "sorted") (rSortK X.K) := by
  intro pins s σ H xs us Q I r h
  obtain ⟨D, xs, rfl, hD, hk, hne, q⟩ := h
  obtain ⟨u, rfl, ru⟩ := vals1 r
  cases (show u = Value.ref D from ru)
  obtain ⟨lo, hl, o, es, ep, e1, e2, e3, e4, e5⟩ := dtO_at I.hok hD
  have hz : es.size = xs.length := by rw [← Array.length_toList, e4, List.length_map]
  refine Calls.call_function_entry PyProof.Rows.kind_sorted PyProof.Rows.plain_sorted PyProof.Rows.entry_sorted (PyProof.Rows.args_sorted1 _) ?_
  unfold Builtin.«sorted»
  refine wpAny_bind (m := checkCount "sorted" 1 1 _) (wpAny_pure ?_)
  refine wpAny_bind (PySem.W.kdu_collect (A := X.A.in1) (kdl_raw lo e2 e3) (I.ok.hd hc) e1 (by omega) fun h' tk acc kp it => ?_)
  have I1 : Inv X pins σ H { s with heap := h', toks := tk } := I.kept kp
  have ea : acc.toList = xs.map fun x => Value.ref x.2 := keys_each e4 hk (by rw [Array.length_toList, it.1, hz]) fun j v e => it.2 j v (by rw [← Array.getElem?_toList]; exact e)
  refine wpAny_bind (wpAny_newList ?_ (by rw [ea, List.length_map]; exact hl))
  have hoL : (h'.push (seqObj "list" acc.toList.toArray 0)).get? h'.objs.size = some (seqObj "list" acc.toList.toArray 0) := Heap.get?_push_size _ rfl
  show wpAny _ _ _ _ _ { s with heap := h'.push (seqObj "list" acc.toList.toArray 0), toks := tk }
  have eR : PySem.W.EachIs (fun v k => ∃ b, v = .ref b ∧ (k, b) ∈ xs) acc.toList (xs.map (·.1)) := by
    rw [ea]
    exact each_of xs fun x hx => ⟨x.2, rfl, hx⟩
  have eD : PySem.W.EachIs (fun v k => ∃ as, Reads (h'.push (seqObj "list" acc.toList.toArray 0)) v (tupI k) as ∧ h'.objs.size ∉ as) acc.toList (xs.map (·.1)) := by
    rw [ea]
    refine each_of xs fun x hx => ?_
    obtain ⟨as, ra⟩ := reads_key I1 (hk x hx)
    exact read_old ra (fun b ob e => Heap.get?_push_of_some _ e) fun b ob e => Nat.ne_of_lt (Heap.lt_size e)
  have al : PySem.W.AllAlike ((xs.map (·.1)).map tupI) := fun d hd d' hd' => by
    obtain ⟨k, _, rfl⟩ := List.mem_map.mp hd
    obtain ⟨k', _, rfl⟩ := List.mem_map.mp hd'
    simp only [tupI, PySem.W.alike]
    exact alikeAll_ints k k'
  have so : PySem.W.Sortable ((xs.map (·.1)).map tupI) := .inl fun d hd => by
    obtain ⟨k, hk2, rfl⟩ := List.mem_map.mp hd
    obtain ⟨x, hx, rfl⟩ := List.mem_map.mp hk2
    cases q : x.1 with
    | nil => exact absurd q (hne x hx)
    | cons i r => exact ⟨.int i, r.map .int, rfl⟩
  refine wpAny_bind (wpAny_holding (PySem.W.list_sort_data (A := X.A.in1) (bs := xs.map (·.1)) (enc := tupI) (s := { s with heap := h'.push (seqObj "list" acc.toList.toArray 0), toks := tk }) hoL eR eD al so (by rw [List.length_map]; exact hl) ?_ fun out ho eo => ?_))
  · intro k _
    have h2 := depth_tupI k
    have h3 : X.A.in1.units = X.A.units + 1 := rfl
    omega
  · obtain ⟨e', he'⟩ := PyProof.Rows.sortedHeap_at (vs := acc.toList) (out := out.toArray) hoL
    rw [dataLe_tups (fun k : List Int => k)] at eo
    obtain ⟨ys, y1, y2⟩ := each_dp (K := X.K) eo
    have yl : ys.length ≤ sizeLine := by rw [y1.length, ho, List.length_map]; exact hl
    refine wpAny_pure ⟨_, rfl, .ref h'.objs.size, upd H h'.objs.size (.lst ys), I1.laid (t' := tk) (fun b u e => ?_) (Nat.le_refl _) (show ObjOk X.prog X.w _ _ _ (.lst ys) from ⟨yl, out, e', y1, he'⟩), rfl, q ys _ (I1.hok.fresh (Nat.le_refl _)) y2⟩
    have hb : b < h'.objs.size := Heap.lt_size e
    rw [PyProof.Rows.sortedHeap_old (Nat.ne_of_lt hb) (by rw [size_push']; exact Nat.lt_succ_of_lt hb)]
    exact Heap.get?_push_of_some _ e
end
end DW

set_option Elab.async false
set_option linter.all false
set_option maxRecDepth 100000
set_option maxHeartbeats 1000000
namespace DW
variable [TabsC]
open PySem PySem.Spec PyProof.Rows L2
/-! ### {x: True for x in xs}, x a tuple of ints -/
section
variable {X : Cx}
def tDcT (K : PySem.W.Frag) (wi : TI) (g : TG) (tk tv : TE) (vs : List Nat) : TE := fun σ H Q => wi σ H fun J H1 => ∀ D, H1 D = none → ∃ W : Nat → Nat → Hp → Prop, (∃ m, W 0 m (upd H1 D (dtO D []))) ∧ ∀ i m H, W i m H →
  (J.stop i H ∧ Q (.ref D) H) ∨ (J.go i H ∧ ∃ Nx : Hp → Prop, (∀ H', Nx H' → ∃ m', m' < m ∧ W (i + 1) m' H') ∧ ∀ x H', J.yld i H x H' → g x (L2.wipe σ vs) H' fun σ2 H2 => L2.wipe σ2 vs = L2.wipe σ vs ∧
    tk σ2 H2 fun y H3 => tv σ2 H3 fun z H4 => ∃ b ys ns, y = .ref b ∧ z = .bl true ∧ H4 D = some (dtO D ys) ∧ (∀ q ∈ ys, SqT K H4 q.2 (q.1.map V.int)) ∧ SqT K H4 b (ns.map V.int) ∧ ys.length < sizeLine ∧ Nx (upd H4 D (dtO D (putX ys ns b))))
theorem dtO_new {H : Hp} (h : Heap) (big : sysModules < h.objs.size) : ObjOk X.prog X.w H (h.push { cls := .type "dict", data := .dict #[] }) h.objs.size (dtO h.objs.size []) :=
  dtO_ok ⟨beq_eq_false_iff_ne.mpr (Nat.ne_of_gt big), Nat.zero_le _, _, #[], _, Heap.get?_push_size _ rfl, ⟨rfl, rfl, rfl⟩, rfl, rfl, .nil⟩
theorem dtc_core {pins : List (Addr × Obj)} {s : Shared} {σ : L2.St} {H : Hp} {Q : VK} {kx vx tg iter : Expr} {scope : Scope} {own : List (Str × Nat)} {pos pos' : Pos} {wi : TI} {g : TG} {tk tv : TE} {use : Option (Value → Sem Unit)} {Qf : Value → Shared → Prop}
    (hc : X.calm = true) (hu : X.A.units < cLine) (hN : X.N.Nodup) (I : Inv X pins σ H s) (hi : PI X tg iter wi) (ok : BlkOk X.N X.env.scope scope own)
    (hg : ∀ (s : Shared) (H : Hp) (C : Addr) (cl : List (Str × Addr)) (fp : List Addr), PG (bk X scope s H C cl fp) tg g)
    (hk : ∀ (s : Shared) (H : Hp) (C : Addr) (cl : List (Str × Addr)) (fp : List Addr), PE (bk X scope s H C cl fp) kx tk)
    (hv : ∀ (s : Shared) (H : Hp) (C : Addr) (cl : List (Str × Addr)) (fp : List Addr), PE (bk X scope s H C cl fp) vx tv)
    (hs : ∀ x, foldedSetIterable iter X.env x = pure x) (h : tDcT X.K wi g tk tv (own.map (·.2)) σ H Q)
    (hRR : ∀ D C s' m H', Inv X pins σ H' s' → Q (.ref D) H' → s'.heap.Ns C m → FpOk X pins H' C → compPost (model X.prog X.w) X.A X.xe use Qf (.ref D) C (.ok .next) s') :
    wpAny (model X.prog X.w) X.A (comprehension (.DictComp kx vx [⟨tg, iter, [], 0⟩] scope pos) scope X.env pos' newDict false (eval iter X.env) use) Qf X.xe s := by
  have free : ∀ y ∈ scope.names, y.2 = .free → ∃ c, X.env.cells.lookup y.1 = some c := fun y hy e => by
    rcases ok.free y hy e with z | z
    · exact I.ok.has _ (.inl z)
    · exact I.ok.has _ (.inr z)
  refine wpAny_comprehension_free (use := use) rfl hs (closure_ok free) ok.kind (fun y hy e => by rw [ok.uniq y hy, e])
    (thn (hi.run pins s σ H _ I h) fun xv s1 z1 => thn z1 fun jv s2 z2 => ?_)
  obtain ⟨it, fp, tn, J, H2, rfl, I2, T, st2, f2, q⟩ := z2
  refine wpAny_newObj_type (newEnv_comp ?_)
  generalize eD : s2.heap.objs.size = D
  obtain ⟨W, ⟨m0, w0⟩, turn⟩ := q D (I2.hok.fresh (Nat.le_of_eq eD))
  generalize es3 : ({ s2 with heap := s2.heap.push { cls := .type "dict", data := .dict #[] } } : Shared) = s3
  have h3 : s3.heap = s2.heap.push { cls := .type "dict", data := .dict #[] } := by rw [← es3]
  have I3 : Inv X pins σ (upd H2 D (dtO D [])) s3 := by
    rw [← es3]
    refine I2.laid (t' := s2.toks) (fun b o z => Heap.get?_push_of_some _ z) (Nat.le_of_eq eD) ?_
    rw [← eD]
    exact dtO_new s2.heap I2.big
  have f3 : ∀ b ∈ fp, FpOk X pins (upd H2 D (dtO D [])) b ∧ b < s3.heap.objs.size := fun b hb => by
    obtain ⟨o, z, _⟩ := T.obj _ _ st2 b hb
    have hlt := Heap.lt_size z
    refine ⟨⟨?_, (f2 b hb).2⟩, by rw [h3, Heap.size_push]; exact Nat.lt_succ_of_lt hlt⟩
    rw [upd_ne (by rw [← eD]; exact Nat.ne_of_lt hlt)]
    exact (f2 b hb).1
  have st3 : tn 0 s3.heap := T.keep _ _ _ st2 fun b _ o z => by rw [h3]; exact Heap.get?_push_of_some _ z
  have I4 := block_start I3 ok hN f3
  have pg := hg s3 (upd H2 D (dtO D [])) s3.heap.objs.size (cellsFrom (s3.heap.objs.size + 1) scope.names (cloFrom X.env.cells scope.names [])) fp
  have pk := hk s3 (upd H2 D (dtO D [])) s3.heap.objs.size (cellsFrom (s3.heap.objs.size + 1) scope.names (cloFrom X.env.cells scope.names [])) fp
  have pv := hv s3 (upd H2 D (dtO D [])) s3.heap.objs.size (cellsFrom (s3.heap.objs.size + 1) scope.names (cloFrom X.env.cells scope.names [])) fp
  show codeAny _ _ (.compStart (.DictComp kx vx [⟨tg, iter, [], 0⟩] scope pos) 0 (.ref it) (.ref D) (compEnvC scope (cellsFrom (s3.heap.objs.size + 1) scope.names (cloFrom X.env.cells scope.names [])) s3.heap.objs.size X.env)) (compPost (model X.prog X.w) X.A X.xe use Qf (.ref D) s3.heap.objs.size) { s3 with heap := pushCells (s3.heap.push { cls := .type "dict", data := .dict #[] }) scope.names }
  have nfp : ∀ b ∈ fp, (upd H2 D (dtO D [])) b = none := fun b hb => (f3 b hb).1.1
  unfold bk at pg pk pv
  generalize ece : compEnvC scope (cellsFrom (s3.heap.objs.size + 1) scope.names (cloFrom X.env.cells scope.names [])) s3.heap.objs.size X.env = ce at I4 pg pk pv ⊢
  have cL : ce.locals = s3.heap.objs.size := by subst ece; rfl
  generalize eH3 : upd H2 D (dtO D []) = H3 at I3 I4 pg pk pv w0 nfp f3
  generalize es4 : ({ s3 with heap := pushCells (s3.heap.push { cls := .type "dict", data := .dict #[] }) scope.names } : Shared) = s4 at I4 ⊢
  have st4 : tn 0 s4.heap := T.keep _ _ _ st3 fun b _ o z => by rw [← es4]; exact pushCells_keeps _ _ _ _ (Heap.get?_push_of_some _ z)
  have still : ∀ {σ' : L2.St} {H' : Hp} {s' : Shared}, Inv (X.blk s3 H3 scope ce fp) [] σ' H' s' → (∀ b ∈ fp, H' b = none) → ∀ b ∈ fp, FpOk (X.blk s3 H3 scope ce fp) [] H' b := fun {σ' H' s'} z n b hb =>
    ⟨n b hb, (z.ok.exf b hb).1, z.ok.exfs b hb, .inl hb, fun x c e => (z.ok.exf b hb).2 x c e, fun p hp => absurd (show p ∈ ([] : List (Addr × Obj)) ++ [] from hp) (by simp)⟩
  have loop : codeAny (model X.prog X.w) X.A (.compLoop (.DictComp kx vx [⟨tg, iter, [], 0⟩] scope pos) 0 (.ref it) (.ref D) ce) (compPost (model X.prog X.w) X.A X.xe use Qf (.ref D) s3.heap.objs.size) s4 := by
    refine compLoop_anyD (fun n s' => ∃ i H', Inv (X.blk s3 H3 scope ce fp) [] (L2.wipe σ (own.map (·.2))) H' s' ∧ tn i s'.heap ∧ (∀ b ∈ fp, H' b = none) ∧ W i n H') ?_ m0 ⟨0, H3, I4, st4, nfp, w0⟩
    rintro n s5 ⟨i, H5, I5, st5, n5, w5⟩
    rcases turn i n H5 w5 with ⟨stop, qq⟩ | ⟨go, Nx, hNx, step⟩
    · refine thnF (T.done (X.blk s3 H3 scope ce fp) rfl rfl rfl hc i [] s5 _ H5 (fun _ _ => False) I5 (still I5 n5) st5 stop) fun r s6 ⟨hr2, I6⟩ => ?_
      subst hr2
      have I7 : Inv X pins σ H5 s6 := I3.call' (ch := fp) I6.os I6.base I6.hok I6.bare fun b hb => ⟨(f3 b hb).1.2.2.2.1, (f3 b hb).1.2.1, (f3 b hb).1.2.2.2.2.1, (f3 b hb).1.2.2.2.2.2⟩
      have nC : H5 ce.locals = none := I6.free
      rw [cL] at nC
      obtain ⟨mm, hn, _⟩ := I6.loc
      have hn2 : s6.heap.Ns ce.locals mm := hn
      rw [cL] at hn2
      exact hRR D s3.heap.objs.size s6 mm H5 I7 qq hn2 (I3.fpOk (Nat.le_refl _) nC)
    · refine thnF (T.item (X.blk s3 H3 scope ce fp) rfl rfl rfl hc i [] s5 _ H5 (fun _ _ => False) I5 (still I5 n5) st5 go) fun r s6 ⟨u, hr2, z6⟩ => ?_
      subst hr2
      refine thnF z6 fun _ s7 ⟨x, H7, I7, r7, y7, st7, n7⟩ => ?_
      have I8 := I7.pinned (still I7 n7) (T.obj _ _ st7)
      refine thnF (pg.run _ s7 _ H7 x u _ I8 r7 (step x H7 y7)) fun _ s8 ⟨σ8, H8, I9, hw, q8⟩ => ?_
      show wpAny _ _ (pure true) _ _ _
      refine wpAny_pure ?_
      simp only [if_true]
      refine thnF (pk.run _ s8 σ8 H8 _ I9 q8) fun yv s9 ⟨y, H9, I10, ry, q9⟩ => ?_
      refine thnF (pv.run _ s9 σ8 H9 _ I10 q9) fun zv s10 ⟨z, H10, I11, rz, b, ys, ns, ey, ez, hD, hks, hb, hl, nx⟩ => ?_
      subst ey ez
      cases (show yv = Value.ref b from ry)
      cases (show zv = Value.bool true from rz)
      refine dt_dictSet (X := X.blk s3 H3 scope ce fp) hu I11 hD hks hb hl fun s11 I12 => ?_
      obtain ⟨m', hm, w9⟩ := hNx _ nx
      have pin : ∀ c ∈ fp, ∀ o, s7.heap.get? c = some o → s11.heap.get? c = some o ∧ upd H10 D (dtO D (putX ys ns b)) c = none := fun c hc o z =>
        let z' := I12.pin (c, o) (List.mem_append_right _ (List.mem_append_right _ (mem_pinsAt hc z)))
        ⟨z'.1, z'.2.1⟩
      refine ⟨m', hm, i + 1, _, (I12.unpinned (pins := [])).weak (by rw [← hw, wipe_length]) (fun j v z => ?_), T.keep _ _ _ st7 fun b hb o z => (pin b hb o z).1, fun b hb => ?_, w9⟩
      · rw [← hw] at z
        exact (wipe_some z).1
      · obtain ⟨o, z, _⟩ := T.obj _ _ st7 b hb
        exact (pin b hb o z).2
  exact codeAny_compStart_dict loop (T.self X.A 0 _ _ _ st4 loop)
theorem pe_dtc {kx vx tg iter : Expr} {scope : Scope} {own : List (Str × Nat)} {pos : Pos} {wi : TI} {g : TG} {tk tv : TE}
    (hc : X.calm = true) (hu : X.A.units < cLine) (hN : X.N.Nodup) (hi : PI X tg iter wi) (ok : BlkOk X.N X.env.scope scope own)
    (hg : ∀ (s : Shared) (H : Hp) (C : Addr) (cl : List (Str × Addr)) (fp : List Addr), PG (bk X scope s H C cl fp) tg g)
    (hk : ∀ (s : Shared) (H : Hp) (C : Addr) (cl : List (Str × Addr)) (fp : List Addr), PE (bk X scope s H C cl fp) kx tk)
    (hv : ∀ (s : Shared) (H : Hp) (C : Addr) (cl : List (Str × Addr)) (fp : List Addr), PE (bk X scope s H C cl fp) vx tv)
    (hs : ∀ x, foldedSetIterable iter X.env x = pure x := by intro _; rfl) : PE X (.DictComp kx vx [⟨tg, iter, [], 0⟩] scope pos) (tDcT X.K wi g tk tv (own.map (·.2))) := by
  refine ⟨fun pins s σ H Q I h => ?_⟩
  rw [arm_eval_DictComp]
  refine dtc_core hc hu hN I hi ok hg hk hv hs h fun D C s' mm H' I' q hn f => ⟨mm, hn, fun h2 sb => ?_⟩
  obtain ⟨f0, f1, f2, f3, f4, f5⟩ := f
  exact ⟨.ref D, H', I'.turned (t' := s'.toks) (fun b o hb z => (sb.2 b hb).trans z) f0 f1 f3 f4 f5, rfl, q⟩
end
end DW

set_option Elab.async false
set_option linter.all false
set_option maxRecDepth 100000
set_option maxHeartbeats 1000000
namespace DW
variable [TabsC]
open PySem PySem.Spec PyProof.Rows L2
/-! ### one object changes, data stay -/
/-- neither a list nor a tuple, no table, no pot -/
def Odd : HO → Prop
  | .lst _ => False
  | .tup _ => False
  | .frz _ _ => False
  | .tbl _ => False
  | _ => True
theorem code_ne_dt {c : Addr} {q : Str} {xs : List (List Int × Addr)} : LamX.CodeO c q ≠ dtO c xs := fun e => by
  unfold LamX.CodeO dtO at e
  injection e with e
  have h1 := congrFun e ⟨Array.replicate (c + 1) { cls := .none, data := .fields #[.none, .str q 0] }, {}⟩
  have g : Heap.get? ⟨Array.replicate (c + 1) { cls := .none, data := .fields #[.none, .str q 0] }, {}⟩ c = some { cls := .none, data := .fields #[.none, .str q 0] } := by
    unfold Heap.get?
    simp
  obtain ⟨_, _, o, es, ep, h2, _, h3, _⟩ := h1.mp ⟨_, _, _, g, rfl, rfl⟩
  rw [g] at h2
  cases h2
  cases h3
section
variable {K : PySem.W.Frag} {m : Me} {H : Hp} {D a : Addr} {o0 o : HO} {xs : List V}
theorem ne_odd {u : HO} (hD : H D = some o0) (od : Odd o0) (h : H a = some u) (hu : ¬ Odd u) : a ≠ D := fun e => by
  subst e
  rw [hD] at h
  cases h
  exact hu od
theorem sqL_but (hD : H D = some o0) (od : Odd o0) (h : SqL K H a xs) : SqL K (upd H D o) a xs := by
  rcases h with (h | ⟨o1, h⟩) | h
  · exact .inl (.inl (by rw [upd_ne (ne_odd hD od h id)]; exact h))
  · exact .inl (.inr ⟨o1, by rw [upd_ne (ne_odd hD od h id)]; exact h⟩)
  · exact .inr h
theorem sqT_but (hD : H D = some o0) (od : Odd o0) (h : SqT K H a xs) : SqT K (upd H D o) a xs := by
  rcases h with (h | ⟨o1, h⟩) | h
  · exact .inl (.inl (by rw [upd_ne (ne_odd hD od h id)]; exact h))
  · exact .inl (.inr ⟨o1, by rw [upd_ne (ne_odd hD od h id)]; exact h⟩)
  · exact .inr h
mutual
theorem dp_but (hD : H D = some o0) (od : Odd o0) : ∀ (d : PyData) (v : V), Dp K H v d → Dp K (upd H D o) v d
  | .none, _, .non => .non
  | .bool _, _, .bl b => .bl b
  | .int _, _, .int i => .int i
  | .str _, _, .str x => .str x
  | .list ds, _, .lst hs ha => .lst (sqL_but hD od hs) (dpAll_but hD od ds _ ha)
  | .tuple ds, _, .tup hs ha => .tup (sqT_but hD od hs) (dpAll_but hD od ds _ ha)
theorem dpAll_but (hD : H D = some o0) (od : Odd o0) : ∀ (ds : List PyData) (vs : List V), DpAll K H vs ds → DpAll K (upd H D o) vs ds
  | [], _, .nil => .nil
  | d :: ds, _, .cons h t => .cons (dp_but hD od d _ h) (dpAll_but hD od ds _ t)
end
theorem hid_updN (nh : ¬ m.hd D) (nt : NT D) (nb : NTb o) : hid m (upd H D o) = upd (hid m H) D o := by
  funext a
  by_cases e : a = D
  · subst e
    rw [upd_same]
    exact hid_of nh upd_same nt nb
  · rw [upd_ne e]
    unfold hid
    rw [upd_ne e]
theorem MemOk.but (hm : MemOk K m H) (hD : hid m H D = some o0) (od : Odd o0) (cd : ∀ q, o0 ≠ LamX.CodeO D q) (nb : NTb o) : MemOk K m (upd H D o) := by
  have h0 := hid_sub _ _ hD
  have e := hid_updN (H := H) (o := o) (hid_some hD).1 (hid_nt hD) nb
  refine ⟨fun a ha => ?_, fun a xs hx => ?_, hm.sep, hm.nd, fun p hp => ?_⟩
  · obtain ⟨x, y, k, e1, r⟩ := (hm.pot a ha).at_
    exact ⟨x, y, k, by rw [upd_ne (ne_odd h0 od e1 id)]; exact e1, r⟩
  · obtain ⟨vs, e1, r⟩ := hm.own a xs hx
    refine ⟨vs, by rw [upd_ne (ne_odd h0 od e1 id)]; exact e1, ?_⟩
    rw [e]
    exact dpAll_but hD od _ _ r
  · obtain ⟨ps, h1, h2, h3⟩ := hm.tab p hp
    refine ⟨ps, by rw [upd_ne (ne_odd h0 od h1 id)]; exact h1, h2, fun pos cv hc => ?_⟩
    obtain ⟨c, c1, c2⟩ := h3 pos cv hc
    refine ⟨c, c1, ?_⟩
    rw [upd_ne (fun z => by subst z; rw [h0] at c2; cases c2; exact cd _ rfl)]
    exact c2
end
/-- what stood before the object was made stands behind its change -/
theorem ext_upd {m m' : Me} {H H' : Hp} {D : Addr} {o : HO} (e : Ext m H m' H') (hD : H D = none) : Ext m H m' (upd H' D o) := fun a u h => by
  have h1 := e a u h
  have ne : a ≠ D := ne_of_none (hid_sub _ _ h) hD
  obtain ⟨n1, n2⟩ := hid_some h1
  exact hid_of n1 (by rw [upd_ne ne]; exact n2) (hid_nt h1) (hid_nb h1)
theorem dt_nb {D : Addr} {xs : List (List Int × Addr)} : NTb (dtO D xs) := fun ps e => by unfold dtO at e; cases e
theorem dt_odd {D : Addr} {xs : List (List Int × Addr)} : Odd (dtO D xs) := True.intro
/-- keys put in one by one -/
def addK (acc : List (List Int)) (ns : List Int) : List (List Int) := if ns ∈ acc then acc else acc ++ [ns]
theorem putX_keys (ys : List (List Int × Addr)) (ns : List Int) (b : Addr) : (putX ys ns b).map (·.1) = addK (ys.map (·.1)) ns := by
  unfold putX addK
  split
  · rfl
  · rw [List.map_append]
    rfl
theorem putX_mem {ys : List (List Int × Addr)} {ns : List Int} {b : Addr} {q : List Int × Addr} (h : q ∈ putX ys ns b) : q ∈ ys ∨ q = (ns, b) := by
  unfold putX at h
  split at h
  · exact .inl h
  · rcases List.mem_append.mp h with h | h
    · exact .inl h
    · exact .inr (List.mem_singleton.mp h)
def dcW (step : Me → PyData → (Dat → Me → Prop) → Prop) : List PyData → List (List Int) → Me → (List (List Int) → Me → Prop) → Prop
  | [], acc, m, k => k acc m
  | x :: r, acc, m, k => step m x fun d m' => ∃ ns, d = .d (tupI ns) ∧ dcW step r (addK acc ns) m' k
/-- each key as it comes -/
theorem dcW_id {step : Me → PyData → (Dat → Me → Prop) → Prop} : ∀ {ks acc : List (List Int)} {m : Me} {k : List (List Int) → Me → Prop},
    (∀ x ∈ ks, ∀ m' k', k' (.d (tupI x)) m' → step m' (tupI x) k') → k (ks.foldl addK acc) m → dcW step (ks.map tupI) acc m k
  | [], acc, m, k, _, hk => hk
  | x :: r, acc, m, k, h, hk => h x List.mem_cons_self _ _ ⟨x, rfl, dcW_id (fun y hy => h y (List.mem_cons_of_mem _ hy)) hk⟩
section
variable {X : Cx} {env : DEnv} {m : Me} {k : Dat → Me → Prop} {pos cpos : Pos} {kx tg iter : Expr} {scope : Scope} {j : Nat}
theorem wE_dcK (own : List (Str × Nat)) (hc : X.calm = true) (hu : X.A.units < cLine) (hN : X.N.Nodup) (ok : BlkOk X.N X.env.scope scope own)
    (h : wI X tg iter env m fun xs m1 => xs.length ≤ 10000000 ∧ dcW (stepB X scope (own.map (·.2)) tg kx env) xs [] m1 fun ks m2 => k (.k ks) m2) (hs : ∀ x, foldedSetIterable iter X.env x = pure x := by intro _; rfl) :
    wE X (.DictComp kx (.Constant (.bool true) j cpos) [⟨tg, iter, [], 0⟩] scope pos) env m k :=
  wE_of (pe_dtc hc hu hN piW ok pgB peB (fun _ _ _ _ _ => pe_bl) hs) fun σ H Q he hm hq => by
    refine h σ H _ he hm fun J xs m1 H1 e1 hm1 dit ⟨hl, hk⟩ => fun D hD => ?_
    have nD : NT D := hm1.new hD
    have hD0 : ∀ {m' : Me} {H' : Hp}, Ext m1 H1 m' H' → MemOk X.K m' H' → True := fun _ _ => trivial
    refine ⟨fun i n H' => n = xs.length - i ∧ i ≤ xs.length ∧ ∃ m' ys, ys.length ≤ i ∧ hid m' H' D = some (dtO D ys) ∧ (∀ q ∈ ys, SqT X.K (hid m' H') q.2 (q.1.map V.int)) ∧ MemOk X.K m' H' ∧ Ext m1 H1 m' H' ∧
      dcW (stepB X scope (own.map (·.2)) tg kx env) (xs.drop i) (ys.map (·.1)) m' fun ks m2 => k (.k ks) m2,
      ⟨xs.length, rfl, Nat.zero_le _, m1, [], Nat.le_refl _, hid_of (hm1.fresh hD) upd_same nD dt_nb, (fun q hq => nomatch hq), hm1.mono (same_new hD), Ext.of (same_new hD), hk⟩, ?_⟩
    rintro i n H2 ⟨rfl, hi, m', ys, hyl, hy, hks, hm2, e2, hk2⟩
    have dt := (dit.mono e2) m' H2 Ext.refl hm2 i
    by_cases hlt : i < xs.length
    · obtain ⟨go, yl⟩ := dt.1 _ (List.getElem?_eq_getElem hlt)
      rw [List.drop_eq_getElem_cons hlt] at hk2
      refine .inr ⟨go, fun H3 => ∃ m3 ys3, ys3.length ≤ i + 1 ∧ hid m3 H3 D = some (dtO D ys3) ∧ (∀ q ∈ ys3, SqT X.K (hid m3 H3) q.2 (q.1.map V.int)) ∧ MemOk X.K m3 H3 ∧ Ext m1 H1 m3 H3 ∧ dcW (stepB X scope (own.map (·.2)) tg kx env) (xs.drop (i + 1)) (ys3.map (·.1)) m3 fun ks m2 => k (.k ks) m2,
        fun H3 h3 => ⟨xs.length - (i + 1), by omega, rfl, hlt, h3⟩, fun v H3 y => ?_⟩
      obtain ⟨sm, dv⟩ := yl v H3 y
      have hm3 := hm2.mono sm
      have e3 : Ext m H m' H3 := (e1.trans e2).trans (Ext.of sm)
      intro s Hs C cl fp
      have hk3 : stepB X scope (own.map (·.2)) tg kx env m' xs[i] fun d m' => ∃ ns, d = .d (tupI ns) ∧ dcW (stepB X scope (own.map (·.2)) tg kx env) (xs.drop (i + 1)) (addK (ys.map (·.1)) ns) m' fun ks m2 => k (.k ks) m2 := hk2
      refine hk3 s Hs C cl fp (L2.wipe σ (own.map (·.2))) H3 v _ ((he.mono e3).wipe _) hm3 dv ?_
      intro σ2 env2 eo ag hE
      refine ⟨wipe_agree ag, ?_⟩
      intro s4 Hs4 C4 cl4 fp4
      refine hE s4 Hs4 C4 cl4 fp4 σ2 H3 _ eo hm3 ?_
      rintro w d m4 H4 e4 hm4 dw ⟨ns, rfl, hk5⟩
      have e24 : Ext m' H2 m4 H4 := (Ext.of sm).trans e4
      have hy4 := e24 _ _ hy
      have hb : ∃ b, w = .ref b ∧ SqT X.K (hid m4 H4) b (ns.map V.int) := by
        have dw' : Dp X.K (hid m4 H4) w (tupI ns) := dw
        cases dw' with
        | tup hs ha => exact ⟨_, rfl, by rw [← dpInts ha]; exact hs⟩
      obtain ⟨b, rfl, hb⟩ := hb
      have hks4 : ∀ q ∈ ys, SqT X.K (hid m4 H4) q.2 (q.1.map V.int) := fun q hq => seqT_mono e24 (hks q hq)
      have eh := hid_updN (H := H4) (o := dtO D (putX ys ns b)) (hid_some hy4).1 (hid_nt hy4) dt_nb
      refine ⟨b, ys, ns, rfl, rfl, hid_sub _ _ hy4, fun q hq => seqT_mono hid_sub (hks4 q hq), seqT_mono hid_sub hb, Nat.lt_of_lt_of_le (by omega : ys.length < 10000001) (by decide), m4, putX ys ns b, ?_, ?_, fun q hq => ?_, ?_, ?_, ?_⟩
      · exact Nat.le_trans (putX_len _ _ _) (by omega)
      · rw [eh, upd_same]
      · rw [eh]
        rcases putX_mem hq with z | z
        · exact sqT_but hy4 dt_odd (hks4 q z)
        · subst z
          exact sqT_but hy4 dt_odd hb
      · exact hm4.but hy4 dt_odd (fun q z => code_ne_dt z.symm) dt_nb
      · exact ext_upd (e2.trans e24) hD
      · rw [putX_keys]
        exact hk5
    · have ei : i = xs.length := by omega
      rw [ei, List.drop_length] at hk2
      have hk3 : k (.k (ys.map (·.1))) m' := hk2
      exact .inl ⟨dt.2 (by omega), hq _ (.k (ys.map (·.1))) m' H2 (e1.trans e2) hm2 ⟨D, ys, rfl, hy, rfl, hks⟩ hk3⟩
end
end DW

set_option Elab.async false
set_option linter.all false
set_option maxRecDepth 100000
set_option maxHeartbeats 1000000
namespace DW
variable [TabsC]
open PySem PySem.Spec PyProof.Rows L2
/-! ### dict(xs), xs a list of pairs of a tuple of ints and True -/
abbrev T3 := Addr × Addr × List Int
def ysOf (ts : List T3) (acc : List (List Int × Addr)) : List (List Int × Addr) := ts.foldl (fun a t => putX a t.2.2 t.2.1) acc
abbrev px (t : T3) : List Int × Addr × Value := (t.2.2, t.2.1, .bool true)
theorem storedAll_kx : ∀ (ts : List T3) (acc : List (List Int × Addr)), storedAllH (acc.map kx) (ts.map px) = (ysOf ts acc).map kx
  | [], _ => rfl
  | t :: r, acc => by
    show storedAllH (storedH (acc.map kx) t.2.2 t.2.1 (.bool true)) (r.map px) = _
    rw [stored_kx]
    exact storedAll_kx r _
theorem ysOf_keys : ∀ (ts : List T3) (acc : List (List Int × Addr)), (ysOf ts acc).map (·.1) = (ts.map (·.2.2)).foldl addK (acc.map (·.1))
  | [], _ => rfl
  | t :: r, acc => by
    show (ysOf r (putX acc t.2.2 t.2.1)).map (·.1) = (r.map (·.2.2)).foldl addK (addK (acc.map (·.1)) t.2.2)
    rw [ysOf_keys r, putX_keys]
theorem ysOf_mem : ∀ (ts : List T3) (acc : List (List Int × Addr)) (q : List Int × Addr), q ∈ ysOf ts acc → q ∈ acc ∨ ∃ t ∈ ts, q = (t.2.2, t.2.1)
  | [], _, _, h => .inl h
  | t :: r, acc, q, h => by
    rcases ysOf_mem r _ q h with z | ⟨u, hu, e⟩
    · rcases putX_mem z with z | z
      · exact .inl z
      · exact .inr ⟨t, .head _, z⟩
    · exact .inr ⟨u, .tail _ hu, e⟩
theorem ysOf_len : ∀ (ts : List T3) (acc : List (List Int × Addr)), (ysOf ts acc).length ≤ acc.length + ts.length
  | [], _ => Nat.le_refl _
  | t :: r, acc => by
    have h1 := ysOf_len r (putX acc t.2.2 t.2.1)
    have h2 := putX_len acc t.2.2 t.2.1
    have h3 : ysOf (t :: r) acc = ysOf r (putX acc t.2.2 t.2.1) := rfl
    rw [h3, List.length_cons]
    omega
section
variable {X : Cx}
def rDictT (K : PySem.W.Frag) : List V → Hp → VK → Prop := fun xs H Q => ∃ (a : Addr) (ts : List T3), xs = [.ref a] ∧ SqL K H a (ts.map fun t => V.ref t.1) ∧ (∀ t ∈ ts, SqT K H t.1 [.ref t.2.1, .bl true] ∧ SqT K H t.2.1 (t.2.2.map V.int)) ∧
  ∀ p, H p = none → Q (.ref p) (upd H p (dtO p (ysOf ts [])))
theorem vals_refsT : ∀ {ts : List T3} {its : List Value}, Vals (ts.map fun t => V.ref t.1) its → its = ts.map fun t => Value.ref t.1
  | [], _, .nil => rfl
  | t :: r, _, .cons h q => by
    rw [vals_refsT q]
    cases h
    rfl
theorem call_dictT (hc : X.calm = true) (hu : X.A.units + 4 < cLine) : CallR X (.type "dict") (rDictT X.K) := by
  intro pins s σ H xs us Q I r h
  obtain ⟨a, ts, rfl, hq, hp, q⟩ := h
  obtain ⟨u, rfl, ru⟩ := vals1 r
  cases (show u = Value.ref a from ru)
  obtain ⟨its, rv, pl, hz⟩ := I.list hq
  have ei := vals_refsT rv
  subst ei
  rw [List.length_map] at hz
  obtain ⟨o, n, ho, hc1, hd, hdat⟩ := pl
  have gk : ∀ t ∈ ts, (tupleKind (intKind X.prog X.w)).is s.heap t.2.2 t.2.1 := fun t ht => key_sq I.hok I.kIn (hp t ht).2
  have ok : PlainSeq "list" s.heap a (ts.map fun t => Value.ref t.1).toArray ∧ PairItems s.heap (ts.map fun t => Value.ref t.1).toArray (fun j => ((ts[j]?).map (·.1)).getD 0) (ts.map fun t => (Value.ref t.2.1, Value.bool true)) := by
    refine ⟨⟨o, n, ho, hc1, hd, hdat⟩, by simp, fun j k v hj => ?_⟩
    rw [List.getElem?_map] at hj
    cases e : ts[j]? with
    | none => rw [e] at hj; cases hj
    | some t =>
      rw [e] at hj
      cases hj
      refine ⟨by simp [e], ?_⟩
      obtain ⟨its, r2, tp, _⟩ := I.tuple (hp t (List.mem_of_getElem? e)).1
      cases r2 with
      | cons h1 h2 => cases h2 with
        | cons h3 h4 =>
          cases h4
          cases h1
          cases h3
          refine .inl ?_
          show Heap.IsTuple s.heap (((ts[j]?).map (·.1)).getD 0) #[Value.ref t.2.1, Value.bool true]
          rw [e]
          exact (by simpa using tp : IsTup s.heap t.1 #[Value.ref t.2.1, Value.bool true])
  refine call_dict_pairsH (knd := tupleKind (intKind X.prog X.w)) (ps := ts.map px) (PairArg.list a (ts.map fun t => Value.ref t.1).toArray (fun j => ((ts[j]?).map (·.1)).getD 0) (ts.map fun t => (Value.ref t.2.1, Value.bool true))) (I.ok.hd hc) ?_ ok ⟨by simp, fun i key v e => ?_⟩
    (fun h' hk x hx => ?_) (by simpa using hz) fun h' tk dd kp => ?_
  · show (X.A.in1).in1.units < cLine
    have : (X.A.in1).in1.units = X.A.units + 1 + 1 := rfl
    omega
  · have e2 : (ts.map fun t => (Value.ref t.2.1, Value.bool true))[i]? = some (key, v) := e
    rw [List.getElem?_map] at e2
    cases e3 : ts[i]? with
    | none => rw [e3] at e2; cases e2
    | some t =>
      rw [e3] at e2
      cases e2
      exact ⟨t.2.2, t.2.1, by rw [List.getElem?_map, e3]; rfl, rfl⟩
  · obtain ⟨t, ht, rfl⟩ := List.mem_map.mp hx
    obtain ⟨o, items, n, h1, h2, h3, h4⟩ := gk t ht
    exact ⟨o, items, n, hk _ _ (Nat.ne_of_lt (Heap.lt_size h1)) (by simp) h1, h2, h3, h4⟩
  · have kp2 : ∀ b o, s.heap.get? b = some o → h'.get? b = some o := fun b o e => kp b o (by simp) e
    have e0 := storedAll_kx ts []
    rw [List.map_nil] at e0
    rw [e0] at dd
    obtain ⟨ob, es, ep, e1, e2, e3, e4, _, e5⟩ := dd
    have lo : (s.heap.objs.size == sysModules) = false := beq_eq_false_iff_ne.mpr (Nat.ne_of_gt I.big)
    refine ⟨.ref s.heap.objs.size, upd H s.heap.objs.size (dtO s.heap.objs.size (ysOf ts [])), I.laid (t' := tk) kp2 (Nat.le_refl _) (dtO_ok ⟨lo, ?_, ob, es, ep, e1, e2, e3, ?_, ?_⟩), rfl, q _ (I.hok.fresh (Nat.le_refl _))⟩
    · exact Nat.le_trans (ysOf_len ts []) (by simpa using hz)
    · rw [e4, List.map_map]
      rfl
    · rw [List.map_map] at e5
      exact e5
/-! ### over data -/
section
variable {env : DEnv} {m : Me} {k : Dat → Me → Prop} {kb : Bool → Me → Prop} {a b : Expr} {pos : Pos}
def fDictT (m : Me) (ds : List Dat) (k : Dat → Prop) : Prop := ∃ ks : List (List Int), ds = [.d (.list (ks.map fun ns => .tuple [tupI ns, .bool true]))] ∧ k (.k (ks.foldl addK []))
theorem pairs_T {K : PySem.W.Frag} {H : Hp} : ∀ {ks : List (List Int)} {vs : List V}, DpAll K H vs (ks.map fun ns => .tuple [tupI ns, .bool true]) → ∃ ts : List T3, ts.map (·.2.2) = ks ∧ vs = ts.map (fun t => V.ref t.1) ∧ ∀ t ∈ ts, SqT K H t.1 [.ref t.2.1, .bl true] ∧ SqT K H t.2.1 (t.2.2.map V.int)
  | [], _, .nil => ⟨[], rfl, rfl, fun t ht => nomatch ht⟩
  | ns :: r, _, .cons h q => by
    obtain ⟨ts, h1, h2, h3⟩ := pairs_T q
    cases h with
    | @tup T _ _ hs ha =>
      cases ha with
      | cons d1 d2 => cases d2 with
        | cons d3 d4 =>
          cases d4
          cases d3
          cases d1 with
          | @tup b _ _ hb hn =>
            have e := dpInts hn
            subst e
            refine ⟨(T, b, ns) :: ts, by rw [List.map_cons, h1], by rw [List.map_cons, h2], fun t ht => ?_⟩
            rcases List.mem_cons.mp ht with z | z
            · subst z
              exact ⟨hs, hb⟩
            · exact h3 t z
theorem is_new {K : PySem.W.Frag} {m : Me} {H : Hp} {p : Addr} {ys : List (List Int × Addr)} {ks : List (List Int)} (hm : MemOk K m H) (hp : H p = none) (hk : ys.map (·.1) = ks) (hs : ∀ q ∈ ys, SqT K (hid m H) q.2 (q.1.map V.int)) : DV K m (upd H p (dtO p ys)) (.ref p) (.k ks) := by
  have s : Same H (upd H p (dtO p ys)) := same_new hp
  exact ⟨p, ys, rfl, hid_of (hm.fresh hp) upd_same (hm.new hp) dt_nb, hk, fun q hq => seqT_mono (Ext.of (m := m) s) (hs q hq)⟩
theorem callD_dictT {K : PySem.W.Frag} : CallD K (rDictT K) fDictT := fun m H vs ds k Q hm dvs ⟨ks, e, hk⟩ hq => by
  subst e
  obtain ⟨v, rfl, dv⟩ := dvs1 dvs
  have dv' : Dp K (hid m H) v (.list (ks.map fun ns => .tuple [tupI ns, .bool true])) := dv
  cases dv' with
  | lst hs ha =>
    obtain ⟨ts, h1, h2, h3⟩ := pairs_T ha
    subst h2
    refine ⟨_, ts, rfl, hid_sub.seq hs, fun t ht => ⟨seqT_mono hid_sub (h3 t ht).1, seqT_mono hid_sub (h3 t ht).2⟩, fun p hp => hq _ (.k (ks.foldl addK [])) _ (same_new hp) (is_new hm hp ?_ fun q hq => ?_) hk⟩
    · rw [ysOf_keys, h1]
      rfl
    · rcases ysOf_mem ts [] q hq with z | ⟨t, ht, rfl⟩
      · exact nomatch z
      · exact (h3 t ht).2
def fSortK (_ : Me) (ds : List Dat) (k : Dat → Prop) : Prop := ∃ ks : List (List Int), ds = [.k ks] ∧ (∀ x ∈ ks, x ≠ []) ∧ k (.d (.list ((srt ks).map tupI)))
theorem callD_sortK {K : PySem.W.Frag} : CallD K (rSortK K) fSortK := fun m H vs ds k Q hm dvs ⟨ks, e, hn, hk⟩ hq => by
  subst e
  obtain ⟨v, rfl, dv⟩ := dvs1 dvs
  obtain ⟨D, xs, rfl, h1, h2, h3⟩ := (show IsKs K ks (hid m H) v from dv)
  subst h2
  refine ⟨D, xs, rfl, hid_sub _ _ h1, fun x hx => seqT_mono hid_sub (h3 x hx), fun x hx => hn _ (List.mem_map_of_mem hx), fun ys p hp dp => ?_⟩
  have s : Same H (upd H p (.lst ys)) := same_new hp
  exact hq _ (.d (.list ((srt (xs.map (·.1))).map tupI))) _ s (Dp.lst (SqL.of (hid_of (hm.fresh hp) upd_same (hm.new hp))) (dp _ fun x hx => seqT_mono (Ext.of (m := m) s) (h3 x hx))) hk
def fInK (g : Bool → Bool) (_ : Me) (dx dy : Dat) (k : Dat → Prop) : Prop := ∃ (ns : List Int) (ks : List (List Int)), dx = .d (tupI ns) ∧ dy = .k ks ∧ k (.d (.bool (g (decide (ns ∈ ks)))))
theorem opD_inK {K : PySem.W.Frag} {g : Bool → Bool} : OpD K (rInK K g) (fInK g) := fun m H x y dx dy k Q hm h1 h2 ⟨ns, ks, e1, e2, hk⟩ hq => by
  subst e1 e2
  obtain ⟨D, xs, rfl, g1, g2, g3⟩ := (show IsKs K ks (hid m H) y from h2)
  have h1' : Dp K (hid m H) x (tupI ns) := h1
  cases h1' with
  | @tup b _ _ hb hn =>
    have e := dpInts hn
    subst e
    subst g2
    exact ⟨b, D, xs, ns, rfl, rfl, hid_sub _ _ g1, fun x hx => seqT_mono hid_sub (g3 x hx), seqT_mono hid_sub hb, hq _ _ H (Same.refl _) dv_bl hk⟩
theorem wE_inK (hu : X.A.units + 1 < cLine) (h : wE X a env m fun dx m1 => wE X b env m1 fun dy m2 => fInK id m2 dx dy fun d => k d m2) (hb : behindInMarks .In b = false := by rfl) : wE X (.Compare a [.In] [b] pos) env m k := wE_cmp (op_inK hu) opD_inK hb h
theorem wE_notInK (hu : X.A.units + 1 < cLine) (h : wE X a env m fun dx m1 => wE X b env m1 fun dy m2 => fInK not m2 dx dy fun d => k d m2) (hb : behindInMarks .NotIn b = false := by rfl) : wE X (.Compare a [.NotIn] [b] pos) env m k := wE_cmp (op_notInK hu) opD_inK hb h
theorem wT_inK (hu : X.A.units + 1 < cLine) (h : wE X a env m fun dx m1 => wE X b env m1 fun dy m2 => fInK id m2 dx dy fun d => ∃ c, d = .d (.bool c) ∧ kb c m2) (hb : behindInMarks .In b = false := by rfl) : wT X (.Compare a [.In] [b] pos) env m kb := wT_cmp (op_inK hu) opD_inK hb h
theorem wT_notInK (hu : X.A.units + 1 < cLine) (h : wE X a env m fun dx m1 => wE X b env m1 fun dy m2 => fInK not m2 dx dy fun d => ∃ c, d = .d (.bool c) ∧ kb c m2) (hb : behindInMarks .NotIn b = false := by rfl) : wT X (.Compare a [.NotIn] [b] pos) env m kb := wT_cmp (op_notInK hu) opD_inK hb h
end
end
end DW

set_option Elab.async false
set_option linter.all false
set_option maxRecDepth 100000
set_option maxHeartbeats 1000000
namespace DW
variable [TabsC]
open PySem PySem.Spec PyProof.Rows L2
/-! ### __init__: self's attributes one by one -/
/-- what stays true when an instance of the class at C is written to -/
def StI (C : Addr) (φ : Hp → V → Prop) : Prop := ∀ (H : Hp) (x dx : Addr) (us : List (Str × V)) (o : HO) (v : V), H x = some (.ins C dx us) → φ H v → φ (upd H x o) v
theorem vd_sti {K : PySem.W.Frag} {C : Addr} {d : PyData} : StI C (vd K d) := fun H x dx us o v hx h => dp_but (o0 := .ins C dx us) hx True.intro d v h
theorem ks_but {K : PySem.W.Frag} {C : Addr} {ks : List (List Int)} {H : Hp} {x dx : Addr} {us : List (Str × V)} {o : HO} {v : V} (hx : H x = some (.ins C dx us)) (h : IsKs K ks H v) : IsKs K ks (upd H x o) v := by
  obtain ⟨D, xs, h1, h2, h3, h4⟩ := h
  refine ⟨D, xs, h1, ?_, h3, fun q hq => sqT_but (o0 := .ins C dx us) hx True.intro (h4 q hq)⟩
  rw [upd_ne (fun e => by subst e; rw [hx] at h2; unfold dtO at h2; cases h2)]
  exact h2
theorem vk_sti {K : PySem.W.Frag} {C : Addr} {ks : List (List Int)} : StI C (vk K ks) := fun H x dx us o v hx h => ks_but hx h
theorem vo_sti {C C' : Addr} {fs : List (Str × (Hp → V → Prop))} (hc : C' ≠ C) (hf : ∀ p ∈ fs, StI C p.2) : StI C (vo C' fs) := fun H x dx us o v hx h => by
  obtain ⟨y, dy, ws, h1, h2, h3, h4⟩ := h
  refine ⟨y, dy, ws, h1, ?_, fun p hp => ?_, h4⟩
  · rw [upd_ne (fun e => by subst e; rw [hx] at h2; cases h2; exact hc rfl)]
    exact h2
  · obtain ⟨a, u, b, c⟩ := h3 p hp
    exact ⟨a, u, b, hf p hp _ _ _ _ o _ hx c⟩
def PlainI : Dat → Prop
  | .d _ => True
  | .r _ => True
  | .k _ => True
  | _ => False
theorem DV.but {K : PySem.W.Frag} {m : Me} {H : Hp} {C x dx : Addr} {us : List (Str × V)} {o : HO} {v : V} {d : Dat} (hx : hid m H x = some (.ins C dx us)) (nb : NTb o) (p : PlainI d) (h : DV K m H v d) : DV K m (upd H x o) v d := by
  have e := hid_updN (H := H) (o := o) (hid_some hx).1 (hid_nt hx) nb
  cases d with
  | d y =>
    show Dp K (hid m (upd H x o)) v y
    rw [e]
    exact dp_but hx True.intro y v h
  | r u => exact h
  | k ks =>
    show IsKs K ks (hid m (upd H x o)) v
    rw [e]
    exact ks_but hx h
  | e C y => exact p.elim
  | pe C y => exact p.elim
  | clo f c q σ env => exact p.elim
  | o C fs => exact p.elim
/-- self at x with these attributes; H0, m0: ahead of it -/
structure InitAt (K : PySem.W.Frag) (C x : Addr) (m0 : Me) (H0 : Hp) (i : Nat) (fs : List (Str × (Hp → V → Prop))) (env : DEnv) (m : Me) (σ : L2.St) (H : Hp) : Prop where
  ev : EnvOk K m H σ env
  self : env[i]? = some (some (.r (.ref x)))
  pl : ∀ (j : Nat) (d : Dat), env[j]? = some (some d) → PlainI d
  mem : MemOk K m H
  ext : Ext m0 H0 m H
  new : H0 x = none
  obj : ∃ dx us, hid m H x = some (.ins C dx us) ∧ us.length ≤ fs.length ∧ (∀ p ∈ fs, Stb p.2 ∧ ∃ u, us.lookup p.1 = some u ∧ p.2 (hid m H) u) ∧ ∀ f : Str, f ∉ fs.map (·.1) → us.lookup f = none
  sti : ∀ p ∈ fs, StI C p.2
theorem InitAt.dv {K : PySem.W.Frag} {C x : Addr} {m0 : Me} {H0 : Hp} {i : Nat} {fs : List (Str × (Hp → V → Prop))} {env : DEnv} {m : Me} {σ : L2.St} {H : Hp} (h : InitAt K C x m0 H0 i fs env m σ H) : DV K m H (.ref x) (.o C fs) := by
  obtain ⟨dx, us, h1, _, h3, h4⟩ := h.obj
  exact ⟨x, dx, us, rfl, h1, h3, h4⟩
theorem InitAt.mono {K : PySem.W.Frag} {C x : Addr} {m0 : Me} {H0 : Hp} {i : Nat} {fs : List (Str × (Hp → V → Prop))} {env : DEnv} {m m' : Me} {σ σ' : L2.St} {H H' : Hp} (h : InitAt K C x m0 H0 i fs env m σ H) (e : Ext m H m' H') (hm : MemOk K m' H') (he : EnvOk K m' H' σ' env) : InitAt K C x m0 H0 i fs env m' σ' H' := by
  refine ⟨he, h.self, h.pl, hm, h.ext.trans e, h.new, ?_, h.sti⟩
  obtain ⟨dx, us, h1, h2, h3, h4⟩ := h.obj
  exact ⟨dx, us, e _ _ h1, h2, fun p hp => let ⟨s, u, a, b⟩ := h3 p hp; ⟨s, u, a, s _ _ _ e b⟩, h4⟩
theorem InitAt.envO {K : PySem.W.Frag} {C x : Addr} {m0 : Me} {H0 : Hp} {i : Nat} {fs : List (Str × (Hp → V → Prop))} {env : DEnv} {m : Me} {σ : L2.St} {H : Hp} (h : InitAt K C x m0 H0 i fs env m σ H) : EnvOk K m H σ (env.set i (some (.o C fs))) := by
  refine ⟨by rw [List.length_set]; exact h.ev.1, fun j d hj => ?_⟩
  by_cases hij : i = j
  · subst hij
    have hl : i < env.length := (List.getElem?_eq_some_iff.mp h.self).1
    rw [List.getElem?_set_self hl] at hj
    cases hj
    obtain ⟨v, h1, h2⟩ := h.ev.2 i _ h.self
    cases (show v = .ref x from h2)
    exact ⟨_, h1, h.dv⟩
  · rw [List.getElem?_set_ne hij] at hj
    exact h.ev.2 j d hj
section
variable {X : Cx} {C x : Addr} {m0 m : Me} {H0 : Hp} {i : Nat} {fs : List (Str × (Hp → V → Prop))} {env : DEnv} {st : Stmt} {sts : List Stmt} {kk : List (Str × (Hp → V → Prop)) → Me → Prop} {e : Expr} {f : Str} {pos p1 p2 : Pos} {nm : Str}
def wN (X : Cx) (sts : List Stmt) (C x : Addr) (m0 : Me) (H0 : Hp) (i : Nat) (fs : List (Str × (Hp → V → Prop))) (env : DEnv) (m : Me) (kk : List (Str × (Hp → V → Prop)) → Me → Prop) : Prop :=
  ∀ (σ : L2.St) (H : Hp) (E : Ends), InitAt X.K C x m0 H0 i fs env m σ H → (∀ fs' env' m' σ' H', InitAt X.K C x m0 H0 i fs' env' m' σ' H' → kk fs' m' → E.nx σ' H') → ssW X sts E σ H
theorem wN_nil (h : kk fs m) : wN X [] C x m0 H0 i fs env m kk := fun σ H E I hq pins s J => pss_nil.run pins s σ H E J (hq fs env m σ H I h)
theorem wN_stm (h : wS X st env m { nx := fun env' m' => env' = env ∧ wN X sts C x m0 H0 i fs env m' kk, rt := fun _ _ => False }) : wN X (st :: sts) C x m0 H0 i fs env m kk := fun σ H E I hq pins s J =>
  (pss_cons psW pssW).run pins s σ H E J (h σ H { E with nx := ssW X sts E } I.ev I.mem ⟨fun σ' env' m' H' e1 he hm ⟨q, hw⟩ => by
    subst q
    exact hw σ' H' E (I.mono e1 hm he) hq, fun _ _ _ _ _ _ _ z => z.elim, fun _ _ _ _ _ _ _ z => z.elim, fun _ _ _ _ _ _ _ z => z.elim⟩)
theorem len_putF (f : Str) (v : V) : ∀ fs : List (Str × V), (putF f v fs).length ≤ fs.length + 1
  | [] => by simp [putF]
  | (g, y) :: r => by
    unfold putF
    split
    · simp
    · have := len_putF f v r
      simp
      omega
theorem wN_set (hN : X.N[i]? = some nm) (hv : Vis X.env.scope nm) (hc : Cls X.K C) (hn : NoAttr X.K C f) (hl : fs.length < 900)
    (h : wE X e (env.set i (some (.o C fs))) m fun d m' => ∃ φ, (∀ m H v, DV X.K m H v d → φ (hid m H) v) ∧ Stb φ ∧ StI C φ ∧ f ∉ fs.map (·.1) ∧ wN X sts C x m0 H0 i (fs ++ [(f, φ)]) env m' kk)
    (hs : swapsWith e (some (.Attribute (.Name nm p1) f p2)) pos.line X.env = pure false := by rfl) (hd : (nm == ("__debug__" : Str)) = false := by decide) (hcd : (nm == ("__classdict__" : Str)) = false := by decide) :
    wN X (.Assign [.Attribute (.Name nm p1) f p2] e pos :: sts) C x m0 H0 i fs env m kk := fun σ H E I hq pins s J =>
  (pss_cons (ps_fld (pe_var hN hv hd hcd) peW hs) pssW).run pins s σ H E J (h σ H _ I.envO I.mem fun v d m1 H1 e1 hm1 dv ⟨φ, q1, q2, q3, q4, hw⟩ => by
    have I1 := I.mono e1 hm1 (I.ev.mono e1)
    obtain ⟨u, hu1, hu2⟩ := I1.ev.2 i _ I1.self
    cases (show u = .ref x from hu2)
    obtain ⟨dx, us, o1, o2, o3, o4⟩ := I1.obj
    refine ⟨_, hu1, x, C, dx, us, rfl, hid_sub _ _ o1, hc, hn, by omega, ?_⟩
    have nb : NTb (HO.ins C dx (putF f v us)) := fun ps z => nomatch z
    have eh := hid_updN (H := H1) (o := .ins C dx (putF f v us)) (hid_some o1).1 (hid_nt o1) nb
    refine hw σ _ E ⟨⟨I1.ev.1, fun j d hj => ?_⟩, I1.self, I1.pl, hm1.but o1 True.intro (fun q z => by unfold LamX.CodeO at z; cases z) nb, ext_upd I1.ext I.new, I.new, ⟨dx, putF f v us, ?_, ?_, fun p hp => ?_, fun g hg => ?_⟩, fun p hp => ?_⟩ hq
    · obtain ⟨w, w1, w2⟩ := I1.ev.2 j d hj
      exact ⟨w, w1, w2.but o1 nb (I1.pl j d hj)⟩
    · rw [eh, upd_same]
    · have := len_putF f v us
      rw [List.length_append]
      exact Nat.le_trans this (by simpa using o2)
    · rw [eh]
      rcases List.mem_append.mp hp with z | z
      · obtain ⟨s1, u, s2, s3⟩ := o3 p z
        refine ⟨s1, u, ?_, I1.sti p z _ _ _ _ _ _ o1 s3⟩
        rw [lookup_putF, if_neg (fun e => q4 (by rw [← e]; exact List.mem_map_of_mem z))]
        exact s2
      · cases List.mem_singleton.mp z
        exact ⟨q2, v, by rw [lookup_putF, if_pos rfl], q3 _ _ _ _ _ _ o1 (q1 _ _ _ dv)⟩
    · rw [List.map_append, List.mem_append, not_or] at hg
      rw [lookup_putF, if_neg (fun e => hg.2 (by rw [e]; exact List.mem_singleton.mpr rfl))]
      exact o4 g hg.1
    · rcases List.mem_append.mp hp with z | z
      · exact I1.sti p z
      · cases List.mem_singleton.mp z
        exact q3)
end
section
variable {P : Program} {w : World} {K : PySem.W.Frag} {mg : Str → Option Value} {base : Heap}
/-- a class's __init__ -/
theorem fnI {nx qual : Str} {st : Stmt} {f C : Addr} {fd : FuncData} {N ps : List Str} {k n : Nat} {sp : DSp} (F : Fun K nx qual st f fd) (S : FnScope N ps (defScope st)) (hn : ps.length = n + 1)
    (hb : ∀ (cdv : Value) (A : Around) (outer : List Env) (s : Shared) (H : Hp) (E : XK), RoomG k (bX P w K mg base N qual st f cdv A outer s H E).A → ∀ m ds kk x m0 H0, sp m ds kk → ds.length = n →
      (∀ d ∈ ds, PlainI d) ∧ wN (bX P w K mg base N qual st f cdv A outer s H E) (defBody st) C x m0 H0 0 [] (env0 N (.r (.ref x) :: ds)) m fun fs m' => kk (.o C fs) m') : FnG P w K mg base CX0 (k + 1) f fd ps (spI K C n sp) := by
  refine fnG_of F S (fun vs H Q E h => by rw [h.1, hn]) (fun cdv A outer s H vs Q E hr ⟨hl, x, dx, us, H0, m, ds, kk, e, nx, nd, ne, eH, hm, dvs, hw, hq⟩ => ?_)
  refine ⟨_, (pssW (X := bX P w K mg base N qual st f cdv A outer s H E)).nox, ?_⟩
  subst e
  have l1 : us.length = n := by simpa using hl
  obtain ⟨pl, hbb⟩ := hb cdv A outer s H E hr m ds kk x m H0 hw (by rw [← dvs.len, l1])
  have sm : Same H0 H := fun a o q => by
    rw [eH, upd_ne (ne_of_none q nx), upd_ne (ne_of_none q nd)]
    exact q
  have hm1 := hm.mono sm
  have hx : hid m H x = some (.ins C dx []) := hid_of (hm.fresh nx) (by rw [eH, upd_same]) (hm.new nx)
  have d0 : DVs K m H (.ref x :: us) (.r (.ref x) :: ds) := .cons rfl (dvs.mono (Ext.of sm))
  refine hbb _ H _ ⟨envOk0 d0, ?_, fun j d hj => ?_, hm1, Ext.of sm, nx, ⟨dx, [], hx, Nat.le_refl _, (fun p hp => nomatch hp), fun _ _ => rfl⟩, fun p hp => nomatch hp⟩ fun fs' env' m' σ' H' I hk => hq _ m' H' I.ext I.mem I.dv hk
  · unfold env0
    simp
  · unfold env0 at hj
    by_cases q : j < (Dat.r (.ref x) :: ds).length
    · rw [List.getElem?_append_left (by simpa using q), List.getElem?_map] at hj
      cases z : (Dat.r (.ref x) :: ds)[j]? with
      | none => rw [z] at hj; cases hj
      | some y =>
        rw [z] at hj
        cases hj
        rcases List.mem_cons.mp (List.mem_of_getElem? z) with r | r
        · subst r
          trivial
        · exact pl _ r
    · rw [List.getElem?_append_right (by simpa using q)] at hj
      obtain ⟨_, e⟩ := List.getElem?_eq_some_iff.mp hj
      simp at e
end
end DW

set_option Elab.async false
set_option linter.all false
set_option maxRecDepth 100000
set_option maxHeartbeats 1000000
namespace DW
variable [TabsC]
open PySem PySem.Spec PyProof.Rows L2
/-! ### methods and classes by keywords -/
/-- self by position, the rest by name -/
def MBinds (fd : FuncData) (ps ks : List Str) : Prop := ∀ (s : Shared) (u : Value) (ws : List Value), ws.length = ks.length → BindsTo s fd ⟨[u], ks.zip ws⟩ (ps.zip (u :: ws))
section
variable {X : Cx} {env : DEnv} {m : Me} {k : Dat → Me → Prop} {o e : Expr} {es : List Expr} {mt x : Str} {pos apos p : Pos} {C : Addr} {kws : List Keyword} {ks : List Str}
def tMethK (C : Addr) (m : Str) (sp : Sp) (E : XK) (ta : TE) (tk : TA) (n : Nat) : TE := fun σ H Q => ta σ H fun x H1 => ∃ a dx fs, x = .ref a ∧ H1 a = some (.ins C dx fs) ∧ fs.lookup m = none ∧ tk σ H1 fun zs H2 => zs.length = n ∧ sp (x :: zs) H2 Q E
theorem pe_methK {ta : TE} {tk : TA} {f : Addr} {fd : FuncData} {ps : List Str} {sp : Sp} {E : XK} {CX : CXT} {j : Nat} {pl : Sem Bool} (he : PE X o ta) (c : Cls X.K C) (hm : Meth X.K C mt f) (F : FnG X.prog X.w X.K X.mg X.base CX j f fd ps sp) (hr : RoomG j X.A)
    (hb : MBinds fd ps ks) (hx : Passes CX X E) (hkw : PK X kws tk) (hall : (backToKw pos (keywordEach kws X.env)).all (·.1.isSome) = true := by rfl) (hks : (backToKw pos (keywordEach kws X.env)).filterMap (·.1) = ks := by rfl)
    (hpl : ((backTo pos (starEach [] X.env)).any (·.1) || (backToKw pos (keywordEach kws X.env)).any (·.1.isNone)) = false := by rfl)
    (ht : eval (.Call (.Attribute o mt apos) [] kws pos) X.env = (do
      let ov ← eval o X.env
      standAt apos.atName
      let (f, first) ← holding [ov] (getMethod ov mt pl)
      callWith pos f first (backTo pos (starEach [] X.env)) (backToKw pos (keywordEach kws X.env))) := by rfl) :
    PE X (.Call (.Attribute o mt apos) [] kws pos) (tMethK C mt sp E ta tk ks.length) := by
  refine ⟨fun pins s σ H Q I h => ?_⟩
  refine PySem.W.methodCall_KW (pl := pl) (thn (he.run pins s σ H _ I h) fun u s1 ⟨y, H1, I1, rx, a, dx, fs, ex, ea, l, q⟩ => ?_) ht
  subst ex
  obtain rfl : u = Value.ref a := rx
  refine getmeth_ok I1 ea c hm l ?_
  refine PySem.W.callWith_KW0 (first := [.ref a]) (h₀ := X.base) I1.ok.mod.kin hm.kp hall ?_ hpl
  refine thn (hkw.run pos pins s1 σ H1 _ I1 q) fun ws s2 ⟨zs, H2, I2, rz, lz, q2⟩ => ⟨I2.kIn, ?_⟩
  rw [hks]
  have r2 : Vals (V.ref a :: zs) (Value.ref a :: ws) := .cons rfl rz
  exact runG (args := ⟨[.ref a], ks.zip ws⟩) F hr hx I2 (fun _ => hb s2 (.ref a) ws (by rw [← rz.length, lz])) r2 q2
/-- o.m(k = v, ..) -/
theorem wE_methK {f : Addr} {fd : FuncData} {ps : List Str} {sp : DSp} {j n : Nat} {pl : Sem Bool} (c : Cls X.K C) (hm : Meth X.K C mt f) (F : FnG X.prog X.w X.K X.mg X.base CX0 j f fd ps (spD X.K n sp)) (hr : RoomG j X.A) (hb : MBinds fd ps ks)
    (h : wE X o env m fun d m1 => ∃ fs, d = .o C fs ∧ mt ∉ fs.map (·.1) ∧ wK X kws env m1 fun as m2 => as.length = ks.length ∧ as.length + 1 = n ∧ sp m2 (.o C fs :: as) k)
    (hall : (backToKw pos (keywordEach kws X.env)).all (·.1.isSome) = true := by rfl) (hks : (backToKw pos (keywordEach kws X.env)).filterMap (·.1) = ks := by rfl)
    (hpl : ((backTo pos (starEach [] X.env)).any (·.1) || (backToKw pos (keywordEach kws X.env)).any (·.1.isNone)) = false := by rfl)
    (ht : eval (.Call (.Attribute o mt apos) [] kws pos) X.env = (do
      let ov ← eval o X.env
      standAt apos.atName
      let (f, first) ← holding [ov] (getMethod ov mt pl)
      callWith pos f first (backTo pos (starEach [] X.env)) (backToKw pos (keywordEach kws X.env))) := by rfl) : wE X (.Call (.Attribute o mt apos) [] kws pos) env m k :=
  wE_of (pe_methK (E := fun _ _ _ => False) peW c hm F hr hb pass0 pkW hall hks hpl ht) fun σ H Q he hm0 hq => h σ H _ he hm0 fun v d m1 H1 e1 hm1 dv ⟨gs, q, h1, h3⟩ => by
    subst q
    have dv0 : DVo (hid m1 H1) v C gs := dv
    obtain ⟨y, dx, us, rfl, g1, g2, g6⟩ := dv
    refine ⟨y, dx, us, rfl, hid_sub _ _ g1, g6 mt h1, h3 σ H1 _ (he.mono e1) hm1 fun vs as m2 H2 e2 hm2 dvs ⟨hl, hn, hw⟩ => ?_⟩
    exact ⟨by rw [dvs.len]; exact hl, by rw [List.length_cons, dvs.len]; exact hn, m2, .o C gs :: as, k, hm2, .cons (DVo.mono e2 dv0) dvs, hw, fun v d m' H' e3 => hq v d m' H' ((e1.trans e2).trans e3)⟩
/-- o.m() -/
theorem pe_meth0G {ta : TE} {f : Addr} {fd : FuncData} {ps : List Str} {sp : Sp} {E : XK} {CX : CXT} {j : Nat} {pl : Sem Bool} (he : PE X o ta) (c : Cls X.K C) (hm : Meth X.K C mt f) (F : FnG X.prog X.w X.K X.mg X.base CX j f fd ps sp) (hr : RoomG j X.A)
    (hb : Binds X.K fd ps []) (hx : Passes CX X E)
    (ht : eval (.Call (.Attribute o mt apos) [] [] pos) X.env = (do
      let ov ← eval o X.env
      standAt apos.atName
      let (f, first) ← holding [ov] (getMethod ov mt pl)
      callWith pos f first (backTo pos (starEach [] X.env)) (backToKw pos (keywordEach [] X.env))) := by rfl) :
    PE X (.Call (.Attribute o mt apos) [] [] pos) (tMeth C mt sp [] E ta tNil) := by
  refine ⟨fun pins s σ H Q I h => ?_⟩
  refine PySem.W.methodCall_KW (pl := pl) (thn (he.run pins s σ H _ I h) fun u s1 ⟨y, H1, I1, rx, a, dx, fs, ex, ea, l, q⟩ => ?_) ht
  subst ex
  obtain rfl : u = Value.ref a := rx
  refine getmeth_ok I1 ea c hm l ?_
  refine PySem.W.callWith_K0 (first := [.ref a]) I1.kIn hm.kp ?_
  exact runG (args := ⟨[.ref a], []⟩) (us := [.ref a]) (vs := [.ref a]) F hr hx I1 (fun hl => by
    have := hb s1 [.ref a] I1.kIn (by simpa using hl)
    simpa using this) (.cons rfl .nil) q
theorem wE_meth0 {f : Addr} {fd : FuncData} {ps : List Str} {sp : DSp} {j : Nat} {pl : Sem Bool} (c : Cls X.K C) (hm : Meth X.K C mt f) (F : FnG X.prog X.w X.K X.mg X.base CX0 j f fd ps (spD X.K 1 sp)) (hr : RoomG j X.A) (hb : Binds X.K fd ps [])
    (h : wE X o env m fun d m1 => ∃ fs, d = .o C fs ∧ mt ∉ fs.map (·.1) ∧ sp m1 [.o C fs] k)
    (ht : eval (.Call (.Attribute o mt apos) [] [] pos) X.env = (do
      let ov ← eval o X.env
      standAt apos.atName
      let (f, first) ← holding [ov] (getMethod ov mt pl)
      callWith pos f first (backTo pos (starEach [] X.env)) (backToKw pos (keywordEach [] X.env))) := by rfl) : wE X (.Call (.Attribute o mt apos) [] [] pos) env m k :=
  wE_of (pe_meth0G (E := fun _ _ _ => False) peW c hm F hr hb pass0 ht) fun σ H Q he hm0 hq => h σ H _ he hm0 fun v d m1 H1 e1 hm1 dv ⟨gs, q, h1, hw⟩ => by
    subst q
    have dv0 : DVo (hid m1 H1) v C gs := dv
    obtain ⟨y, dx, us, rfl, g1, g2, g6⟩ := dv
    exact ⟨y, dx, us, rfl, hid_sub _ _ g1, g6 mt h1, rfl, m1, [.o C gs], k, hm1, .cons dv0 .nil, hw, fun v d m' H' e3 => hq v d m' H' (e1.trans e3)⟩
/-- C(k = v, ..) -/
theorem pe_makeKG {f : Addr} {fd : FuncData} {ps : List Str} {sp : Sp} {E : XK} {CX : CXT} {j : Nat} {tk : TA} (M : Mk X.K C f) (F : FnG X.prog X.w X.K X.mg X.base CX j f fd ps sp) (hr : RoomG (j + 1) X.A) (hg : Gl X x) (hm : X.mg x = some (.ref C)) (hb : MBinds fd ps ks) (hx : Passes CX X E) (hkw : PK X kws tk)
    (hall : (backToKw pos (keywordEach kws X.env)).all (·.1.isSome) = true := by rfl) (hks : (backToKw pos (keywordEach kws X.env)).filterMap (·.1) = ks := by rfl) (hdb : (x == ("__debug__" : Str)) = false := by decide)
    (hpl : ((backTo pos (starEach [] X.env)).any (·.1) || (backToKw pos (keywordEach kws X.env)).any (·.1.isNone)) = false := by rfl) :
    PE X (.Call (.Name x p) [] kws pos) (fun σ H Q => tk σ H fun zs H1 => zs.length = ks.length ∧ ∀ y dx, H1 y = none → H1 dx = none → dx ≠ y → sp (.ref y :: zs) (upd (upd H1 dx (.own y)) y (.ins C dx [])) (fun v H2 => v = .non ∧ Q (.ref y) H2) E) := by
  refine ⟨fun pins s σ H Q I h => ?_⟩
  refine wpAny_Call_Name_kw (ld_glob I hg hm ?_ hdb)
  refine PySem.W.callWith_KW0 (h₀ := X.base) I.ok.mod.kin M.kp hall ?_ hpl
  refine thn (hkw.run pos pins s σ H _ I h) fun ws s1 ⟨zs, H1, I1, rz, lz, q⟩ => ⟨I1.kIn, ?_⟩
  rw [hks]
  have hq := q (s1.heap.objs.size + 1) s1.heap.objs.size (I1.hok.fresh (Nat.le_succ _)) (I1.hok.fresh (Nat.le_refl _)) (Nat.ne_of_lt (Nat.lt_succ_self _))
  have I2 := Inv.made (C := C) I1
  have r2 : Vals (V.ref (s1.heap.objs.size + 1) :: zs) (Value.ref (s1.heap.objs.size + 1) :: ws) := .cons rfl rz
  refine wpAny_call (make_map (f := f) I1.kIn M.makes M.init (beq_iff_eq.mp M.fn) (codeAny_mono (F.go _ X.stack _ _ ⟨[Value.ref (s1.heap.objs.size + 1)], ks.zip ws⟩ (Value.ref (s1.heap.objs.size + 1) :: ws) _ _ E ⟨hr.room.make C [] (ks.zip ws), hr.gd⟩
    (I2.env0.make C [] (ks.zip ws)) (hb _ _ ws (by rw [← rz.length, lz])) r2 hq) fun r s' hq' => ?_))
  cases r with
  | error e => exact hx pins σ _ _ e s' I2 hq'
  | ok fl =>
    cases fl with
    | ret u =>
      obtain ⟨v, H', I3, rv, ev, q3⟩ := I2.after hq'
      subst ev
      exact ⟨rv, ⟨V.ref (s1.heap.objs.size + 1), H', I3, rfl, q3⟩⟩
    | next => exact False.elim hq'
    | brk => exact False.elim hq'
    | cont => exact False.elim hq'
theorem wE_makeK {f : Addr} {fd : FuncData} {ps : List Str} {w : DSp} {j n : Nat} (M : Mk X.K C f) (F : FnG X.prog X.w X.K X.mg X.base CX0 j f fd ps (spI X.K C n w)) (hr : RoomG (j + 1) X.A) (hg : Gl X x) (hm0 : X.mg x = some (.ref C)) (hb : MBinds fd ps ks)
    (h : wK X kws env m fun ds m1 => ds.length = ks.length ∧ ds.length = n ∧ w m1 ds k)
    (hall : (backToKw pos (keywordEach kws X.env)).all (·.1.isSome) = true := by rfl) (hks : (backToKw pos (keywordEach kws X.env)).filterMap (·.1) = ks := by rfl) (hdb : (x == ("__debug__" : Str)) = false := by decide)
    (hpl : ((backTo pos (starEach [] X.env)).any (·.1) || (backToKw pos (keywordEach kws X.env)).any (·.1.isNone)) = false := by rfl) : wE X (.Call (.Name x p) [] kws pos) env m k :=
  wE_of (pe_makeKG (E := fun _ _ _ => False) M F hr hg hm0 hb pass0 pkW hall hks hdb hpl) fun σ H Q he hm hq =>
    h σ H _ he hm fun vs ds m1 H1 e1 hm1 dvs ⟨hl, hn, hw⟩ => ⟨by rw [dvs.len, hl], fun y dx ny nd ne =>
      ⟨by rw [List.length_cons, dvs.len, hn], y, dx, vs, H1, m1, ds, k, rfl, ny, nd, ne, rfl, hm1, dvs, hw, fun d m' H' e2 hm2 dv hk => ⟨rfl, hq _ d m' H' (e1.trans e2) hm2 dv hk⟩⟩⟩
end
/-! ### isinstance, == against data -/
/-- what isinstance asks of a class of one's own -/
structure ClsI (K : PySem.W.Frag) (C : Addr) : Prop where
  cl : Cls K C
  ha : PySem.W.findIn K (.ref C) "__class__" = some (some (.builtin "object.__class__"))
  hn : PySem.W.specialIn K (.builtin "object.__class__") "__get__" = some (some (.builtin "getset_descriptor.__get__"))
  htk : PySem.W.takesIn K (.builtin "object.__class__") = some true
  hm : PySem.W.mroIn K C (.type "object") = some true
/-- no built-in value is one of C's -/
structure KitN (K : PySem.W.Frag) (C : Addr) : Prop where
  non : PySem.W.kitOne K (.type "NoneType") (.ref C) = some false
  bool : PySem.W.kitOne K (.type "bool") (.ref C) = some false
  int : PySem.W.kitOne K (.type "int") (.ref C) = some false
  str : PySem.W.kitOne K (.type "str") (.ref C) = some false
  list : PySem.W.kitOne K (.type "list") (.ref C) = some false
  tuple : PySem.W.kitOne K (.type "tuple") (.ref C) = some false
theorem KitN.at {K : PySem.W.Frag} {C : Addr} (h : KitN K C) {H : Hp} {v : V} {d : PyData} (r : Dp K H v d) : PySem.W.kitOne K (.type (tyD d)) (.ref C) = some false := by
  cases r with
  | non => exact h.non
  | bl b => exact h.bool
  | int i => exact h.int
  | str x => exact h.str
  | lst _ _ => exact h.list
  | tup _ _ => exact h.tuple
section
variable {X : Cx} {C : Addr}
def fIsO (K : PySem.W.Frag) (C : Addr) (_ : Me) (ds : List Dat) (k : Dat → Prop) : Prop := (∃ fs, ds = [.o C fs, .r (.ref C)] ∧ ClsI K C ∧ k (.d (.bool true))) ∨ (∃ d, ds = [.d d, .r (.ref C)] ∧ KitN K C ∧ k (.d (.bool false)))
theorem callD_isO {K : PySem.W.Frag} : CallD K (rIsi K) (fIsO K C) := fun m H vs ds k Q hm dvs h hq => by
  rcases h with ⟨fs, e, hc, hk⟩ | ⟨d, e, hc, hk⟩
  · subst e
    obtain ⟨v, v', rfl, d1, d2⟩ := dvs2 dvs
    obtain rfl : v' = .ref C := d2
    obtain ⟨y, dx, us, rfl, g1, _⟩ := (show DVo (hid m H) v C fs from d1)
    exact ⟨.ref y, .ref C, .ref C, .ref C, true, rfl, .own C, .base (.ins (hid_sub _ _ g1) hc.cl hc.ha hc.hn hc.htk hc.hm), kit_self, hq _ _ H (Same.refl _) dv_bl hk⟩
  · subst e
    obtain ⟨v, v', rfl, d1, d2⟩ := dvs2 dvs
    obtain rfl : v' = .ref C := d2
    exact ⟨v, .ref C, _, .ref C, false, rfl, .own C, tyX_of hid_sub d1, hc.at d1, hq _ _ H (Same.refl _) dv_bl hk⟩
end
end DW

set_option Elab.async false
set_option linter.all false
set_option maxRecDepth 100000
set_option maxHeartbeats 1000000
namespace DW
variable [TabsC]
open PySem PySem.Spec PyProof.Rows L2
/-! ### x == y by an own __eq__, y a tuple -/
section
variable {X : Cx} {env : DEnv} {m : Me} {k : Dat → Me → Prop} {a b : Expr} {pos : Pos} {C : Addr}
def rEqOT (K : PySem.W.Frag) (C : Addr) (sp : Sp) (E : XK) : R2 := fun x y H Q => ∃ p dx fs, x = .ref p ∧ H p = some (.ins C dx fs) ∧ (∃ q ys, y = .ref q ∧ SqT K H q ys ∧ PySem.W.notFirst K C (.type "tuple") = true) ∧ sp [x, y] H Q E
theorem op_eqOT {g : Addr} {fd : FuncData} {ps : List Str} {sp : Sp} {E : XK} {CX : CXT} {n : Nat} (hs : PySem.W.findIn X.K (.ref C) "__eq__" = some (some (.ref g))) (hf : PySem.W.isFn X.K (.ref g) = true) (F : FnG X.prog X.w X.K X.mg X.base CX n g fd ps sp)
    (hr : RoomG n X.A) (hb : Binds X.K fd ps []) (hx : Passes CX X E) : OpR X (compareOp .Eq) (rEqOT X.K C sp E) := by
  intro pins s σ H x y v u Q I rx ry h
  obtain ⟨p, dx, fs, rfl, hp, ⟨q, ys, rfl, hq, hn⟩, hsp⟩ := h
  cases (show v = Value.ref p from rx)
  cases (show u = Value.ref q from ry)
  obtain ⟨mA, O, _, _, _, _⟩ := ins_get I.hok hp
  obtain ⟨od, J, _⟩ := O.look
  obtain ⟨its, o, n0, _, h1, h2, _⟩ := sqT_at I.hok I.kIn hq
  obtain ⟨mm, hF⟩ := I.fr
  show wpAny (model X.prog X.w) X.A (richCompare .Eq (.ref p) (.ref q)) (EP X pins σ Q) X.xe s
  refine PySem.W.cmp_K (op := .Eq) (tb := .type "tuple") hr.room.units0 hF I.ok.mod.kin J (h2 ▸ (PySem.W.Looks.ld h1).andThen .now) hn hs hf ?_
  refine wpAny_mono (runG (args := ⟨[.ref p, .ref q], []⟩) (us := [.ref p, .ref q]) (vs := [.ref p, .ref q]) F hr hx I (fun hl => by
    have := hb s [.ref p, .ref q] I.kIn (by simpa using hl)
    simpa using this) (.cons rfl (.cons rfl .nil)) hsp) (fun w s' z => ?_) fun _ _ x => x
  obtain ⟨z', H', I', rz, qz⟩ := z
  exact SlX.cmpback rz ⟨z', H', I', rz, qz⟩
theorem wE_eqOT {g : Addr} {fd : FuncData} {ps : List Str} {sp : DSp} {j : Nat} (hs : PySem.W.findIn X.K (.ref C) "__eq__" = some (some (.ref g))) (hf : PySem.W.isFn X.K (.ref g) = true) (F : FnG X.prog X.w X.K X.mg X.base CX0 j g fd ps (spD X.K 2 sp))
    (hr : RoomG j X.A) (hb : Binds X.K fd ps []) (h : wE X a env m fun d1 m1 => wE X b env m1 fun d2 m2 => ∃ fs xs, d1 = .o C fs ∧ d2 = .d (.tuple xs) ∧ PySem.W.notFirst X.K C (.type "tuple") = true ∧ sp m2 [d1, d2] k) : wE X (.Compare a [.Eq] [b] pos) env m k :=
  wE_of (pe_cmpR (op_eqOT (E := fun _ _ _ => False) hs hf F hr hb pass0) peW peW (nomark _)) fun σ H Q he hm hq => h σ H _ he hm fun v d1 m1 H1 e1 hm1 dv1 h1 => h1 σ H1 _ (he.mono e1) hm1 fun u d2 m2 H2 e2 hm2 dv2 ⟨fs, xs, q1, q2, hn, hw⟩ => by
    subst q1 q2
    have dv1' : DV X.K m2 H2 v (.o C fs) := DV.mono e2 dv1
    have dv2' : DV X.K m2 H2 u (.d (.tuple xs)) := dv2
    obtain ⟨y, dx, us, rfl, g1, _⟩ := (show DVo (hid m2 H2) v C fs from dv1')
    cases dv2 with
    | tup hs2 ha => exact ⟨y, dx, us, rfl, hid_sub _ _ g1, ⟨_, _, rfl, seqT_mono hid_sub hs2, hn⟩, rfl, m2, [.o C fs, .d (.tuple xs)], k, hm2, .cons dv1' (.cons dv2' .nil), hw, fun v d m' H' e3 => hq v d m' H' ((e1.trans e2).trans e3)⟩
end
/-! ### comprehensions: with a test, of two clauses, as functions of the items -/
section
variable {X : Cx} {env : DEnv} {m : Me} {k : Dat → Me → Prop} {pos : Pos} {scope : Scope} {tg iter elt c tg1 iter1 : Expr}
def stepT (X : Cx) (scope : Scope) (vs : List Nat) (tg c elt : Expr) (env : DEnv) (m : Me) (x : PyData) (kt : Me → Prop) (ke : Dat → Me → Prop) : Prop :=
  ∀ s H C cl fp, wG (bk X scope s H C cl fp) vs tg (wipeE env vs) m (.d x) fun env' => ∀ s H C cl fp, wT (bk X scope s H C cl fp) c env' m fun b m1 => (b = true → ∀ s H C cl fp, wE (bk X scope s H C cl fp) elt env' m1 ke) ∧ (b = false → kt m1)
def lcF (step : Me → PyData → (Me → Prop) → (Dat → Me → Prop) → Prop) : List PyData → List PyData → Me → (List PyData → Me → Prop) → Prop
  | [], acc, m, k => k acc m
  | x :: r, acc, m, k => ∀ D, step (m.own D acc) x (fun m' => ∃ m2, m' = Me.own m2 D acc ∧ lcF step r acc m2 k) fun d m' => ∃ y m2, d = .d y ∧ m' = Me.own m2 D acc ∧ lcF step r (acc ++ [y]) m2 k
theorem lcF_filter {step : Me → PyData → (Me → Prop) → (Dat → Me → Prop) → Prop} (p : PyData → Bool) (f : PyData → PyData) : ∀ {xs acc : List PyData} {m : Me} {k : List PyData → Me → Prop},
    (∀ x ∈ xs, ∀ m' kt ke, (p x = true → ke (.d (f x)) m') → (p x = false → kt m') → step m' x kt ke) → k (acc ++ (xs.filter p).map f) m → lcF step xs acc m k
  | [], acc, m, k, _, hk => by
    have hk' : k (acc ++ []) m := hk
    rw [List.append_nil] at hk'
    exact hk'
  | x :: r, acc, m, k, h, hk => fun D => h x List.mem_cons_self _ _ _ (fun hp => ⟨f x, m, rfl, rfl, lcF_filter p f (fun y hy => h y (List.mem_cons_of_mem _ hy)) (by
      rw [List.filter_cons, if_pos hp] at hk
      rw [List.append_assoc]
      exact hk)⟩) fun hp => ⟨m, rfl, lcF_filter p f (fun y hy => h y (List.mem_cons_of_mem _ hy)) (by
      rw [List.filter_cons, if_neg (by rw [hp]; exact Bool.false_ne_true)] at hk
      exact hk)⟩
theorem lcF_read {vs : List Nat} {σ : L2.St} {H : Hp} {Q : VK} (he : EnvOk X.K m H σ env) (hm : MemOk X.K m H) (hq : ∀ v d m' H', Ext m H m' H' → MemOk X.K m' H' → DV X.K m' H' v d → k d m' → Q v H')
    (h : wI X tg iter env m fun xs m1 => xs.length ≤ 10000000 ∧ lcF (stepT X scope vs tg c elt env) xs [] m1 fun ys m2 => k (.d (.list ys)) m2) :
    tLc (iW X tg iter) (gB X scope tg) (tB X scope c) (eB X scope elt) vs σ H Q := by
  refine h σ H _ he hm fun J xs m1 H1 e1 hm1 dit ⟨hl, hk⟩ => fun D hD => ?_
  obtain ⟨s1, s2⟩ := own_ok (vs := []) (xs := []) hm1 hD .nil
  refine ⟨fun i n H' => n = xs.length - i ∧ i ≤ xs.length ∧ ∃ m' acc, acc.length ≤ i ∧ MemOk X.K (Me.own m' D acc) H' ∧ Ext m1 H1 (Me.own m' D acc) H' ∧ lcF (stepT X scope vs tg c elt env) (xs.drop i) acc m' fun ys m2 => k (.d (.list ys)) m2,
    ⟨xs.length, rfl, Nat.zero_le _, m1, [], Nat.le_refl _, s1, s2, hk⟩, ?_⟩
  rintro i n H2 ⟨rfl, hi, m', acc, ha, hm2, e2, hk2⟩
  have dt := (dit.mono e2) (Me.own m' D acc) H2 Ext.refl hm2 i
  by_cases hlt : i < xs.length
  · have hx : xs[i]? = some xs[i] := List.getElem?_eq_getElem hlt
    obtain ⟨go, yl⟩ := dt.1 _ hx
    rw [List.drop_eq_getElem_cons hlt] at hk2
    refine .inr ⟨go, fun H3 => ∃ m3 acc3, acc3.length ≤ i + 1 ∧ MemOk X.K (Me.own m3 D acc3) H3 ∧ Ext m1 H1 (Me.own m3 D acc3) H3 ∧ lcF (stepT X scope vs tg c elt env) (xs.drop (i + 1)) acc3 m3 fun ys m2 => k (.d (.list ys)) m2,
      fun H3 h3 => ⟨xs.length - (i + 1), by omega, rfl, hlt, h3⟩, fun v H3 y => ?_⟩
    obtain ⟨sm, dv⟩ := yl v H3 y
    have hm3 := hm2.mono sm
    have e3 : Ext m H (Me.own m' D acc) H3 := (e1.trans e2).trans (Ext.of sm)
    intro s Hs C cl fp
    refine hk2 D s Hs C cl fp (L2.wipe σ vs) H3 v _ ((he.mono e3).wipe vs) hm3 dv ?_
    intro σ2 env2 eo ag hE
    refine ⟨wipe_agree ag, ?_⟩
    intro s4 Hs4 C4 cl4 fp4
    refine hE s4 Hs4 C4 cl4 fp4 σ2 H3 _ eo hm3 ?_
    rintro b m4 H4 e4 hm4 ⟨h1, h0⟩
    cases b with
    | false =>
      obtain ⟨m5, rfl, hk5⟩ := h0 rfl
      rw [if_neg Bool.false_ne_true]
      exact ⟨m5, acc, Nat.le_succ_of_le ha, hm4, (e2.trans (Ext.of sm)).trans e4, hk5⟩
    | true =>
      rw [if_pos rfl]
      intro s5 Hs5 C5 cl5 fp5
      refine h1 rfl s5 Hs5 C5 cl5 fp5 σ2 H4 _ (eo.mono e4) hm4 ?_
      rintro w d m5 H5 e5 hm5 dw ⟨y', m6, rfl, rfl, hk5⟩
      obtain ⟨ws, w1, w2⟩ := own_at hm5
      obtain ⟨o1, o2⟩ := own_set (acc' := acc ++ [y']) hm5 (dpAll_append w2 (dpAll_one dw))
      have wl := dpAll_len w2
      exact ⟨ws, w1, Nat.lt_of_lt_of_le (by omega : ws.length < 10000001) (by decide), m6, acc ++ [y'], by simpa using ha, o1, (((e2.trans (Ext.of sm)).trans e4).trans e5).trans o2, hk5⟩
  · have ei : i = xs.length := by omega
    have stop := dt.2 (by omega)
    rw [ei, List.drop_length] at hk2
    obtain ⟨d1, d2, d3⟩ := own_drop hm2
    exact .inl ⟨stop, hq _ _ m' H2 ((e1.trans e2).trans d2) d1 d3 hk2⟩
/-- [e for x in xs if c] -/
theorem wE_lcF (own : List (Str × Nat)) (hc : X.calm = true) (hN : X.N.Nodup) (ok : BlkOk X.N X.env.scope scope own)
    (h : wI X tg iter env m fun xs m1 => xs.length ≤ 10000000 ∧ lcF (stepT X scope (own.map (·.2)) tg c elt env) xs [] m1 fun ys m2 => k (.d (.list ys)) m2) (hs : ∀ x, foldedSetIterable iter X.env x = pure x := by intro _; rfl) :
    wE X (.ListComp elt [⟨tg, iter, [c], 0⟩] scope pos) env m k :=
  wE_of (pe_lc hc hN piW ok pgB (fun _ _ _ _ _ => pts_one (ptB_ _ _ _ _ _)) peB hs) fun σ H Q he hm hq => lcF_read he hm hq h
theorem lcD_map {D : Addr} {step : Me → PyData → (Dat → Me → Prop) → Prop} (g : PyData → PyData) : ∀ {ys acc : List PyData} {m : Me} {kk : List PyData → Me → Prop},
    (∀ y ∈ ys, ∀ m' k', k' (.d (g y)) m' → step m' y k') → kk (acc ++ ys.map g) m → lcD D step ys acc m kk
  | [], acc, m, kk, _, hk => by
    have hk' : kk (acc ++ []) m := hk
    rw [List.append_nil] at hk'
    exact hk'
  | y :: r, acc, m, kk, h, hk => h y List.mem_cons_self _ _ ⟨g y, m, rfl, rfl, lcD_map g (fun z hz => h z (List.mem_cons_of_mem _ hz)) (by rw [List.append_assoc]; exact hk)⟩
/-- [g y for x in xs for y in f x] -/
theorem lc2_flat {vs vs1 : List Nat} (f : PyData → List PyData) (g : PyData → PyData → PyData) : ∀ {xs acc : List PyData} {m : Me} {kk : List PyData → Me → Prop},
    (∀ x ∈ xs, ∀ (D : Addr) (acc : List PyData) (kx : List PyData → Me → Prop), (∀ ka : DEnv → List PyData → Me → Prop, (∀ env2, (∀ y ∈ f x, ∀ m' k', k' (.d (g x y)) m' → stepI X scope vs1 tg1 elt env2 m' y k') → ka env2 (f x) (Me.own m D acc)) →
        ∀ s H C cl fp, wG (bk X scope s H C cl fp) vs tg (wipeE env vs) (m.own D acc) (.d x) fun env2 => ∀ s H C cl fp, wI (bk X scope s H C cl fp) tg1 iter1 env2 (m.own D acc) (ka env2))) →
    acc.length + (xs.flatMap fun x => (f x).map (g x)).length ≤ 10000000 → kk (acc ++ xs.flatMap fun x => (f x).map (g x)) m → lc2W X scope vs vs1 tg tg1 iter1 elt env xs acc m kk
  | [], acc, m, kk, _, _, hk => by
    have hk' : kk (acc ++ []) m := hk
    rw [List.append_nil] at hk'
    exact hk'
  | x :: r, acc, m, kk, h, hl, hk => by
    rw [List.flatMap_cons, List.length_append, List.length_map] at hl
    rw [List.flatMap_cons] at hk
    refine lc2_cons fun D => h x List.mem_cons_self D acc (fun _ _ => True) _ fun env2 hy => ⟨m, rfl, by omega, lcD_map (g x) hy ⟨by rw [List.length_append, List.length_map]; omega, ?_⟩⟩
    refine lc2_flat f g (fun z hz => h z (List.mem_cons_of_mem _ hz)) (by rw [List.length_append, List.length_map]; omega) ?_
    rw [List.append_assoc]
    exact hk
end
end DW

set_option Elab.async false
set_option linter.all false
set_option maxRecDepth 100000
set_option maxHeartbeats 1000000
namespace DW
variable [TabsC]
open PySem PySem.Spec PyProof.Rows L2
structure CellN where
  x : Int
  y : Int
  z : Int
def CellN.d (c : CellN) : PyData := .tuple [.int c.x, .int c.y, .int c.z]
structure CellN.Sml (c : CellN) : Prop where
  x : Sm c.x
  y : Sm c.y
  z : Sm c.z
def idx (t b : Int) : Int := if b = 1 then 2 * t else 2 * (t / b) + 1
def idxP (p : PtN) : CellN := ⟨idx p.a p.a', idx p.b p.b', idx p.c p.c'⟩
def midT (i : Int) : Int := if i % 2 = 1 then i else i / 2
def midB (i : Int) : Int := if i % 2 = 1 then 2 else 1
def midP (c : CellN) : PtN := ⟨midT c.x, midB c.x, midT c.y, midB c.y, midT c.z, midB c.z⟩
def rowB (i p : Int) : List Int := if i % 2 = p then [i - 1, i, i + 1] else [i]
def bes3 (c : CellN) (a b e : PyData) : List PyData := if PyData.eqv (.tuple [a, b, e]) c.d = true then [] else [.tuple [a, b, e]]
def besL (c : CellN) (p : Int) : List PyData := ((rowB c.x p).map PyData.int).flatMap fun a => ((rowB c.y p).map PyData.int).flatMap fun b => ((rowB c.z p).map PyData.int).flatMap fun e => bes3 c a b e
def axB (a b : Int) : Bool := decide (a = b) || (decide (a % 2 = 0) && decide ((if a - b < 0 then -(a - b) else a - b) = 1))
def rimB (c o : CellN) : Bool := (axB c.x o.x && axB c.y o.y && axB c.z o.z) && !(decide (c.x = o.x ∧ c.y = o.y ∧ c.z = o.z))
def touB (c o : CellN) : Bool := rimB c o || rimB o c
theorem eqv_cell (c o : CellN) : PyData.eqv c.d o.d = decide (c.x = o.x ∧ c.y = o.y ∧ c.z = o.z) := by
  unfold CellN.d
  simp [PyData.eqv, PyData.eqvAll]
  by_cases h1 : c.x = o.x <;> by_cases h2 : c.y = o.y <;> by_cases h3 : c.z = o.z <;> simp [h1, h2, h3]
theorem bes_mem {c o : CellN} {p : Int} : o.d ∈ besL c p ↔ (o.x ∈ rowB c.x p ∧ o.y ∈ rowB c.y p ∧ o.z ∈ rowB c.z p) ∧ ¬ (o.x = c.x ∧ o.y = c.y ∧ o.z = c.z) := by
  unfold besL
  simp only [List.mem_flatMap, List.mem_map]
  constructor
  · rintro ⟨_, ⟨a, ha, rfl⟩, _, ⟨b, hb, rfl⟩, _, ⟨e, he, rfl⟩, h⟩
    unfold bes3 at h
    rw [show PyData.tuple [.int a, .int b, .int e] = (⟨a, b, e⟩ : CellN).d from rfl, eqv_cell] at h
    split at h
    · cases h
    · rename_i hn
      have q := List.mem_singleton.mp h
      unfold CellN.d at q
      simp only [PyData.tuple.injEq, List.cons.injEq, PyData.int.injEq, and_true] at q
      obtain ⟨rfl, rfl, rfl⟩ := q
      exact ⟨⟨ha, hb, he⟩, by simpa using hn⟩
  · rintro ⟨⟨h1, h2, h3⟩, hn⟩
    refine ⟨_, ⟨_, h1, rfl⟩, _, ⟨_, h2, rfl⟩, _, ⟨_, h3, rfl⟩, ?_⟩
    unfold bes3
    rw [show PyData.tuple [.int o.x, .int o.y, .int o.z] = o.d from rfl, eqv_cell, if_neg (by simpa using hn)]
    exact List.mem_singleton.mpr rfl
theorem bes_form {c : CellN} {p : Int} {z : PyData} (h : z ∈ besL c p) : ∃ o : CellN, z = o.d := by
  unfold besL at h
  simp only [List.mem_flatMap, List.mem_map] at h
  obtain ⟨_, ⟨a, ha, rfl⟩, _, ⟨b, hb, rfl⟩, _, ⟨e, he, rfl⟩, h⟩ := h
  unfold bes3 at h
  split at h
  · cases h
  · exact ⟨⟨a, b, e⟩, List.mem_singleton.mp h⟩
theorem cell_inj {c o : CellN} (h1 : c.x = o.x) (h2 : c.y = o.y) (h3 : c.z = o.z) : c = o := by
  cases c; cases o; cases h1; cases h2; cases h3; rfl
theorem row_mem {i p a : Int} : a ∈ rowB i p ↔ (a = i ∨ (i % 2 = p ∧ (a = i - 1 ∨ a = i + 1))) := by
  unfold rowB
  split <;> simp <;> omega
theorem ax_iff {a b : Int} : axB a b = true ↔ (a = b ∨ (a % 2 = 0 ∧ (a - b = 1 ∨ a - b = -1))) := by
  unfold axB
  simp only [Bool.or_eq_true, Bool.and_eq_true, decide_eq_true_eq]
  split <;> omega
theorem rim_iff {c o : CellN} : rimB c o = true ↔ (axB c.x o.x = true ∧ axB c.y o.y = true ∧ axB c.z o.z = true) ∧ ¬ (c.x = o.x ∧ c.y = o.y ∧ c.z = o.z) := by
  unfold rimB
  simp only [Bool.and_eq_true, Bool.not_eq_true', decide_eq_false_iff_not]
  constructor
  · rintro ⟨⟨⟨h1, h2⟩, h3⟩, h4⟩; exact ⟨⟨h1, h2, h3⟩, h4⟩
  · rintro ⟨⟨h1, h2, h3⟩, h4⟩; exact ⟨⟨⟨h1, h2⟩, h3⟩, h4⟩
theorem touch_eq (c o : CellN) : ((besL c 1 ++ besL c 0).any fun z => PyData.eqv z o.d) = touB c o := by
  rw [Bool.eq_iff_iff, List.any_eq_true]
  have e : (∃ z ∈ besL c 1 ++ besL c 0, PyData.eqv z o.d = true) ↔ (o.d ∈ besL c 1 ∨ o.d ∈ besL c 0) := by
    constructor
    · rintro ⟨z, hz, hq⟩
      rw [← List.mem_append]
      obtain ⟨c2, rfl⟩ : ∃ c2 : CellN, z = c2.d := by
        rcases List.mem_append.mp hz with h | h <;> exact bes_form h
      rw [eqv_cell, decide_eq_true_eq] at hq
      rw [← cell_inj hq.1 hq.2.1 hq.2.2]
      exact hz
    · intro h
      exact ⟨o.d, List.mem_append.mpr h, by rw [eqv_cell]; simp⟩
  rw [e, bes_mem, bes_mem]
  unfold touB
  rw [Bool.or_eq_true, rim_iff, rim_iff, ax_iff, ax_iff, ax_iff, ax_iff, ax_iff, ax_iff, row_mem, row_mem, row_mem, row_mem, row_mem, row_mem]
  constructor
  · rintro (⟨⟨h1, h2, h3⟩, hn⟩ | ⟨⟨h1, h2, h3⟩, hn⟩)
    · exact .inr ⟨⟨by omega, by omega, by omega⟩, hn⟩
    · exact .inl ⟨⟨by omega, by omega, by omega⟩, by omega⟩
  · rintro (⟨⟨h1, h2, h3⟩, hn⟩ | ⟨⟨h1, h2, h3⟩, hn⟩)
    · exact .inr ⟨⟨by omega, by omega, by omega⟩, by omega⟩
    · exact .inl ⟨⟨by omega, by omega, by omega⟩, hn⟩
theorem row_len (i p : Int) : (rowB i p).length ≤ 3 := by unfold rowB; split <;> simp
theorem flat_len {α : Type} {f : α → List PyData} {N : Nat} : ∀ {xs : List α}, (∀ x ∈ xs, (f x).length ≤ N) → (xs.flatMap f).length ≤ xs.length * N
  | [], _ => by simp
  | x :: r, h => by
    rw [List.flatMap_cons, List.length_append, List.length_cons, Nat.add_mul, Nat.one_mul]
    have h1 := h x List.mem_cons_self
    have h2 := flat_len (f := f) (N := N) (xs := r) fun y hy => h y (List.mem_cons_of_mem _ hy)
    omega
theorem bes3_len (c : CellN) (a b e : PyData) : (bes3 c a b e).length ≤ 1 := by unfold bes3; split <;> simp
theorem bes_len1 (c : CellN) (p : Int) (a b : PyData) : (((rowB c.z p).map PyData.int).flatMap fun e => bes3 c a b e).length ≤ 3 := by
  have h := flat_len (f := fun e => bes3 c a b e) (N := 1) (xs := (rowB c.z p).map PyData.int) fun x _ => bes3_len c a b x
  have := row_len c.z p
  rw [List.length_map] at h
  omega
theorem bes_len2 (c : CellN) (p : Int) (a : PyData) : (((rowB c.y p).map PyData.int).flatMap fun b => ((rowB c.z p).map PyData.int).flatMap fun e => bes3 c a b e).length ≤ 9 := by
  have h := flat_len (f := fun b => ((rowB c.z p).map PyData.int).flatMap fun e => bes3 c a b e) (N := 3) (xs := (rowB c.y p).map PyData.int) fun x _ => bes_len1 c p a x
  have := row_len c.y p
  rw [List.length_map] at h
  omega
theorem bes_len (c : CellN) (p : Int) : (besL c p).length ≤ 27 := by
  have h := flat_len (f := fun a => ((rowB c.y p).map PyData.int).flatMap fun b => ((rowB c.z p).map PyData.int).flatMap fun e => bes3 c a b e) (N := 9) (xs := (rowB c.x p).map PyData.int) fun x _ => bes_len2 c p x
  have := row_len c.x p
  rw [List.length_map] at h
  unfold besL
  omega
theorem cell_shaped (c : CellN) : SeqAt.shaped c.d = true := by
  simp [CellN.d, SeqAt.shaped, PyData.canLay0, PyData.canLayAll0, PyData.depth, PyData.depthAll]
theorem list_shaped {xs : List PyData} (h : ∀ z ∈ xs, ∃ o : CellN, z = o.d) : SeqAt.shaped (.list xs) = true := by
  have h1 : ∀ {xs : List PyData}, (∀ z ∈ xs, ∃ o : CellN, z = o.d) → PyData.canLayAll0 xs = true ∧ PyData.depthAll xs ≤ 1 := by
    intro xs
    induction xs with
    | nil => intro _; simp [PyData.canLayAll0, PyData.depthAll]
    | cons x r ih =>
      intro h
      obtain ⟨o, rfl⟩ := h x List.mem_cons_self
      obtain ⟨i1, i2⟩ := ih fun z hz => h z (List.mem_cons_of_mem _ hz)
      simp [CellN.d, PyData.canLayAll0, PyData.canLay0, PyData.depthAll, PyData.depth, i1]
      omega
  obtain ⟨i1, i2⟩ := h1 h
  simp [SeqAt.shaped, PyData.canLay0, PyData.depth, i1]
  omega
/-! ### numbers -/
theorem idx_mid (i : Int) : idx (midT i) (midB i) = i := by
  unfold idx midT midB
  by_cases h : i % 2 = 1
  · rw [if_pos h, if_pos h, if_neg (by decide)]; omega
  · rw [if_neg h, if_neg h, if_pos rfl]; omega
theorem mid_ok (i : Int) : FrOk (midT i) (midB i) := by
  unfold midT midB
  by_cases h : i % 2 = 1
  · rw [if_pos h, if_pos h]
    refine ⟨by decide, ?_⟩
    have h2 : i.natAbs % 2 = 1 := by omega
    rw [Nat.gcd_comm, show (2 : Int).natAbs = 2 from rfl, Nat.gcd_rec, h2]; rfl
  · rw [if_neg h, if_neg h]
    exact ⟨by decide, Nat.gcd_one_right _⟩
theorem mid_sm {i : Int} (h : Sm i) : Sm (midT i) ∧ Sm (midB i) := by
  obtain ⟨h1, h2⟩ := h
  unfold midT midB
  by_cases h : i % 2 = 1
  · rw [if_pos h, if_pos h]; exact ⟨⟨by omega, by omega⟩, by decide, by decide⟩
  · rw [if_neg h, if_neg h]; exact ⟨⟨by omega, by omega⟩, by decide, by decide⟩
theorem midP_ok {c : CellN} (h : c.Sml) : (midP c).Ok := ⟨mid_ok _, mid_ok _, mid_ok _, mid_sm h.x, mid_sm h.y, mid_sm h.z⟩
theorem idx_midP (c : CellN) : idxP (midP c) = c := cell_inj (idx_mid _) (idx_mid _) (idx_mid _)
end DW

set_option Elab.async false
set_option linter.all false
set_option maxRecDepth 100000
set_option maxHeartbeats 1000000
namespace DW
variable [TabsC]
open PySem PySem.Spec PyProof.Rows L2
theorem cell_ok (c : CellN) : cornerB c.d = true := by
  rw [show c.d = PyData.tuple [.int c.x, .int c.y, .int c.z] from rfl, cornerB_eq]; rfl
def rowD (p : Int) : PyData → PyData
  | .int i => .list ((rowB i p).map .int)
  | _ => .none
theorem rowD_t {i p : Int} (h : id (decide (i % 2 = p)) = true) : rowD p (.int i) = .list [.int (i - 1), .int i, .int (i + 1)] := by
  show PyData.list ((rowB i p).map .int) = _
  rw [rowB, if_pos (of_decide_eq_true h)]; rfl
theorem rowD_f {i p : Int} (h : id (decide (i % 2 = p)) = false) : rowD p (.int i) = .list [.int i] := by
  show PyData.list ((rowB i p).map .int) = _
  rw [rowB, if_neg (of_decide_eq_false h)]; rfl
theorem bes3_t {c : CellN} {a b e : PyData} (h : (!(PyData.eqv (.tuple [a, b, e]) c.d)) = false) : bes3 c a b e = [] := if_pos (by simpa using h)
theorem bes3_f {c : CellN} {a b e : PyData} (h : (!(PyData.eqv (.tuple [a, b, e]) c.d)) = true) : bes3 c a b e = [.tuple [a, b, e]] := if_neg (by simpa using h)
theorem tup3_shaped (a b e : Int) : SeqAt.shaped (.tuple [.int a, .int b, .int e]) = true := cell_shaped ⟨a, b, e⟩
theorem touch_form (c : CellN) : ∀ z ∈ besL c 1 ++ besL c 0, ∃ o : CellN, z = o.d := fun z hz => (List.mem_append.mp hz).elim bes_form bes_form
def spIdx : DSp := fun m ds k => ∃ t b, ds = [.d (fr t b)] ∧ (Sm t ∧ Sm b ∧ 1 ≤ b) ∧ k (.d (.int (idx t b))) m
def spCellOf : DSp := fun m ds k => ∃ p : PtN, ds = [.d p.d] ∧ p.Ok ∧ k (.d (idxP p).d) m
def spMid : DSp := fun m ds k => ∃ i : Int, ds = [.d (.int i)] ∧ Sm i ∧ k (.d (fr (midT i) (midB i))) m
def spSample : DSp := fun m ds k => ∃ c : CellN, ds = [.d c.d] ∧ c.Sml ∧ k (.d (midP c).d) m
def spBeside : DSp := fun m ds k => ∃ (c : CellN) (p : Int), ds = [.d c.d, .d (.int p)] ∧ k (.d (.list (besL c p))) m
def spRim (p : Int) : DSp := fun m ds k => ∃ c : CellN, ds = [.d c.d] ∧ k (.d (.list (besL c p))) m
def spTouching : DSp := fun m ds k => ∃ c : CellN, ds = [.d c.d] ∧ k (.d (.list (besL c 1 ++ besL c 0))) m
def spTouches : DSp := fun m ds k => ∃ c o : CellN, ds = [.d c.d, .d o.d] ∧ k (.d (.bool (touB c o))) m
def spAtRim : DSp := fun m ds k => ∃ c o : CellN, ds = [.d c.d, .d o.d] ∧ k (.d (.bool (rimB c o))) m
def spIdxL : DSp := fun m ds k => ∃ t b, ds = [.d (fr t b)] ∧ FrOk t b ∧ (Sm t ∧ Sm b) ∧ k (.d (.int (idx t b))) m
def spCommon : DSp := fun m ds k => ∃ t b, ds = [.d (.int t), .d (.int b)] ∧ (-100000 < t ∧ t < 100000) ∧ (0 < b ∧ b < 100000) ∧ k (.d (.int (gcdI t b))) m
def spDNum : DSp := fun m ds k => ∃ a, ds = [.r (.ref a)] ∧ m.p = some a ∧ m.n < 90000 ∧ ∀ t b : Int, ∀ n, FrOk t b → (-1300 ≤ t ∧ t < 1300) → b < 1300 → n ≤ m.n + 3 → k (.d (fr t b)) (m.to n)
def spDPt : DSp := fun m ds k => ∃ a, ds = [.r (.ref a)] ∧ m.p = some a ∧ m.n < 80000 ∧ ∀ (p : PtN) n, p.Ok → (idxP p).Sml → n ≤ m.n + 9 → k (.d p.d) (m.to n)
structure CellN.Bnd (c : CellN) (B : Int) : Prop where
  x : -B ≤ c.x ∧ c.x ≤ B
  y : -B ≤ c.y ∧ c.y ≤ B
  z : -B ≤ c.z ∧ c.z ≤ B
theorem CellN.Bnd.sml {c : CellN} {B : Int} (h : c.Bnd B) (hB : B < 1000) : c.Sml := by
  have := h.x; have := h.y; have := h.z
  exact ⟨⟨by omega, by omega⟩, ⟨by omega, by omega⟩, ⟨by omega, by omega⟩⟩
def spDCell : DSp := fun m ds k => ∃ a, ds = [.r (.ref a), .d (.int (-4)), .d (.int 5)] ∧ m.p = some a ∧ m.n < 90000 ∧ ∀ c : CellN, c.Bnd 5 → k (.d c.d) (m.drawn 3)
def spDCells : DSp := fun m ds k => ∃ a, ds = [.r (.ref a), .d (.int 10)] ∧ m.p = some a ∧ m.n < 80000 ∧ ∀ (cs : List CellN) n, cs.length = 10 → (∀ c ∈ cs, c.Sml) → n ≤ m.n + 40 → k (.d (.list (cs.map CellN.d))) (m.to n)
def spOf2 : DSp := fun m ds k => ∃ a d xs, ds = [.r (.ref a), d] ∧ seqOf m d = some xs ∧ m.p = some a ∧ (0 < xs.length ∧ xs.length < 1000) ∧ m.n < 100000 ∧ ∀ x, x ∈ xs → k (.d x) (m.drawn 1)
theorem datOwn {p : Option Addr} {n : Nat} {l : Addr} {xs : List PyData} {ls : List (Addr × List PyData)} : datOf ⟨p, n, (l, xs) :: ls⟩ (.r (.ref l)) = some (.list xs) := by simp [datOf]
theorem eqv_nil : PyData.eqv (.list []) (.list []) = true := by simp [PyData.eqv, PyData.eqvAll]
theorem eqv_cons (x : PyData) (r : List PyData) : PyData.eqv (.list (x :: r)) (.list []) = false := by simp [PyData.eqv, PyData.eqvAll]
theorem nil_shaped : SeqAt.shaped (.list []) = true := list_shaped (fun z hz => nomatch hz)
theorem cells_shaped (cs : List CellN) : SeqAt.shaped (.list (cs.map CellN.d)) = true := list_shaped (fun z hz => by obtain ⟨c, _, rfl⟩ := List.mem_map.mp hz; exact ⟨c, rfl⟩)
theorem idx_sm {t b : Int} (hb : 1 ≤ b) (h : -1300 ≤ t ∧ t < 1300) : Sm (idx t b) := by
  have q := div_lit (g := b) (by omega) (B := 1301) (by decide) (t := t) ⟨by omega, by omega⟩
  unfold idx
  split <;> exact ⟨by omega, by omega⟩
theorem div_sm {t b : Int} (hb : 1 ≤ b) (h : Sm t) : -1000000 ≤ t / b ∧ t / b < 1000000 := div_lit (by omega) (by decide) h
theorem envAbs2 (t b : Int) : ([some (.d (.int (if t < 0 then -t else t))), some (.d (.int (if b < 0 then -b else b)))] : DEnv) = [some (.d (.int (t.natAbs : Int))), some (.d (.int (b.natAbs : Int)))] := by
  rw [show (if t < 0 then -t else t) = (t.natAbs : Int) from by split <;> omega, show (if b < 0 then -b else b) = (b.natAbs : Int) from by split <;> omega]
theorem idx_e1 {t b : Int} (h : b = 1) : idx t b = 2 * t := if_pos h
theorem idx_e2 {t b : Int} (h : b ≠ 1) : idx t b = 2 * (t / b) + 1 := if_neg h
theorem tou_self (c : CellN) : touB c c = false := by
  unfold touB rimB
  simp
theorem szCell {c : CellN} (h : c.Sml) : Sz c.d 2 6009 := by
  have I : ∀ {i : Int}, Sm i → Sz (.int i) 1 2000 := fun h => Sz.int (small_log ⟨by have := h.1; omega, by have := h.2; omega⟩)
  exact Sz.tup (.cons (I h.x) (.cons (I h.y) (.cons (I h.z) .nil)))
theorem szPtC {p : PtN} (h : p.Ok) : Sz p.d 3 12030 := by
  have I : ∀ {i : Int}, Sm i → Sz (.int i) 1 2000 := fun h => Sz.int (small_log ⟨by have := h.1; omega, by have := h.2; omega⟩)
  have F : ∀ {t b : Int}, Sm t ∧ Sm b → Sz (fr t b) 2 4007 := fun h => Sz.tup (.cons (I h.1) (.cons (I h.2) .nil))
  exact Sz.tup (.cons (F h.sa) (.cons (F h.sb) (.cons (F h.sc) .nil)))
end DW
namespace DW
variable [TabsC]
open PySem PySem.Spec PyProof.Rows L2
def axD : PyData → PyData
  | .tuple [.int a, .int b] => .bool (axB a b)
  | _ => .none
theorem axB_1 {a b : Int} (h : id (decide (a = b)) = true) : axB a b = true := by
  unfold axB
  rw [show decide (a = b) = true from h]; rfl
theorem axB_2 {a b : Int} (h : id (decide (a = b)) = false) (h2 : id (decide (a % 2 = 0)) = true) : axB a b = id (decide ((if a - b < 0 then -(a - b) else a - b) = 1)) := by
  unfold axB
  rw [show decide (a = b) = false from h, show decide (a % 2 = 0) = true from h2]; rfl
theorem axB_3 {a b : Int} (h : id (decide (a = b)) = false) (h2 : id (decide (a % 2 = 0)) = false) : axB a b = false := by
  unfold axB
  rw [show decide (a = b) = false from h, show decide (a % 2 = 0) = false from h2]; rfl
theorem all_axes (a b c : Bool) : [a, b, c].all id = (a && b && c) := by cases a <;> cases b <;> cases c <;> rfl
theorem rim_1 {c o : CellN} (h : ([axB c.x o.x, axB c.y o.y, axB c.z o.z].all id) = true) : rimB c o = !(PyData.eqv c.d o.d) := by
  rw [all_axes] at h
  unfold rimB
  rw [h, eqv_cell]; rfl
theorem rim_0 {c o : CellN} (h : ([axB c.x o.x, axB c.y o.y, axB c.z o.z].all id) = false) : rimB c o = false := by
  rw [all_axes] at h
  unfold rimB
  rw [h]; rfl
theorem tou_0 {c o : CellN} (h : rimB c o = false) : touB c o = rimB o c := by unfold touB; rw [h]; rfl
theorem tou_1 {c o : CellN} (h : rimB c o = true) : touB c o = true := by unfold touB; rw [h]; rfl
end DW


set_option Elab.async false
set_option linter.all false
set_option maxRecDepth 100000
set_option maxHeartbeats 1000000
namespace DW
variable [TabsC]
open PySem PySem.Spec PyProof.Rows L2
/-! ### lots: the mathematics -/
def CellN.k (c : CellN) : List Int := [c.x, c.y, c.z]
def ofK : List Int → CellN
  | [a, b, c] => ⟨a, b, c⟩
  | _ => ⟨0, 0, 0⟩
theorem ofK_k (c : CellN) : ofK c.k = c := rfl
theorem k_inj {c o : CellN} (h : c.k = o.k) : c = o := by rw [← ofK_k c, h, ofK_k]
theorem tupI_k (c : CellN) : tupI c.k = c.d := rfl
instance : DecidableEq CellN := fun a b => if h : a.k = b.k then isTrue (k_inj h) else isFalse fun e => h (by rw [e])
theorem leK_trans (a b c : List Int) (h1 : leK a b = true) (h2 : leK b c = true) : leK a c = true := decide_eq_true (List.le_trans (of_decide_eq_true h1) (of_decide_eq_true h2))
theorem leK_total (a b : List Int) : (leK a b || leK b a) = true := by
  rcases List.le_total a b with h | h
  · rw [show leK a b = true from decide_eq_true h]; rfl
  · rw [show leK b a = true from decide_eq_true h, Bool.or_true]
theorem leK_anti {a b : List Int} (h1 : leK a b = true) (h2 : leK b a = true) : a = b := List.le_antisymm (of_decide_eq_true h1) (of_decide_eq_true h2)
/-- sorted lists with the same members, each once, are one -/
theorem srt_one {a b : List (List Int)} (h1 : a.Nodup) (h2 : b.Nodup) (h : ∀ k, k ∈ a ↔ k ∈ b) : srt a = srt b := by
  have p : (srt a).Perm (srt b) := ((List.mergeSort_perm a leK).trans ((List.perm_ext_iff_of_nodup h1 h2).mpr h)).trans (List.mergeSort_perm b leK).symm
  exact List.Perm.eq_of_pairwise (le := fun x y => leK x y = true) (fun x y _ _ => leK_anti) (List.pairwise_mergeSort leK_trans leK_total a) (List.pairwise_mergeSort leK_trans leK_total b) p
theorem mem_srt {a : List (List Int)} {k : List Int} : k ∈ srt a ↔ k ∈ a := (List.mergeSort_perm a leK).mem_iff
theorem addK_mem {acc : List (List Int)} {n k : List Int} : k ∈ addK acc n ↔ k ∈ acc ∨ k = n := by
  unfold addK
  split
  · exact ⟨.inl, fun h => h.elim id fun e => by rw [e]; assumption⟩
  · simp
theorem addK_nodup {acc : List (List Int)} {n : List Int} (h : acc.Nodup) : (addK acc n).Nodup := by
  unfold addK
  split
  · exact h
  · rename_i hn
    rw [List.nodup_append]
    exact ⟨h, by simp, fun x hx y hy e => hn (by rw [← List.mem_singleton.mp hy, ← e]; exact hx)⟩
theorem foldK_mem : ∀ (ks acc : List (List Int)) (k : List Int), k ∈ ks.foldl addK acc ↔ k ∈ acc ∨ k ∈ ks
  | [], acc, k => by simp
  | x :: r, acc, k => by
    rw [List.foldl_cons, foldK_mem r, addK_mem, List.mem_cons, or_assoc]
theorem foldK_nodup : ∀ (ks acc : List (List Int)), acc.Nodup → (ks.foldl addK acc).Nodup
  | [], _, h => h
  | x :: r, acc, h => foldK_nodup r _ (addK_nodup h)
theorem foldK_len : ∀ (ks acc : List (List Int)), (ks.foldl addK acc).length ≤ acc.length + ks.length
  | [], _ => Nat.le_refl _
  | x :: r, acc => by
    have h := foldK_len r (addK acc x)
    have h2 : (addK acc x).length ≤ acc.length + 1 := by
      unfold addK
      split
      · omega
      · simp
    rw [List.foldl_cons, List.length_cons]
    omega
/-- the keys of a dict made from these cells, in their order -/
def keysOf (l : List CellN) : List (List Int) := (l.map CellN.k).foldl addK []
theorem mem_keys {l : List CellN} {k : List Int} : k ∈ keysOf l ↔ ∃ c ∈ l, c.k = k := by
  unfold keysOf
  rw [foldK_mem]
  simp
theorem mem_keysC {l : List CellN} {c : CellN} : c.k ∈ keysOf l ↔ c ∈ l := by
  rw [mem_keys]
  exact ⟨fun ⟨o, h, e⟩ => by rw [← k_inj e]; exact h, fun h => ⟨c, h, rfl⟩⟩
theorem keys_nodup (l : List CellN) : (keysOf l).Nodup := foldK_nodup _ _ .nil
theorem keys_ne {l : List CellN} : ∀ x ∈ keysOf l, x ≠ [] := fun x hx => by
  obtain ⟨c, _, rfl⟩ := mem_keys.mp hx
  exact fun e => nomatch e
/-- the cells of a lot: ascending, each once -/
def canon (l : List CellN) : List CellN := (srt (keysOf l)).map ofK
theorem canon_k (l : List CellN) : (canon l).map CellN.k = srt (keysOf l) := by
  unfold canon
  rw [List.map_map]
  refine (List.map_congr_left fun k hk => ?_).trans (List.map_id _)
  obtain ⟨c, _, rfl⟩ := mem_keys.mp (mem_srt.mp hk)
  rfl
theorem canon_d (l : List CellN) : (srt (keysOf l)).map tupI = (canon l).map CellN.d := by
  rw [← canon_k, List.map_map]
  rfl
theorem mem_canon {l : List CellN} {c : CellN} : c ∈ canon l ↔ c ∈ l := by
  have h1 : c ∈ canon l ↔ c.k ∈ (canon l).map CellN.k := ⟨fun h => List.mem_map_of_mem h, fun h => by
    obtain ⟨o, ho, e⟩ := List.mem_map.mp h
    rw [← k_inj e]
    exact ho⟩
  rw [h1, canon_k, mem_srt, mem_keysC]
theorem canon_eq {a b : List CellN} (h : ∀ c, c ∈ a ↔ c ∈ b) : canon a = canon b := by
  unfold canon
  rw [srt_one (keys_nodup a) (keys_nodup b) fun k => by
    rw [mem_keys, mem_keys]
    exact ⟨fun ⟨c, hc, e⟩ => ⟨c, (h c).mp hc, e⟩, fun ⟨c, hc, e⟩ => ⟨c, (h c).mpr hc, e⟩⟩]
theorem canon_iff {a b : List CellN} : canon a = canon b ↔ ∀ c, c ∈ a ↔ c ∈ b := ⟨fun e c => by rw [← mem_canon, e, mem_canon], canon_eq⟩
theorem canon_canon (l : List CellN) : canon (canon l) = canon l := canon_eq fun c => mem_canon
theorem keys_len (l : List CellN) : (keysOf l).length ≤ l.length := by
  unfold keysOf
  refine Nat.le_trans (foldK_len _ _) ?_
  simp
theorem canon_len (l : List CellN) : (canon l).length ≤ l.length := by
  unfold canon srt
  rw [List.length_map, List.length_mergeSort]
  exact keys_len l
theorem canon_all {l : List CellN} {p : CellN → Prop} (h : ∀ c ∈ l, p c) : ∀ c ∈ canon l, p c := fun c hc => h c (mem_canon.mp hc)
/-- a cube -/
def cubeB (c : CellN) : Bool := [decide (c.x % 2 = 1), decide (c.y % 2 = 1), decide (c.z % 2 = 1)].all id
def nCub (l : List CellN) : Nat := (l.filter cubeB).length
/-! what a Lot stands for, and the promises of its defs -/
abbrev lotF (K : PySem.W.Frag) (l : List CellN) : List (Str × (Hp → V → Prop)) := [(("_own" : Str), vk K (keysOf l)), (("cells" : Str), vd K (.tuple ((canon l).map CellN.d))), (("cubes" : Str), vd K (.int (nCub (canon l))))]
abbrev lotD (K : PySem.W.Frag) (C : Addr) (l : List CellN) : Dat := .o C (lotF K l)
def InB (l : List CellN) : Prop := l.length ≤ 30000 ∧ ∀ c ∈ l, c.Bnd 200
theorem InB.canon {l : List CellN} (h : InB l) : InB (DW.canon l) := ⟨Nat.le_trans (canon_len l) h.1, canon_all h.2⟩
def spCube : DSp := fun m ds k => ∃ c : CellN, ds = [.d c.d] ∧ k (.d (.bool (cubeB c))) m
def spInBnd : DSp := fun m ds k => ∃ i : Int, ds = [.d (.int i)] ∧ (-200 ≤ i ∧ i ≤ 200) ∧ k (.d (.bool true)) m
def spAreCells : DSp := fun m ds k => ∃ l : List CellN, ds = [.d (.tuple (l.map CellN.d))] ∧ InB l ∧ k (.d (.bool true)) m
def spLotI (K : PySem.W.Frag) (C : Addr) : DSp := fun m ds k => ∃ l : List CellN, ds = [.d (.tuple (l.map CellN.d))] ∧ InB l ∧ k (lotD K C l) m
def spLotEq (K : PySem.W.Frag) (C : Addr) : DSp := fun m ds k => ∃ a, (∃ b, ds = [lotD K C a, lotD K C b] ∧ k (.d (.bool (decide (canon a = canon b)))) m) ∨ ∃ d, ds = [lotD K C a, .d d] ∧ k (.d (.bool false)) m
def spLotLen (K : PySem.W.Frag) (C : Addr) : DSp := fun m ds k => ∃ l, ds = [lotD K C l] ∧ k (.d (.int (canon l).length)) m
def spLotHas (K : PySem.W.Frag) (C : Addr) : DSp := fun m ds k => ∃ (l : List CellN) (p : PtN), ds = [lotD K C l, .d p.d] ∧ p.Ok ∧ k (.d (.bool (decide (idxP p ∈ l)))) m
def spLotIn (K : PySem.W.Frag) (C : Addr) : DSp := fun m ds k => ∃ a b, ds = [lotD K C a, lotD K C b] ∧ a.length ≤ 30000 ∧ k (.d (.bool ((canon a).all fun c => decide (c ∈ b)))) m
def spLotJ (K : PySem.W.Frag) (C : Addr) : DSp := fun m ds k => ∃ a b, ds = [lotD K C a, lotD K C b] ∧ InB a ∧ InB b ∧ a.length + b.length ≤ 30000 ∧ k (lotD K C (canon a ++ canon b)) m
def spLotB (K : PySem.W.Frag) (C : Addr) (g : Bool → Bool) : DSp := fun m ds k => ∃ a b, ds = [lotD K C a, lotD K C b] ∧ InB a ∧ k (lotD K C ((canon a).filter fun c => g (decide (c ∈ b)))) m
def spChkLot (K : PySem.W.Frag) (C : Addr) : DSp := fun m ds k => ∃ l, ds = [lotD K C l] ∧ k (.d .none) m
theorem InB.filter {l : List CellN} (h : InB l) (p : CellN → Bool) : InB (l.filter p) := ⟨Nat.le_trans (List.length_filter_le _ _) h.1, fun c hc => h.2 c (List.mem_filter.mp hc).1⟩
/-! shapes, sizes -/
theorem tup_shaped {xs : List PyData} (h : ∀ z ∈ xs, ∃ o : CellN, z = o.d) : SeqAt.shaped (.tuple xs) = true := by
  have q := list_shaped h
  unfold SeqAt.shaped at q ⊢
  simpa [PyData.canLay0, PyData.depth] using q
theorem cellsT_shaped (cs : List CellN) : SeqAt.shaped (.tuple (cs.map CellN.d)) = true := tup_shaped fun z hz => by
  obtain ⟨c, _, rfl⟩ := List.mem_map.mp hz
  exact ⟨c, rfl⟩
end DW

set_option Elab.async false
set_option linter.all false
set_option maxRecDepth 100000
set_option maxHeartbeats 1000000
namespace DW
variable [TabsC]
open PySem PySem.Spec PyProof.Rows L2
/-! ### what the texts with a Lot use -/
theorem room0 {A : Around} {j : Nat} (h : RoomG j A) (k : Nat) (hk : k ≤ 65 := by decide) : A.units + k < cLine := Nat.lt_of_le_of_lt (Nat.add_le_add_left hk _) (room65 h)
theorem roomU {A : Around} {j : Nat} (h : RoomG j A) : A.units < cLine := room0 h 0
/-- a method of the class at C -/
structure MethAt (K : PySem.W.Frag) (C : Addr) (x q : Str) (st : Stmt) (ps : List Str) (f : Addr) (fd : FuncData) : Prop where
  F : Fun K x q st f fd
  m : Meth K C x f
  b : Binds K fd ps []
structure ClsM (K : PySem.W.Frag) (C : Addr) : Prop where
  makes : PySem.W.makesIn K C = true
  kp : PySem.W.keepIn K (.ref C) = true
theorem ClsM.mk' {K : PySem.W.Frag} {C f : Addr} (h : ClsM K C) (m : Meth K C "__init__" f) : Mk K C f := ⟨h.makes, m.at_, m.fn, h.kp⟩
theorem meth_ty {K : PySem.W.Frag} {C f : Addr} {x : Str} (m : Meth K C x f) : PySem.W.typeIn K (.ref f) = some (.type "function") := by
  have h := m.fn
  unfold PySem.W.isFn at h
  exact eq_of_beq h
theorem lot_own {K : PySem.W.Frag} {l : List CellN} : (lotF K l).lookup ("_own" : Str) = some (vk K (keysOf l)) := rfl
theorem lot_cells {K : PySem.W.Frag} {l : List CellN} : (lotF K l).lookup ("cells" : Str) = some (vd K (.tuple ((canon l).map CellN.d))) := rfl
theorem lot_cubes {K : PySem.W.Frag} {l : List CellN} : (lotF K l).lookup ("cubes" : Str) = some (vd K (.int (nCub (canon l)))) := rfl
theorem lot_no {K : PySem.W.Frag} {l : List CellN} {mt : Str} (h : mt ∉ ([("_own" : Str), ("cells" : Str), ("cubes" : Str)] : List Str)) : mt ∉ (lotF K l).map (·.1) := h
section
variable {X : Cx} {env : DEnv} {m : Me} {k : Dat → Me → Prop} {a b c : Expr} {pos : Pos}
/-- a <= b <= c of ints -/
theorem wE_leleI (h : wE X a env m fun dx m1 => wE X b env m1 fun dy m2 => ∃ i j : Int, dx = .d (.int i) ∧ dy = .d (.int j) ∧ (i ≤ j → wE X c env m2 fun dz m3 => ∃ l : Int, dz = .d (.int l) ∧ k (.d (.bool (decide (j ≤ l)))) m3) ∧ (¬ i ≤ j → k (.d (.bool false)) m2))
    (hm : lastMarks [.LtE, .LtE] [b, c] = false := by with_unfolding_all rfl) : wE X (.Compare a [.LtE, .LtE] [b, c] pos) env m k :=
  wE_of (pe_chain op_le op_le peW peW peW hm) fun σ H Q he hm hq => h σ H _ he hm fun v d m1 H1 e1 hm1 dv h1 => h1 σ H1 _ (he.mono e1) hm1 fun v2 d2 m2 H2 e2 hm2 dv2 ⟨i, j, q1, q2, h2, h3⟩ => by
    subst q1 q2
    cases dv
    cases dv2
    refine ⟨i, j, rfl, rfl, decide (i ≤ j), rfl, ?_⟩
    by_cases z : i ≤ j
    · rw [decide_eq_true z, if_pos rfl]
      refine h2 z σ H2 _ (he.mono (e1.trans e2)) hm2 fun v3 d3 m3 H3 e3 hm3 dv3 ⟨l, q3, hk⟩ => ?_
      subst q3
      cases dv3
      exact ⟨j, l, rfl, rfl, hq _ _ m3 H3 ((e1.trans e2).trans e3) hm3 dv_bl hk⟩
    · rw [decide_eq_false z, if_neg Bool.false_ne_true]
      exact hq _ _ m2 H2 (e1.trans e2) hm2 dv_bl (h3 z)
end
theorem eqv_cd (c o : CellN) : PyData.eqv c.d o.d = decide (c = o) := by
  rw [eqv_cell]
  by_cases h : c = o
  · subst h
    simp
  · rw [decide_eq_false h]
    exact decide_eq_false fun q => h (cell_inj q.1 q.2.1 q.2.2)
theorem any_cells (l : List CellN) (c : CellN) : ((l.map CellN.d).any fun z => PyData.eqv z c.d) = decide (c ∈ l) := by
  induction l with
  | nil => rfl
  | cons o r ih =>
    rw [List.map_cons, List.any_cons, ih, eqv_cd]
    by_cases h : o = c
    · subst h
      simp
    · simp only [decide_eq_false h, Bool.false_or, List.mem_cons]
      by_cases q : c ∈ r
      · simp [q]
      · have h2 : ¬ c = o := fun e => h e.symm
        simp [q, h2]
theorem eqvAll_cells : ∀ a b : List CellN, PyData.eqvAll (a.map CellN.d) (b.map CellN.d) = decide (a = b)
  | [], [] => by simp [PyData.eqvAll]
  | [], _ :: _ => by simp [PyData.eqvAll]
  | _ :: _, [] => by simp [PyData.eqvAll]
  | c :: r, o :: t => by
    rw [List.map_cons, List.map_cons]
    show (PyData.eqv c.d o.d && PyData.eqvAll (r.map CellN.d) (t.map CellN.d)) = _
    rw [eqv_cd, eqvAll_cells r t]
    by_cases h : c = o <;> by_cases q : r = t <;> simp [h, q]
theorem eqv_cells (a b : List CellN) : PyData.eqv (.tuple (a.map CellN.d)) (.tuple (b.map CellN.d)) = decide (a = b) := by
  rw [← eqvAll_cells]
  rfl
theorem eqv_cellsL (a b : List CellN) : PyData.eqv (.list (a.map CellN.d)) (.list (b.map CellN.d)) = decide (a = b) := by
  rw [← eqvAll_cells]
  rfl
/-! sizes of small ints -/
theorem text_small : (List.range 2001).all (fun i => decide ((toString ((i : Int) - 1000) : Str).length ≤ 5)) = true := by decide +kernel
theorem Sz.small {i : Int} (h : -1000 ≤ i ∧ i ≤ 1000) : Sz (.int i) 1 5 := by
  refine ⟨(Sz.int (small_log ⟨by omega, by omega⟩)).sh, by simp only [PyData.hasDict], by simp [PyData.depth], ?_⟩
  have q := List.all_eq_true.mp text_small (i + 1000).toNat (List.mem_range.mpr (by omega))
  have e : (((i + 1000).toNat : Nat) : Int) - 1000 = i := by omega
  rw [e] at q
  simp only [PyData.shown]
  exact of_decide_eq_true q
theorem szCellB {c : CellN} (h : c.Bnd 1000) : Sz c.d 2 24 := Sz.tup (.cons (Sz.small h.x) (.cons (Sz.small h.y) (.cons (Sz.small h.z) .nil)))
theorem szaCells : ∀ {l : List CellN}, (∀ c ∈ l, c.Bnd 1000) → SzA (l.map CellN.d) 2 (26 * l.length)
  | [], _ => ⟨by simp only [List.map_nil, PyData.showableAll], by simp only [List.map_nil, PyData.hasDictAll], by simp [PyData.depthAll], by simp [PyData.shownAll]⟩
  | c :: r, h => by
    have q := SzA.cons (szCellB (h c (.head _))) (szaCells fun o ho => h o (.tail _ ho))
    refine ⟨q.sh, q.nd, Nat.le_trans q.dp (by decide), Nat.le_trans q.ln ?_⟩
    rw [List.length_cons]
    omega
theorem CellN.Bnd.weak {c : CellN} {B B' : Int} (h : c.Bnd B) (hB : B ≤ B') : c.Bnd B' := by
  have := h.x; have := h.y; have := h.z
  exact ⟨⟨by omega, by omega⟩, ⟨by omega, by omega⟩, ⟨by omega, by omega⟩⟩
end DW

set_option Elab.async false
set_option linter.all false
set_option maxRecDepth 100000
set_option maxHeartbeats 1000000
namespace DW
variable [TabsC]
open PySem PySem.Spec PyProof.Rows L2
section
variable {X : Cx} {env : DEnv} {m : Me} {k : Dat → Me → Prop} {kb : Bool → Me → Prop} {a b : Expr} {pos : Pos}
/-! ### tuple + tuple, not in a list -/
def fCatT (_ : Me) (dx dy : Dat) (k : Dat → Prop) : Prop := ∃ xs ys, dx = .d (.tuple xs) ∧ dy = .d (.tuple ys) ∧ xs.length + ys.length ≤ 10000000 ∧ k (.d (.tuple (xs ++ ys)))
theorem opD_catT {K : PySem.W.Frag} : OpD K (rCatA K) fCatT := fun m H x y dx dy k Q hm h1 h2 ⟨xs, ys, e1, e2, hl, hk⟩ hq => by
  subst e1 e2
  have q1 := h1
  have q2 := h2
  cases h1 with
  | @tup p1 vs1 _ s1 a1 => cases h2 with
    | @tup p2 vs2 _ s2 a2 =>
      have l1 := dpAll_len a1
      have l2 := dpAll_len a2
      refine ⟨p1, p2, vs1, vs2, rfl, rfl, seqT_mono hid_sub s1, seqT_mono hid_sub s2, szl (by omega), fun e => ?_, fun _ e => ?_, fun _ _ p hp => ?_⟩
      · subst e
        cases a1
        exact hq _ (.d (.tuple ys)) H (Same.refl _) q2 hk
      · subst e
        cases a2
        rw [List.append_nil] at hk
        exact hq _ (.d (.tuple xs)) H (Same.refl _) q1 hk
      · have s := same_new (o := .tup (vs1 ++ vs2)) hp
        exact hq _ (.d (.tuple (xs ++ ys))) _ s (Dp.tup (SqT.of (hid_of (hm.fresh hp) upd_same (hm.new hp))) (dpAll_mono (Ext.of s) _ _ (dpAll_append a1 a2))) hk
theorem wE_catT (h : wE X a env m fun dx m1 => wE X b env m1 fun dy m2 => fCatT m2 dx dy fun d => k d m2) : wE X (.BinOp a .Add b pos) env m k := wE_op op_catA opD_catT h
def fNotInL (m : Me) (dx dy : Dat) (k : Dat → Prop) : Prop := ∃ d ds, dx = .d d ∧ dy = .d (.list ds) ∧ SeqAt.shaped d = true ∧ SeqAt.shaped (.list ds) = true ∧ k (.d (.bool (!ds.any fun z => PyData.eqv z d)))
theorem opD_notInL {K : PySem.W.Frag} : OpD K (rNotInD K) fNotInL := fun m H x y dx dy k Q hm h1 h2 ⟨d, ds, e1, e2, sd, se, hk⟩ hq => by
  subst e1 e2
  exact ⟨d, ds, dp_mono hid_sub _ _ h1, dp_mono hid_sub _ _ h2, sd, se, hq _ _ H (Same.refl _) dv_bl hk⟩
theorem wT_notInL (hu : X.A.units + 65 < cLine) (h : wE X a env m fun dx m1 => wE X b env m1 fun dy m2 => fNotInL m2 dx dy fun d => ∃ c, d = .d (.bool c) ∧ kb c m2) (hb : behindInMarks .NotIn b = false := by rfl) : wT X (.Compare a [.NotIn] [b] pos) env m kb :=
  wT_cmp (op_notInD hu) opD_notInL hb h
end
/-! ### lists of cells as data -/
theorem cells_tup (l : List CellN) : l.map CellN.d = (l.map CellN.k).map tupI := by
  rw [List.map_map]
  rfl
def cubeD : PyData → Bool
  | .tuple [.int a, .int b, .int c] => cubeB ⟨a, b, c⟩
  | _ => false
def memD (b : List CellN) : PyData → Bool
  | .tuple [.int x, .int y, .int z] => decide ((⟨x, y, z⟩ : CellN) ∈ b)
  | _ => false
theorem filt_cells (p : PyData → Bool) (q : CellN → Bool) (h : ∀ c, p c.d = q c) (l : List CellN) : ((l.map CellN.d).filter p).map id = (l.filter q).map CellN.d := by
  rw [List.map_id, List.filter_map]
  congr 1
  exact List.filter_congr fun c _ => h c
theorem dec_keys (l : List CellN) (c : CellN) : decide (c.k ∈ keysOf l) = decide (c ∈ l) := decide_eq_decide.mpr mem_keysC
theorem bools_const (l : List PyData) : boolsOf (l.map fun _ => PyData.bool true) = some (List.replicate l.length true) := by
  rw [List.map_const']
  exact boolsOf_rep _
theorem bools_map (f : CellN → Bool) (g : PyData → PyData) (h : ∀ c, g c.d = .bool (f c)) : ∀ l : List CellN, boolsOf ((l.map CellN.d).map g) = some (l.map f)
  | [] => rfl
  | c :: r => by
    rw [List.map_cons, List.map_cons, h c]
    show (boolsOf ((r.map CellN.d).map g)).map (f c :: ·) = _
    rw [bools_map f g h r]
    rfl
def itemsD : PyData → List PyData
  | .tuple xs => xs
  | _ => []
theorem flat_true : ∀ l : List CellN, ((l.map CellN.d).flatMap fun x => (itemsD x).map fun _ => PyData.bool true) = List.replicate (3 * l.length) (.bool true)
  | [] => rfl
  | c :: r => by
    rw [List.map_cons, List.flatMap_cons, flat_true r, List.length_cons, Nat.mul_succ, Nat.add_comm, ← List.replicate_append_replicate]
    rfl
end DW

set_option Elab.async false
set_option linter.all false
set_option maxRecDepth 100000
set_option maxHeartbeats 1000000
namespace DW
variable [TabsC]
open PySem PySem.Spec PyProof.Rows L2 TL NumText
/-! ### k40: lines and moves -/
theorem frB_inv {x : PyData} (h : frB x = true) : ∃ t b : Int, x = fr t b := by
  unfold frB at h
  split at h
  · exact ⟨_, _, rfl⟩
  · cases h
theorem ptB_inv {x : PyData} (h : ptB x = true) : ∃ p : PtN, x = p.d := by
  unfold ptB at h
  split at h
  · rename_i a b c
    simp only [Bool.and_eq_true] at h
    obtain ⟨a1, a2, rfl⟩ := frB_inv h.1
    obtain ⟨b1, b2, rfl⟩ := frB_inv h.2.1
    obtain ⟨c1, c2, rfl⟩ := frB_inv h.2.2
    exact ⟨⟨a1, a2, b1, b2, c1, c2⟩, rfl⟩
  · cases h
def hfB (p : PtN) : Bool := decide (p.a' ≤ 2) && (decide (p.b' ≤ 2) && decide (p.c' ≤ 2))
def hfP : PyData → Bool
  | .tuple [.tuple [_, .int a], .tuple [_, .int b], .tuple [_, .int c]] => decide (a ≤ 2) && (decide (b ≤ 2) && decide (c ≤ 2))
  | _ => false
def prB : PyData → Bool
  | .str s => leS " " s && leS s "~"
  | _ => false
def rmB : PyData → Bool
  | .str s => ((signs s).map prB).all id
  | _ => false
def natB : PyData → Bool
  | .int n => decide (0 ≤ n)
  | _ => false
def isMoveB (w : Str) (x : PyData) : Bool := if w = "tool" then natB x else if w = "to" then ptB x && hfP x else decide (w = "rem") && rmB x
theorem natB_no {x : PyData} (h : isIntB x = false) : natB x = false := by
  cases x <;> first | rfl | cases h
theorem mv_tool {w : Str} {x : PyData} (h : w = "tool") : isMoveB w x = natB x := if_pos h
theorem mv_to {w : Str} {x : PyData} (h0 : w ≠ "tool") (h : w = "to") : isMoveB w x = (ptB x && hfP x) := by unfold isMoveB; rw [if_neg h0, if_pos h]
theorem mv_rem {w : Str} {x : PyData} (h0 : w ≠ "tool") (h1 : w ≠ "to") (h : w = "rem") : isMoveB w x = rmB x := by unfold isMoveB; rw [if_neg h0, if_neg h1, decide_eq_true h]; rfl
theorem mv_no {w : Str} {x : PyData} (h0 : w ≠ "tool") (h1 : w ≠ "to") (h : w ≠ "rem") : isMoveB w x = false := by unfold isMoveB; rw [if_neg h0, if_neg h1, decide_eq_false h]; rfl
def wd (l : Str) : Str := (Txt.partition l " ").1
def wt (l : Str) : Str := (Txt.partition l " ").2.2
def whatD (l : Str) : PyData := if wd l = "tool" then optD (lawIL (tl (wt l))) else if wd l = "to" then ptL (wt l) else .str (wt l)
def moveD (l : Str) : PyData := if isMoveB (wd l) (whatD l) = true then .tuple [.str (wd l), whatD l] else .none
theorem part_blank (l : Str) : (32 ∉ tl l ∧ Txt.partition l " " = (l, Str.empty, Str.empty)) ∨ ∃ a b : Str, l = a ++ " " ++ b ∧ 32 ∉ tl a ∧ Txt.partition l " " = (a, (" " : Str), b) := by
  by_cases h : 32 ∈ tl l
  · obtain ⟨A, B, e, hA⟩ := List.eq_append_cons_of_mem h
    refine .inr ⟨⟨A.toArray⟩, ⟨B.toArray⟩, ?_, hA, ?_⟩
    · refine text_inj ?_
      rw [tl_append, tl_append, tl_blank, e]
      show A ++ 32 :: B = A ++ [32] ++ B
      simp
    · have e2 : l = (⟨A.toArray⟩ : Str) ++ " " ++ ⟨B.toArray⟩ := by
        refine text_inj ?_
        rw [tl_append, tl_append, tl_blank, e]
        show A ++ 32 :: B = A ++ [32] ++ B
        simp
      rw [e2]
      exact partition_app (y := " ") (s := 32) (S := []) tl_blank hA
  · exact .inl ⟨h, partition_none (y := " ") (s := 32) (S := []) tl_blank h⟩
theorem part_le (l : Str) : (wd l).length ≤ l.length ∧ (wt l).length ≤ l.length := by
  unfold wd wt
  rcases part_blank l with ⟨_, e⟩ | ⟨a, b, e1, _, e⟩
  · rw [e]
    exact ⟨Nat.le_refl _, Nat.zero_le _⟩
  · rw [e, e1]
    simp only [Str.length_append]
    exact ⟨by omega, by omega⟩
/-! ### halves -/
def halves : List Int := [0, 1, 2, 3, -1, -7, 16, 25]
def halfT (i : Int) : Str := if i % 2 = 0 then toString (i / 2) else toString i ++ "/2"
def halfN (i : Int) : Int := if i % 2 = 0 then i / 2 else i
def halfM (i : Int) : Int := if i % 2 = 0 then 1 else 2
def hp (i j k : Int) : PtN := ⟨halfN i, halfM i, halfN j, halfM j, halfN k, halfM k⟩
def halfOk (i : Int) : Bool := decide (lawFL (tl (halfT i)) = some (halfN i, halfM i)) && decide ((halfT i).length ≤ 4) && ((tl (halfT i)).all fun c => decide (c ≠ 32 ∧ c ≠ 10 ∧ c < 128)) &&
  decide (textF (halfN i) (halfM i) = halfT i) && frB (fr (halfN i) (halfM i)) && decide (-100 < halfN i ∧ halfN i < 100) && decide (halfM i ≤ 2)
theorem halves_ok : halves.all halfOk = true := by decide +kernel
structure HalfF (i : Int) : Prop where
  law : lawFL (tl (halfT i)) = some (halfN i, halfM i)
  len : (halfT i).length ≤ 4
  chars : ∀ c ∈ tl (halfT i), c ≠ 32 ∧ c ≠ 10 ∧ c < 128
  text : textF (halfN i) (halfM i) = halfT i
  fr : FrOk (halfN i) (halfM i)
  small : -100 < halfN i ∧ halfN i < 100
  two : halfM i ≤ 2
theorem half_f {i : Int} (h : i ∈ halves) : HalfF i := by
  have q := List.all_eq_true.mp halves_ok i h
  unfold halfOk at q
  simp only [Bool.and_eq_true, decide_eq_true_eq, List.all_eq_true] at q
  obtain ⟨⟨⟨⟨⟨⟨q1, q2⟩, q3⟩, q4⟩, q5⟩, q6⟩, q7⟩ := q
  refine ⟨q1, q2, q3, q4, ?_, q6, q7⟩
  have z : (decide (1 ≤ halfM i) && decide (((Nat.gcd (halfN i).natAbs (halfM i).natAbs : Nat) : Int) = 1)) = true := q5
  simp only [Bool.and_eq_true, decide_eq_true_eq] at z
  exact ⟨z.1, by have := z.2; omega⟩
theorem hp_ok {i j k : Int} (h1 : i ∈ halves) (h2 : j ∈ halves) (h3 : k ∈ halves) : (hp i j k).Ok ∧ (hp i j k).Lit := by
  have a := half_f h1
  have b := half_f h2
  have c := half_f h3
  have a1 := a.small
  have b1 := b.small
  have c1 := c.small
  have a2 := a.fr.1
  have b2 := b.fr.1
  have c2 := c.fr.1
  have a3 := a.two
  have b3 := b.two
  have c3 := c.two
  have sm : ∀ x : Int, -100 < x ∧ x < 100 → Sm x := fun x hx => ⟨by omega, by omega⟩
  have a4 : Sm (halfM i) := sm _ ⟨by omega, by omega⟩
  have b4 : Sm (halfM j) := sm _ ⟨by omega, by omega⟩
  have c4 : Sm (halfM k) := sm _ ⟨by omega, by omega⟩
  refine ⟨⟨a.fr, b.fr, c.fr, ⟨sm _ a1, a4⟩, ⟨sm _ b1, b4⟩, ⟨sm _ c1, c4⟩⟩, ⟨⟨a1, ?_⟩, ⟨b1, ?_⟩, ⟨c1, ?_⟩⟩⟩
  · show halfM i < 100
    omega
  · show halfM j < 100
    omega
  · show halfM k < 100
    omega
end DW

set_option Elab.async false
set_option linter.all false
set_option maxRecDepth 100000
set_option maxHeartbeats 1000000
namespace DW
variable [TabsC]
open PySem PySem.Spec PyProof.Rows L2 TL NumText
inductive Mv where
  | tool (n : Int)
  | rem (s : Str)
  | to (i j k : Int)
def tools : List Int := [0, 1, 3, 12, 400]
def rems : List Str := ["", "a", " ", "to 0 0 0", "what; ever  else "]
def bads : List Str := ["", " ", "tool", "tool -1", "tool 01", "tool 0 ", "to 1 2", "to 1 2 3 4", "to 1/3 0 0", "to 2/2 0 0", "to 1  2 3", "To 1 2 3", "to 1 2 x", "remark", "to 0 0 -0"]
def Mv.Ok : Mv → Prop
  | .tool n => n ∈ tools
  | .rem s => s ∈ rems
  | .to i j k => i ∈ halves ∧ j ∈ halves ∧ k ∈ halves
def Mv.raw : Mv → PyData
  | .tool n => .tuple [.str "tool", .int n]
  | .rem s => .tuple [.str "rem", .str s]
  | .to i j k => .tuple [.str "to", .tuple [.int i, .int j, .int k]]
def Mv.told : Mv → PyData
  | .tool n => .tuple [.str "tool", .int n]
  | .rem s => .tuple [.str "rem", .str s]
  | .to i j k => .tuple [.str "to", (hp i j k).d]
def remLine (s : Str) : Str := if s = "" then "rem" else "rem " ++ s
def Mv.line : Mv → Str
  | .tool n => "tool " ++ toString n
  | .rem s => remLine s
  | .to i j k => "to " ++ textP (hp i j k)
def plainLine (l : Str) : Bool := decide (l.length ≤ 30) && ((tl l).all fun c => decide (c ≠ 10 ∧ c < 128)) && decide (l ≠ "")
def toolOk (n : Int) : Bool := decide (wd ("tool " ++ toString n) = "tool") && decide (lawIL (tl (wt ("tool " ++ toString n))) = some n) && decide (0 ≤ n) && plainLine ("tool " ++ toString n) && decide (n.natAbs < 10 ^ 60) && decide (textI n = toString n)
def remOk (s : Str) : Bool := decide (wd (remLine s) = "rem") && decide (wt (remLine s) = s) && rmB (.str s) && plainLine (remLine s) && decide (s.length ≤ 20) && ((tl s).all fun c => decide (c < 128))
def badOk (l : Str) : Bool := isNon (moveD l) && decide (l.length ≤ 30) && ((tl l).all fun c => decide (c ≠ 10 ∧ c < 128))
theorem tools_ok : tools.all toolOk = true := by decide +kernel
theorem rems_ok : rems.all remOk = true := by decide +kernel
theorem bads_ok : bads.all badOk = true := by decide +kernel
theorem tl_nl : tl ("\n" : Str) = [10] := by decide +kernel
theorem all_nl : ("\n" : Str).cps.all (· < 256) = true := by decide +kernel
theorem plainLine_of {l : Str} (h : plainLine l = true) : l.length ≤ 30 ∧ (10 ∉ tl l ∧ ∀ c ∈ tl l, c < 128) ∧ l ≠ "" := by
  unfold plainLine at h
  simp only [Bool.and_eq_true, decide_eq_true_eq, List.all_eq_true] at h
  exact ⟨h.1.1, ⟨fun z => (h.1.2 10 z).1 rfl, fun c hc => (h.1.2 c hc).2⟩, h.2⟩
theorem isNon_eq {x : PyData} (h : isNon x = true) : x = .none := by
  cases x <;> first | rfl | cases h
theorem bad_f {l : Str} (h : l ∈ bads) : moveD l = .none ∧ l.length ≤ 30 ∧ 10 ∉ tl l ∧ ∀ c ∈ tl l, c < 128 := by
  have q := List.all_eq_true.mp bads_ok l h
  unfold badOk at q
  simp only [Bool.and_eq_true, decide_eq_true_eq, List.all_eq_true] at q
  exact ⟨isNon_eq q.1.1, q.1.2, fun z => (q.2 10 z).1 rfl, fun c hc => (q.2 c hc).2⟩
theorem Sz.strN {x : Str} (h : ∀ c ∈ tl x, c < 128) : Sz (.str x) 1 (10 * x.length + 2) :=
  ⟨by simp only [PyData.showable], by simp only [PyData.hasDict], by simp [PyData.depth], by simp only [PyData.shown]; exact PySem.StrLaws.reprText_len x fun c hc => Nat.lt_trans (h c hc) (by decide)⟩
theorem szPt2 {p : PtN} (h : p.Ok) : Sz p.d 3 12030 :=
  (Sz.tup (.cons (szFr (smAbs h.sa.1) (smAbs h.sa.2)) (.cons (szFr (smAbs h.sb.1) (smAbs h.sb.2)) (.cons (szFr (smAbs h.sc.1) (smAbs h.sc.2)) .nil)))).weak (by decide) (by decide)
theorem szW {w : Str} (h : w = "tool" ∨ w = "rem" ∨ w = "to") : Sz (.str w) 1 42 := by
  rcases h with rfl | rfl | rfl
  · exact (Sz.strN (x := "tool") (fun c hc => of_decide_eq_true (List.all_eq_true.mp (by decide +kernel : (tl ("tool" : Str)).all (fun c => decide (c < 128)) = true) c hc))).weak (by decide) (by decide +kernel)
  · exact (Sz.strN (x := "rem") (fun c hc => of_decide_eq_true (List.all_eq_true.mp (by decide +kernel : (tl ("rem" : Str)).all (fun c => decide (c < 128)) = true) c hc))).weak (by decide) (by decide +kernel)
  · exact (Sz.strN (x := "to") (fun c hc => of_decide_eq_true (List.all_eq_true.mp (by decide +kernel : (tl ("to" : Str)).all (fun c => decide (c < 128)) = true) c hc))).weak (by decide) (by decide +kernel)
structure MvF (v : Mv) : Prop where
  move : moveD v.line = v.told
  len : v.line.length ≤ 30
  nl : 10 ∉ tl v.line
  plain : ∀ c ∈ tl v.line, c < 128
  ne : v.line ≠ ""
  sz : Sz v.told 5 12100
theorem textP_half {i j k : Int} (h1 : i ∈ halves) (h2 : j ∈ halves) (h3 : k ∈ halves) : textP (hp i j k) = Txt.join " " [halfT i, halfT j, halfT k] := by
  unfold textP hp
  dsimp only
  rw [(half_f h1).text, (half_f h2).text, (half_f h3).text]
theorem to_blank (x : Str) : ("to " : Str) ++ x = ("to" : Str) ++ " " ++ x := by
  rw [show ("to " : Str) = ("to" : Str) ++ " " from by decide +kernel]
theorem mv_f {v : Mv} (h : v.Ok) : MvF v := by
  cases v with
  | tool n =>
    have q := List.all_eq_true.mp tools_ok n h
    unfold toolOk at q
    simp only [Bool.and_eq_true, decide_eq_true_eq] at q
    obtain ⟨⟨⟨⟨⟨q1, q2⟩, q3⟩, q4⟩, q5⟩, q6⟩ := q
    obtain ⟨p1, p2, p3⟩ := plainLine_of q4
    refine ⟨?_, p1, p2.1, p2.2, p3, (Sz.tup (.cons (szW (.inl rfl)) (.cons (Sz.int (log60 q5)) .nil))).weak (by decide) (by decide)⟩
    show moveD ("tool " ++ toString n) = _
    have w1 : whatD ("tool " ++ toString n) = .int n := by
      unfold whatD
      rw [if_pos q1, q2]
      rfl
    unfold moveD
    rw [w1, q1, mv_tool rfl, if_pos (show natB (.int n) = true from decide_eq_true q3)]
    rfl
  | rem s =>
    have q := List.all_eq_true.mp rems_ok s h
    unfold remOk at q
    simp only [Bool.and_eq_true, decide_eq_true_eq, List.all_eq_true] at q
    obtain ⟨⟨⟨⟨⟨q1, q2⟩, q3⟩, q4⟩, q5⟩, q6⟩ := q
    obtain ⟨p1, p2, p3⟩ := plainLine_of q4
    refine ⟨?_, p1, p2.1, p2.2, p3, (Sz.tup (.cons (szW (.inr (.inl rfl))) (.cons ((Sz.strN q6).weak (q := 1) (b := 202) (by decide) (by omega)) .nil))).weak (by decide) (by decide)⟩
    show moveD (remLine s) = _
    have w1 : whatD (remLine s) = .str s := by
      unfold whatD
      rw [q1, q2, if_neg (by decide), if_neg (by decide)]
    unfold moveD
    rw [w1, q1, mv_rem (by decide) (by decide) rfl, if_pos q3]
    rfl
  | to i j k =>
    obtain ⟨h1, h2, h3⟩ := h
    have a := half_f h1
    have b := half_f h2
    have c := half_f h3
    obtain ⟨ho, hl⟩ := hp_ok h1 h2 h3
    obtain ⟨f1, f2, _⟩ := textP_facts ho hl
    have e := to_blank (textP (hp i j k))
    have pt : Txt.partition ("to " ++ textP (hp i j k)) " " = (("to" : Str), (" " : Str), textP (hp i j k)) := by
      rw [e]
      exact partition_app (y := " ") (s := 32) (S := []) tl_blank (by decide +kernel)
    have q1 : wd ("to " ++ textP (hp i j k)) = "to" := by unfold wd; rw [pt]
    have q2 : wt ("to " ++ textP (hp i j k)) = textP (hp i j k) := by unfold wt; rw [pt]
    have pd := point_tuple f1
    have w1 : whatD ("to " ++ textP (hp i j k)) = (hp i j k).d := by
      unfold whatD
      rw [q1, q2, if_neg (by decide), if_pos rfl, ptL_t (by rw [pd]; exact ho.ok), pd]
    have l0 : ("to " : Str).length = 3 := by decide
    have t0 : tl ("to " : Str) = [116, 111, 32] := by decide +kernel
    refine ⟨?_, ?_, ?_, ?_, ?_, (Sz.tup (.cons (szW (.inr (.inr rfl))) (.cons (szPt2 ho) .nil))).weak (by decide) (by decide)⟩
    · show moveD ("to " ++ textP (hp i j k)) = _
      unfold moveD
      rw [w1, q1, mv_to (by decide) rfl, if_pos (by
        rw [ho.ok]
        show (true && (decide (halfM i ≤ 2) && (decide (halfM j ≤ 2) && decide (halfM k ≤ 2)))) = true
        rw [decide_eq_true a.two, decide_eq_true b.two, decide_eq_true c.two]
        rfl)]
      rfl
    · show ("to " ++ textP (hp i j k)).length ≤ 30
      have := f2.1
      rw [Str.length_append, l0]
      omega
    · show 10 ∉ tl ("to " ++ textP (hp i j k))
      rw [textP_half h1 h2 h3, join3]
      simp only [tl_append, t0, tl_blank, List.mem_append]
      rintro (z | (z | z) | (z | z) | z)
      · revert z; decide
      · exact (a.chars 10 z).2.1 rfl
      · revert z; decide
      · exact (b.chars 10 z).2.1 rfl
      · revert z; decide
      · exact (c.chars 10 z).2.1 rfl
    · show ∀ c ∈ tl ("to " ++ textP (hp i j k)), c < 128
      exact Plain.app (by rw [t0]; decide) f2.2
    · intro z
      have := congrArg Str.length (show ("to " ++ textP (hp i j k) : Str) = "" from z)
      rw [Str.length_append, l0, show ("" : Str).length = 0 from by decide] at this
      omega
end DW

set_option Elab.async false
set_option linter.all false
set_option maxRecDepth 100000
set_option maxHeartbeats 1000000
namespace DW
variable [TabsC]
open PySem PySem.Spec PyProof.Rows L2
/-! ### the law's own lists of cells -/
def spDCellsN : DSp := fun m ds k => ∃ a many, ds = [.r (.ref a), .d (.int many)] ∧ (0 ≤ many ∧ many ≤ 30) ∧ m.p = some a ∧ m.n < 80000 ∧ ∀ (cs : List CellN) n, cs.length = many.toNat → (∀ c ∈ cs, c.Bnd 35) → n ≤ m.n + 120 → k (.d (.list (cs.map CellN.d))) (m.to n)
def spOneEach : DSp := fun m ds k => ∃ l : List CellN, ds = [.d (.list (l.map CellN.d))] ∧ l.length ≤ 30000 ∧ k (.d (.tuple ((canon l).map CellN.d))) m
def spIsLot (K : PySem.W.Frag) (C : Addr) : DSp := fun m ds k => ∃ a l : List CellN, ds = [lotD K C a, .d (.list (l.map CellN.d))] ∧ canon a = canon l ∧ l.length ≤ 1000 ∧ (∀ c ∈ l, c.Bnd 200) ∧ k (.d (.bool true)) m
theorem pairs_eq (l : List CellN) : (l.map CellN.d).map (fun x => PyData.tuple [x, .bool true]) = (l.map CellN.k).map fun ns => PyData.tuple [tupI ns, .bool true] := by
  rw [List.map_map, List.map_map]
  rfl
theorem szLot {l : List CellN} (hl : l.length ≤ 1000) (hb : ∀ c ∈ l, c.Bnd 1000) {n k : Nat} (hn : n ≤ 1000) (hk : k ≤ 1000) : Sz (.tuple [.tuple (l.map CellN.d), .int n, .int k]) 4 100000 := by
  have q := Sz.tup (.cons (Sz.tup (szaCells hb)) (.cons (Sz.small (i := n) ⟨by omega, by omega⟩) (.cons (Sz.small (i := k) ⟨by omega, by omega⟩) .nil)))
  exact ⟨q.sh, q.nd, q.dp, Nat.le_trans q.ln (by omega)⟩
theorem nCub_le (l : List CellN) : nCub l ≤ l.length := List.length_filter_le _ _
theorem cut_take (l : List CellN) {t : Int} (h : 0 ≤ t) : cutD (l.map CellN.d) none (some t) = (l.take t.toNat).map CellN.d := by
  unfold cutD
  rw [show HT.sIx (l.map CellN.d).length 0 none = 0 from rfl, List.drop_zero, List.length_map, Nat.sub_zero]
  have e : HT.sIx l.length l.length (some t) = min t.toNat l.length := by
    show (if t < 0 then _ else min t.toNat l.length) = _
    rw [if_neg (by omega)]
  rw [e, ← List.map_take]
  congr 1
  exact List.take_eq_take_min.symm
theorem canon_two (l : List CellN) (n : Nat) : canon (l ++ l.take n) = canon l := canon_eq fun c => by
  rw [List.mem_append]
  exact ⟨fun h => h.elim id fun q => List.mem_of_mem_take q, .inl⟩
theorem mem_two (l : List CellN) (n : Nat) (c : CellN) : decide (c ∈ l ++ l.take n) = decide (c ∈ l) := decide_eq_decide.mpr (by rw [← mem_canon, canon_two, mem_canon])
theorem canon_join {a b f s : List CellN} (h1 : canon a = canon f) (h2 : canon b = canon s) : canon (canon a ++ canon b) = canon (f ++ s) := canon_eq fun c => by
  rw [List.mem_append, List.mem_append, h1, h2, mem_canon, mem_canon]
theorem canon_filt {a f : List CellN} (h1 : canon a = canon f) (p : CellN → Bool) : canon ((canon a).filter p) = canon (f.filter p) := canon_eq fun c => by
  rw [List.mem_filter, List.mem_filter, h1, mem_canon]
theorem all_only {a f s : List CellN} (h1 : canon a = canon f) : ((canon a).all fun c => decide (c ∈ s)) = decide (f.filter (fun c => !decide (c ∈ s)) = []) := by
  by_cases h : f.filter (fun c => !decide (c ∈ s)) = []
  · rw [decide_eq_true h, List.all_eq_true]
    intro c hc
    rw [h1, mem_canon] at hc
    have q := List.filter_eq_nil_iff.mp h c hc
    simpa using q
  · rw [decide_eq_false h]
    refine Bool.eq_false_iff.mpr fun q => h (List.filter_eq_nil_iff.mpr fun c hc => ?_)
    have z := List.all_eq_true.mp q c (by rw [h1, mem_canon]; exact hc)
    simpa using z
theorem all_sub {a b : List CellN} (h : ∀ c ∈ a, c ∈ b) : ((canon a).all fun c => decide (c ∈ b)) = true := by
  rw [List.all_eq_true]
  exact fun c hc => decide_eq_true (h c (mem_canon.mp hc))
theorem mem_both {a : List CellN} {p : CellN → Bool} {c : CellN} (h : c ∈ (canon a).filter p) : c ∈ a := mem_canon.mp (List.mem_filter.mp h).1
theorem mem_join {a b : List CellN} {c : CellN} (h : c ∈ a) : c ∈ canon a ++ canon b := List.mem_append_left _ (mem_canon.mpr h)
theorem eq_due {a f s : List CellN} (h1 : canon a = canon f) : decide (canon a = canon s) = decide (canon f = canon s) := by rw [h1]
theorem wSs_me {X : Cx} {sts : List Stmt} {env : DEnv} {m m' : Me} {D : DE} (e : m = m') (h : wSs X sts env m' D) : wSs X sts env m D := by rw [e]; exact h
theorem nf_self {K : PySem.W.Frag} {C : Addr} : PySem.W.notFirst K C (.ref C) = true := by
  unfold PySem.W.notFirst
  simp
section
variable {X : Cx} {env : DEnv} {m : Me} {k : Dat → Me → Prop} {kb : Bool → Me → Prop} {a b : Expr} {pos : Pos}
def fIsnB (_ : Me) (dx dy : Dat) (k : Dat → Prop) : Prop := ∃ p q : Bool, dx = .d (.bool p) ∧ dy = .d (.bool q) ∧ k (.d (.bool (!decide (p = q))))
theorem opD_isnB {K : PySem.W.Frag} : OpD K (fun x y H Q => ∃ a b, x = .bl a ∧ y = .bl b ∧ Q (.bl (!decide (a = b))) H) fIsnB := fun m H x y dx dy k Q hm h1 h2 ⟨p, q, e1, e2, hk⟩ hq => by
  subst e1 e2
  cases h1
  cases h2
  exact ⟨p, q, rfl, rfl, hq _ _ H (Same.refl _) dv_bl hk⟩
theorem wE_isnB (h : wE X a env m fun dx m1 => wE X b env m1 fun dy m2 => fIsnB m2 dx dy fun d => k d m2) : wE X (.Compare a [.IsNot] [b] pos) env m k := wE_cmp op_isnot_bl opD_isnB (nomark _) h
theorem wT_isnB (h : wE X a env m fun dx m1 => wE X b env m1 fun dy m2 => fIsnB m2 dx dy fun d => ∃ c, d = .d (.bool c) ∧ kb c m2) : wT X (.Compare a [.IsNot] [b] pos) env m kb := wT_cmp op_isnot_bl opD_isnB (nomark _) h
theorem wT_isB (h : wE X a env m fun dx m1 => wE X b env m1 fun dy m2 => fIsB m2 dx dy fun d => ∃ c, d = .d (.bool c) ∧ kb c m2) : wT X (.Compare a [.Is] [b] pos) env m kb := wT_cmp op_is_bl opD_isB (nomark _) h
end
end DW

set_option Elab.async false
set_option linter.all false
set_option maxRecDepth 100000
set_option maxHeartbeats 1000000
namespace DW
variable [TabsC]
open PySem PySem.Spec PyProof.Rows L2
/-! ### properties -/
section
variable {X : Cx} {env : DEnv} {m : Me} {k : Dat → Me → Prop} {kb : Bool → Me → Prop} {o e : Expr} {f : Str} {pos : Pos} {C p g : Addr}
theorem pe_propG {ta : TE} {fd : FuncData} {ps : List Str} {sp : Sp} {E : XK} {CX : CXT} {j : Nat} (he : PE X e ta) (c : Cls X.K C) (hp : PropOf X.K C f p g) (F : FnG X.prog X.w X.K X.mg X.base CX j g fd ps sp) (hr : RoomG (j + 1) X.A) (hb : Binds X.K fd ps []) (hx : Passes CX X.nox E)
    (hab : attributeBase e f X.env (eval e X.env) = eval e X.env) : PE X (.Attribute e f pos) (tProp C sp [] E ta) := by
  refine ⟨fun pins s σ H Q I h => ?_⟩
  refine attr_of hab (thn (he.run pins s σ H _ I h) fun u s1 ⟨x, H1, I1, rx, a, dx, fs, ex, ea, q⟩ => ?_)
  subst ex
  obtain rfl : u = Value.ref a := rx
  obtain ⟨mA, O, _, _, _, _⟩ := ins_get I1.hok ea
  obtain ⟨od, J, _⟩ := O.look
  obtain ⟨rest, hrec⟩ := hp.rec_
  have I2 := I1.tok (s1.toks + 1)
  have hl : ([Value.ref a] : List Value).length = ps.length := by
    rw [← F.len _ _ _ _ q]
    rfl
  have hc : (PySem.W.clsIn X.K C).isSome = true := by
    obtain ⟨cd, z, _⟩ := PySem.W.any_some c.hd
    rw [z]
    rfl
  refine PySem.W.get_bind I1.kIn J (PySem.W.plainGet_of (c.get f)).1 (PySem.W.findObj_data hc hp.at_ hp.get hp.tak) (PySem.W.plainGet_of (c.get f)).2 (wpAny_call (PySem.W.prop_get (s := { s1 with toks := s1.toks + 1 }) I1.kIn hrec ?_))
  have bd := hb { s1 with toks := s1.toks + 1 } [.ref a] I2.kIn (by simpa using hl)
  refine codeAny_mono (F.go X.A.in1 X.stack { s1 with toks := s1.toks + 1 } H1 ⟨[.ref a], []⟩ [.ref a] [.ref a] Q E ⟨Room.in1 hr.room, hr.gd⟩ I2.env0.in1 (by simpa using bd) (.cons rfl .nil) q) fun r s' hq => ?_
  cases r with
  | error er => exact False.elim (hx pins σ H1 { s1 with toks := s1.toks + 1 } er s' (I2.wish _) hq)
  | ok fl =>
    cases fl with
    | ret u =>
      obtain ⟨v, H', I3, rv, q3⟩ := I2.after hq
      show wpAny _ _ (handedOut u) _ _ _
      rw [PySem.W.handedOut_of (handed_of rv)]
      exact wpAny_pure ⟨v, H', I3, rv, q3⟩
    | next => exact False.elim hq
    | brk => exact False.elim hq
    | cont => exact False.elim hq
theorem wE_prop {fd : FuncData} {ps : List Str} {sp : DSp} {j : Nat} (c : Cls X.K C) (hp : PropOf X.K C f p g) (F : FnG X.prog X.w X.K X.mg X.base CX0 j g fd ps (spD X.K 1 sp)) (hr : RoomG (j + 1) X.A) (hb : Binds X.K fd ps [])
    (h : wE X e env m fun d m1 => ∃ fs, d = .o C fs ∧ sp m1 [.o C fs] k) (hab : attributeBase e f X.env (eval e X.env) = eval e X.env := by rfl) : wE X (.Attribute e f pos) env m k :=
  wE_of (pe_propG (E := fun _ _ _ => False) peW c hp F hr hb pass0 hab) fun σ H Q he hm0 hq => h σ H _ he hm0 fun v d m1 H1 e1 hm1 dv ⟨gs, q, hw⟩ => by
    subst q
    have dv0 : DVo (hid m1 H1) v C gs := dv
    obtain ⟨y, dx, us, rfl, g1, g2, g6⟩ := dv
    exact ⟨y, dx, us, rfl, hid_sub _ _ g1, rfl, m1, [.o C gs], k, hm1, .cons dv0 .nil, hw, fun v d m' H' e3 => hq v d m' H' (e1.trans e3)⟩
/-! ### list(range(a, b)), chains, tuple slices, any, extend by a list -/
variable {a b c : Expr} {p1 p2 p3 : Pos}
theorem wE_listRg2 (hc : X.calm = true) (hg : Gl X "list") (hm0 : X.mg "list" = none) (hg1 : Gl X "range") (hm1 : X.mg "range" = none)
    (h : wE X a env m fun d m1 => wE X b env m1 fun d2 m2 => ∃ i n : Int, d = .d (.int i) ∧ d2 = .d (.int n) ∧ (-1000000 ≤ i ∧ i ≤ 1000000 ∧ -1000000 ≤ n ∧ n ≤ 1000000) ∧ k (.d (.list (upto i (n - i).toNat))) m2)
    (na : starEach [a, b] X.env = (false, eval a X.env) :: starEach [b] X.env := by rfl) (nb : starEach [b] X.env = (false, eval b X.env) :: starEach [] X.env := by rfl) (ne : starEach [Expr.Call (.Name "range" p2) [a, b] [] p1] X.env = (false, eval (Expr.Call (.Name "range" p2) [a, b] [] p1) X.env) :: starEach [] X.env := by rfl) (npl : (backTo p1 (starEach [b] X.env)).any (·.1) = false := by rfl) :
    wE X (.Call (.Name "list" p3) [.Call (.Name "range" p2) [a, b] [] p1] [] pos) env m k :=
  wE_of (pe_listRg hc hg hm0 (prg_2 hg1 hm1 peW peW na nb npl) ne) fun σ H Q he hm hq => h σ H _ he hm fun v d m1 H1 e1 hm1 dv h1 => h1 σ H1 _ (he.mono e1) hm1 fun v2 d2 m2 H2 e2 hm2 dv2 ⟨i, n, q1, q2, hn, hk⟩ => by
    subst q1 q2
    cases dv
    cases dv2
    refine ⟨i, n, rfl, rfl, ⟨by omega, by omega, by omega, by omega, by omega⟩, fun q hq' => ?_⟩
    have s := same_new (o := .lst (rgV i n)) hq'
    exact hq _ (.d (.list (upto i (n - i).toNat))) m2 _ ((e1.trans e2).trans (Ext.of s)) (hm2.mono s) (Dp.lst (SqL.of (same_hid hm2 hq')) (by unfold rgV upto; exact rg_dp i _)) hk
/-- a <= b <= c as a test -/
theorem wT_leleI (h : wE X a env m fun dx m1 => wE X b env m1 fun dy m2 => ∃ i j, dx = .d (.int i) ∧ dy = .d (.int j) ∧ (i ≤ j → wE X c env m2 fun dz m3 => ∃ l, dz = .d (.int l) ∧ kb (decide (j ≤ l)) m3) ∧ (¬ i ≤ j → kb false m2))
    (hm : lastMarks [.LtE, .LtE] [b, c] = false := by with_unfolding_all rfl) : wT X (.Compare a [.LtE, .LtE] [b, c] pos) env m kb :=
  wT_of (pt_chain op_le op_le peW peW peW hm) fun σ H Q he hm hq => h σ H _ he hm fun v d m1 H1 e1 hm1 dv h1 => h1 σ H1 _ (he.mono e1) hm1 fun v2 d2 m2 H2 e2 hm2 dv2 ⟨i, j, q1, q2, h2, h3⟩ => by
    subst q1 q2
    cases dv
    cases dv2
    refine ⟨i, j, rfl, rfl, decide (i ≤ j), rfl, ?_⟩
    by_cases z : i ≤ j
    · rw [decide_eq_true z]
      refine iteT (h2 z σ H2 _ (he.mono (e1.trans e2)) hm2 fun v3 d3 m3 H3 e3 hm3 dv3 ⟨l, q3, hk⟩ => ?_)
      subst q3
      cases dv3
      exact ⟨j, l, rfl, rfl, _, rfl, hq _ m3 H3 ((e1.trans e2).trans e3) hm3 hk⟩
    · rw [decide_eq_false z]
      exact iteF ⟨false, rfl, hq _ m2 H2 (e1.trans e2) hm2 (h3 z)⟩
/-- a < b < c as a value -/
theorem wE_ltltI (h : wE X a env m fun dx m1 => wE X b env m1 fun dy m2 => ∃ i j : Int, dx = .d (.int i) ∧ dy = .d (.int j) ∧ (i < j → wE X c env m2 fun dz m3 => ∃ l : Int, dz = .d (.int l) ∧ k (.d (.bool (decide (j < l)))) m3) ∧ (¬ i < j → k (.d (.bool false)) m2))
    (hm : lastMarks [.Lt, .Lt] [b, c] = false := by with_unfolding_all rfl) : wE X (.Compare a [.Lt, .Lt] [b, c] pos) env m k :=
  wE_of (pe_chain op_lt op_lt peW peW peW hm) fun σ H Q he hm hq => h σ H _ he hm fun v d m1 H1 e1 hm1 dv h1 => h1 σ H1 _ (he.mono e1) hm1 fun v2 d2 m2 H2 e2 hm2 dv2 ⟨i, j, q1, q2, h2, h3⟩ => by
    subst q1 q2
    cases dv
    cases dv2
    refine ⟨i, j, rfl, rfl, decide (i < j), rfl, ?_⟩
    by_cases z : i < j
    · rw [decide_eq_true z, if_pos rfl]
      refine h2 z σ H2 _ (he.mono (e1.trans e2)) hm2 fun v3 d3 m3 H3 e3 hm3 dv3 ⟨l, q3, hk⟩ => ?_
      subst q3
      cases dv3
      exact ⟨j, l, rfl, rfl, hq _ _ m3 H3 ((e1.trans e2).trans e3) hm3 dv_bl hk⟩
    · rw [decide_eq_false z, if_neg Bool.false_ne_true]
      exact hq _ _ m2 H2 (e1.trans e2) hm2 dv_bl (h3 z)
/-- t[lo:hi] of a tuple -/
theorem wE_slT {lo hi : Option Expr} (h : wE X a env m fun d m1 => ∃ xs, d = .d (.tuple xs) ∧ wO X lo env m1 fun l m2 => wO X hi env m2 fun u m3 => k (.d (.tuple (cutD xs l u))) m3) : wE X (.Subscript a (.Slice lo hi none p2) pos) env m k :=
  wE_of (pe_slice sl_tupA peW poW poW) fun σ H Q he hm hq => h σ H _ he hm fun v d m1 H1 e1 hm1 dv ⟨xs, q, h1⟩ => h1 σ H1 _ (he.mono e1) hm1 fun l m2 H2 e2 hm2 h2 => h2 σ H2 _ (he.mono (e1.trans e2)) hm2 fun u m3 H3 e3 hm3 hk => by
    subst q
    have dv3 := dv.mono (e2.trans e3)
    have dv4 := dv3
    cases dv3 with
    | @tup ad vs _ s1 a1 =>
      have ln := dpAll_len a1
      refine ⟨_, vs, rfl, seqT_mono hid_sub s1, fun hw => ?_, fun hw p hp => ?_⟩
      · have e : cutD xs l u = xs := by
          unfold cutD
          rw [← ln, hw.1, hw.2, List.drop_zero, Nat.sub_zero, ln, List.take_length]
        have hk : k (.d (.tuple (cutD xs l u))) m3 := hk
        rw [e] at hk
        exact hq _ (.d (.tuple xs)) m3 H3 ((e1.trans e2).trans e3) hm3 dv4 hk
      · have s := same_new (o := .tup (cutV vs l u)) hp
        exact hq _ (.d (.tuple (cutD xs l u))) m3 _ (((e1.trans e2).trans e3).trans (Ext.of s)) (hm3.mono s) (Dp.tup (SqT.of (same_hid hm3 hp)) (dpAll_mono (Ext.of s) _ _ (dpAll_cut a1))) hk
end
/-! list.extend by any list that is read -/
open PySem.AutoSeq1 in
theorem list_extW (l b : Addr) (its its2 : Array Value) (n n2 : Nat) (sl2 : Array (Option Value)) (hc0 : ¬(!its.isEmpty && Builtin.List.listTooLong (its.size + its2.size)) = true) (hc1 : its.size ≤ sizeLine) (hs2 : its.size + its2.size ≤ sizeLine + 1) :
    Meets (Builtin.«list.extend» ⟨[.ref l, .ref b], []⟩) (fun _ R s => s.heap.get? l = some { cls := .type "list", dict := none, data := .seq its n, slots := #[] } ∧ s.heap.get? b = some { cls := .type "list", dict := none, data := .seq its2 n2, slots := sl2 } ∧
      R (.ok (.ret Value.none)) { s with heap := s.heap.update l (Obj.mapSeq fun x => x ++ its2), toks := s.toks }) :=
  .of_wp fun prog w A R s h => by
    obtain ⟨hp, g, d, tk, os⟩ := s
    obtain ⟨hl, hb, h⟩ := h
    have f1 := idx_int
    have f2 := AutoSeq1.sub_tuple_tuple
    have f3 := AutoSeq1.sub_list_list
    have f4 := AutoSeq1.sub_tuple_list
    have f5 := AutoSeq1.sub_list_tuple
    have hz' : (its ++ its2).size ≤ sizeLine + 1 := by rw [Array.size_append]; exact hs2
    wp_walk using (wpAny_updateSeq hl rfl (hz := hc1) (_hz' := hz')), wpAny_loadPart' hl, wpAny_loadPart' hb
    exact ⟨_, rfl, h⟩
def rExtS (K : PySem.W.Frag) : V → List V → Hp → VK → Prop := fun x vs H Q => ∃ l b xs zs, x = .ref l ∧ vs = [.ref b] ∧ H l = some (.lst xs) ∧ SqL K H b zs ∧ xs.length + zs.length ≤ sizeLine ∧ Q .non (upd H l (.lst (xs ++ zs)))
theorem mt_extS {X : Cx} : MtM X "list.extend" (rExtS X.K) := by
  intro pins s σ H x vs v us Q I rx rv h
  obtain ⟨l, b, xs, zs, rfl, rfl, hH, hB, hz, q⟩ := h
  cases rx
  obtain ⟨u, rfl, ru⟩ := rv.one
  cases ru
  obtain ⟨z, its, n, r, hl, e⟩ := I.lstM hH
  obtain ⟨its2, r2, ⟨⟨c2, dd2, dt2, sl2⟩, n2, ho2, hc2, hdn2, hd2⟩, _⟩ := I.list hB
  simp only at hc2 hd2 hdn2
  subst hc2 hd2 hdn2
  have z2 := r2.length
  have z1 := r.length
  have hsz : its.toArray.size + its2.toArray.size ≤ sizeLine := by rw [List.size_toArray, List.size_toArray]; omega
  have hlong : ¬ (!its.toArray.isEmpty && Builtin.List.listTooLong (its.toArray.size + its2.toArray.size)) = true := by
    rw [notLongL hsz, Bool.and_false]
    exact Bool.false_ne_true
  refine call_meets F.slot_list_extend ⟨_, e, rfl⟩ F.entry_list_extend (F.args_list_extend_2 _ _) (list_extW l b its.toArray its2.toArray n n2 sl2 hlong (by omega) (by omega)) ⟨e, ho2, ?_⟩
  refine ⟨.non, _, I.lset (its' := its ++ its2) hH e (by simp) (r.append r2) ?_, rfl, q⟩
  rw [List.length_append]
  omega
def gAny (_ : Me) (ds : List Dat) (k : Dat → Prop) : Prop := ∃ (ys : List PyData) (bs : List Bool), ds = [.d (.list ys)] ∧ boolsOf ys = some bs ∧ k (.d (.bool (bs.any id)))
theorem callD_gAny {K : PySem.W.Frag} : CallD K (rAny K) gAny := fun m H vs ds k Q hm dvs ⟨ys, bs, e, e2, hk⟩ hq => callD_any m H vs ds k Q hm dvs ⟨bs, by rw [e, boolsOf_eq e2], hk⟩ hq
section
variable {X : Cx} {env : DEnv} {m : Me} {D : DE} {o e : Expr} {pos apos cpos : Pos}
/-- xs.extend(ys), ys a list that doesn't change -/
theorem wS_extendD (h : wE X o env m fun d m1 => ∃ l xs, d = .r (.ref l) ∧ m1.ls.lookup l = some xs ∧ wE X e env m1 fun d2 m2 => ∃ (zs : List PyData) (r : List (Addr × List PyData)) (ys : List PyData), d2 = .d (.list zs) ∧ m2.ls = (l, ys) :: r ∧ ys.length + zs.length ≤ 10000000 ∧ D.nx env ⟨m2.p, m2.n, (l, ys ++ zs) :: r⟩)
    (hbase : attributeBase o "extend" X.env (eval o X.env) = eval o X.env := by rfl)
    (hfew : ((backTo cpos (starEach [e] X.env)).all (fun x => !x.1) && (backToKw cpos (keywordEach [] X.env)).all (fun x => x.1.isSome) && decide (([e] : List Expr).length + ([] : List Keyword).length + (if ([] : List Keyword).isEmpty then 0 else 1) < 30)) = true := by rfl)
    (hline : (apos.endLine == cpos.line) = true := by rfl) (hs : starEach [e] X.env = (false, eval e X.env) :: starEach [] X.env := by rfl) (hplain : (backTo cpos (starEach [] X.env)).any (·.1) = false := by rfl)
    (hsw : swapsWith (.Call (.Attribute o "extend" apos) [e] [] cpos) none pos.line X.env = pure false := by rfl) : wS X (.Expr (.Call (.Attribute o "extend" apos) [e] [] cpos) pos) env m D :=
  wS_of (ps_expr (pe_bm PySem.F.plainAttrs_list PySem.F.slot_list_extend PySem.F.type_list_extend mt_extS peW (pa_cons peW pa_nil hs) hbase hfew hline hs hplain) hsw) fun σ H E he hm hE =>
    h σ H _ he hm fun v d m1 H1 e1 hm1 dv ⟨l, xs, q1, hl, h2⟩ => by
      subst q1
      cases dv_ref dv
      refine ⟨own_tyV hm1 hl, h2 σ H1 _ (he.mono e1) hm1 ?_⟩
      rintro w d2 ⟨pp, nn, ll⟩ H2 e2 hm2 dw ⟨zs, r, ys, rfl, em, hz, hk⟩
      obtain rfl : ll = (l, ys) :: r := em
      change D.nx env (Me.own ⟨pp, nn, r⟩ l (ys ++ zs)) at hk
      change MemOk X.K (Me.own ⟨pp, nn, r⟩ l ys) H2 at hm2
      have dw' : Dp X.K (hid (Me.own ⟨pp, nn, r⟩ l ys) H2) w (.list zs) := dw
      cases dw' with
      | @lst b us _ s1 a1 =>
        obtain ⟨vs, w1, w2⟩ := own_at hm2
        obtain ⟨o1, o2⟩ := own_set (acc' := ys ++ zs) hm2 (dpAll_append w2 a1)
        have e3 := (e1.trans e2).trans o2
        exact ⟨l, b, vs, us, rfl, rfl, w1, hid_sub.seq s1, szl (by rw [dpAll_len w2, dpAll_len a1]; exact hz), hE.nx _ _ _ _ e3 (he.mono e3) o1 hk⟩
end
/-! ### three clauses without a test -/
def awN (X : Cx) (scope : Scope) (D : Addr) (elt : Expr) : AW := fun env m acc kk => acc.length < 10000000 ∧ ∀ s H C cl fp, wE (bk X scope s H C cl fp) elt env (m.own D acc) fun d m3 => ∃ y m4, d = .d y ∧ m3 = Me.own m4 D acc ∧ kk (acc ++ [y]) m4
theorem br_n {X : Cx} {scope : Scope} {D : Addr} {elt : Expr} : Br X D (wkL tYes (eB X scope elt) D) (awN X scope D elt) := by
  intro σ H Nx env m acc kk he hm ⟨hl, h⟩ hq
  dsimp only [wkL, tYes]
  rw [if_pos rfl]
  intro s Hs C cl fp
  refine h s Hs C cl fp σ H _ he hm ?_
  rintro u d m3 H3 e3 hm3 dv ⟨y, m4, rfl, rfl, hk⟩
  obtain ⟨ws, w1, w2⟩ := own_at hm3
  obtain ⟨o1, o2⟩ := own_set (acc' := acc ++ [y]) hm3 (dpAll_append w2 (dpAll_one dv))
  have wl := dpAll_len w2
  exact ⟨ws, w1, Nat.lt_of_lt_of_le (by omega : ws.length < 10000001) (by decide), hq _ m4 _ o1 (e3.trans o2) hk⟩
section
variable {X : Cx} {env : DEnv} {m : Me} {k : Dat → Me → Prop} {pos : Pos} {scope : Scope} {t0 i0 t1 i1 t2 i2 elt : Expr}
theorem wE_lc3n (own : List (Str × Nat)) (vs1 vs2 : List Nat) (hc : X.calm = true) (hN : X.N.Nodup) (ok : BlkOk X.N X.env.scope scope own) (hv1 : ∀ j ∈ vs1, j ∈ own.map (·.2)) (hv2 : ∀ j ∈ vs2, j ∈ vs1)
    (h : wI X t0 i0 env m fun xs m1 => ∀ D, runA (fun m acc x kk => ∀ s H C cl fp, wG (bk X scope s H C cl fp) (own.map (·.2)) t0 (wipeE env (own.map (·.2))) (m.own D acc) (.d x) fun env' =>
      awO X scope D vs1 t1 i1 (awO X scope D vs2 t2 i2 (awN X scope D elt)) env' m acc kk) xs [] m1 fun ys m2 => k (.d (.list ys)) m2)
    (hs : ∀ x, foldedSetIterable i0 X.env x = pure x := by intro _; rfl) (hs1 : ∀ env x, foldedSetIterable i1 env x = pure x := by intro _ _; rfl) (hs2 : ∀ env x, foldedSetIterable i2 env x = pure x := by intro _ _; rfl) :
    wE X (.ListComp elt [⟨t0, i0, [], 0⟩, ⟨t1, i1, [], 0⟩, ⟨t2, i2, [], 0⟩] scope pos) env m k := by
  refine wE_of (pe_lcN (vs1 := vs1) (wi := iW X t0 i0) (g := gB X scope t0) (word := fun D => wk (iB X scope t1 i1) (gB X scope t1) vs1 (wk (iB X scope t2 i2) (gB X scope t2) vs2 (wkL tYes (eB X scope elt) D)))
    (act := fun D en => actO X.prog X.w X.A (Nd elt [⟨t0, i0, [], 0⟩, ⟨t1, i1, [], 0⟩, ⟨t2, i2, [], 0⟩] scope pos) 1 i1 (.ref D) en) hc hN piW ok hv1 pgB (fun D s C cl => rule_o rfl rfl (hs1 _)) (fun D s H C cl fp => ?_) hs) fun σ H Q he hm hq => ?_
  · exact does_o (B := bk X scope s H C cl fp) (vs1 := vs2) hc rfl rfl (piB _ _ _ _ _) (pgB _ _ _ _ _) (rule_o rfl rfl (hs2 _)) (does_o (B := bk X scope s H C cl fp) (vs1 := []) hc rfl rfl (piB _ _ _ _ _) (pgB _ _ _ _ _) (rule_l rfl rfl) (does_l rfl pts_nil (peB _ _ _ _ _)) (fun j hj => nomatch hj)) hv2
  · refine h σ H _ he hm fun J xs m1 H1 e1 hm1 dit hk => fun D hD => ?_
    obtain ⟨s1, s2⟩ := own_ok (vs := []) (xs := []) hm1 hD .nil
    refine ⟨fun i n H' => n = xs.length - i ∧ i ≤ xs.length ∧ ∃ m' acc, MemOk X.K (Me.own m' D acc) H' ∧ Ext m1 H1 (Me.own m' D acc) H' ∧ runA (fun m acc x kk => ∀ s H C cl fp, wG (bk X scope s H C cl fp) (own.map (·.2)) t0 (wipeE env (own.map (·.2))) (m.own D acc) (.d x) fun env' =>
      awO X scope D vs1 t1 i1 (awO X scope D vs2 t2 i2 (awN X scope D elt)) env' m acc kk) (xs.drop i) acc m' fun ys m2 => k (.d (.list ys)) m2, ⟨xs.length, rfl, Nat.zero_le _, m1, [], s1, s2, hk D⟩, ?_⟩
    rintro i n H2 ⟨rfl, hi, m3, acc, hm3, e3, hk3⟩
    have dt := (dit.mono e3) (Me.own m3 D acc) H2 Ext.refl hm3 i
    by_cases hlt : i < xs.length
    · have hx : xs[i]? = some xs[i] := List.getElem?_eq_getElem hlt
      obtain ⟨go, yl⟩ := dt.1 _ hx
      rw [List.drop_eq_getElem_cons hlt] at hk3
      refine .inr ⟨go, fun H' => ∃ m' acc', MemOk X.K (Me.own m' D acc') H' ∧ Ext m1 H1 (Me.own m' D acc') H' ∧ runA (fun m acc x kk => ∀ s H C cl fp, wG (bk X scope s H C cl fp) (own.map (·.2)) t0 (wipeE env (own.map (·.2))) (m.own D acc) (.d x) fun env' =>
        awO X scope D vs1 t1 i1 (awO X scope D vs2 t2 i2 (awN X scope D elt)) env' m acc kk) (xs.drop (i + 1)) acc' m' fun ys m2 => k (.d (.list ys)) m2, fun H' z => ⟨xs.length - (i + 1), by omega, rfl, hlt, z⟩, fun v H3 y => ?_⟩
      obtain ⟨sm, dv⟩ := yl v H3 y
      have hm4 := hm3.mono sm
      have e04 : Ext m H (Me.own m3 D acc) H3 := (e1.trans e3).trans (Ext.of sm)
      intro s Hs C cl fp
      refine hk3 s Hs C cl fp (L2.wipe σ (own.map (·.2))) H3 v _ ((he.mono e04).wipe _) hm4 dv ?_
      intro σ2 env2 eo ag hE
      refine ⟨wipe_agree ag, ?_⟩
      exact br_o (br_o br_n) σ2 H3 _ env2 m3 acc _ eo hm4 hE fun acc' m' H' y1 y2 y3 => ⟨m', acc', y1, (e3.trans (Ext.of sm)).trans y2, y3.2⟩
    · have ei : i = xs.length := by omega
      have stop := dt.2 (by omega)
      rw [ei, List.drop_length] at hk3
      obtain ⟨d1, d2, d3⟩ := own_drop hm3
      exact .inl ⟨stop, hq _ _ m3 H2 ((e1.trans e3).trans d2) d1 d3 hk3⟩
end
end DW

set_option Elab.async false
set_option linter.all false
set_option maxRecDepth 100000
set_option maxHeartbeats 1000000
namespace DW
variable [TabsC]
open PySem PySem.Spec PyProof.Rows L2
/-! ### cells of boxes -/
def upI (lo : Int) (n : Nat) : List Int := (List.range n).map fun (i : Nat) => lo + (i : Int)
theorem upto_upI (lo : Int) (n : Nat) : upto lo n = (upI lo n).map .int := by
  unfold upto upI
  rw [List.map_map]
  rfl
theorem mem_upI {lo i : Int} {n : Nat} : i ∈ upI lo n ↔ lo ≤ i ∧ i < lo + n := by
  unfold upI
  rw [List.mem_map]
  constructor
  · rintro ⟨j, hj, rfl⟩
    have := List.mem_range.mp hj
    omega
  · rintro ⟨h1, h2⟩
    exact ⟨(i - lo).toNat, List.mem_range.mpr (by omega), by rw [Int.toNat_of_nonneg (by omega)]; omega⟩
def prodC (xs ys zs : List Int) : List CellN := xs.flatMap fun x => ys.flatMap fun y => zs.map fun z => ⟨x, y, z⟩
theorem mem_prodC {xs ys zs : List Int} {c : CellN} : c ∈ prodC xs ys zs ↔ c.x ∈ xs ∧ c.y ∈ ys ∧ c.z ∈ zs := by
  unfold prodC
  simp only [List.mem_flatMap, List.mem_map]
  constructor
  · rintro ⟨x, hx, y, hy, z, hz, rfl⟩
    exact ⟨hx, hy, hz⟩
  · rintro ⟨hx, hy, hz⟩
    exact ⟨c.x, hx, c.y, hy, c.z, hz, rfl⟩
theorem len_prodC (xs ys zs : List Int) : (prodC xs ys zs).length = xs.length * (ys.length * zs.length) := by
  unfold prodC
  simp only [List.length_flatMap, List.length_map, List.map_const', List.sum_replicate_nat]
/-- the product as data -/
def prD (XS YS ZS : List PyData) : List PyData := XS.flatMap fun a => YS.flatMap fun b => ZS.flatMap fun e => [.tuple [a, b, e]]
theorem flat_one {α β : Type} (f : α → β) : ∀ l : List α, (l.flatMap fun e => [f e]) = l.map f
  | [] => rfl
  | x :: r => by rw [List.flatMap_cons, flat_one f r]; rfl
theorem prD_cells (xs ys zs : List Int) : prD (xs.map .int) (ys.map .int) (zs.map .int) = (prodC xs ys zs).map CellN.d := by
  unfold prD prodC
  rw [List.flatMap_map, List.map_flatMap]
  congr 1
  funext x
  rw [List.flatMap_map, List.map_flatMap]
  congr 1
  funext y
  rw [List.flatMap_map, List.map_map, flat_one]
  rfl
theorem prodC_snoc (xs ys zs : List Int) (x : Int) : prodC (xs ++ [x]) ys zs = prodC xs ys zs ++ prodC [x] ys zs := by
  unfold prodC
  rw [List.flatMap_append]
theorem prodC_snocY (x : Int) (ys zs : List Int) (y : Int) : prodC [x] (ys ++ [y]) zs = prodC [x] ys zs ++ zs.map fun z => (⟨x, y, z⟩ : CellN) := by
  unfold prodC
  simp only [List.flatMap_cons, List.flatMap_nil, List.append_nil, List.flatMap_append]
/-- the cells of a box, less i at each end -/
def spanI (lo hi i : Int) : List Int := upI (2 * lo + i) ((2 * hi + 1 - i) - (2 * lo + i)).toNat
theorem mem_span {lo hi i j : Int} : j ∈ spanI lo hi i ↔ 2 * lo + i ≤ j ∧ j < 2 * hi + 1 - i := by
  unfold spanI
  rw [mem_upI]
  omega
def boxC (b : BoxN) (i : Int) : List CellN := prodC (spanI b.x0 b.x1 i) (spanI b.y0 b.y1 i) (spanI b.z0 b.z1 i)
theorem mem_boxC {b : BoxN} {i : Int} {c : CellN} : c ∈ boxC b i ↔ (2 * b.x0 + i ≤ c.x ∧ c.x < 2 * b.x1 + 1 - i) ∧ (2 * b.y0 + i ≤ c.y ∧ c.y < 2 * b.y1 + 1 - i) ∧ (2 * b.z0 + i ≤ c.z ∧ c.z < 2 * b.z1 + 1 - i) := by
  unfold boxC
  rw [mem_prodC, mem_span, mem_span, mem_span]
/-- what lies beside a cell -/
def besC (c : CellN) (p : Int) : List CellN := (prodC (rowB c.x p) (rowB c.y p) (rowB c.z p)).filter fun o => !decide (o = c)
theorem besL_C (c : CellN) (p : Int) : besL c p = (besC c p).map CellN.d := by
  unfold besL besC prodC
  rw [List.flatMap_map]
  simp only [List.filter_flatMap, List.map_flatMap, List.flatMap_map]
  congr 1
  funext x
  congr 1
  funext y
  induction rowB c.z p with
  | nil => rfl
  | cons z r ih =>
    rw [List.flatMap_cons, ih, List.map_cons, List.filter_cons]
    unfold bes3
    rw [show PyData.tuple [.int x, .int y, .int z] = (⟨x, y, z⟩ : CellN).d from rfl, eqv_cd]
    by_cases h : (⟨x, y, z⟩ : CellN) = c
    · simp [h]
    · simp [h]
theorem mem_besC {c o : CellN} {p : Int} : o ∈ besC c p ↔ (o.x ∈ rowB c.x p ∧ o.y ∈ rowB c.y p ∧ o.z ∈ rowB c.z p) ∧ o ≠ c := by
  unfold besC
  rw [List.mem_filter, mem_prodC]
  simp
theorem len_besC (c : CellN) (p : Int) : (besC c p).length ≤ 27 := by
  have h := bes_len c p
  rw [besL_C, List.length_map] at h
  exact h
theorem mem_rowB {i j p : Int} : j ∈ rowB i p ↔ j = i ∨ (i % 2 = p ∧ (j = i - 1 ∨ j = i + 1)) := by
  unfold rowB
  split
  · rename_i h
    simp only [List.mem_cons, List.not_mem_nil, or_false]
    omega
  · rename_i h
    simp only [List.mem_singleton]
    omega
/-- each cell beside one of the lot is of the lot -/
def shutB (l : List CellN) (p : Int) : Bool := (canon l).all fun c => (besC c p).all fun o => decide (o ∈ l)
theorem shut_iff {l : List CellN} {p : Int} : shutB l p = true ↔ ∀ c ∈ l, ∀ o ∈ besC c p, o ∈ l := by
  unfold shutB
  rw [List.all_eq_true]
  constructor
  · intro h c hc o ho
    exact of_decide_eq_true (List.all_eq_true.mp (h c (mem_canon.mpr hc)) o ho)
  · intro h c hc
    rw [List.all_eq_true]
    exact fun o ho => decide_eq_true (h c (mem_canon.mp hc) o ho)
theorem box_shut0 {b : BoxN} {c o : CellN} (hc : c ∈ boxC b 0) (ho : o ∈ besC c 1) : o ∈ boxC b 0 := by
  rw [mem_boxC] at hc ⊢
  obtain ⟨⟨h1, h2, h3⟩, _⟩ := mem_besC.mp ho
  rw [mem_rowB] at h1 h2 h3
  omega
theorem box_shut1 {b : BoxN} {c o : CellN} (hc : c ∈ boxC b 1) (ho : o ∈ besC c 0) : o ∈ boxC b 1 := by
  rw [mem_boxC] at hc ⊢
  obtain ⟨⟨h1, h2, h3⟩, _⟩ := mem_besC.mp ho
  rw [mem_rowB] at h1 h2 h3
  omega
theorem box_sub {b : BoxN} {c : CellN} (hc : c ∈ boxC b 1) : c ∈ boxC b 0 := by
  rw [mem_boxC] at hc ⊢
  omega
/-- the cells of boxes -/
def boxesC (bs : List BoxN) (i : Int) : List CellN := bs.flatMap fun b => boxC b i
theorem mem_boxesC {bs : List BoxN} {i : Int} {c : CellN} : c ∈ boxesC bs i ↔ ∃ b ∈ bs, c ∈ boxC b i := by
  unfold boxesC
  rw [List.mem_flatMap]
theorem boxes_shut0 (bs : List BoxN) : shutB (boxesC bs 0) 1 = true := shut_iff.mpr fun c hc o ho => by
  obtain ⟨b, hb, h⟩ := mem_boxesC.mp hc
  exact mem_boxesC.mpr ⟨b, hb, box_shut0 h ho⟩
theorem boxes_shut1 (bs : List BoxN) : shutB (boxesC bs 1) 0 = true := shut_iff.mpr fun c hc o ho => by
  obtain ⟨b, hb, h⟩ := mem_boxesC.mp hc
  exact mem_boxesC.mpr ⟨b, hb, box_shut1 h ho⟩
theorem boxes_sub {bs : List BoxN} {c : CellN} (hc : c ∈ boxesC bs 1) : c ∈ boxesC bs 0 := by
  obtain ⟨b, hb, h⟩ := mem_boxesC.mp hc
  exact mem_boxesC.mpr ⟨b, hb, box_sub h⟩
end DW

set_option Elab.async false
set_option linter.all false
set_option maxRecDepth 100000
set_option maxHeartbeats 1000000
namespace DW
variable [TabsC]
open PySem PySem.Spec PyProof.Rows L2
/-! ### an if whose ways meet again -/
section
variable {X : Cx} {env : DEnv} {m : Me} {D : DE} {sts : List Stmt} {k : Dat → Me → Prop}
theorem wSs_join {st : Stmt} (J : DEnv → Me → Prop) (h : wS X st env m { D with nx := J }) (h2 : ∀ env' m', J env' m' → wSs X sts env' m' D) : wSs X (st :: sts) env m D :=
  wSs_cons fun σ H E he hm hE => h σ H E he hm ⟨fun σ' env' m' H' e1 he1 hm1 h1 => hE.nx σ' env' m' H' e1 he1 hm1 (h2 env' m' h1), hE.rt, hE.bk, hE.ct⟩
/-- a < b < c, where c is known to be read -/
theorem wE_ltltC {a b c : Expr} {pos : Pos} (h : wE X a env m fun dx m1 => wE X b env m1 fun dy m2 => ∃ i j l : Int, dx = .d (.int i) ∧ dy = .d (.int j) ∧ (wE X c env m2 fun dz m3 => dz = .d (.int l) ∧ m3 = m2) ∧ k (.d (.bool (decide (i < j ∧ j < l)))) m2)
    (hm : lastMarks [.Lt, .Lt] [b, c] = false := by with_unfolding_all rfl) : wE X (.Compare a [.Lt, .Lt] [b, c] pos) env m k :=
  wE_ltltI (hm := hm) fun σ H Q he hm hq => h σ H _ he hm fun v d m1 H1 e1 hm1 dv h1 => hq v d m1 H1 e1 hm1 dv fun σ2 H2 Q2 he2 hm2 hq2 => h1 σ2 H2 _ he2 hm2 fun v2 d2 m2 H2 e2 hm3 dv2 ⟨i, j, l, q1, q2, hc, hk⟩ => hq2 v2 d2 m2 H2 e2 hm3 dv2
    ⟨i, j, q1, q2, fun z σ3 H3 Q3 he3 hm4 hq3 => hc σ3 H3 _ he3 hm4 fun v3 d3 m3 H3 e3 hm5 dv3 ⟨q3, q4⟩ => hq3 v3 d3 m3 H3 e3 hm5 dv3 ⟨l, q3, by
      subst q4
      rwa [show decide (j < l) = decide (i < j ∧ j < l) from by simp [z]]⟩, fun z => by
      rwa [show decide (i < j ∧ j < l) = false from by simp [z]] at hk⟩
theorem wE_leleC {a b c : Expr} {pos : Pos} (h : wE X a env m fun dx m1 => wE X b env m1 fun dy m2 => ∃ i j l : Int, dx = .d (.int i) ∧ dy = .d (.int j) ∧ (wE X c env m2 fun dz m3 => dz = .d (.int l) ∧ m3 = m2) ∧ k (.d (.bool (decide (i ≤ j ∧ j ≤ l)))) m2)
    (hm : lastMarks [.LtE, .LtE] [b, c] = false := by with_unfolding_all rfl) : wE X (.Compare a [.LtE, .LtE] [b, c] pos) env m k :=
  wE_leleI (hm := hm) fun σ H Q he hm hq => h σ H _ he hm fun v d m1 H1 e1 hm1 dv h1 => hq v d m1 H1 e1 hm1 dv fun σ2 H2 Q2 he2 hm2 hq2 => h1 σ2 H2 _ he2 hm2 fun v2 d2 m2 H2 e2 hm3 dv2 ⟨i, j, l, q1, q2, hc, hk⟩ => hq2 v2 d2 m2 H2 e2 hm3 dv2
    ⟨i, j, q1, q2, fun z σ3 H3 Q3 he3 hm4 hq3 => hc σ3 H3 _ he3 hm4 fun v3 d3 m3 H3 e3 hm5 dv3 ⟨q3, q4⟩ => hq3 v3 d3 m3 H3 e3 hm5 dv3 ⟨l, q3, by
      subst q4
      rwa [show decide (j ≤ l) = decide (i ≤ j ∧ j ≤ l) from by simp [z]]⟩, fun z => by
      rwa [show decide (i ≤ j ∧ j ≤ l) = false from by simp [z]] at hk⟩
end
/-! ### points in boxes -/
def axIn (lo hi t b i : Int) : Prop := if i = 1 then lo * b < t ∧ t < hi * b else lo * b ≤ t ∧ t ≤ hi * b
instance (lo hi t b i : Int) : Decidable (axIn lo hi t b i) := by unfold axIn; infer_instance
theorem axIn_iff {lo hi t b i : Int} (hf : FrOk t b) (hi1 : i = 0 ∨ i = 1) : axIn lo hi t b i ↔ 2 * lo + i ≤ idx t b ∧ idx t b < 2 * hi + 1 - i := by
  have hb := hf.1
  by_cases h1 : b = 1
  · subst h1
    rw [idx_e1 rfl]
    unfold axIn
    rcases hi1 with rfl | rfl
    · rw [if_neg (by decide)]; omega
    · rw [if_pos rfl]; omega
  · rw [idx_e2 h1]
    have hne : ∀ n : Int, t ≠ n * b := fun n e => h1 (fr_whole hf e)
    have q1 : lo * b ≤ t ↔ lo ≤ t / b := (Int.le_ediv_iff_mul_le (by omega)).symm
    have q2 : t < hi * b ↔ t / b < hi := (Int.ediv_lt_iff_lt_mul (by omega)).symm
    have n1 := hne lo
    have n2 := hne hi
    unfold axIn
    rcases hi1 with rfl | rfl
    · rw [if_neg (by decide)]; omega
    · rw [if_pos rfl]; omega
theorem mem_boxC_ax {b : BoxN} {p : PtN} {i : Int} (hp : p.Ok) (hi : i = 0 ∨ i = 1) : idxP p ∈ boxC b i ↔ axIn b.x0 b.x1 p.a p.a' i ∧ axIn b.y0 b.y1 p.b p.b' i ∧ axIn b.z0 b.z1 p.c p.c' i := by
  rw [mem_boxC, axIn_iff hp.a hi, axIn_iff hp.b hi, axIn_iff hp.c hi]
  rfl
def deB : PyData → BoxN
  | .tuple [.int a, .int b, .int c, .int d, .int e, .int f] => ⟨a, b, c, d, e, f⟩
  | _ => ⟨0, 0, 0, 0, 0, 0⟩
theorem deB_d (b : BoxN) : deB b.d = b := rfl
theorem bools_boxes (f : BoxN → Bool) : ∀ bs : List BoxN, boolsOf ((bs.map BoxN.d).map fun x => PyData.bool (f (deB x))) = some (bs.map f)
  | [] => rfl
  | c :: r => by
    rw [List.map_cons, List.map_cons, deB_d]
    show (boolsOf ((r.map BoxN.d).map _)).map (f c :: ·) = _
    rw [bools_boxes f r]
    rfl
theorem any_boxes (bs : List BoxN) (c : CellN) (i : Int) : ((bs.map fun b => decide (c ∈ boxC b i)).any id) = decide (c ∈ boxesC bs i) := by
  rw [Bool.eq_iff_iff, decide_eq_true_iff, mem_boxesC, List.any_eq_true]
  constructor
  · rintro ⟨x, hx, h⟩
    obtain ⟨b, hb, rfl⟩ := List.mem_map.mp hx
    exact ⟨b, hb, of_decide_eq_true h⟩
  · rintro ⟨b, hb, h⟩
    exact ⟨_, List.mem_map_of_mem hb, decide_eq_true h⟩
def deC : PyData → CellN
  | .tuple [.int a, .int b, .int c] => ⟨a, b, c⟩
  | _ => ⟨0, 0, 0⟩
theorem deC_d (c : CellN) : deC c.d = c := rfl
theorem bools_app : ∀ (a b : List PyData) {x y : List Bool}, boolsOf a = some x → boolsOf b = some y → boolsOf (a ++ b) = some (x ++ y)
  | [], b, x, y, h, h2 => by cases h; exact h2
  | .bool u :: r, b, x, y, h, h2 => by
    have h : (boolsOf r).map (u :: ·) = some x := h
    cases e : boolsOf r with
    | none => rw [e] at h; cases h
    | some z =>
      rw [e] at h
      cases h
      show (boolsOf (r ++ b)).map (u :: ·) = _
      rw [bools_app r b e h2]
      rfl
theorem bools_shut (l : List CellN) (p : Int) : ∀ cs : List CellN, ∃ bs, boolsOf ((cs.map CellN.d).flatMap fun x => (besL (deC x) p).map fun y => PyData.bool (memD l y)) = some bs ∧ bs.all id = cs.all fun c => (besC c p).all fun o => decide (o ∈ l)
  | [] => ⟨[], rfl, rfl⟩
  | c :: r => by
    obtain ⟨bs, h1, h2⟩ := bools_shut l p r
    refine ⟨((besC c p).map fun o => decide (o ∈ l)) ++ bs, ?_, ?_⟩
    · rw [List.map_cons, List.flatMap_cons, deC_d, besL_C]
      exact bools_app _ _ (bools_map (fun o => decide (o ∈ l)) (fun y => .bool (memD l y)) (fun _ => rfl) _) h1
    · rw [List.all_append, h2, List.all_cons, List.all_map]
      rfl
theorem shut_len (l : List CellN) (p : Int) : ∀ cs : List CellN, ((cs.map CellN.d).flatMap fun x => (besL (deC x) p).map fun y => PyData.bool (memD l y)).length ≤ 27 * cs.length
  | [] => by simp
  | c :: r => by
    have h := shut_len l p r
    have h2 := bes_len c p
    rw [List.map_cons, List.flatMap_cons, List.length_append, List.length_map, deC_d, List.length_cons]
    omega
/-! ### how many cells -/
theorem len_span {lo hi i : Int} : (spanI lo hi i).length = ((2 * hi + 1 - i) - (2 * lo + i)).toNat := by simp [spanI, upI]
structure BoxN.Near (b : BoxN) : Prop where
  ok : b.Ok
  in_ : b.In (-3) 5
theorem BoxN.Near.tri {b : BoxN} (h : b.Near) : (-3 ≤ b.x0 ∧ b.x0 < b.x1 ∧ b.x1 ≤ 5) ∧ (-3 ≤ b.y0 ∧ b.y0 < b.y1 ∧ b.y1 ≤ 5) ∧ (-3 ≤ b.z0 ∧ b.z0 < b.z1 ∧ b.z1 ≤ 5) := by
  obtain ⟨⟨h1, h2, h3⟩, ⟨h4, h5, h6⟩⟩ := h
  omega
theorem span_le {lo hi i : Int} (h : -3 ≤ lo ∧ hi ≤ 5) (hi0 : i = 0 ∨ i = 1) : (spanI lo hi i).length ≤ 17 := by
  rw [len_span]
  omega
theorem len_boxC {b : BoxN} (h : b.Near) {i : Int} (hi : i = 0 ∨ i = 1) : (boxC b i).length ≤ 4913 := by
  obtain ⟨q1, q2, q3⟩ := h.tri
  unfold boxC
  rw [len_prodC]
  have w1 := span_le (lo := b.x0) (hi := b.x1) ⟨q1.1, q1.2.2⟩ hi
  have w2 := span_le (lo := b.y0) (hi := b.y1) ⟨q2.1, q2.2.2⟩ hi
  have w3 := span_le (lo := b.z0) (hi := b.z1) ⟨q3.1, q3.2.2⟩ hi
  exact Nat.le_trans (Nat.mul_le_mul w1 (Nat.mul_le_mul w2 w3)) (by decide)
theorem len_boxesC {i : Int} (hi : i = 0 ∨ i = 1) : ∀ {bs : List BoxN}, (∀ b ∈ bs, b.Near) → (boxesC bs i).length ≤ 4913 * bs.length
  | [], _ => Nat.le_refl _
  | b :: r, h => by
    have q := len_boxesC hi (bs := r) fun c hc => h c (.tail _ hc)
    have q2 := len_boxC (h b (.head _)) hi
    show (boxC b i ++ boxesC r i).length ≤ _
    rw [List.length_append, List.length_cons]
    omega
theorem bnd_boxC {b : BoxN} (h : b.Near) {i : Int} (hi : i = 0 ∨ i = 1) : ∀ c ∈ boxC b i, c.Bnd 20 := fun c hc => by
  obtain ⟨q1, q2, q3⟩ := h.tri
  rw [mem_boxC] at hc
  exact ⟨by omega, by omega, by omega⟩
theorem in_boxesC {bs : List BoxN} (hl : bs.length ≤ 3) (h : ∀ b ∈ bs, b.Near) {i : Int} (hi : i = 0 ∨ i = 1) : InB (boxesC bs i) := by
  refine ⟨Nat.le_trans (len_boxesC hi h) (by omega), fun c hc => ?_⟩
  obtain ⟨b, hb, hc⟩ := mem_boxesC.mp hc
  exact (bnd_boxC (h b hb) hi c hc).weak (by decide)
theorem boxesC_take {bs : List BoxN} {j : Nat} (hj : j < bs.length) (i : Int) : boxesC (bs.take (j + 1)) i = boxesC (bs.take j) i ++ boxC bs[j] i := by
  unfold boxesC
  rw [List.take_succ_eq_append_getElem hj, List.flatMap_append]
  simp
theorem take_get {α : Type} {xs : List α} {j : Nat} (hj : j < xs.length) : xs.take (j + 1) = xs.take j ++ [xs[j]] := List.take_succ_eq_append_getElem hj
/-! sizes -/
theorem szCells {l : List CellN} (hl : l.length ≤ 30000) (hb : ∀ c ∈ l, c.Bnd 200) : Sz (.tuple (l.map CellN.d)) 3 800000 := by
  have q := Sz.tup (szaCells fun c hc => (hb c hc).weak (by decide))
  exact ⟨q.sh, q.nd, q.dp, Nat.le_trans q.ln (by omega)⟩
/-! ### the promises -/
def BoxN.Good (b : BoxN) : Prop := b.Ok ∧ b.In (-90) 90
theorem BoxN.Near.good {b : BoxN} (h : b.Near) : b.Good := ⟨h.ok, by have := h.tri; unfold BoxN.In; omega⟩
def spAreBoxes : DSp := fun m ds k => ∃ bs : List BoxN, ds = [.d (.tuple (bs.map BoxN.d)), .d (.int 0), .d (.int 40), .d (.int (-90)), .d (.int 90)] ∧ (bs.length ≤ 40 ∧ ∀ b ∈ bs, b.Good) ∧ k (.d (.bool true)) m
def spChkBoxes : DSp := fun m ds k => ∃ bs : List BoxN, ds = [.d (.tuple (bs.map BoxN.d))] ∧ (bs.length ≤ 40 ∧ ∀ b ∈ bs, b.Good) ∧ k (.d .none) m
def spCellsOf : DSp := fun m ds k => ∃ (b : BoxN) (i : Int), ds = [.d b.d, .d (.int i)] ∧ b.Near ∧ (i = 0 ∨ i = 1) ∧ k (.d (.list ((boxC b i).map CellN.d))) m
def spLotOf (K : PySem.W.Frag) (C : Addr) (i : Int) : DSp := fun m ds k => ∃ bs : List BoxN, ds = [.d (.tuple (bs.map BoxN.d))] ∧ bs.length ≤ 3 ∧ (∀ b ∈ bs, b.Near) ∧ k (lotD K C (boxesC bs i)) m
def spShut (K : PySem.W.Frag) (C : Addr) (p : Int) : DSp := fun m ds k => ∃ l, ds = [lotD K C l] ∧ l.length ≤ 30000 ∧ k (.d (.bool (shutB l p))) m
def spProdC : DSp := fun m ds k => ∃ xs ys zs : List Int, ds = [.d (.list [.list (xs.map .int), .list (ys.map .int), .list (zs.map .int)])] ∧ (xs.length ≤ 20 ∧ ys.length ≤ 20 ∧ zs.length ≤ 20) ∧ k (.d (.list ((prodC xs ys zs).map CellN.d))) m
def spDBoxes : DSp := fun m ds k => ∃ (a : Addr) (n : Int), ds = [.r (.ref a), .d (.int n)] ∧ (n = 0 ∨ n = 1 ∨ n = 2) ∧ m.p = some a ∧ m.n < 80000 ∧ ∀ (bs : List BoxN) n, bs.length ≤ 2 → (∀ b ∈ bs, b.Ok ∧ b.In (-3) 4) → n ≤ m.n + 12 → k (.d (.tuple (bs.map BoxN.d))) (m.to n)
def wI01 (w : Bool) : Int := if w then 1 else 0
def spLies : DSp := fun m ds k => ∃ (b : BoxN) (p : PtN) (w : Bool) (i : Int), ds = [.d b.d, .d p.d, .d (.bool w)] ∧ i = wI01 w ∧ b.Near ∧ p.Ok ∧ k (.d (.bool (decide (idxP p ∈ boxC b i)))) m
def spInBoxes : DSp := fun m ds k => ∃ (bs : List BoxN) (w : Bool) (i : Int), ds = [.d (.list (bs.map BoxN.d)), .d (.bool w)] ∧ i = wI01 w ∧ bs.length ≤ 3 ∧ (∀ b ∈ bs, b.Near) ∧ k (.d (.tuple ((canon (boxesC bs i)).map CellN.d))) m
/-! what the generated texts name -/
theorem not_dec_t {P : Prop} [Decidable P] (h : P) : ¬ (!decide P) = true := by simp [h]
theorem not_dec_f {P : Prop} [Decidable P] (h : ¬ P) : ¬ (!decide P) = false := by simp [h]
theorem lies1 {b : BoxN} {p : PtN} (hp : p.Ok) : idxP p ∈ boxC b 1 ↔ (b.x0 * p.a' < p.a ∧ p.a < b.x1 * p.a') ∧ (b.y0 * p.b' < p.b ∧ p.b < b.y1 * p.b') ∧ (b.z0 * p.c' < p.c ∧ p.c < b.z1 * p.c') := mem_boxC_ax hp (.inr rfl)
theorem lies0 {b : BoxN} {p : PtN} (hp : p.Ok) : idxP p ∈ boxC b 0 ↔ (b.x0 * p.a' ≤ p.a ∧ p.a ≤ b.x1 * p.a') ∧ (b.y0 * p.b' ≤ p.b ∧ p.b ≤ b.y1 * p.b') ∧ (b.z0 * p.c' ≤ p.c ∧ p.c ≤ b.z1 * p.c') := mem_boxC_ax hp (.inl rfl)
theorem BoxN.Near.sml {b : BoxN} (h : b.Near) : b.Sml := by
  have := h.tri
  exact ⟨⟨by omega, by omega⟩, ⟨by omega, by omega⟩, ⟨by omega, by omega⟩, ⟨by omega, by omega⟩, ⟨by omega, by omega⟩, ⟨by omega, by omega⟩⟩
theorem flat_trueB : ∀ l : List BoxN, ((l.map BoxN.d).flatMap fun x => (itemsD x).map fun _ => PyData.bool true) = List.replicate (6 * l.length) (.bool true)
  | [] => rfl
  | c :: r => by
    rw [List.map_cons, List.flatMap_cons, flat_trueB r, List.length_cons, Nat.mul_succ, Nat.add_comm, ← List.replicate_append_replicate]
    rfl
theorem flat_boxes (i : Int) : ∀ bs : List BoxN, ((bs.map BoxN.d).flatMap fun x => ((boxC (deB x) i).map CellN.d).map fun y => y) = (boxesC bs i).map CellN.d
  | [] => rfl
  | c :: r => by
    rw [List.map_cons, List.flatMap_cons, flat_boxes i r, deB_d, List.map_id']
    show _ = (boxC c i ++ boxesC r i).map CellN.d
    rw [List.map_append]
theorem prd_box (b : BoxN) (i : Int) : ((upto (2 * b.x0 + i) ((2 * b.x1 + 1 - i) - (2 * b.x0 + i)).toNat).flatMap fun a => (upto (2 * b.y0 + i) ((2 * b.y1 + 1 - i) - (2 * b.y0 + i)).toNat).flatMap fun c => (upto (2 * b.z0 + i) ((2 * b.z1 + 1 - i) - (2 * b.z0 + i)).toNat).flatMap fun e => [PyData.tuple [a, c, e]]) = (boxC b i).map CellN.d := by
  rw [upto_upI, upto_upI, upto_upI]
  exact prD_cells _ _ _
theorem boxes_get {bs : List BoxN} {j : Nat} {x : PyData} (h : (bs.map BoxN.d)[j]? = some x) : ∃ hj : j < bs.length, x = (bs[j]).d := by
  obtain ⟨hj, e⟩ := List.getElem?_eq_some_iff.mp h
  rw [List.length_map] at hj
  exact ⟨hj, by rw [← e, List.getElem_map]⟩
theorem ints_get {l : List Int} {j : Nat} {x : PyData} (h : (l.map PyData.int)[j]? = some x) : ∃ hj : j < l.length, x = .int l[j] := by
  obtain ⟨hj, e⟩ := List.getElem?_eq_some_iff.mp h
  rw [List.length_map] at hj
  exact ⟨hj, by rw [← e, List.getElem_map]⟩
theorem len_prodC_le {xs ys zs : List Int} {a b c : Nat} (h1 : xs.length ≤ a) (h2 : ys.length ≤ b) (h3 : zs.length ≤ c) : (prodC xs ys zs).length ≤ a * (b * c) := by
  rw [len_prodC]
  exact Nat.mul_le_mul h1 (Nat.mul_le_mul h2 h3)
theorem prodC_nil (ys zs : List Int) : prodC [] ys zs = [] := rfl
theorem prodC_nilY (x : Int) (zs : List Int) : prodC [x] [] zs = [] := rfl
/-- one row more -/
theorem prodC_row (xs ys zs : List Int) (x : Int) {j : Nat} (hj : j < ys.length) : (prodC xs ys zs ++ prodC [x] (ys.take (j + 1)) zs).map CellN.d = (prodC xs ys zs ++ prodC [x] (ys.take j) zs).map CellN.d ++ (zs.map PyData.int).map fun z => PyData.tuple [.int x, .int ys[j], z] := by
  rw [take_get hj, prodC_snocY, ← List.append_assoc, List.map_append, List.map_map, List.map_map]
  rfl
structure PropAt (K : PySem.W.Frag) (C : Addr) (x q : Str) (st : Stmt) (ps : List Str) (f : Addr) (fd : FuncData) : Prop where
  F : Fun K x q st f fd
  p : ∃ a, PropOf K C x a f
  b : Binds K fd ps []
theorem wE_propX {X : Cx} {env : DEnv} {m : Me} {k : Dat → Me → Prop} {e : Expr} {f : Str} {pos : Pos} {C g : Addr} {fd : FuncData} {ps : List Str} {sp : DSp} {j : Nat} (c : Cls X.K C) (hp : ∃ p, PropOf X.K C f p g) (F : FnG X.prog X.w X.K X.mg X.base CX0 j g fd ps (spD X.K 1 sp)) (hr : RoomG (j + 1) X.A) (hb : Binds X.K fd ps [])
    (h : wE X e env m fun d m1 => ∃ fs, d = .o C fs ∧ sp m1 [.o C fs] k) (hab : attributeBase e f X.env (eval e X.env) = eval e X.env := by rfl) : wE X (.Attribute e f pos) env m k := hp.elim fun _ hp => wE_prop c hp F hr hb h hab
end DW

set_option Elab.async false
set_option linter.all false
set_option maxRecDepth 100000
set_option maxHeartbeats 4000000
namespace K9
open PySem PySem.Spec PyProof.Rows L2 DW
def topS (i : Nat) : Stmt := PySem.Challenge.pw_allitreaches_k09_whole_lots_of_boxes.main.body.getD i (.Pass ⟨0, 0, 0, 0⟩)
abbrev s_is_integer : Stmt := topS 9
theorem sc_is_integer : FnScope ["value"] ["value"] (defScope s_is_integer) := ⟨rfl, rfl, rfl, by decide +kernel, rfl, by decide +kernel, by decide +kernel⟩
abbrev s_is_fraction : Stmt := topS 11
theorem sc_is_fraction : FnScope ["value", "top", "bottom"] ["value"] (defScope s_is_fraction) := ⟨rfl, rfl, rfl, by decide +kernel, rfl, by decide +kernel, by decide +kernel⟩
abbrev s_is_point : Stmt := topS 12
theorem sc_is_point : FnScope ["value", "part"] ["value"] (defScope s_is_point) := ⟨rfl, rfl, rfl, by decide +kernel, rfl, by decide +kernel, by decide +kernel⟩
abbrev s_check_point : Stmt := topS 13
theorem sc_check_point : FnScope ["value"] ["value"] (defScope s_check_point) := ⟨rfl, rfl, rfl, by decide +kernel, rfl, by decide +kernel, by decide +kernel⟩
abbrev s_axes : Stmt := topS 15
theorem sc_axes : FnScope ["box", "x0", "x1", "y0", "y1", "z0", "z1"] ["box"] (defScope s_axes) := ⟨rfl, rfl, rfl, by decide +kernel, rfl, by decide +kernel, by decide +kernel⟩
abbrev s_is_box : Stmt := topS 16
theorem sc_is_box : FnScope ["value", "number", "low", "high"] ["value"] (defScope s_is_box) := ⟨rfl, rfl, rfl, by decide +kernel, rfl, by decide +kernel, by decide +kernel⟩
abbrev s_is_cell : Stmt := topS 18
theorem sc_is_cell : FnScope ["value", "index"] ["value"] (defScope s_is_cell) := ⟨rfl, rfl, rfl, by decide +kernel, rfl, by decide +kernel, by decide +kernel⟩
abbrev s_is_cube : Stmt := topS 19
theorem sc_is_cube : FnScope ["cell", "index"] ["cell"] (defScope s_is_cube) := ⟨rfl, rfl, rfl, by decide +kernel, rfl, by decide +kernel, by decide +kernel⟩
abbrev s_index_of : Stmt := topS 20
theorem sc_index_of : FnScope ["fraction", "top", "bottom"] ["fraction"] (defScope s_index_of) := ⟨rfl, rfl, rfl, by decide +kernel, rfl, by decide +kernel, by decide +kernel⟩
abbrev s_cell_of : Stmt := topS 21
theorem sc_cell_of : FnScope ["point", "fraction"] ["point"] (defScope s_cell_of) := ⟨rfl, rfl, rfl, by decide +kernel, rfl, by decide +kernel, by decide +kernel⟩
abbrev s_beside : Stmt := topS 22
theorem sc_beside : FnScope ["cell", "parity", "rows", "xs", "ys", "zs", "index", "x", "y", "z"] ["cell", "parity"] (defScope s_beside) := ⟨rfl, rfl, rfl, by decide +kernel, rfl, by decide +kernel, by decide +kernel⟩
abbrev s_rim_of : Stmt := topS 23
theorem sc_rim_of : FnScope ["cell"] ["cell"] (defScope s_rim_of) := ⟨rfl, rfl, rfl, by decide +kernel, rfl, by decide +kernel, by decide +kernel⟩
abbrev s_around_of : Stmt := topS 24
theorem sc_around_of : FnScope ["cell"] ["cell"] (defScope s_around_of) := ⟨rfl, rfl, rfl, by decide +kernel, rfl, by decide +kernel, by decide +kernel⟩
abbrev s_are_boxes : Stmt := topS 26
theorem sc_are_boxes : FnScope ["value", "least", "most", "low", "high", "box", "number"] ["value", "least", "most", "low", "high"] (defScope s_are_boxes) := ⟨rfl, rfl, rfl, by decide +kernel, rfl, by decide +kernel, by decide +kernel⟩
abbrev s_in_bounds : Stmt := topS 28
theorem sc_in_bounds : FnScope ["index"] ["index"] (defScope s_in_bounds) := ⟨rfl, rfl, rfl, by decide +kernel, rfl, by decide +kernel, by decide +kernel⟩
abbrev s_are_cells : Stmt := topS 29
theorem sc_are_cells : FnScope ["value", "cell", "index"] ["value"] (defScope s_are_cells) := ⟨rfl, rfl, rfl, by decide +kernel, rfl, by decide +kernel, by decide +kernel⟩
abbrev s_Lot___init : Stmt := inClass (topS 30) 0
theorem sc_Lot___init : FnScope ["self", "cells", "cell"] ["self", "cells"] (defScope s_Lot___init) := ⟨rfl, rfl, rfl, by decide +kernel, rfl, by decide +kernel, by decide +kernel⟩
abbrev s_Lot___eq : Stmt := inClass (topS 30) 1
theorem sc_Lot___eq : FnScope ["self", "other"] ["self", "other"] (defScope s_Lot___eq) := ⟨rfl, rfl, rfl, by decide +kernel, rfl, by decide +kernel, by decide +kernel⟩
abbrev s_Lot___len : Stmt := inClass (topS 30) 2
theorem sc_Lot___len : FnScope ["self"] ["self"] (defScope s_Lot___len) := ⟨rfl, rfl, rfl, by decide +kernel, rfl, by decide +kernel, by decide +kernel⟩
abbrev s_Lot_is_closed : Stmt := inClass (topS 30) 3
theorem sc_Lot_is_closed : FnScope ["self", "cell", "beside"] ["self"] (defScope s_Lot_is_closed) := ⟨rfl, rfl, rfl, by decide +kernel, rfl, by decide +kernel, by decide +kernel⟩
abbrev s_Lot_is_open : Stmt := inClass (topS 30) 4
theorem sc_Lot_is_open : FnScope ["self", "cell", "beside"] ["self"] (defScope s_Lot_is_open) := ⟨rfl, rfl, rfl, by decide +kernel, rfl, by decide +kernel, by decide +kernel⟩
abbrev s_Lot_has : Stmt := inClass (topS 30) 5
theorem sc_Lot_has : FnScope ["self", "point"] ["self", "point"] (defScope s_Lot_has) := ⟨rfl, rfl, rfl, by decide +kernel, rfl, by decide +kernel, by decide +kernel⟩
abbrev s_Lot_is_in : Stmt := inClass (topS 30) 6
theorem sc_Lot_is_in : FnScope ["self", "other", "cell"] ["self", "other"] (defScope s_Lot_is_in) := ⟨rfl, rfl, rfl, by decide +kernel, rfl, by decide +kernel, by decide +kernel⟩
abbrev s_check_lot : Stmt := topS 31
theorem sc_check_lot : FnScope ["value"] ["value"] (defScope s_check_lot) := ⟨rfl, rfl, rfl, by decide +kernel, rfl, by decide +kernel, by decide +kernel⟩
abbrev s_check_boxes : Stmt := topS 32
theorem sc_check_boxes : FnScope ["value"] ["value"] (defScope s_check_boxes) := ⟨rfl, rfl, rfl, by decide +kernel, rfl, by decide +kernel, by decide +kernel⟩
abbrev s_cells_of_box : Stmt := topS 33
theorem sc_cells_of_box : FnScope ["box", "inset", "xs", "ys", "zs", "x", "y", "z", "low", "high"] ["box", "inset"] (defScope s_cells_of_box) := ⟨rfl, rfl, rfl, by decide +kernel, rfl, by decide +kernel, by decide +kernel⟩
abbrev s_lot_of_boxes : Stmt := topS 34
theorem sc_lot_of_boxes : FnScope ["boxes", "box", "cell"] ["boxes"] (defScope s_lot_of_boxes) := ⟨rfl, rfl, rfl, by decide +kernel, rfl, by decide +kernel, by decide +kernel⟩
abbrev s_within_boxes : Stmt := topS 35
theorem sc_within_boxes : FnScope ["boxes", "box", "cell"] ["boxes"] (defScope s_within_boxes) := ⟨rfl, rfl, rfl, by decide +kernel, rfl, by decide +kernel, by decide +kernel⟩
abbrev s_law_pot : Stmt := topS 37
theorem sc_law_pot : FnScope ["script", "place", "cell", "own", "small"] ["script", "place"] (defScope s_law_pot) := ⟨rfl, rfl, rfl, by decide +kernel, rfl, by decide +kernel, by decide +kernel⟩
abbrev s_law_take : Stmt := topS 38
theorem sc_law_take : FnScope ["pot", "upto", "prime", "blend", "digit"] ["pot", "upto"] (defScope s_law_take) := ⟨rfl, rfl, rfl, by decide +kernel, rfl, by decide +kernel, by decide +kernel⟩
abbrev s_law_of : Stmt := topS 39
theorem sc_law_of : FnScope ["pot", "some"] ["pot", "some"] (defScope s_law_of) := ⟨rfl, rfl, rfl, by decide +kernel, rfl, by decide +kernel, by decide +kernel⟩
abbrev s_law_cells : Stmt := topS 40
theorem sc_law_cells : FnScope ["script", "limit"] ["script", "limit"] (defScope s_law_cells) := ⟨rfl, rfl, rfl, by decide +kernel, rfl, by decide +kernel, by decide +kernel⟩
abbrev s_law_drawn_box : Stmt := topS 41
theorem sc_law_drawn_box : FnScope ["pot", "low", "high", "found", "axis", "one"] ["pot", "low", "high"] (defScope s_law_drawn_box) := ⟨rfl, rfl, rfl, by decide +kernel, rfl, by decide +kernel, by decide +kernel⟩
abbrev s_law_common : Stmt := topS 42
theorem sc_law_common : FnScope ["one", "other"] ["one", "other"] (defScope s_law_common) := ⟨rfl, rfl, rfl, by decide +kernel, rfl, by decide +kernel, by decide +kernel⟩
abbrev s_law_fraction : Stmt := topS 43
theorem sc_law_fraction : FnScope ["top", "bottom", "part"] ["top", "bottom"] (defScope s_law_fraction) := ⟨rfl, rfl, rfl, by decide +kernel, rfl, by decide +kernel, by decide +kernel⟩
abbrev s_law_drawn_number : Stmt := topS 44
theorem sc_law_drawn_number : FnScope ["pot", "bottom"] ["pot"] (defScope s_law_drawn_number) := ⟨rfl, rfl, rfl, by decide +kernel, rfl, by decide +kernel, by decide +kernel⟩
abbrev s_law_drawn_point : Stmt := topS 45
theorem sc_law_drawn_point : FnScope ["pot", "axis"] ["pot"] (defScope s_law_drawn_point) := ⟨rfl, rfl, rfl, by decide +kernel, rfl, by decide +kernel, by decide +kernel⟩
abbrev s_law_one_each : Stmt := topS 46
theorem sc_law_one_each : FnScope ["cells", "cell"] ["cells"] (defScope s_law_one_each) := ⟨rfl, rfl, rfl, by decide +kernel, rfl, by decide +kernel, by decide +kernel⟩
abbrev s_law_product_cells : Stmt := topS 47
theorem sc_law_product_cells : FnScope ["sides", "found", "i", "j", "k"] ["sides"] (defScope s_law_product_cells) := ⟨rfl, rfl, rfl, by decide +kernel, rfl, by decide +kernel, by decide +kernel⟩
abbrev s_law_drawn_boxes : Stmt := topS 48
theorem sc_law_drawn_boxes : FnScope ["pot", "many", "lap"] ["pot", "many"] (defScope s_law_drawn_boxes) := ⟨rfl, rfl, rfl, by decide +kernel, rfl, by decide +kernel, by decide +kernel⟩
abbrev s_law_lies : Stmt := topS 49
theorem sc_law_lies : FnScope ["box", "point", "is_within", "axis", "top", "bottom", "low", "high"] ["box", "point", "is_within"] (defScope s_law_lies) := ⟨rfl, rfl, rfl, by decide +kernel, rfl, by decide +kernel, by decide +kernel⟩
abbrev s_law_in_boxes : Stmt := topS 50
theorem sc_law_in_boxes : FnScope ["boxes", "is_within", "found", "box", "more", "axis"] ["boxes", "is_within"] (defScope s_law_in_boxes) := ⟨rfl, rfl, rfl, by decide +kernel, rfl, by decide +kernel, by decide +kernel⟩
abbrev s_law_right : Stmt := topS 51
theorem sc_law_right : FnScope ["pot", "boxes", "lap", "one", "closed", "opened", "point", "due", "box"] ["pot"] (defScope s_law_right) := ⟨rfl, rfl, rfl, by decide +kernel, rfl, by decide +kernel, by decide +kernel⟩
abbrev s_law : Stmt := topS 52
theorem sc_law : FnScope ["script", "place"] ["script"] (defScope s_law) := ⟨rfl, rfl, rfl, by decide +kernel, rfl, by decide +kernel, by decide +kernel⟩
structure Txt (K : PySem.W.Frag) (mg : Str → Option Value) (C_Lot : Addr) : Prop where
  d_is_integer : ∃ f fd, DefAt K mg "is_integer" s_is_integer ["value"] f fd
  d_is_fraction : ∃ f fd, DefAt K mg "is_fraction" s_is_fraction ["value"] f fd
  d_is_point : ∃ f fd, DefAt K mg "is_point" s_is_point ["value"] f fd
  d_check_point : ∃ f fd, DefAt K mg "check_point" s_check_point ["value"] f fd
  d_axes : ∃ f fd, DefAt K mg "axes" s_axes ["box"] f fd
  d_is_box : ∃ f fd, DefAt K mg "is_box" s_is_box ["value"] f fd
  d_is_cell : ∃ f fd, DefAt K mg "is_cell" s_is_cell ["value"] f fd
  d_is_cube : ∃ f fd, DefAt K mg "is_cube" s_is_cube ["cell"] f fd
  d_index_of : ∃ f fd, DefAt K mg "_index_of" s_index_of ["fraction"] f fd
  d_cell_of : ∃ f fd, DefAt K mg "cell_of" s_cell_of ["point"] f fd
  d_beside : ∃ f fd, DefAt K mg "_beside" s_beside ["cell", "parity"] f fd
  d_rim_of : ∃ f fd, DefAt K mg "rim_of" s_rim_of ["cell"] f fd
  d_around_of : ∃ f fd, DefAt K mg "around_of" s_around_of ["cell"] f fd
  d_are_boxes : ∃ f fd, DefAt K mg "are_boxes" s_are_boxes ["value", "least", "most", "low", "high"] f fd
  d_in_bounds : ∃ f fd, DefAt K mg "_in_bounds" s_in_bounds ["index"] f fd
  d_are_cells : ∃ f fd, DefAt K mg "_are_cells" s_are_cells ["value"] f fd
  d_Lot___init : ∃ f fd, MethAt K C_Lot "__init__" "Lot.__init__" s_Lot___init ["self", "cells"] f fd
  d_Lot___eq : ∃ f fd, MethAt K C_Lot "__eq__" "Lot.__eq__" s_Lot___eq ["self", "other"] f fd
  d_Lot___len : ∃ f fd, MethAt K C_Lot "__len__" "Lot.__len__" s_Lot___len ["self"] f fd
  d_Lot_is_closed : ∃ f fd, PropAt K C_Lot "is_closed" "Lot.is_closed" s_Lot_is_closed ["self"] f fd
  d_Lot_is_open : ∃ f fd, PropAt K C_Lot "is_open" "Lot.is_open" s_Lot_is_open ["self"] f fd
  d_Lot_has : ∃ f fd, MethAt K C_Lot "has" "Lot.has" s_Lot_has ["self", "point"] f fd
  d_Lot_is_in : ∃ f fd, MethAt K C_Lot "is_in" "Lot.is_in" s_Lot_is_in ["self", "other"] f fd
  d_check_lot : ∃ f fd, DefAt K mg "check_lot" s_check_lot ["value"] f fd
  d_check_boxes : ∃ f fd, DefAt K mg "check_boxes" s_check_boxes ["value"] f fd
  d_cells_of_box : ∃ f fd, DefAt K mg "_cells_of_box" s_cells_of_box ["box", "inset"] f fd
  d_lot_of_boxes : ∃ f fd, DefAt K mg "lot_of_boxes" s_lot_of_boxes ["boxes"] f fd
  d_within_boxes : ∃ f fd, DefAt K mg "within_boxes" s_within_boxes ["boxes"] f fd
  d_law_pot : ∃ f fd, DefAt K mg "_law_pot" s_law_pot ["script", "place"] f fd
  d_law_take : ∃ f fd, DefAt K mg "_law_take" s_law_take ["pot", "upto"] f fd
  d_law_of : ∃ f fd, DefAt K mg "_law_of" s_law_of ["pot", "some"] f fd
  d_law_cells : ∃ f fd, DefAt K mg "_law_cells" s_law_cells ["script", "limit"] f fd
  d_law_drawn_box : ∃ f fd, DefAt K mg "_law_drawn_box" s_law_drawn_box ["pot", "low", "high"] f fd
  d_law_common : ∃ f fd, DefAt K mg "_law_common" s_law_common ["one", "other"] f fd
  d_law_fraction : ∃ f fd, DefAt K mg "_law_fraction" s_law_fraction ["top", "bottom"] f fd
  d_law_drawn_number : ∃ f fd, DefAt K mg "_law_drawn_number" s_law_drawn_number ["pot"] f fd
  d_law_drawn_point : ∃ f fd, DefAt K mg "_law_drawn_point" s_law_drawn_point ["pot"] f fd
  d_law_one_each : ∃ f fd, DefAt K mg "_law_one_each" s_law_one_each ["cells"] f fd
  d_law_product_cells : ∃ f fd, DefAt K mg "_law_product_cells" s_law_product_cells ["sides"] f fd
  d_law_drawn_boxes : ∃ f fd, DefAt K mg "_law_drawn_boxes" s_law_drawn_boxes ["pot", "many"] f fd
  d_law_lies : ∃ f fd, DefAt K mg "_law_lies" s_law_lies ["box", "point", "is_within"] f fd
  d_law_in_boxes : ∃ f fd, DefAt K mg "_law_in_boxes" s_law_in_boxes ["boxes", "is_within"] f fd
  d_law_right : ∃ f fd, DefAt K mg "_law_right" s_law_right ["pot"] f fd
  d_law : ∃ f fd, DefAt K mg "law" s_law ["script"] f fd
  z_len : mg "len" = none
  z_all : mg "all" = none
  z_sum : mg "sum" = none
  z_abs : mg "abs" = none
  z_int : mg "int" = none
  z_str : mg "str" = none
  z_tuple : mg "tuple" = none
  z_repr : mg "repr" = none
  z_isinstance : mg "isinstance" = none
  z_range : mg "range" = none
  z_list : mg "list" = none
  z_zip : mg "zip" = none
  z_min : mg "min" = none
  z_max : mg "max" = none
  z_bool : mg "bool" = none
  z_sorted : mg "sorted" = none
  z_dict : mg "dict" = none
  z_any : mg "any" = none
  g_gcd : mg "gcd" = some (.builtin "math.gcd")
  cl : Cls K C_Lot
  ci : ClsI K C_Lot
  kn : KitN K C_Lot
  mk_Lot : ClsM K C_Lot
  mgLot : mg "Lot" = some (.ref C_Lot)
  n_own : NoAttr K C_Lot "_own"
  n_cells : NoAttr K C_Lot "cells"
  n_cubes : NoAttr K C_Lot "cubes"
  nft : PySem.W.notFirst K C_Lot (.type "tuple") = true
section
variable [TabsC] {P : Program} {w : World} {K : PySem.W.Frag} {mg : Str → Option Value} {base : Heap} {C_Lot : Addr}
theorem ok_is_integer {f : Addr} {fd : FuncData} (D : DefAt K mg "is_integer" s_is_integer ["value"] f fd) (T : Txt K mg C_Lot) : FnG P w K mg base CX0 1 f fd ["value"] (spD K 1 (spP1 fun x => .bool (isIntB x))) := by
  refine fnD D.F sc_is_integer (fun cdv A outer s H E hr m ds kk hsp hlen => ?_)
  obtain ⟨x, rfl, hk⟩ := hsp
  dsimp only at hk
  refine wSs_cons ?_
  refine wS_ret ?_
  refine wE_and ?_
  refine wE_callB call_isi callD_isi (by rfl) T.z_isinstance (by decide +kernel) ?_
  refine wA_cons ?_
  refine v 0 ?_
  refine wA_cons ?_
  refine wE_ty (n := "int") (by rfl) T.z_int (by decide +kernel) ?_
  refine wA_nil ?_
  refine ⟨_, _, _, rfl, kit_int _, ?_⟩
  refine ⟨_, rfl, fun ht => ?_, fun ht => ?_⟩
  · refine wE_and1 ?_
    refine wE_not ?_
    refine wE_callB call_isi callD_isi (by rfl) T.z_isinstance (by decide +kernel) ?_
    refine wA_cons ?_
    refine v 0 ?_
    refine wA_cons ?_
    refine wE_ty (n := "bool") (by rfl) T.z_bool (by decide +kernel) ?_
    refine wA_nil ?_
    refine ⟨_, _, _, rfl, kit_bool _, ?_⟩
    refine ⟨_, rfl, ?_⟩
    unfold isIntB at hk; rw [ht] at hk; exact hk
  · unfold isIntB at hk; rw [ht] at hk; exact hk
theorem ok_is_fraction {f : Addr} {fd : FuncData} (D : DefAt K mg "is_fraction" s_is_fraction ["value"] f fd) (T : Txt K mg C_Lot) : FnG P w K mg base CX0 8 f fd ["value"] (spD K 1 (spP1 fun x => .bool (frB x))) := by
  obtain ⟨f_is_integer, fd_is_integer, D_is_integer⟩ := T.d_is_integer
  have G_is_integer := ok_is_integer (P := P) (w := w) (base := base) D_is_integer T
  refine fnD D.F sc_is_fraction (fun cdv A outer s H E hr m ds kk hsp hlen => ?_)
  obtain ⟨x, rfl, hk⟩ := hsp
  dsimp only at hk
  rcases shapeT 2 x with ⟨xs, rfl, hl⟩ | ⟨xs, rfl, hl⟩ | hn
  · obtain ⟨a, b, rfl⟩ := len2 hl
    by_cases ha : isIntB a = true
    · by_cases hb : isIntB b = true
      · obtain ⟨t, rfl⟩ := isIntB_int ha
        obtain ⟨q, rfl⟩ := isIntB_int hb
        refine wSs_cons ?_
        refine wS_if ?_
        refine wT_or ?_
        refine wW_or ?_
        refine wT_not ?_
        refine wT_val ?_
        refine wE_callB call_isi callD_isi (by rfl) T.z_isinstance (by decide +kernel) ?_
        refine wA_cons ?_
        refine v 0 ?_
        refine wA_cons ?_
        refine wE_ty (n := "tuple") (by rfl) T.z_tuple (by decide +kernel) ?_
        refine wA_nil ?_
        refine ⟨_, _, _, rfl, kit_tuple _, ?_⟩
        refine ⟨_, rfl, ?_⟩
        refine ⟨fun _ => ?_, fun ht => absurd ht ((by first | exact Bool.false_ne_true | exact (fun h => Bool.noConfusion (show true = false from h)) | exact ne_false rfl | exact bool_t (by assumption) | exact bool_f (by assumption) | exact dec_t (by assumption) | exact dec_f (by assumption) | exact bool_nt (by assumption) | decide | omega | (simp_all; done) | (simp_all; omega)))⟩
        refine wW_or1 ?_
        refine wT_ne ?_
        refine wE_callB call_len callD_len (by rfl) T.z_len (by decide +kernel) ?_
        refine wA_cons ?_
        refine v 0 ?_
        refine wA_nil ?_
        first | refine ⟨_, rfl, .inl ⟨_, rfl, ?_⟩⟩ | refine ⟨_, rfl, .inr ⟨_, rfl, (by first | decide | (simp; done) | (simp; omega) | omega), ?_⟩⟩
        refine wE_int ?_
        first | refine .inl ⟨_, _, rfl, rfl, _, rfl, ?_⟩ | refine .inr (.inl ⟨_, _, rfl, rfl, _, rfl, ?_⟩) | refine .inr (.inr ⟨_, _, rfl, rfl, _, rfl, ?_⟩)
        refine ⟨fun ht => absurd ht ((by first | exact Bool.false_ne_true | exact (fun h => Bool.noConfusion (show true = false from h)) | exact ne_false rfl | exact bool_t (by assumption) | exact bool_f (by assumption) | exact dec_t (by assumption) | exact dec_f (by assumption) | exact bool_nt (by assumption) | decide | omega | (simp_all; done) | (simp_all; omega))), fun _ => ?_⟩
        refine wSs_nil ?_
        refine wSs_cons ?_
        refine wS_asg (List.range 40) ?_
        refine v 0 ?_
        refine wG_tup rfl rfl rfl ?_
        refine wGs_cons ?_
        refine g 1 sc_is_fraction.nd ?_
        refine wGs_cons ?_
        refine g 2 sc_is_fraction.nd ?_
        refine wGs_nil ?_
        refine wSs_cons ?_
        refine wS_if ?_
        refine wT_or ?_
        refine wW_or ?_
        refine wT_not ?_
        refine wT_val ?_
        refine wE_call G_is_integer (hr.mono (by decide)) (by rfl) D_is_integer.g D_is_integer.F.kp D_is_integer.b ?_
        refine wA_cons ?_
        refine v 1 ?_
        refine wA_nil ?_
        refine ⟨rfl, _, rfl, ?_⟩
        refine ⟨_, rfl, ?_⟩
        refine ⟨fun _ => ?_, fun ht => absurd ht ((by first | exact Bool.false_ne_true | exact (fun h => Bool.noConfusion (show true = false from h)) | exact ne_false rfl | exact bool_t (by assumption) | exact bool_f (by assumption) | exact dec_t (by assumption) | exact dec_f (by assumption) | exact bool_nt (by assumption) | decide | omega | (simp_all; done) | (simp_all; omega)))⟩
        refine wW_or1 ?_
        refine wT_not ?_
        refine wT_val ?_
        refine wE_call G_is_integer (hr.mono (by decide)) (by rfl) D_is_integer.g D_is_integer.F.kp D_is_integer.b ?_
        refine wA_cons ?_
        refine v 2 ?_
        refine wA_nil ?_
        refine ⟨rfl, _, rfl, ?_⟩
        refine ⟨_, rfl, ?_⟩
        refine ⟨fun ht => absurd ht ((by first | exact Bool.false_ne_true | exact (fun h => Bool.noConfusion (show true = false from h)) | exact ne_false rfl | exact bool_t (by assumption) | exact bool_f (by assumption) | exact dec_t (by assumption) | exact dec_f (by assumption) | exact bool_nt (by assumption) | decide | omega | (simp_all; done) | (simp_all; omega))), fun _ => ?_⟩
        refine wSs_nil ?_
        refine wSs_cons ?_
        refine wS_ret ?_
        refine wE_and ?_
        refine wE_ge ?_
        refine v 2 ?_
        refine wE_int ?_
        refine ⟨_, _, rfl, rfl, ?_⟩
        refine ⟨_, rfl, fun ht => ?_, fun ht => ?_⟩
        · refine wE_and1 ?_
          refine wE_eq ?_
          refine wE_callGB cr_gcd callD_gcd (by rfl) T.g_gcd ?_
          refine wA_cons ?_
          refine v 1 ?_
          refine wA_cons ?_
          refine v 2 ?_
          refine wA_nil ?_
          refine ⟨_, _, rfl, ?_⟩
          refine wE_int ?_
          first | refine .inl ⟨_, _, rfl, rfl, ?_⟩ | refine .inr (.inl ⟨_, _, rfl, rfl, ?_⟩) | refine .inr (.inr ⟨_, _, rfl, rfl, ?_⟩)
          first | exact (frB_end hk ht).1 rfl | exact (frB_end hk ht).2 rfl | exact hk
        · first | exact (frB_end hk ht).1 rfl | exact (frB_end hk ht).2 rfl | exact hk
      · have hb2 : isIntB b = false := by simpa using hb
        rw [frB_2 hb2] at hk
        refine wSs_cons ?_
        refine wS_if ?_
        refine wT_or ?_
        refine wW_or ?_
        refine wT_not ?_
        refine wT_val ?_
        refine wE_callB call_isi callD_isi (by rfl) T.z_isinstance (by decide +kernel) ?_
        refine wA_cons ?_
        refine v 0 ?_
        refine wA_cons ?_
        refine wE_ty (n := "tuple") (by rfl) T.z_tuple (by decide +kernel) ?_
        refine wA_nil ?_
        refine ⟨_, _, _, rfl, kit_tuple _, ?_⟩
        refine ⟨_, rfl, ?_⟩
        refine ⟨fun _ => ?_, fun ht => absurd ht ((by first | exact Bool.false_ne_true | exact (fun h => Bool.noConfusion (show true = false from h)) | exact ne_false rfl | exact bool_t (by assumption) | exact bool_f (by assumption) | exact dec_t (by assumption) | exact dec_f (by assumption) | exact bool_nt (by assumption) | decide | omega | (simp_all; done) | (simp_all; omega)))⟩
        refine wW_or1 ?_
        refine wT_ne ?_
        refine wE_callB call_len callD_len (by rfl) T.z_len (by decide +kernel) ?_
        refine wA_cons ?_
        refine v 0 ?_
        refine wA_nil ?_
        first | refine ⟨_, rfl, .inl ⟨_, rfl, ?_⟩⟩ | refine ⟨_, rfl, .inr ⟨_, rfl, (by first | decide | (simp; done) | (simp; omega) | omega), ?_⟩⟩
        refine wE_int ?_
        first | refine .inl ⟨_, _, rfl, rfl, _, rfl, ?_⟩ | refine .inr (.inl ⟨_, _, rfl, rfl, _, rfl, ?_⟩) | refine .inr (.inr ⟨_, _, rfl, rfl, _, rfl, ?_⟩)
        refine ⟨fun ht => absurd ht ((by first | exact Bool.false_ne_true | exact (fun h => Bool.noConfusion (show true = false from h)) | exact ne_false rfl | exact bool_t (by assumption) | exact bool_f (by assumption) | exact dec_t (by assumption) | exact dec_f (by assumption) | exact bool_nt (by assumption) | decide | omega | (simp_all; done) | (simp_all; omega))), fun _ => ?_⟩
        refine wSs_nil ?_
        refine wSs_cons ?_
        refine wS_asg (List.range 40) ?_
        refine v 0 ?_
        refine wG_tup rfl rfl rfl ?_
        refine wGs_cons ?_
        refine g 1 sc_is_fraction.nd ?_
        refine wGs_cons ?_
        refine g 2 sc_is_fraction.nd ?_
        refine wGs_nil ?_
        refine wSs_cons ?_
        refine wS_if ?_
        refine wT_or ?_
        refine wW_or ?_
        refine wT_not ?_
        refine wT_val ?_
        refine wE_call G_is_integer (hr.mono (by decide)) (by rfl) D_is_integer.g D_is_integer.F.kp D_is_integer.b ?_
        refine wA_cons ?_
        refine v 1 ?_
        refine wA_nil ?_
        refine ⟨rfl, _, rfl, ?_⟩
        refine ⟨_, rfl, ?_⟩
        refine ⟨fun _ => ?_, fun ht => absurd ht ((by first | exact Bool.false_ne_true | exact (fun h => Bool.noConfusion (show true = false from h)) | exact ne_false rfl | exact bool_t (by assumption) | exact bool_f (by assumption) | exact dec_t (by assumption) | exact dec_f (by assumption) | exact bool_nt (by assumption) | decide | omega | (simp_all; done) | (simp_all; omega)))⟩
        refine wW_or1 ?_
        refine wT_not ?_
        refine wT_val ?_
        refine wE_call G_is_integer (hr.mono (by decide)) (by rfl) D_is_integer.g D_is_integer.F.kp D_is_integer.b ?_
        refine wA_cons ?_
        refine v 2 ?_
        refine wA_nil ?_
        refine ⟨rfl, _, rfl, ?_⟩
        refine ⟨_, rfl, ?_⟩
        refine ⟨fun _ => ?_, fun ht => absurd ht ((by first | exact Bool.false_ne_true | exact (fun h => Bool.noConfusion (show true = false from h)) | exact ne_false rfl | exact bool_t (by assumption) | exact bool_f (by assumption) | exact dec_t (by assumption) | exact dec_f (by assumption) | exact bool_nt (by assumption) | decide | omega | (simp_all; done) | (simp_all; omega)))⟩
        refine wSs_cons ?_
        refine wS_ret ?_
        refine wE_bl ?_
        exact hk
    · have ha2 : isIntB a = false := by simpa using ha
      rw [frB_1 ha2] at hk
      refine wSs_cons ?_
      refine wS_if ?_
      refine wT_or ?_
      refine wW_or ?_
      refine wT_not ?_
      refine wT_val ?_
      refine wE_callB call_isi callD_isi (by rfl) T.z_isinstance (by decide +kernel) ?_
      refine wA_cons ?_
      refine v 0 ?_
      refine wA_cons ?_
      refine wE_ty (n := "tuple") (by rfl) T.z_tuple (by decide +kernel) ?_
      refine wA_nil ?_
      refine ⟨_, _, _, rfl, kit_tuple _, ?_⟩
      refine ⟨_, rfl, ?_⟩
      refine ⟨fun _ => ?_, fun ht => absurd ht ((by first | exact Bool.false_ne_true | exact (fun h => Bool.noConfusion (show true = false from h)) | exact ne_false rfl | exact bool_t (by assumption) | exact bool_f (by assumption) | exact dec_t (by assumption) | exact dec_f (by assumption) | exact bool_nt (by assumption) | decide | omega | (simp_all; done) | (simp_all; omega)))⟩
      refine wW_or1 ?_
      refine wT_ne ?_
      refine wE_callB call_len callD_len (by rfl) T.z_len (by decide +kernel) ?_
      refine wA_cons ?_
      refine v 0 ?_
      refine wA_nil ?_
      first | refine ⟨_, rfl, .inl ⟨_, rfl, ?_⟩⟩ | refine ⟨_, rfl, .inr ⟨_, rfl, (by first | decide | (simp; done) | (simp; omega) | omega), ?_⟩⟩
      refine wE_int ?_
      first | refine .inl ⟨_, _, rfl, rfl, _, rfl, ?_⟩ | refine .inr (.inl ⟨_, _, rfl, rfl, _, rfl, ?_⟩) | refine .inr (.inr ⟨_, _, rfl, rfl, _, rfl, ?_⟩)
      refine ⟨fun ht => absurd ht ((by first | exact Bool.false_ne_true | exact (fun h => Bool.noConfusion (show true = false from h)) | exact ne_false rfl | exact bool_t (by assumption) | exact bool_f (by assumption) | exact dec_t (by assumption) | exact dec_f (by assumption) | exact bool_nt (by assumption) | decide | omega | (simp_all; done) | (simp_all; omega))), fun _ => ?_⟩
      refine wSs_nil ?_
      refine wSs_cons ?_
      refine wS_asg (List.range 40) ?_
      refine v 0 ?_
      refine wG_tup rfl rfl rfl ?_
      refine wGs_cons ?_
      refine g 1 sc_is_fraction.nd ?_
      refine wGs_cons ?_
      refine g 2 sc_is_fraction.nd ?_
      refine wGs_nil ?_
      refine wSs_cons ?_
      refine wS_if ?_
      refine wT_or ?_
      refine wW_or ?_
      refine wT_not ?_
      refine wT_val ?_
      refine wE_call G_is_integer (hr.mono (by decide)) (by rfl) D_is_integer.g D_is_integer.F.kp D_is_integer.b ?_
      refine wA_cons ?_
      refine v 1 ?_
      refine wA_nil ?_
      refine ⟨rfl, _, rfl, ?_⟩
      refine ⟨_, rfl, ?_⟩
      refine ⟨fun ht => absurd ht ((by first | exact Bool.false_ne_true | exact (fun h => Bool.noConfusion (show true = false from h)) | exact ne_false rfl | exact bool_t (by assumption) | exact bool_f (by assumption) | exact dec_t (by assumption) | exact dec_f (by assumption) | exact bool_nt (by assumption) | decide | omega | (simp_all; done) | (simp_all; omega))), fun _ => ?_⟩
      refine ⟨fun _ => ?_, fun ht => absurd ht ((by first | exact Bool.false_ne_true | exact (fun h => Bool.noConfusion (show true = false from h)) | exact ne_false rfl | exact bool_t (by assumption) | exact bool_f (by assumption) | exact dec_t (by assumption) | exact dec_f (by assumption) | exact bool_nt (by assumption) | decide | omega | (simp_all; done) | (simp_all; omega)))⟩
      refine wSs_cons ?_
      refine wS_ret ?_
      refine wE_bl ?_
      exact hk
  · rw [frB_len hl] at hk
    refine wSs_cons ?_
    refine wS_if ?_
    refine wT_or ?_
    refine wW_or ?_
    refine wT_not ?_
    refine wT_val ?_
    refine wE_callB call_isi callD_isi (by rfl) T.z_isinstance (by decide +kernel) ?_
    refine wA_cons ?_
    refine v 0 ?_
    refine wA_cons ?_
    refine wE_ty (n := "tuple") (by rfl) T.z_tuple (by decide +kernel) ?_
    refine wA_nil ?_
    refine ⟨_, _, _, rfl, kit_tuple _, ?_⟩
    refine ⟨_, rfl, ?_⟩
    refine ⟨fun _ => ?_, fun ht => absurd ht ((by first | exact Bool.false_ne_true | exact (fun h => Bool.noConfusion (show true = false from h)) | exact ne_false rfl | exact bool_t (by assumption) | exact bool_f (by assumption) | exact dec_t (by assumption) | exact dec_f (by assumption) | exact bool_nt (by assumption) | decide | omega | (simp_all; done) | (simp_all; omega)))⟩
    refine wW_or1 ?_
    refine wT_ne ?_
    refine wE_callB call_len callD_len (by rfl) T.z_len (by decide +kernel) ?_
    refine wA_cons ?_
    refine v 0 ?_
    refine wA_nil ?_
    first | refine ⟨_, rfl, .inl ⟨_, rfl, ?_⟩⟩ | refine ⟨_, rfl, .inr ⟨_, rfl, (by first | decide | (simp; done) | (simp; omega) | omega), ?_⟩⟩
    refine wE_int ?_
    first | refine .inl ⟨_, _, rfl, rfl, _, rfl, ?_⟩ | refine .inr (.inl ⟨_, _, rfl, rfl, _, rfl, ?_⟩) | refine .inr (.inr ⟨_, _, rfl, rfl, _, rfl, ?_⟩)
    refine ⟨fun _ => ?_, fun ht => absurd ht ((by first | exact Bool.false_ne_true | exact (fun h => Bool.noConfusion (show true = false from h)) | exact ne_false rfl | exact bool_t (by assumption) | exact bool_f (by assumption) | exact dec_t (by assumption) | exact dec_f (by assumption) | exact bool_nt (by assumption) | decide | omega | (simp_all; done) | (simp_all; omega)))⟩
    refine wSs_cons ?_
    refine wS_ret ?_
    refine wE_bl ?_
    exact hk
  · rw [frB_nt hn] at hk
    refine wSs_cons ?_
    refine wS_if ?_
    refine wT_or ?_
    refine wW_or ?_
    refine wT_not ?_
    refine wT_val ?_
    refine wE_callB call_isi callD_isi (by rfl) T.z_isinstance (by decide +kernel) ?_
    refine wA_cons ?_
    refine v 0 ?_
    refine wA_cons ?_
    refine wE_ty (n := "tuple") (by rfl) T.z_tuple (by decide +kernel) ?_
    refine wA_nil ?_
    refine ⟨_, _, _, rfl, kit_tuple _, ?_⟩
    refine ⟨_, rfl, ?_⟩
    refine ⟨fun ht => absurd ht ((by first | exact Bool.false_ne_true | exact (fun h => Bool.noConfusion (show true = false from h)) | exact ne_false rfl | exact bool_t (by assumption) | exact bool_f (by assumption) | exact dec_t (by assumption) | exact dec_f (by assumption) | exact bool_nt (by assumption) | decide | omega | (simp_all; done) | (simp_all; omega))), fun _ => ?_⟩
    refine ⟨fun _ => ?_, fun ht => absurd ht ((by first | exact Bool.false_ne_true | exact (fun h => Bool.noConfusion (show true = false from h)) | exact ne_false rfl | exact bool_t (by assumption) | exact bool_f (by assumption) | exact dec_t (by assumption) | exact dec_f (by assumption) | exact bool_nt (by assumption) | decide | omega | (simp_all; done) | (simp_all; omega)))⟩
    refine wSs_cons ?_
    refine wS_ret ?_
    refine wE_bl ?_
    exact hk
theorem ok_is_point {f : Addr} {fd : FuncData} (D : DefAt K mg "is_point" s_is_point ["value"] f fd) (T : Txt K mg C_Lot) : FnG P w K mg base CX0 9 f fd ["value"] (spD K 1 (spP1 fun x => .bool (ptB x))) := by
  obtain ⟨f_is_fraction, fd_is_fraction, D_is_fraction⟩ := T.d_is_fraction
  have G_is_fraction := ok_is_fraction (P := P) (w := w) (base := base) D_is_fraction T
  refine fnD D.F sc_is_point (fun cdv A outer s H E hr m ds kk hsp hlen => ?_)
  obtain ⟨x, rfl, hk⟩ := hsp
  dsimp only at hk
  rcases shapeT 3 x with ⟨xs, rfl, hl⟩ | ⟨xs, rfl, hl⟩ | hn
  · obtain ⟨a, b, c, rfl⟩ := len3 hl
    refine wSs_cons ?_
    refine wS_if ?_
    refine wT_or ?_
    refine wW_or ?_
    refine wT_not ?_
    refine wT_val ?_
    refine wE_callB call_isi callD_isi (by rfl) T.z_isinstance (by decide +kernel) ?_
    refine wA_cons ?_
    refine v 0 ?_
    refine wA_cons ?_
    refine wE_ty (n := "tuple") (by rfl) T.z_tuple (by decide +kernel) ?_
    refine wA_nil ?_
    refine ⟨_, _, _, rfl, kit_tuple _, ?_⟩
    refine ⟨_, rfl, ?_⟩
    refine ⟨fun _ => ?_, fun ht => absurd ht ((by first | exact Bool.false_ne_true | exact (fun h => Bool.noConfusion (show true = false from h)) | exact ne_false rfl | exact bool_t (by assumption) | exact bool_f (by assumption) | exact dec_t (by assumption) | exact dec_f (by assumption) | exact bool_nt (by assumption) | decide | omega | (simp_all; done) | (simp_all; omega)))⟩
    refine wW_or1 ?_
    refine wT_ne ?_
    refine wE_callB call_len callD_len (by rfl) T.z_len (by decide +kernel) ?_
    refine wA_cons ?_
    refine v 0 ?_
    refine wA_nil ?_
    first | refine ⟨_, rfl, .inl ⟨_, rfl, ?_⟩⟩ | refine ⟨_, rfl, .inr ⟨_, rfl, (by first | decide | (simp; done) | (simp; omega) | omega), ?_⟩⟩
    refine wE_int ?_
    first | refine .inl ⟨_, _, rfl, rfl, _, rfl, ?_⟩ | refine .inr (.inl ⟨_, _, rfl, rfl, _, rfl, ?_⟩) | refine .inr (.inr ⟨_, _, rfl, rfl, _, rfl, ?_⟩)
    refine ⟨fun ht => absurd ht ((by first | exact Bool.false_ne_true | exact (fun h => Bool.noConfusion (show true = false from h)) | exact ne_false rfl | exact bool_t (by assumption) | exact bool_f (by assumption) | exact dec_t (by assumption) | exact dec_f (by assumption) | exact bool_nt (by assumption) | decide | omega | (simp_all; done) | (simp_all; omega))), fun _ => ?_⟩
    refine wSs_nil ?_
    refine wSs_cons ?_
    refine wS_ret ?_
    refine wE_callB (cr_all rfl) callD_gAll (by rfl) T.z_all (by decide +kernel) ?_
    refine wA_cons ?_
    refine wE_lc [("part", 1)] rfl sc_is_point.nd (blkOk_by (N := ["value", "part"]) (sc := defScope s_is_point) (by decide +kernel)) ?_
    refine wI_seq ?_
    refine v 0 ?_
    first | refine ⟨_, .inl rfl, ?_⟩ | refine ⟨_, .inr rfl, ?_⟩
    refine ⟨(by first | decide | (simp; done) | (simp; omega) | omega), ?_⟩
    refine lcW_cons (fun D1 => ?_)
    intro saD1 HaD1 CaD1 claD1 fpaD1
    refine g 1 sc_is_point.nd ?_
    intro sbD1 HbD1 CbD1 clbD1 fpbD1
    refine wE_call G_is_fraction (hr.mono (by decide)) (by rfl) D_is_fraction.g D_is_fraction.F.kp D_is_fraction.b ?_
    refine wA_cons ?_
    refine v 1 ?_
    refine wA_nil ?_
    refine ⟨rfl, _, rfl, ?_⟩
    refine ⟨_, _, rfl, rfl, ?_⟩
    refine lcW_cons (fun D2 => ?_)
    intro saD2 HaD2 CaD2 claD2 fpaD2
    refine g 1 sc_is_point.nd ?_
    intro sbD2 HbD2 CbD2 clbD2 fpbD2
    refine wE_call G_is_fraction (hr.mono (by decide)) (by rfl) D_is_fraction.g D_is_fraction.F.kp D_is_fraction.b ?_
    refine wA_cons ?_
    refine v 1 ?_
    refine wA_nil ?_
    refine ⟨rfl, _, rfl, ?_⟩
    refine ⟨_, _, rfl, rfl, ?_⟩
    refine lcW_cons (fun D3 => ?_)
    intro saD3 HaD3 CaD3 claD3 fpaD3
    refine g 1 sc_is_point.nd ?_
    intro sbD3 HbD3 CbD3 clbD3 fpbD3
    refine wE_call G_is_fraction (hr.mono (by decide)) (by rfl) D_is_fraction.g D_is_fraction.F.kp D_is_fraction.b ?_
    refine wA_cons ?_
    refine v 1 ?_
    refine wA_nil ?_
    refine ⟨rfl, _, rfl, ?_⟩
    refine ⟨_, _, rfl, rfl, ?_⟩
    refine lcW_nil ?_
    refine wA_nil ?_
    refine ⟨_, _, rfl, rfl, ?_⟩
    exact ptB_end hk
  · rw [ptB_len hl] at hk
    refine wSs_cons ?_
    refine wS_if ?_
    refine wT_or ?_
    refine wW_or ?_
    refine wT_not ?_
    refine wT_val ?_
    refine wE_callB call_isi callD_isi (by rfl) T.z_isinstance (by decide +kernel) ?_
    refine wA_cons ?_
    refine v 0 ?_
    refine wA_cons ?_
    refine wE_ty (n := "tuple") (by rfl) T.z_tuple (by decide +kernel) ?_
    refine wA_nil ?_
    refine ⟨_, _, _, rfl, kit_tuple _, ?_⟩
    refine ⟨_, rfl, ?_⟩
    refine ⟨fun _ => ?_, fun ht => absurd ht ((by first | exact Bool.false_ne_true | exact (fun h => Bool.noConfusion (show true = false from h)) | exact ne_false rfl | exact bool_t (by assumption) | exact bool_f (by assumption) | exact dec_t (by assumption) | exact dec_f (by assumption) | exact bool_nt (by assumption) | decide | omega | (simp_all; done) | (simp_all; omega)))⟩
    refine wW_or1 ?_
    refine wT_ne ?_
    refine wE_callB call_len callD_len (by rfl) T.z_len (by decide +kernel) ?_
    refine wA_cons ?_
    refine v 0 ?_
    refine wA_nil ?_
    first | refine ⟨_, rfl, .inl ⟨_, rfl, ?_⟩⟩ | refine ⟨_, rfl, .inr ⟨_, rfl, (by first | decide | (simp; done) | (simp; omega) | omega), ?_⟩⟩
    refine wE_int ?_
    first | refine .inl ⟨_, _, rfl, rfl, _, rfl, ?_⟩ | refine .inr (.inl ⟨_, _, rfl, rfl, _, rfl, ?_⟩) | refine .inr (.inr ⟨_, _, rfl, rfl, _, rfl, ?_⟩)
    refine ⟨fun _ => ?_, fun ht => absurd ht ((by first | exact Bool.false_ne_true | exact (fun h => Bool.noConfusion (show true = false from h)) | exact ne_false rfl | exact bool_t (by assumption) | exact bool_f (by assumption) | exact dec_t (by assumption) | exact dec_f (by assumption) | exact bool_nt (by assumption) | decide | omega | (simp_all; done) | (simp_all; omega)))⟩
    refine wSs_cons ?_
    refine wS_ret ?_
    refine wE_bl ?_
    exact hk
  · rw [ptB_nt hn] at hk
    refine wSs_cons ?_
    refine wS_if ?_
    refine wT_or ?_
    refine wW_or ?_
    refine wT_not ?_
    refine wT_val ?_
    refine wE_callB call_isi callD_isi (by rfl) T.z_isinstance (by decide +kernel) ?_
    refine wA_cons ?_
    refine v 0 ?_
    refine wA_cons ?_
    refine wE_ty (n := "tuple") (by rfl) T.z_tuple (by decide +kernel) ?_
    refine wA_nil ?_
    refine ⟨_, _, _, rfl, kit_tuple _, ?_⟩
    refine ⟨_, rfl, ?_⟩
    refine ⟨fun ht => absurd ht ((by first | exact Bool.false_ne_true | exact (fun h => Bool.noConfusion (show true = false from h)) | exact ne_false rfl | exact bool_t (by assumption) | exact bool_f (by assumption) | exact dec_t (by assumption) | exact dec_f (by assumption) | exact bool_nt (by assumption) | decide | omega | (simp_all; done) | (simp_all; omega))), fun _ => ?_⟩
    refine ⟨fun _ => ?_, fun ht => absurd ht ((by first | exact Bool.false_ne_true | exact (fun h => Bool.noConfusion (show true = false from h)) | exact ne_false rfl | exact bool_t (by assumption) | exact bool_f (by assumption) | exact dec_t (by assumption) | exact dec_f (by assumption) | exact bool_nt (by assumption) | decide | omega | (simp_all; done) | (simp_all; omega)))⟩
    refine wSs_cons ?_
    refine wS_ret ?_
    refine wE_bl ?_
    exact hk
theorem ok_check_point {f : Addr} {fd : FuncData} (D : DefAt K mg "check_point" s_check_point ["value"] f fd) (T : Txt K mg C_Lot) : FnG P w K mg base CX0 10 f fd ["value"] (spD K 1 (spChk ptB)) := by
  obtain ⟨f_is_point, fd_is_point, D_is_point⟩ := T.d_is_point
  have G_is_point := ok_is_point (P := P) (w := w) (base := base) D_is_point T
  refine fnD D.F sc_check_point (fun cdv A outer s H E hr m ds kk hsp hlen => ?_)
  obtain ⟨x, rfl, hx, hk⟩ := hsp
  refine wSs_cons ?_
  refine wS_if ?_
  refine wT_not ?_
  refine wT_val ?_
  refine wE_call G_is_point (hr.mono (by decide)) (by rfl) D_is_point.g D_is_point.F.kp D_is_point.b ?_
  refine wA_cons ?_
  refine v 0 ?_
  refine wA_nil ?_
  refine ⟨rfl, _, rfl, ?_⟩
  refine ⟨_, rfl, ?_⟩
  refine ⟨fun ht => absurd ht ((by first | exact Bool.false_ne_true | exact (fun h => Bool.noConfusion (show true = false from h)) | exact ne_false rfl | exact bool_t (by assumption) | exact bool_f (by assumption) | exact dec_t (by assumption) | exact dec_f (by assumption) | exact bool_nt (by assumption) | decide | omega | (simp_all; done) | (simp_all; omega))), fun _ => ?_⟩
  refine wSs_nil ?_
  refine wSs_nil ?_
  exact hk
theorem ok_axes {f : Addr} {fd : FuncData} (D : DefAt K mg "axes" s_axes ["box"] f fd) (T : Txt K mg C_Lot) : FnG P w K mg base CX0 1 f fd ["box"] (spD K 1 (spP dAxes)) := by
  refine fnD D.F sc_axes (fun cdv A outer s H E hr m ds kk hsp hlen => ?_)
  obtain ⟨xs, r, rfl, hf, hk⟩ := hsp
  obtain ⟨x0, x1, y0, y1, z0, z1, rfl, rfl⟩ := dAxes_inv hf
  refine wSs_cons ?_
  refine wS_asg (List.range 40) ?_
  refine v 0 ?_
  refine wG_tup rfl rfl rfl ?_
  refine wGs_cons ?_
  refine g 1 sc_axes.nd ?_
  refine wGs_cons ?_
  refine g 2 sc_axes.nd ?_
  refine wGs_cons ?_
  refine g 3 sc_axes.nd ?_
  refine wGs_cons ?_
  refine g 4 sc_axes.nd ?_
  refine wGs_cons ?_
  refine g 5 sc_axes.nd ?_
  refine wGs_cons ?_
  refine g 6 sc_axes.nd ?_
  refine wGs_nil ?_
  refine wSs_cons ?_
  refine wS_ret ?_
  refine wE_tup (xs := fun _ => True) ?_
  refine wA_cons ?_
  refine wE_tup (xs := fun _ => True) ?_
  refine wA_cons ?_
  refine v 1 ?_
  refine wA_cons ?_
  refine v 2 ?_
  refine wA_nil ?_
  refine ⟨[_, _], rfl, (by first | decide | (simp; done) | (simp; omega) | omega), ?_⟩
  refine wA_cons ?_
  refine wE_tup (xs := fun _ => True) ?_
  refine wA_cons ?_
  refine v 3 ?_
  refine wA_cons ?_
  refine v 4 ?_
  refine wA_nil ?_
  refine ⟨[_, _], rfl, (by first | decide | (simp; done) | (simp; omega) | omega), ?_⟩
  refine wA_cons ?_
  refine wE_tup (xs := fun _ => True) ?_
  refine wA_cons ?_
  refine v 5 ?_
  refine wA_cons ?_
  refine v 6 ?_
  refine wA_nil ?_
  refine ⟨[_, _], rfl, (by first | decide | (simp; done) | (simp; omega) | omega), ?_⟩
  refine wA_nil ?_
  refine ⟨[_, _, _], rfl, (by first | decide | (simp; done) | (simp; omega) | omega), ?_⟩
  exact hk
theorem ok_is_box {f : Addr} {fd : FuncData} (D : DefAt K mg "is_box" s_is_box ["value"] f fd) (T : Txt K mg C_Lot) : FnG P w K mg base CX0 3 f fd ["value"] (spD K 1 (spP1 fun x => .bool (boxB x))) := by
  obtain ⟨f_is_integer, fd_is_integer, D_is_integer⟩ := T.d_is_integer
  have G_is_integer := ok_is_integer (P := P) (w := w) (base := base) D_is_integer T
  obtain ⟨f_axes, fd_axes, D_axes⟩ := T.d_axes
  have G_axes := ok_axes (P := P) (w := w) (base := base) D_axes T
  refine fnD D.F sc_is_box (fun cdv A outer s H E hr m ds kk hsp hlen => ?_)
  obtain ⟨x, rfl, hk⟩ := hsp
  dsimp only at hk
  rcases shapeT 6 x with ⟨xs, rfl, hl⟩ | ⟨xs, rfl, hl⟩ | hn
  · obtain ⟨a, b, c, d, e, f, rfl⟩ := len6 hl
    by_cases hi : (isIntB a && (isIntB b && (isIntB c && (isIntB d && (isIntB e && (isIntB f && true)))))) = true
    · obtain ⟨a, b, c, d, e, f, rfl, rfl, rfl, rfl, rfl, rfl⟩ := six_ints hi
      refine wSs_cons ?_
      refine wS_if ?_
      refine wT_or ?_
      refine wW_or ?_
      refine wT_not ?_
      refine wT_val ?_
      refine wE_callB call_isi callD_isi (by rfl) T.z_isinstance (by decide +kernel) ?_
      refine wA_cons ?_
      refine v 0 ?_
      refine wA_cons ?_
      refine wE_ty (n := "tuple") (by rfl) T.z_tuple (by decide +kernel) ?_
      refine wA_nil ?_
      refine ⟨_, _, _, rfl, kit_tuple _, ?_⟩
      refine ⟨_, rfl, ?_⟩
      refine ⟨fun _ => ?_, fun ht => absurd ht ((by first | exact Bool.false_ne_true | exact (fun h => Bool.noConfusion (show true = false from h)) | exact ne_false rfl | exact bool_t (by assumption) | exact bool_f (by assumption) | exact dec_t (by assumption) | exact dec_f (by assumption) | exact bool_nt (by assumption) | decide | omega | (simp_all; done) | (simp_all; omega)))⟩
      refine wW_or1 ?_
      refine wT_ne ?_
      refine wE_callB call_len callD_len (by rfl) T.z_len (by decide +kernel) ?_
      refine wA_cons ?_
      refine v 0 ?_
      refine wA_nil ?_
      first | refine ⟨_, rfl, .inl ⟨_, rfl, ?_⟩⟩ | refine ⟨_, rfl, .inr ⟨_, rfl, (by first | decide | (simp; done) | (simp; omega) | omega), ?_⟩⟩
      refine wE_int ?_
      first | refine .inl ⟨_, _, rfl, rfl, _, rfl, ?_⟩ | refine .inr (.inl ⟨_, _, rfl, rfl, _, rfl, ?_⟩) | refine .inr (.inr ⟨_, _, rfl, rfl, _, rfl, ?_⟩)
      refine ⟨fun ht => absurd ht ((by first | exact Bool.false_ne_true | exact (fun h => Bool.noConfusion (show true = false from h)) | exact ne_false rfl | exact bool_t (by assumption) | exact bool_f (by assumption) | exact dec_t (by assumption) | exact dec_f (by assumption) | exact bool_nt (by assumption) | decide | omega | (simp_all; done) | (simp_all; omega))), fun _ => ?_⟩
      refine wSs_nil ?_
      refine wSs_cons ?_
      refine wS_if ?_
      refine wT_not ?_
      refine wT_val ?_
      refine wE_callB (cr_all rfl) callD_gAll (by rfl) T.z_all (by decide +kernel) ?_
      refine wA_cons ?_
      refine wE_lc [("number", 1)] rfl sc_is_box.nd (blkOk_by (N := ["value", "number", "low", "high"]) (sc := defScope s_is_box) (by decide +kernel)) ?_
      refine wI_seq ?_
      refine v 0 ?_
      first | refine ⟨_, .inl rfl, ?_⟩ | refine ⟨_, .inr rfl, ?_⟩
      refine ⟨(by first | decide | (simp; done) | (simp; omega) | omega), ?_⟩
      refine lcW_cons (fun D1 => ?_)
      intro saD1 HaD1 CaD1 claD1 fpaD1
      refine g 1 sc_is_box.nd ?_
      intro sbD1 HbD1 CbD1 clbD1 fpbD1
      refine wE_call G_is_integer (hr.mono (by decide)) (by rfl) D_is_integer.g D_is_integer.F.kp D_is_integer.b ?_
      refine wA_cons ?_
      refine v 1 ?_
      refine wA_nil ?_
      refine ⟨rfl, _, rfl, ?_⟩
      refine ⟨_, _, rfl, rfl, ?_⟩
      refine lcW_cons (fun D2 => ?_)
      intro saD2 HaD2 CaD2 claD2 fpaD2
      refine g 1 sc_is_box.nd ?_
      intro sbD2 HbD2 CbD2 clbD2 fpbD2
      refine wE_call G_is_integer (hr.mono (by decide)) (by rfl) D_is_integer.g D_is_integer.F.kp D_is_integer.b ?_
      refine wA_cons ?_
      refine v 1 ?_
      refine wA_nil ?_
      refine ⟨rfl, _, rfl, ?_⟩
      refine ⟨_, _, rfl, rfl, ?_⟩
      refine lcW_cons (fun D3 => ?_)
      intro saD3 HaD3 CaD3 claD3 fpaD3
      refine g 1 sc_is_box.nd ?_
      intro sbD3 HbD3 CbD3 clbD3 fpbD3
      refine wE_call G_is_integer (hr.mono (by decide)) (by rfl) D_is_integer.g D_is_integer.F.kp D_is_integer.b ?_
      refine wA_cons ?_
      refine v 1 ?_
      refine wA_nil ?_
      refine ⟨rfl, _, rfl, ?_⟩
      refine ⟨_, _, rfl, rfl, ?_⟩
      refine lcW_cons (fun D4 => ?_)
      intro saD4 HaD4 CaD4 claD4 fpaD4
      refine g 1 sc_is_box.nd ?_
      intro sbD4 HbD4 CbD4 clbD4 fpbD4
      refine wE_call G_is_integer (hr.mono (by decide)) (by rfl) D_is_integer.g D_is_integer.F.kp D_is_integer.b ?_
      refine wA_cons ?_
      refine v 1 ?_
      refine wA_nil ?_
      refine ⟨rfl, _, rfl, ?_⟩
      refine ⟨_, _, rfl, rfl, ?_⟩
      refine lcW_cons (fun D5 => ?_)
      intro saD5 HaD5 CaD5 claD5 fpaD5
      refine g 1 sc_is_box.nd ?_
      intro sbD5 HbD5 CbD5 clbD5 fpbD5
      refine wE_call G_is_integer (hr.mono (by decide)) (by rfl) D_is_integer.g D_is_integer.F.kp D_is_integer.b ?_
      refine wA_cons ?_
      refine v 1 ?_
      refine wA_nil ?_
      refine ⟨rfl, _, rfl, ?_⟩
      refine ⟨_, _, rfl, rfl, ?_⟩
      refine lcW_cons (fun D6 => ?_)
      intro saD6 HaD6 CaD6 claD6 fpaD6
      refine g 1 sc_is_box.nd ?_
      intro sbD6 HbD6 CbD6 clbD6 fpbD6
      refine wE_call G_is_integer (hr.mono (by decide)) (by rfl) D_is_integer.g D_is_integer.F.kp D_is_integer.b ?_
      refine wA_cons ?_
      refine v 1 ?_
      refine wA_nil ?_
      refine ⟨rfl, _, rfl, ?_⟩
      refine ⟨_, _, rfl, rfl, ?_⟩
      refine lcW_nil ?_
      refine wA_nil ?_
      refine ⟨_, _, rfl, rfl, ?_⟩
      refine ⟨_, rfl, ?_⟩
      refine ⟨fun ht => absurd ht ((by first | exact Bool.false_ne_true | exact (fun h => Bool.noConfusion (show true = false from h)) | exact ne_false rfl | exact bool_t (by assumption) | exact bool_f (by assumption) | exact dec_t (by assumption) | exact dec_f (by assumption) | exact bool_nt (by assumption) | decide | omega | (simp_all; done) | (simp_all; omega))), fun _ => ?_⟩
      refine wSs_nil ?_
      refine wSs_cons ?_
      refine wS_ret ?_
      refine wE_callB (cr_all rfl) callD_gAll (by rfl) T.z_all (by decide +kernel) ?_
      refine wA_cons ?_
      refine wE_lc [("low", 2), ("high", 3)] rfl sc_is_box.nd (blkOk_by (N := ["value", "number", "low", "high"]) (sc := defScope s_is_box) (by decide +kernel)) ?_
      refine wI_seq ?_
      refine wE_call G_axes (hr.mono (by decide)) (by rfl) D_axes.g D_axes.F.kp D_axes.b ?_
      refine wA_cons ?_
      refine v 0 ?_
      refine wA_nil ?_
      refine ⟨rfl, [_], _, rfl, rfl, ?_⟩
      first | refine ⟨_, .inl rfl, ?_⟩ | refine ⟨_, .inr rfl, ?_⟩
      refine ⟨(by first | decide | (simp; done) | (simp; omega) | omega), ?_⟩
      refine lcW_cons (fun D7 => ?_)
      intro saD7 HaD7 CaD7 claD7 fpaD7
      refine wG_tup rfl rfl rfl ?_
      refine wGs_cons ?_
      refine g 2 sc_is_box.nd ?_
      refine wGs_cons ?_
      refine g 3 sc_is_box.nd ?_
      refine wGs_nil ?_
      intro sbD7 HbD7 CbD7 clbD7 fpbD7
      refine wE_lt ?_
      refine v 2 ?_
      refine v 3 ?_
      refine ⟨_, _, rfl, rfl, ?_⟩
      refine ⟨_, _, rfl, rfl, ?_⟩
      refine lcW_cons (fun D8 => ?_)
      intro saD8 HaD8 CaD8 claD8 fpaD8
      refine wG_tup rfl rfl rfl ?_
      refine wGs_cons ?_
      refine g 2 sc_is_box.nd ?_
      refine wGs_cons ?_
      refine g 3 sc_is_box.nd ?_
      refine wGs_nil ?_
      intro sbD8 HbD8 CbD8 clbD8 fpbD8
      refine wE_lt ?_
      refine v 2 ?_
      refine v 3 ?_
      refine ⟨_, _, rfl, rfl, ?_⟩
      refine ⟨_, _, rfl, rfl, ?_⟩
      refine lcW_cons (fun D9 => ?_)
      intro saD9 HaD9 CaD9 claD9 fpaD9
      refine wG_tup rfl rfl rfl ?_
      refine wGs_cons ?_
      refine g 2 sc_is_box.nd ?_
      refine wGs_cons ?_
      refine g 3 sc_is_box.nd ?_
      refine wGs_nil ?_
      intro sbD9 HbD9 CbD9 clbD9 fpbD9
      refine wE_lt ?_
      refine v 2 ?_
      refine v 3 ?_
      refine ⟨_, _, rfl, rfl, ?_⟩
      refine ⟨_, _, rfl, rfl, ?_⟩
      refine lcW_nil ?_
      refine wA_nil ?_
      refine ⟨_, _, rfl, rfl, ?_⟩
      exact Eq.mp (congrArg (fun z => kk (Dat.d (PyData.bool z)) m) (all3 _ _ _).symm) hk
    · have hi2 : (isIntB a && (isIntB b && (isIntB c && (isIntB d && (isIntB e && (isIntB f && true)))))) = false := by simpa using hi
      rw [boxB_eq hi2] at hk
      refine wSs_cons ?_
      refine wS_if ?_
      refine wT_or ?_
      refine wW_or ?_
      refine wT_not ?_
      refine wT_val ?_
      refine wE_callB call_isi callD_isi (by rfl) T.z_isinstance (by decide +kernel) ?_
      refine wA_cons ?_
      refine v 0 ?_
      refine wA_cons ?_
      refine wE_ty (n := "tuple") (by rfl) T.z_tuple (by decide +kernel) ?_
      refine wA_nil ?_
      refine ⟨_, _, _, rfl, kit_tuple _, ?_⟩
      refine ⟨_, rfl, ?_⟩
      refine ⟨fun _ => ?_, fun ht => absurd ht ((by first | exact Bool.false_ne_true | exact (fun h => Bool.noConfusion (show true = false from h)) | exact ne_false rfl | exact bool_t (by assumption) | exact bool_f (by assumption) | exact dec_t (by assumption) | exact dec_f (by assumption) | exact bool_nt (by assumption) | decide | omega | (simp_all; done) | (simp_all; omega)))⟩
      refine wW_or1 ?_
      refine wT_ne ?_
      refine wE_callB call_len callD_len (by rfl) T.z_len (by decide +kernel) ?_
      refine wA_cons ?_
      refine v 0 ?_
      refine wA_nil ?_
      first | refine ⟨_, rfl, .inl ⟨_, rfl, ?_⟩⟩ | refine ⟨_, rfl, .inr ⟨_, rfl, (by first | decide | (simp; done) | (simp; omega) | omega), ?_⟩⟩
      refine wE_int ?_
      first | refine .inl ⟨_, _, rfl, rfl, _, rfl, ?_⟩ | refine .inr (.inl ⟨_, _, rfl, rfl, _, rfl, ?_⟩) | refine .inr (.inr ⟨_, _, rfl, rfl, _, rfl, ?_⟩)
      refine ⟨fun ht => absurd ht ((by first | exact Bool.false_ne_true | exact (fun h => Bool.noConfusion (show true = false from h)) | exact ne_false rfl | exact bool_t (by assumption) | exact bool_f (by assumption) | exact dec_t (by assumption) | exact dec_f (by assumption) | exact bool_nt (by assumption) | decide | omega | (simp_all; done) | (simp_all; omega))), fun _ => ?_⟩
      refine wSs_nil ?_
      refine wSs_cons ?_
      refine wS_if ?_
      refine wT_not ?_
      refine wT_val ?_
      refine wE_callB (cr_all rfl) callD_gAll (by rfl) T.z_all (by decide +kernel) ?_
      refine wA_cons ?_
      refine wE_lc [("number", 1)] rfl sc_is_box.nd (blkOk_by (N := ["value", "number", "low", "high"]) (sc := defScope s_is_box) (by decide +kernel)) ?_
      refine wI_seq ?_
      refine v 0 ?_
      first | refine ⟨_, .inl rfl, ?_⟩ | refine ⟨_, .inr rfl, ?_⟩
      refine ⟨(by first | decide | (simp; done) | (simp; omega) | omega), ?_⟩
      refine lcW_cons (fun D1 => ?_)
      intro saD1 HaD1 CaD1 claD1 fpaD1
      refine g 1 sc_is_box.nd ?_
      intro sbD1 HbD1 CbD1 clbD1 fpbD1
      refine wE_call G_is_integer (hr.mono (by decide)) (by rfl) D_is_integer.g D_is_integer.F.kp D_is_integer.b ?_
      refine wA_cons ?_
      refine v 1 ?_
      refine wA_nil ?_
      refine ⟨rfl, _, rfl, ?_⟩
      refine ⟨_, _, rfl, rfl, ?_⟩
      refine lcW_cons (fun D2 => ?_)
      intro saD2 HaD2 CaD2 claD2 fpaD2
      refine g 1 sc_is_box.nd ?_
      intro sbD2 HbD2 CbD2 clbD2 fpbD2
      refine wE_call G_is_integer (hr.mono (by decide)) (by rfl) D_is_integer.g D_is_integer.F.kp D_is_integer.b ?_
      refine wA_cons ?_
      refine v 1 ?_
      refine wA_nil ?_
      refine ⟨rfl, _, rfl, ?_⟩
      refine ⟨_, _, rfl, rfl, ?_⟩
      refine lcW_cons (fun D3 => ?_)
      intro saD3 HaD3 CaD3 claD3 fpaD3
      refine g 1 sc_is_box.nd ?_
      intro sbD3 HbD3 CbD3 clbD3 fpbD3
      refine wE_call G_is_integer (hr.mono (by decide)) (by rfl) D_is_integer.g D_is_integer.F.kp D_is_integer.b ?_
      refine wA_cons ?_
      refine v 1 ?_
      refine wA_nil ?_
      refine ⟨rfl, _, rfl, ?_⟩
      refine ⟨_, _, rfl, rfl, ?_⟩
      refine lcW_cons (fun D4 => ?_)
      intro saD4 HaD4 CaD4 claD4 fpaD4
      refine g 1 sc_is_box.nd ?_
      intro sbD4 HbD4 CbD4 clbD4 fpbD4
      refine wE_call G_is_integer (hr.mono (by decide)) (by rfl) D_is_integer.g D_is_integer.F.kp D_is_integer.b ?_
      refine wA_cons ?_
      refine v 1 ?_
      refine wA_nil ?_
      refine ⟨rfl, _, rfl, ?_⟩
      refine ⟨_, _, rfl, rfl, ?_⟩
      refine lcW_cons (fun D5 => ?_)
      intro saD5 HaD5 CaD5 claD5 fpaD5
      refine g 1 sc_is_box.nd ?_
      intro sbD5 HbD5 CbD5 clbD5 fpbD5
      refine wE_call G_is_integer (hr.mono (by decide)) (by rfl) D_is_integer.g D_is_integer.F.kp D_is_integer.b ?_
      refine wA_cons ?_
      refine v 1 ?_
      refine wA_nil ?_
      refine ⟨rfl, _, rfl, ?_⟩
      refine ⟨_, _, rfl, rfl, ?_⟩
      refine lcW_cons (fun D6 => ?_)
      intro saD6 HaD6 CaD6 claD6 fpaD6
      refine g 1 sc_is_box.nd ?_
      intro sbD6 HbD6 CbD6 clbD6 fpbD6
      refine wE_call G_is_integer (hr.mono (by decide)) (by rfl) D_is_integer.g D_is_integer.F.kp D_is_integer.b ?_
      refine wA_cons ?_
      refine v 1 ?_
      refine wA_nil ?_
      refine ⟨rfl, _, rfl, ?_⟩
      refine ⟨_, _, rfl, rfl, ?_⟩
      refine lcW_nil ?_
      refine wA_nil ?_
      refine ⟨_, _, rfl, rfl, ?_⟩
      refine ⟨_, rfl, ?_⟩
      refine ⟨fun _ => ?_, fun ht => absurd ht ((by first | exact Bool.false_ne_true | exact (fun h => Bool.noConfusion (show true = false from h)) | exact ne_false rfl | exact bool_t (by assumption) | exact bool_f (by assumption) | exact dec_t (by assumption) | exact dec_f (by assumption) | exact bool_nt (by assumption) | decide | omega | (simp_all; done) | (simp_all; omega)))⟩
      refine wSs_cons ?_
      refine wS_ret ?_
      refine wE_bl ?_
      exact hk
  · rw [boxB_len hl] at hk
    refine wSs_cons ?_
    refine wS_if ?_
    refine wT_or ?_
    refine wW_or ?_
    refine wT_not ?_
    refine wT_val ?_
    refine wE_callB call_isi callD_isi (by rfl) T.z_isinstance (by decide +kernel) ?_
    refine wA_cons ?_
    refine v 0 ?_
    refine wA_cons ?_
    refine wE_ty (n := "tuple") (by rfl) T.z_tuple (by decide +kernel) ?_
    refine wA_nil ?_
    refine ⟨_, _, _, rfl, kit_tuple _, ?_⟩
    refine ⟨_, rfl, ?_⟩
    refine ⟨fun _ => ?_, fun ht => absurd ht ((by first | exact Bool.false_ne_true | exact (fun h => Bool.noConfusion (show true = false from h)) | exact ne_false rfl | exact bool_t (by assumption) | exact bool_f (by assumption) | exact dec_t (by assumption) | exact dec_f (by assumption) | exact bool_nt (by assumption) | decide | omega | (simp_all; done) | (simp_all; omega)))⟩
    refine wW_or1 ?_
    refine wT_ne ?_
    refine wE_callB call_len callD_len (by rfl) T.z_len (by decide +kernel) ?_
    refine wA_cons ?_
    refine v 0 ?_
    refine wA_nil ?_
    first | refine ⟨_, rfl, .inl ⟨_, rfl, ?_⟩⟩ | refine ⟨_, rfl, .inr ⟨_, rfl, (by first | decide | (simp; done) | (simp; omega) | omega), ?_⟩⟩
    refine wE_int ?_
    first | refine .inl ⟨_, _, rfl, rfl, _, rfl, ?_⟩ | refine .inr (.inl ⟨_, _, rfl, rfl, _, rfl, ?_⟩) | refine .inr (.inr ⟨_, _, rfl, rfl, _, rfl, ?_⟩)
    refine ⟨fun _ => ?_, fun ht => absurd ht ((by first | exact Bool.false_ne_true | exact (fun h => Bool.noConfusion (show true = false from h)) | exact ne_false rfl | exact bool_t (by assumption) | exact bool_f (by assumption) | exact dec_t (by assumption) | exact dec_f (by assumption) | exact bool_nt (by assumption) | decide | omega | (simp_all; done) | (simp_all; omega)))⟩
    refine wSs_cons ?_
    refine wS_ret ?_
    refine wE_bl ?_
    exact hk
  · rw [boxB_nt hn] at hk
    refine wSs_cons ?_
    refine wS_if ?_
    refine wT_or ?_
    refine wW_or ?_
    refine wT_not ?_
    refine wT_val ?_
    refine wE_callB call_isi callD_isi (by rfl) T.z_isinstance (by decide +kernel) ?_
    refine wA_cons ?_
    refine v 0 ?_
    refine wA_cons ?_
    refine wE_ty (n := "tuple") (by rfl) T.z_tuple (by decide +kernel) ?_
    refine wA_nil ?_
    refine ⟨_, _, _, rfl, kit_tuple _, ?_⟩
    refine ⟨_, rfl, ?_⟩
    refine ⟨fun ht => absurd ht ((by first | exact Bool.false_ne_true | exact (fun h => Bool.noConfusion (show true = false from h)) | exact ne_false rfl | exact bool_t (by assumption) | exact bool_f (by assumption) | exact dec_t (by assumption) | exact dec_f (by assumption) | exact bool_nt (by assumption) | decide | omega | (simp_all; done) | (simp_all; omega))), fun _ => ?_⟩
    refine ⟨fun _ => ?_, fun ht => absurd ht ((by first | exact Bool.false_ne_true | exact (fun h => Bool.noConfusion (show true = false from h)) | exact ne_false rfl | exact bool_t (by assumption) | exact bool_f (by assumption) | exact dec_t (by assumption) | exact dec_f (by assumption) | exact bool_nt (by assumption) | decide | omega | (simp_all; done) | (simp_all; omega)))⟩
    refine wSs_cons ?_
    refine wS_ret ?_
    refine wE_bl ?_
    exact hk
theorem ok_beside {f : Addr} {fd : FuncData} (D : DefAt K mg "_beside" s_beside ["cell", "parity"] f fd) (T : Txt K mg C_Lot) : FnG P w K mg base CX0 8 f fd ["cell", "parity"] (spD K 2 spBeside) := by
  refine fnD D.F sc_beside (fun cdv A outer s H E hr m ds kk hsp hlen => ?_)
  obtain ⟨c, p, rfl, hk⟩ := hsp
  refine wSs_cons ?_
  refine wS_setLc 2 [("index", 6)] rfl sc_beside.nd rfl rfl (sw_true rfl rfl rfl (by decide +kernel)) (blkOk_by (N := ["cell", "parity", "rows", "xs", "ys", "zs", "index", "x", "y", "z"]) (sc := defScope s_beside) (by decide +kernel)) ?_
  refine wI_seq ?_
  refine v 0 ?_
  first | refine ⟨_, .inl rfl, ?_⟩ | refine ⟨_, .inr rfl, ?_⟩
  refine ⟨(by first | decide | (simp; done) | (simp; omega) | omega), lcW_map (rowD p) (fun x hx m' k' hk => ?_) ?_⟩
  · obtain ⟨i, rfl⟩ : ∃ i : Int, x = .int i := by rcases List.mem_cons.mp hx with h | hx; exact ⟨_, h⟩; rcases List.mem_cons.mp hx with h | hx; exact ⟨_, h⟩; exact ⟨_, List.mem_singleton.mp hx⟩
    intro s1 H1 C1 cl1 fp1
    refine g 6 sc_beside.nd ?_
    intro s2 H2 C2 cl2 fp2
    refine wE_ite ?_
    refine wT_eq ?_
    refine wE_mod ?_
    refine v 6 ?_
    refine wE_int ?_
    refine ⟨_, _, rfl, rfl, (by first | decide | omega | exact big10.2), ?_⟩
    refine v 1 ?_
    first | refine .inl ⟨_, _, rfl, rfl, _, rfl, ?_⟩ | refine .inr (.inl ⟨_, _, rfl, rfl, _, rfl, ?_⟩) | refine .inr (.inr ⟨_, _, rfl, rfl, _, rfl, ?_⟩)
    refine ⟨fun ht => ?_, fun ht => ?_⟩
    · refine wE_lst ?_
      refine wA_cons ?_
      refine wE_sub ?_
      refine v 6 ?_
      refine wE_int ?_
      refine ⟨_, _, rfl, rfl, ?_⟩
      refine wA_cons ?_
      refine v 6 ?_
      refine wA_cons ?_
      refine wE_add ?_
      refine v 6 ?_
      refine wE_int ?_
      refine ⟨_, _, rfl, rfl, ?_⟩
      refine wA_nil ?_
      refine ⟨[_, _, _], rfl, (by first | decide | (simp; done) | (simp; omega) | omega), ?_⟩
      first | exact Eq.mp (congrArg (fun z => k' (Dat.d z) m') (rowD_t ht)) hk | exact Eq.mp (congrArg (fun z => k' (Dat.d z) m') (rowD_f ht)) hk
    · refine wE_lst ?_
      refine wA_cons ?_
      refine v 6 ?_
      refine wA_nil ?_
      refine ⟨[_], rfl, (by first | decide | (simp; done) | (simp; omega) | omega), ?_⟩
      first | exact Eq.mp (congrArg (fun z => k' (Dat.d z) m') (rowD_t ht)) hk | exact Eq.mp (congrArg (fun z => k' (Dat.d z) m') (rowD_f ht)) hk
  refine wSs_cons ?_
  refine wS_asg (List.range 40) ?_
  refine v 2 ?_
  first | refine wG_tup rfl rfl rfl ?_ | refine wG_lst rfl rfl rfl ?_
  refine wGs_cons ?_
  refine g 3 sc_beside.nd ?_
  refine wGs_cons ?_
  refine g 4 sc_beside.nd ?_
  refine wGs_cons ?_
  refine g 5 sc_beside.nd ?_
  refine wGs_nil ?_
  refine wSs_cons ?_
  refine wS_ret ?_
  refine wE_lc3 [("x", 7), ("y", 8), ("z", 9)] [8, 9] [9] rfl sc_beside.nd (blkOk_by (N := ["cell", "parity", "rows", "xs", "ys", "zs", "index", "x", "y", "z"]) (sc := defScope s_beside) (by decide +kernel)) (by decide) (by decide) ?_
  refine wI_seq ?_
  refine v 3 ?_
  first | refine ⟨_, .inl rfl, ?_⟩ | refine ⟨_, .inr rfl, ?_⟩
  intro D
  refine runA_add (N := 1000) (fun a => ((rowB c.y p).map PyData.int).flatMap fun b => ((rowB c.z p).map PyData.int).flatMap fun e => bes3 c a b e) (by decide) (fun a ha acc1 kk1 hl1 hk1 => ?_) (by have := bes_len c p; unfold besL at this; simpa using Nat.le_trans this (by decide)) (by rw [List.nil_append]; exact hk)
  obtain ⟨i, hi, rfl⟩ := List.mem_map.mp ha
  intro s1 H1 C1 cl1 fp1
  refine g 7 sc_beside.nd ?_
  intro s2 H2 C2 cl2 fp2
  refine wI_seq ?_
  refine v 4 ?_
  first | refine ⟨_, .inl rfl, ?_⟩ | refine ⟨_, .inr rfl, ?_⟩
  refine ⟨_, rfl, by omega, ?_⟩
  refine runA_add (N := 1000) (fun b => ((rowB c.z p).map PyData.int).flatMap fun e => bes3 c (.int i) b e) (by decide) (fun b hb acc2 kk2 hl2 hk2 => ?_) hl1 hk1
  obtain ⟨j, hj, rfl⟩ := List.mem_map.mp hb
  intro s3 H3 C3 cl3 fp3
  refine g 8 sc_beside.nd ?_
  intro s4 H4 C4 cl4 fp4
  refine wI_seq ?_
  refine v 5 ?_
  first | refine ⟨_, .inl rfl, ?_⟩ | refine ⟨_, .inr rfl, ?_⟩
  refine ⟨_, rfl, by omega, ?_⟩
  refine runA_add (N := 1000) (fun e => bes3 c (.int i) (.int j) e) (by decide) (fun e he acc3 kk3 hl3 hk3 => ?_) hl2 hk2
  obtain ⟨l, hl, rfl⟩ := List.mem_map.mp he
  intro s5 H5 C5 cl5 fp5
  refine g 9 sc_beside.nd ?_
  refine ⟨by omega, ?_⟩
  intro s6 H6 C6 cl6 fp6
  refine wT_neD (room65 hr) ?_
  refine wE_tup (xs := fun _ => True) ?_
  refine wA_cons ?_
  refine v 7 ?_
  refine wA_cons ?_
  refine v 8 ?_
  refine wA_cons ?_
  refine v 9 ?_
  refine wA_nil ?_
  refine ⟨[_, _, _], rfl, (by first | decide | (simp; done) | (simp; omega) | omega), ?_⟩
  refine v 0 ?_
  refine ⟨_, _, rfl, rfl, tup3_shaped _ _ _, cell_shaped c, _, rfl, ?_⟩
  refine ⟨_, rfl, fun hb => ?_, fun hb => ?_⟩
  · rw [bes3_t hb, List.append_nil] at hk3
    exact hk3
  rw [bes3_f hb] at hk3
  intro s7 H7 C7 cl7 fp7
  refine wE_tup (xs := fun _ => True) ?_
  refine wA_cons ?_
  refine v 7 ?_
  refine wA_cons ?_
  refine v 8 ?_
  refine wA_cons ?_
  refine v 9 ?_
  refine wA_nil ?_
  refine ⟨[_, _, _], rfl, (by first | decide | (simp; done) | (simp; omega) | omega), ?_⟩
  exact ⟨_, _, rfl, rfl, hk3⟩
theorem ok_rim_of {f : Addr} {fd : FuncData} (D : DefAt K mg "rim_of" s_rim_of ["cell"] f fd) (T : Txt K mg C_Lot) : FnG P w K mg base CX0 9 f fd ["cell"] (spD K 1 (spRim 1)) := by
  obtain ⟨f_beside, fd_beside, D_beside⟩ := T.d_beside
  have G_beside := ok_beside (P := P) (w := w) (base := base) D_beside T
  refine fnD D.F sc_rim_of (fun cdv A outer s H E hr m ds kk hsp hlen => ?_)
  obtain ⟨c, rfl, hk⟩ := hsp
  refine wSs_cons ?_
  refine wS_ret ?_
  refine wE_call G_beside (hr.mono (by decide)) (by rfl) D_beside.g D_beside.F.kp D_beside.b ?_
  refine wA_cons ?_
  refine v 0 ?_
  refine wA_cons ?_
  refine wE_int ?_
  refine wA_nil ?_
  refine ⟨rfl, c, _, rfl, ?_⟩
  exact hk
theorem ok_around_of {f : Addr} {fd : FuncData} (D : DefAt K mg "around_of" s_around_of ["cell"] f fd) (T : Txt K mg C_Lot) : FnG P w K mg base CX0 9 f fd ["cell"] (spD K 1 (spRim 0)) := by
  obtain ⟨f_beside, fd_beside, D_beside⟩ := T.d_beside
  have G_beside := ok_beside (P := P) (w := w) (base := base) D_beside T
  refine fnD D.F sc_around_of (fun cdv A outer s H E hr m ds kk hsp hlen => ?_)
  obtain ⟨c, rfl, hk⟩ := hsp
  refine wSs_cons ?_
  refine wS_ret ?_
  refine wE_call G_beside (hr.mono (by decide)) (by rfl) D_beside.g D_beside.F.kp D_beside.b ?_
  refine wA_cons ?_
  refine v 0 ?_
  refine wA_cons ?_
  refine wE_int ?_
  refine wA_nil ?_
  refine ⟨rfl, c, _, rfl, ?_⟩
  exact hk
theorem ok_is_cell {f : Addr} {fd : FuncData} (D : DefAt K mg "is_cell" s_is_cell ["value"] f fd) (T : Txt K mg C_Lot) : FnG P w K mg base CX0 3 f fd ["value"] (spD K 1 (spP1 fun x => .bool (cornerB x))) := by
  obtain ⟨f_is_integer, fd_is_integer, D_is_integer⟩ := T.d_is_integer
  have G_is_integer := ok_is_integer (P := P) (w := w) (base := base) D_is_integer T
  refine fnD D.F sc_is_cell (fun cdv A outer s H E hr m ds kk hsp hlen => ?_)
  obtain ⟨x, rfl, hk⟩ := hsp
  dsimp only at hk
  rcases shapeT 3 x with ⟨xs, rfl, hl⟩ | ⟨xs, rfl, hl⟩ | hn
  · obtain ⟨a, b, c, rfl⟩ := len3 hl
    refine wSs_cons ?_
    refine wS_if ?_
    refine wT_or ?_
    refine wW_or ?_
    refine wT_not ?_
    refine wT_val ?_
    refine wE_callB call_isi callD_isi (by rfl) T.z_isinstance (by decide +kernel) ?_
    refine wA_cons ?_
    refine v 0 ?_
    refine wA_cons ?_
    refine wE_ty (n := "tuple") (by rfl) T.z_tuple (by decide +kernel) ?_
    refine wA_nil ?_
    refine ⟨_, _, _, rfl, kit_tuple _, ?_⟩
    refine ⟨_, rfl, ?_⟩
    refine ⟨fun _ => ?_, fun ht => absurd ht ((by first | exact Bool.false_ne_true | exact (fun h => Bool.noConfusion (show true = false from h)) | exact ne_false rfl | exact bool_t (by assumption) | exact bool_f (by assumption) | exact dec_t (by assumption) | exact dec_f (by assumption) | exact bool_nt (by assumption) | decide | omega | (simp_all; done) | (simp_all; omega)))⟩
    refine wW_or1 ?_
    refine wT_ne ?_
    refine wE_callB call_len callD_len (by rfl) T.z_len (by decide +kernel) ?_
    refine wA_cons ?_
    refine v 0 ?_
    refine wA_nil ?_
    first | refine ⟨_, rfl, .inl ⟨_, rfl, ?_⟩⟩ | refine ⟨_, rfl, .inr ⟨_, rfl, (by first | decide | (simp; done) | (simp; omega) | omega), ?_⟩⟩
    refine wE_int ?_
    first | refine .inl ⟨_, _, rfl, rfl, _, rfl, ?_⟩ | refine .inr (.inl ⟨_, _, rfl, rfl, _, rfl, ?_⟩) | refine .inr (.inr ⟨_, _, rfl, rfl, _, rfl, ?_⟩)
    refine ⟨fun ht => absurd ht ((by first | exact Bool.false_ne_true | exact (fun h => Bool.noConfusion (show true = false from h)) | exact ne_false rfl | exact bool_t (by assumption) | exact bool_f (by assumption) | exact dec_t (by assumption) | exact dec_f (by assumption) | exact bool_nt (by assumption) | decide | omega | (simp_all; done) | (simp_all; omega))), fun _ => ?_⟩
    refine wSs_nil ?_
    refine wSs_cons ?_
    refine wS_ret ?_
    refine wE_callB (cr_all rfl) callD_gAll (by rfl) T.z_all (by decide +kernel) ?_
    refine wA_cons ?_
    refine wE_lc [("index", 1)] rfl sc_is_cell.nd (blkOk_by (N := ["value", "index"]) (sc := defScope s_is_cell) (by decide +kernel)) ?_
    refine wI_seq ?_
    refine v 0 ?_
    first | refine ⟨_, .inl rfl, ?_⟩ | refine ⟨_, .inr rfl, ?_⟩
    refine ⟨(by first | decide | (simp; done) | (simp; omega) | omega), ?_⟩
    refine lcW_cons (fun D1 => ?_)
    intro saD1 HaD1 CaD1 claD1 fpaD1
    refine g 1 sc_is_cell.nd ?_
    intro sbD1 HbD1 CbD1 clbD1 fpbD1
    refine wE_call G_is_integer (hr.mono (by decide)) (by rfl) D_is_integer.g D_is_integer.F.kp D_is_integer.b ?_
    refine wA_cons ?_
    refine v 1 ?_
    refine wA_nil ?_
    refine ⟨rfl, _, rfl, ?_⟩
    refine ⟨_, _, rfl, rfl, ?_⟩
    refine lcW_cons (fun D2 => ?_)
    intro saD2 HaD2 CaD2 claD2 fpaD2
    refine g 1 sc_is_cell.nd ?_
    intro sbD2 HbD2 CbD2 clbD2 fpbD2
    refine wE_call G_is_integer (hr.mono (by decide)) (by rfl) D_is_integer.g D_is_integer.F.kp D_is_integer.b ?_
    refine wA_cons ?_
    refine v 1 ?_
    refine wA_nil ?_
    refine ⟨rfl, _, rfl, ?_⟩
    refine ⟨_, _, rfl, rfl, ?_⟩
    refine lcW_cons (fun D3 => ?_)
    intro saD3 HaD3 CaD3 claD3 fpaD3
    refine g 1 sc_is_cell.nd ?_
    intro sbD3 HbD3 CbD3 clbD3 fpbD3
    refine wE_call G_is_integer (hr.mono (by decide)) (by rfl) D_is_integer.g D_is_integer.F.kp D_is_integer.b ?_
    refine wA_cons ?_
    refine v 1 ?_
    refine wA_nil ?_
    refine ⟨rfl, _, rfl, ?_⟩
    refine ⟨_, _, rfl, rfl, ?_⟩
    refine lcW_nil ?_
    refine wA_nil ?_
    refine ⟨_, _, rfl, rfl, ?_⟩
    rw [cornerB_eq] at hk; exact hk
  · rw [cornerB_len hl] at hk
    refine wSs_cons ?_
    refine wS_if ?_
    refine wT_or ?_
    refine wW_or ?_
    refine wT_not ?_
    refine wT_val ?_
    refine wE_callB call_isi callD_isi (by rfl) T.z_isinstance (by decide +kernel) ?_
    refine wA_cons ?_
    refine v 0 ?_
    refine wA_cons ?_
    refine wE_ty (n := "tuple") (by rfl) T.z_tuple (by decide +kernel) ?_
    refine wA_nil ?_
    refine ⟨_, _, _, rfl, kit_tuple _, ?_⟩
    refine ⟨_, rfl, ?_⟩
    refine ⟨fun _ => ?_, fun ht => absurd ht ((by first | exact Bool.false_ne_true | exact (fun h => Bool.noConfusion (show true = false from h)) | exact ne_false rfl | exact bool_t (by assumption) | exact bool_f (by assumption) | exact dec_t (by assumption) | exact dec_f (by assumption) | exact bool_nt (by assumption) | decide | omega | (simp_all; done) | (simp_all; omega)))⟩
    refine wW_or1 ?_
    refine wT_ne ?_
    refine wE_callB call_len callD_len (by rfl) T.z_len (by decide +kernel) ?_
    refine wA_cons ?_
    refine v 0 ?_
    refine wA_nil ?_
    first | refine ⟨_, rfl, .inl ⟨_, rfl, ?_⟩⟩ | refine ⟨_, rfl, .inr ⟨_, rfl, (by first | decide | (simp; done) | (simp; omega) | omega), ?_⟩⟩
    refine wE_int ?_
    first | refine .inl ⟨_, _, rfl, rfl, _, rfl, ?_⟩ | refine .inr (.inl ⟨_, _, rfl, rfl, _, rfl, ?_⟩) | refine .inr (.inr ⟨_, _, rfl, rfl, _, rfl, ?_⟩)
    refine ⟨fun _ => ?_, fun ht => absurd ht ((by first | exact Bool.false_ne_true | exact (fun h => Bool.noConfusion (show true = false from h)) | exact ne_false rfl | exact bool_t (by assumption) | exact bool_f (by assumption) | exact dec_t (by assumption) | exact dec_f (by assumption) | exact bool_nt (by assumption) | decide | omega | (simp_all; done) | (simp_all; omega)))⟩
    refine wSs_cons ?_
    refine wS_ret ?_
    refine wE_bl ?_
    exact hk
  · rw [cornerB_nt hn] at hk
    refine wSs_cons ?_
    refine wS_if ?_
    refine wT_or ?_
    refine wW_or ?_
    refine wT_not ?_
    refine wT_val ?_
    refine wE_callB call_isi callD_isi (by rfl) T.z_isinstance (by decide +kernel) ?_
    refine wA_cons ?_
    refine v 0 ?_
    refine wA_cons ?_
    refine wE_ty (n := "tuple") (by rfl) T.z_tuple (by decide +kernel) ?_
    refine wA_nil ?_
    refine ⟨_, _, _, rfl, kit_tuple _, ?_⟩
    refine ⟨_, rfl, ?_⟩
    refine ⟨fun ht => absurd ht ((by first | exact Bool.false_ne_true | exact (fun h => Bool.noConfusion (show true = false from h)) | exact ne_false rfl | exact bool_t (by assumption) | exact bool_f (by assumption) | exact dec_t (by assumption) | exact dec_f (by assumption) | exact bool_nt (by assumption) | decide | omega | (simp_all; done) | (simp_all; omega))), fun _ => ?_⟩
    refine ⟨fun _ => ?_, fun ht => absurd ht ((by first | exact Bool.false_ne_true | exact (fun h => Bool.noConfusion (show true = false from h)) | exact ne_false rfl | exact bool_t (by assumption) | exact bool_f (by assumption) | exact dec_t (by assumption) | exact dec_f (by assumption) | exact bool_nt (by assumption) | decide | omega | (simp_all; done) | (simp_all; omega)))⟩
    refine wSs_cons ?_
    refine wS_ret ?_
    refine wE_bl ?_
    exact hk
theorem ok_is_cube {f : Addr} {fd : FuncData} (D : DefAt K mg "is_cube" s_is_cube ["cell"] f fd) (T : Txt K mg C_Lot) : FnG P w K mg base CX0 1 f fd ["cell"] (spD K 1 spCube) := by
  refine fnD D.F sc_is_cube (fun cdv A outer s H E hr m ds kk hsp hlen => ?_)
  obtain ⟨c, rfl, hk⟩ := hsp
  refine wSs_cons ?_
  refine wS_ret ?_
  refine wE_callB (cr_all rfl) callD_gAll (by rfl) T.z_all (by decide +kernel) ?_
  refine wA_cons ?_
  refine wE_lc [("index", 1)] rfl sc_is_cube.nd (blkOk_by (N := ["cell", "index"]) (sc := defScope s_is_cube) (by decide +kernel)) ?_
  refine wI_seq ?_
  refine v 0 ?_
  first | refine ⟨_, .inl rfl, ?_⟩ | refine ⟨_, .inr rfl, ?_⟩
  refine ⟨(by first | decide | (simp; done) | (simp; omega) | omega), ?_⟩
  refine lcW_cons (fun D1 => ?_)
  intro saD1 HaD1 CaD1 claD1 fpaD1
  refine g 1 sc_is_cube.nd ?_
  intro sbD1 HbD1 CbD1 clbD1 fpbD1
  refine wE_eq ?_
  refine wE_mod ?_
  refine v 1 ?_
  refine wE_int ?_
  refine ⟨_, _, rfl, rfl, (by first | decide | omega | exact big10.2), ?_⟩
  refine wE_int ?_
  first | refine .inl ⟨_, _, rfl, rfl, ?_⟩ | refine .inr (.inl ⟨_, _, rfl, rfl, ?_⟩) | refine .inr (.inr ⟨_, _, rfl, rfl, ?_⟩)
  refine ⟨_, _, rfl, rfl, ?_⟩
  refine lcW_cons (fun D2 => ?_)
  intro saD2 HaD2 CaD2 claD2 fpaD2
  refine g 1 sc_is_cube.nd ?_
  intro sbD2 HbD2 CbD2 clbD2 fpbD2
  refine wE_eq ?_
  refine wE_mod ?_
  refine v 1 ?_
  refine wE_int ?_
  refine ⟨_, _, rfl, rfl, (by first | decide | omega | exact big10.2), ?_⟩
  refine wE_int ?_
  first | refine .inl ⟨_, _, rfl, rfl, ?_⟩ | refine .inr (.inl ⟨_, _, rfl, rfl, ?_⟩) | refine .inr (.inr ⟨_, _, rfl, rfl, ?_⟩)
  refine ⟨_, _, rfl, rfl, ?_⟩
  refine lcW_cons (fun D3 => ?_)
  intro saD3 HaD3 CaD3 claD3 fpaD3
  refine g 1 sc_is_cube.nd ?_
  intro sbD3 HbD3 CbD3 clbD3 fpbD3
  refine wE_eq ?_
  refine wE_mod ?_
  refine v 1 ?_
  refine wE_int ?_
  refine ⟨_, _, rfl, rfl, (by first | decide | omega | exact big10.2), ?_⟩
  refine wE_int ?_
  first | refine .inl ⟨_, _, rfl, rfl, ?_⟩ | refine .inr (.inl ⟨_, _, rfl, rfl, ?_⟩) | refine .inr (.inr ⟨_, _, rfl, rfl, ?_⟩)
  refine ⟨_, _, rfl, rfl, ?_⟩
  refine lcW_nil ?_
  refine wA_nil ?_
  refine ⟨_, _, rfl, rfl, ?_⟩
  exact hk
theorem ok_index_of {f : Addr} {fd : FuncData} (D : DefAt K mg "_index_of" s_index_of ["fraction"] f fd) (T : Txt K mg C_Lot) : FnG P w K mg base CX0 8 f fd ["fraction"] (spD K 1 spIdx) := by
  refine fnD D.F sc_index_of (fun cdv A outer s H E hr m ds kk hsp hlen => ?_)
  obtain ⟨t, b, rfl, ⟨ht, hb, hb1⟩, hk⟩ := hsp
  have hb2 := hb.2
  by_cases h1 : b = 1
  · rw [idx_e1 h1] at hk
    refine wSs_cons ?_
    refine wS_asg (List.range 40) ?_
    refine v 0 ?_
    refine wG_tup rfl rfl rfl ?_
    refine wGs_cons ?_
    refine g 1 sc_index_of.nd ?_
    refine wGs_cons ?_
    refine g 2 sc_index_of.nd ?_
    refine wGs_nil ?_
    refine wSs_cons ?_
    refine wS_ret ?_
    refine wE_ite ?_
    refine wT_eq ?_
    refine v 2 ?_
    refine wE_int ?_
    first | refine .inl ⟨_, _, rfl, rfl, _, rfl, ?_⟩ | refine .inr (.inl ⟨_, _, rfl, rfl, _, rfl, ?_⟩) | refine .inr (.inr ⟨_, _, rfl, rfl, _, rfl, ?_⟩)
    refine ⟨fun _ => ?_, fun ht => absurd ht ((by first | exact Bool.false_ne_true | exact (fun h => Bool.noConfusion (show true = false from h)) | exact ne_false rfl | exact bool_t (by assumption) | exact bool_f (by assumption) | exact dec_t (by assumption) | exact dec_f (by assumption) | exact bool_nt (by assumption) | decide | omega | (simp_all; done) | (simp_all; omega)))⟩
    refine wE_mul ?_
    refine wE_int ?_
    refine v 1 ?_
    refine ⟨_, _, rfl, rfl, (by exact Sm.mul ⟨by decide, by decide⟩ ht), ?_⟩
    exact hk
  · rw [idx_e2 h1] at hk
    have hd := div_sm hb1 ht
    refine wSs_cons ?_
    refine wS_asg (List.range 40) ?_
    refine v 0 ?_
    refine wG_tup rfl rfl rfl ?_
    refine wGs_cons ?_
    refine g 1 sc_index_of.nd ?_
    refine wGs_cons ?_
    refine g 2 sc_index_of.nd ?_
    refine wGs_nil ?_
    refine wSs_cons ?_
    refine wS_ret ?_
    refine wE_ite ?_
    refine wT_eq ?_
    refine v 2 ?_
    refine wE_int ?_
    first | refine .inl ⟨_, _, rfl, rfl, _, rfl, ?_⟩ | refine .inr (.inl ⟨_, _, rfl, rfl, _, rfl, ?_⟩) | refine .inr (.inr ⟨_, _, rfl, rfl, _, rfl, ?_⟩)
    refine ⟨fun ht => absurd ht ((by first | exact Bool.false_ne_true | exact (fun h => Bool.noConfusion (show true = false from h)) | exact ne_false rfl | exact bool_t (by assumption) | exact bool_f (by assumption) | exact dec_t (by assumption) | exact dec_f (by assumption) | exact bool_nt (by assumption) | decide | omega | (simp_all; done) | (simp_all; omega))), fun _ => ?_⟩
    refine wE_add ?_
    refine wE_mul ?_
    refine wE_int ?_
    refine wE_fdiv ?_
    refine v 1 ?_
    refine v 2 ?_
    refine ⟨_, _, rfl, rfl, (by exact cdiv (by omega) (by omega)), ?_⟩
    refine ⟨_, _, rfl, rfl, (by exact cmul (by decide) (by decide) (by omega) (by omega)), ?_⟩
    refine wE_int ?_
    refine ⟨_, _, rfl, rfl, ?_⟩
    exact hk
theorem ok_cell_of {f : Addr} {fd : FuncData} (D : DefAt K mg "cell_of" s_cell_of ["point"] f fd) (T : Txt K mg C_Lot) : FnG P w K mg base CX0 11 f fd ["point"] (spD K 1 spCellOf) := by
  obtain ⟨f_check_point, fd_check_point, D_check_point⟩ := T.d_check_point
  have G_check_point := ok_check_point (P := P) (w := w) (base := base) D_check_point T
  obtain ⟨f_index_of, fd_index_of, D_index_of⟩ := T.d_index_of
  have G_index_of := ok_index_of (P := P) (w := w) (base := base) D_index_of T
  refine fnD D.F sc_cell_of (fun cdv A outer s H E hr m ds kk hsp hlen => ?_)
  obtain ⟨p, rfl, hp, hk⟩ := hsp
  have hp2 := hp.ok
  refine wSs_cons ?_
  refine wS_expr ?_
  refine wE_call G_check_point (hr.mono (by decide)) (by rfl) D_check_point.g D_check_point.F.kp D_check_point.b ?_
  refine wA_cons ?_
  refine v 0 ?_
  refine wA_nil ?_
  refine ⟨rfl, _, rfl, hp2, ?_⟩
  refine wSs_cons ?_
  refine wS_ret ?_
  refine wE_callTy call_tuple_of callD_tuple (by rfl) T.z_tuple (by decide +kernel) ?_
  refine wA_cons ?_
  refine wE_lc [("fraction", 1)] rfl sc_cell_of.nd (blkOk_by (N := ["point", "fraction"]) (sc := defScope s_cell_of) (by decide +kernel)) ?_
  refine wI_seq ?_
  refine v 0 ?_
  first | refine ⟨_, .inl rfl, ?_⟩ | refine ⟨_, .inr rfl, ?_⟩
  refine ⟨(by first | decide | (simp; done) | (simp; omega) | omega), ?_⟩
  refine lcW_cons (fun D1 => ?_)
  intro saD1 HaD1 CaD1 claD1 fpaD1
  refine g 1 sc_cell_of.nd ?_
  intro sbD1 HbD1 CbD1 clbD1 fpbD1
  refine wE_call G_index_of (hr.mono (by decide)) (by rfl) D_index_of.g D_index_of.F.kp D_index_of.b ?_
  refine wA_cons ?_
  refine v 1 ?_
  refine wA_nil ?_
  refine ⟨rfl, _, _, rfl, ⟨hp.sa.1, hp.sa.2, hp.a.1⟩, ?_⟩
  refine ⟨_, _, rfl, rfl, ?_⟩
  refine lcW_cons (fun D2 => ?_)
  intro saD2 HaD2 CaD2 claD2 fpaD2
  refine g 1 sc_cell_of.nd ?_
  intro sbD2 HbD2 CbD2 clbD2 fpbD2
  refine wE_call G_index_of (hr.mono (by decide)) (by rfl) D_index_of.g D_index_of.F.kp D_index_of.b ?_
  refine wA_cons ?_
  refine v 1 ?_
  refine wA_nil ?_
  refine ⟨rfl, _, _, rfl, ⟨hp.sb.1, hp.sb.2, hp.b.1⟩, ?_⟩
  refine ⟨_, _, rfl, rfl, ?_⟩
  refine lcW_cons (fun D3 => ?_)
  intro saD3 HaD3 CaD3 claD3 fpaD3
  refine g 1 sc_cell_of.nd ?_
  intro sbD3 HbD3 CbD3 clbD3 fpbD3
  refine wE_call G_index_of (hr.mono (by decide)) (by rfl) D_index_of.g D_index_of.F.kp D_index_of.b ?_
  refine wA_cons ?_
  refine v 1 ?_
  refine wA_nil ?_
  refine ⟨rfl, _, _, rfl, ⟨hp.sc.1, hp.sc.2, hp.c.1⟩, ?_⟩
  refine ⟨_, _, rfl, rfl, ?_⟩
  refine lcW_nil ?_
  refine wA_nil ?_
  first | refine ⟨_, .inl rfl, ?_⟩ | refine ⟨_, .inr (.inl rfl), ?_⟩ | refine ⟨_, .inr (.inr ⟨_, rfl, lookup_hd⟩), ?_⟩
  exact hk
theorem ok_in_bounds {f : Addr} {fd : FuncData} (D : DefAt K mg "_in_bounds" s_in_bounds ["index"] f fd) (T : Txt K mg C_Lot) : FnG P w K mg base CX0 1 f fd ["index"] (spD K 1 spInBnd) := by
  refine fnD D.F sc_in_bounds (fun cdv A outer s H E hr m ds kk hsp hlen => ?_)
  obtain ⟨i, rfl, hb, hk⟩ := hsp
  refine wSs_cons ?_
  refine wS_ret ?_
  refine wE_leleI ?_
  refine wE_neg ?_
  refine wE_int ?_
  refine ⟨_, rfl, ?_⟩
  refine v 0 ?_
  refine ⟨_, _, rfl, rfl, fun hle => ?_, fun hle => ?_⟩
  · refine wE_int ?_
    refine ⟨_, rfl, ?_⟩
    exact Eq.mp (congrArg (fun z => kk (Dat.d (PyData.bool z)) m) (decide_eq_true hb.2).symm) hk
  exact absurd hle (by omega)
theorem ok_are_cells {f : Addr} {fd : FuncData} (D : DefAt K mg "_are_cells" s_are_cells ["value"] f fd) (T : Txt K mg C_Lot) : FnG P w K mg base CX0 4 f fd ["value"] (spD K 1 spAreCells) := by
  obtain ⟨f_is_cell, fd_is_cell, D_is_cell⟩ := T.d_is_cell
  have G_is_cell := ok_is_cell (P := P) (w := w) (base := base) D_is_cell T
  obtain ⟨f_in_bounds, fd_in_bounds, D_in_bounds⟩ := T.d_in_bounds
  have G_in_bounds := ok_in_bounds (P := P) (w := w) (base := base) D_in_bounds T
  refine fnD D.F sc_are_cells (fun cdv A outer s H E hr m ds kk hsp hlen => ?_)
  obtain ⟨l, rfl, ⟨hl, hb⟩, hk⟩ := hsp
  refine wSs_cons ?_
  refine wS_if ?_
  refine wT_or ?_
  refine wW_or ?_
  refine wT_not ?_
  refine wT_val ?_
  refine wE_callB call_isi callD_isi (by rfl) T.z_isinstance (by decide +kernel) ?_
  refine wA_cons ?_
  refine v 0 ?_
  refine wA_cons ?_
  refine wE_ty (n := "tuple") (by rfl) T.z_tuple (by decide +kernel) ?_
  refine wA_nil ?_
  refine ⟨_, _, _, rfl, kit_tuple _, ?_⟩
  refine ⟨_, rfl, ?_⟩
  refine ⟨fun _ => ?_, fun ht => absurd ht ((by first | exact Bool.false_ne_true | exact (fun h => Bool.noConfusion (show true = false from h)) | exact ne_false rfl | exact bool_t (by assumption) | exact bool_f (by assumption) | exact dec_t (by assumption) | exact dec_f (by assumption) | exact bool_nt (by assumption) | decide | omega | (simp_all; done) | (simp_all; omega)))⟩
  refine wW_or1 ?_
  refine wT_not ?_
  refine wT_val ?_
  refine wE_callB (cr_all rfl) callD_gAll (by rfl) T.z_all (by decide +kernel) ?_
  refine wA_cons ?_
  refine wE_lc [("cell", 1)] rfl sc_are_cells.nd (blkOk_by (N := ["value", "cell", "index"]) (sc := defScope s_are_cells) (by decide +kernel)) ?_
  refine wI_seq ?_
  refine v 0 ?_
  first | refine ⟨_, .inl rfl, ?_⟩ | refine ⟨_, .inr rfl, ?_⟩
  refine ⟨(by simpa using (by omega)), lcW_map (fun _ => .bool true) (fun x hx m' k' hk => ?_) ?_⟩
  · obtain ⟨c, hc, rfl⟩ := List.mem_map.mp hx
    rw [← cell_ok c] at hk
    intro s1 H1 C1 cl1 fp1
    refine g 1 sc_are_cells.nd ?_
    intro s2 H2 C2 cl2 fp2
    refine wE_call G_is_cell (hr.mono (by decide)) (by rfl) D_is_cell.g D_is_cell.F.kp D_is_cell.b ?_
    refine wA_cons ?_
    refine v 1 ?_
    refine wA_nil ?_
    refine ⟨rfl, _, rfl, ?_⟩
    exact hk
  refine wA_nil ?_
  refine ⟨_, _, rfl, bools_const _, ?_⟩
  rw [all_rep]
  refine ⟨_, rfl, ?_⟩
  refine ⟨fun ht => absurd ht ((by first | exact Bool.false_ne_true | exact (fun h => Bool.noConfusion (show true = false from h)) | exact ne_false rfl | exact bool_t (by assumption) | exact bool_f (by assumption) | exact dec_t (by assumption) | exact dec_f (by assumption) | exact bool_nt (by assumption) | decide | omega | (simp_all; done) | (simp_all; omega))), fun _ => ?_⟩
  refine wSs_nil ?_
  refine wSs_cons ?_
  refine wS_ret ?_
  refine wE_callB (cr_all rfl) callD_gAll (by rfl) T.z_all (by decide +kernel) ?_
  refine wA_cons ?_
  refine wE_lc2 [("cell", 1), ("index", 2)] [2] rfl sc_are_cells.nd (blkOk_by (N := ["value", "cell", "index"]) (sc := defScope s_are_cells) (by decide +kernel)) (by decide) ?_
  refine wI_seq ?_
  refine v 0 ?_
  first | refine ⟨_, .inl rfl, ?_⟩ | refine ⟨_, .inr rfl, ?_⟩
  refine lc2_flat itemsD (fun _ _ => .bool true) (fun x hx D acc kx ka hka => ?_) (by rw [flat_true]; simp; omega) ?_
  · obtain ⟨c, hc, rfl⟩ := List.mem_map.mp hx
    intro s1 H1 C1 cl1 fp1
    refine g 1 sc_are_cells.nd ?_
    intro s2 H2 C2 cl2 fp2
    refine wI_seq ?_
    refine v 1 ?_
    first | refine ⟨_, .inl rfl, ?_⟩ | refine ⟨_, .inr rfl, ?_⟩
    refine hka _ (fun y hy m' k' hk' => ?_)
    obtain ⟨i, rfl, hi⟩ : ∃ i : Int, y = .int i ∧ (-200 ≤ i ∧ i ≤ 200) := by
      have q := hb c hc
      rcases List.mem_cons.mp hy with h | hy
      · exact ⟨_, h, q.x⟩
      rcases List.mem_cons.mp hy with h | hy
      · exact ⟨_, h, q.y⟩
      exact ⟨_, List.mem_singleton.mp hy, q.z⟩
    intro s3 H3 C3 cl3 fp3
    refine g 2 sc_are_cells.nd ?_
    intro s4 H4 C4 cl4 fp4
    refine wE_call G_in_bounds (hr.mono (by decide)) (by rfl) D_in_bounds.g D_in_bounds.F.kp D_in_bounds.b ?_
    refine wA_cons ?_
    refine v 2 ?_
    refine wA_nil ?_
    refine ⟨rfl, _, rfl, hi, ?_⟩
    exact hk'
  refine wA_nil ?_
  refine ⟨_, _, rfl, (by rw [List.nil_append, flat_true]; exact boolsOf_rep _), ?_⟩
  rw [all_rep]
  exact hk
theorem ok_Lot___init {f : Addr} {fd : FuncData} (D : MethAt K C_Lot "__init__" "Lot.__init__" s_Lot___init ["self", "cells"] f fd) (T : Txt K mg C_Lot) : FnG P w K mg base CX0 5 f fd ["self", "cells"] (spI K C_Lot 1 (spLotI K C_Lot)) := by
  obtain ⟨f_are_cells, fd_are_cells, D_are_cells⟩ := T.d_are_cells
  have G_are_cells := ok_are_cells (P := P) (w := w) (base := base) D_are_cells T
  obtain ⟨f_is_cube, fd_is_cube, D_is_cube⟩ := T.d_is_cube
  have G_is_cube := ok_is_cube (P := P) (w := w) (base := base) D_is_cube T
  refine fnI D.F sc_Lot___init rfl (fun cdv A outer s H E hr m ds kk x0 m0 H0 hsp hlen => ?_)
  obtain ⟨l, rfl, ⟨hl, hb⟩, hk⟩ := hsp
  refine ⟨fun d hd => by rw [List.mem_singleton.mp hd]; trivial, ?_⟩
  refine wN_stm ?_
  refine wS_if ?_
  refine wT_not ?_
  refine wT_val ?_
  refine wE_call G_are_cells (hr.mono (by decide)) (by rfl) D_are_cells.g D_are_cells.F.kp D_are_cells.b ?_
  refine wA_cons ?_
  refine v 1 ?_
  refine wA_nil ?_
  refine ⟨rfl, l, rfl, ⟨hl, hb⟩, ?_⟩
  refine ⟨_, rfl, ?_⟩
  refine ⟨fun ht => absurd ht ((by first | exact Bool.false_ne_true | exact (fun h => Bool.noConfusion (show true = false from h)) | exact ne_false rfl | exact bool_t (by assumption) | exact bool_f (by assumption) | exact dec_t (by assumption) | exact dec_f (by assumption) | exact bool_nt (by assumption) | decide | omega | (simp_all; done) | (simp_all; omega))), fun _ => ?_⟩
  refine wSs_nil ?_
  refine ⟨rfl, ?_⟩
  refine wN_set rfl (by first | exact .inl rfl | exact .inr (.inl rfl) | exact .inr (.inr rfl)) T.cl T.n_own (by simp) ?_
  refine wE_dcK [("cell", 2)] rfl (roomU hr) sc_Lot___init.nd (blkOk_by (N := ["self", "cells", "cell"]) (sc := defScope s_Lot___init) (by decide +kernel)) ?_
  refine wI_seq ?_
  refine v 1 ?_
  first | refine ⟨_, .inl rfl, ?_⟩ | refine ⟨_, .inr rfl, ?_⟩
  refine ⟨by simpa using (by omega), ?_⟩
  rw [cells_tup]
  refine dcW_id (fun x hx m' k' hk' => ?_) ?_
  · intro s1 H1 C1 cl1 fp1
    refine g 2 sc_Lot___init.nd ?_
    intro s2 H2 C2 cl2 fp2
    refine v 2 ?_
    exact hk'
  refine ⟨vk K (keysOf l), fun _ _ _ h => h, vk_stb, vk_sti, (show ("_own" : Str) ∉ ([] : List Str) from by decide), ?_⟩
  refine wN_set rfl (by first | exact .inl rfl | exact .inr (.inl rfl) | exact .inr (.inr rfl)) T.cl T.n_cells (by simp) ?_
  refine wE_callTy call_tuple_of callD_tuple (by rfl) T.z_tuple (by decide +kernel) ?_
  refine wA_cons ?_
  refine wE_callB (cr_sortK rfl (room0 hr 64)) callD_sortK (by rfl) T.z_sorted (by decide +kernel) ?_
  refine wA_cons ?_
  refine wE_fld ?_
  refine v 0 ?_
  refine ⟨_, _, _, _, rfl, T.cl, T.n_own, (by first | exact lot_own | rfl), fd_k, ?_⟩
  refine wA_nil ?_
  refine ⟨_, rfl, keys_ne, ?_⟩
  refine wA_nil ?_
  first | refine ⟨_, .inl rfl, ?_⟩ | refine ⟨_, .inr (.inl rfl), ?_⟩ | refine ⟨_, .inr (.inr ⟨_, rfl, lookup_hd⟩), ?_⟩
  rw [canon_d]
  refine ⟨vd K (.tuple ((canon l).map CellN.d)), fun _ _ _ h => h, vd_stb, vd_sti, (show ("cells" : Str) ∉ (["_own"] : List Str) from by decide +kernel), ?_⟩
  refine wN_set rfl (by first | exact .inl rfl | exact .inr (.inl rfl) | exact .inr (.inr rfl)) T.cl T.n_cubes (by simp) ?_
  refine wE_callB call_len callD_len (by rfl) T.z_len (by decide +kernel) ?_
  refine wA_cons ?_
  refine wE_lcF [("cell", 2)] rfl sc_Lot___init.nd (blkOk_by (N := ["self", "cells", "cell"]) (sc := defScope s_Lot___init) (by decide +kernel)) ?_
  refine wI_seq ?_
  refine wE_fld ?_
  refine v 0 ?_
  refine ⟨_, _, _, _, rfl, T.cl, T.n_cells, (by first | exact lot_cells | rfl), fd_d, ?_⟩
  first | refine ⟨_, .inl rfl, ?_⟩ | refine ⟨_, .inr rfl, ?_⟩
  refine ⟨(by have := canon_len l; simpa using (by omega)), lcF_filter cubeD id (fun x hx m' kt ke hy hn => ?_) ?_⟩
  · obtain ⟨c, hc, rfl⟩ := List.mem_map.mp hx
    intro s1 H1 C1 cl1 fp1
    refine g 2 sc_Lot___init.nd ?_
    intro s2 H2 C2 cl2 fp2
    refine wT_val ?_
    refine wE_call G_is_cube (hr.mono (by decide)) (by rfl) D_is_cube.g D_is_cube.F.kp D_is_cube.b ?_
    refine wA_cons ?_
    refine v 2 ?_
    refine wA_nil ?_
    refine ⟨rfl, _, rfl, ?_⟩
    refine ⟨_, rfl, ?_⟩
    refine ⟨fun ht => ?_, fun ht => hn ht⟩
    intro s3 H3 C3 cl3 fp3
    refine v 2 ?_
    exact hy ht
  refine wA_nil ?_
  refine ⟨_, rfl, .inl ⟨_, rfl, ?_⟩⟩
  simp only [List.nil_append]
  rw [filt_cells cubeD cubeB (fun _ => rfl), List.length_map]
  refine ⟨vd K (.int (nCub (canon l))), fun _ _ _ h => h, vd_stb, vd_sti, (show ("cubes" : Str) ∉ (["_own", "cells"] : List Str) from by decide +kernel), ?_⟩
  refine wN_nil ?_
  exact hk
theorem ok_Lot___eq {f : Addr} {fd : FuncData} (D : MethAt K C_Lot "__eq__" "Lot.__eq__" s_Lot___eq ["self", "other"] f fd) (T : Txt K mg C_Lot) : FnG P w K mg base CX0 7 f fd ["self", "other"] (spD K 2 (spLotEq K C_Lot)) := by
  refine fnD D.F sc_Lot___eq (fun cdv A outer s H E hr m ds kk hsp hlen => ?_)
  obtain ⟨a, ⟨b, rfl, hk⟩ | ⟨d, rfl, hk⟩⟩ := hsp
  · refine wSs_cons ?_
    refine wS_ret ?_
    refine wE_and ?_
    refine wE_callB call_isi (callD_isO (C := C_Lot)) (by rfl) T.z_isinstance (by decide +kernel) ?_
    refine wA_cons ?_
    refine v 1 ?_
    refine wA_cons ?_
    refine wE_cls (by rfl) T.mgLot ?_
    refine wA_nil ?_
    refine .inl ⟨_, rfl, T.ci, ?_⟩
    refine ⟨_, rfl, fun _ => ?_, fun ht => absurd ht ((by first | exact Bool.false_ne_true | exact (fun h => Bool.noConfusion (show true = false from h)) | exact ne_false rfl | exact bool_t (by assumption) | exact bool_f (by assumption) | exact dec_t (by assumption) | exact dec_f (by assumption) | exact bool_nt (by assumption) | decide | omega | (simp_all; done) | (simp_all; omega)))⟩
    refine wE_and1 ?_
    refine wE_eqD (room65 hr) ?_
    refine wE_fld ?_
    refine v 0 ?_
    refine ⟨_, _, _, _, rfl, T.cl, T.n_cells, (by first | exact lot_cells | rfl), fd_d, ?_⟩
    refine wE_fld ?_
    refine v 1 ?_
    refine ⟨_, _, _, _, rfl, T.cl, T.n_cells, (by first | exact lot_cells | rfl), fd_d, ?_⟩
    refine ⟨_, _, rfl, rfl, cellsT_shaped _, cellsT_shaped _, ?_⟩
    rw [← eqv_cells] at hk; exact hk
  · refine wSs_cons ?_
    refine wS_ret ?_
    refine wE_and ?_
    refine wE_callB call_isi (callD_isO (C := C_Lot)) (by rfl) T.z_isinstance (by decide +kernel) ?_
    refine wA_cons ?_
    refine v 1 ?_
    refine wA_cons ?_
    refine wE_cls (by rfl) T.mgLot ?_
    refine wA_nil ?_
    refine .inr ⟨_, rfl, T.kn, ?_⟩
    refine ⟨_, rfl, fun ht => absurd ht ((by first | exact Bool.false_ne_true | exact (fun h => Bool.noConfusion (show true = false from h)) | exact ne_false rfl | exact bool_t (by assumption) | exact bool_f (by assumption) | exact dec_t (by assumption) | exact dec_f (by assumption) | exact bool_nt (by assumption) | decide | omega | (simp_all; done) | (simp_all; omega))), fun _ => ?_⟩
    exact hk
theorem ok_Lot___len {f : Addr} {fd : FuncData} (D : MethAt K C_Lot "__len__" "Lot.__len__" s_Lot___len ["self"] f fd) (T : Txt K mg C_Lot) : FnG P w K mg base CX0 1 f fd ["self"] (spD K 1 (spLotLen K C_Lot)) := by
  refine fnD D.F sc_Lot___len (fun cdv A outer s H E hr m ds kk hsp hlen => ?_)
  obtain ⟨l, rfl, hk⟩ := hsp
  refine wSs_cons ?_
  refine wS_ret ?_
  refine wE_callB call_len callD_len (by rfl) T.z_len (by decide +kernel) ?_
  refine wA_cons ?_
  refine wE_fld ?_
  refine v 0 ?_
  refine ⟨_, _, _, _, rfl, T.cl, T.n_cells, (by first | exact lot_cells | rfl), fd_d, ?_⟩
  refine wA_nil ?_
  first | refine ⟨_, rfl, .inl ⟨_, rfl, ?_⟩⟩ | refine ⟨_, rfl, .inr ⟨_, rfl, (by first | decide | (simp; done) | (simp; omega) | omega), ?_⟩⟩
  rw [List.length_map]; exact hk
theorem ok_check_lot {f : Addr} {fd : FuncData} (D : DefAt K mg "check_lot" s_check_lot ["value"] f fd) (T : Txt K mg C_Lot) : FnG P w K mg base CX0 7 f fd ["value"] (spD K 1 (spChkLot K C_Lot)) := by
  refine fnD D.F sc_check_lot (fun cdv A outer s H E hr m ds kk hsp hlen => ?_)
  obtain ⟨l, rfl, hk⟩ := hsp
  refine wSs_cons ?_
  refine wS_if ?_
  refine wT_not ?_
  refine wT_val ?_
  refine wE_callB call_isi (callD_isO (C := C_Lot)) (by rfl) T.z_isinstance (by decide +kernel) ?_
  refine wA_cons ?_
  refine v 0 ?_
  refine wA_cons ?_
  refine wE_cls (by rfl) T.mgLot ?_
  refine wA_nil ?_
  refine .inl ⟨_, rfl, T.ci, ?_⟩
  refine ⟨_, rfl, ?_⟩
  refine ⟨fun ht => absurd ht ((by first | exact Bool.false_ne_true | exact (fun h => Bool.noConfusion (show true = false from h)) | exact ne_false rfl | exact bool_t (by assumption) | exact bool_f (by assumption) | exact dec_t (by assumption) | exact dec_f (by assumption) | exact bool_nt (by assumption) | decide | omega | (simp_all; done) | (simp_all; omega))), fun _ => ?_⟩
  refine wSs_nil ?_
  refine wSs_nil ?_
  exact hk
theorem ok_Lot_has {f : Addr} {fd : FuncData} (D : MethAt K C_Lot "has" "Lot.has" s_Lot_has ["self", "point"] f fd) (T : Txt K mg C_Lot) : FnG P w K mg base CX0 12 f fd ["self", "point"] (spD K 2 (spLotHas K C_Lot)) := by
  obtain ⟨f_cell_of, fd_cell_of, D_cell_of⟩ := T.d_cell_of
  have G_cell_of := ok_cell_of (P := P) (w := w) (base := base) D_cell_of T
  refine fnD D.F sc_Lot_has (fun cdv A outer s H E hr m ds kk hsp hlen => ?_)
  obtain ⟨l, p, rfl, hp, hk⟩ := hsp
  refine wSs_cons ?_
  refine wS_ret ?_
  refine wE_inK (room0 hr 1) ?_
  refine wE_call G_cell_of (hr.mono (by decide)) (by rfl) D_cell_of.g D_cell_of.F.kp D_cell_of.b ?_
  refine wA_cons ?_
  refine v 1 ?_
  refine wA_nil ?_
  refine ⟨rfl, p, rfl, hp, ?_⟩
  refine wE_fld ?_
  refine v 0 ?_
  refine ⟨_, _, _, _, rfl, T.cl, T.n_own, (by first | exact lot_own | rfl), fd_k, ?_⟩
  refine ⟨CellN.k (idxP p), _, rfl, rfl, ?_⟩
  rw [← dec_keys] at hk; exact hk
theorem ok_Lot_is_in {f : Addr} {fd : FuncData} (D : MethAt K C_Lot "is_in" "Lot.is_in" s_Lot_is_in ["self", "other"] f fd) (T : Txt K mg C_Lot) : FnG P w K mg base CX0 8 f fd ["self", "other"] (spD K 2 (spLotIn K C_Lot)) := by
  obtain ⟨f_check_lot, fd_check_lot, D_check_lot⟩ := T.d_check_lot
  have G_check_lot := ok_check_lot (P := P) (w := w) (base := base) D_check_lot T
  refine fnD D.F sc_Lot_is_in (fun cdv A outer s H E hr m ds kk hsp hlen => ?_)
  obtain ⟨a, b, rfl, hl, hk⟩ := hsp
  refine wSs_cons ?_
  refine wS_expr ?_
  refine wE_call G_check_lot (hr.mono (by decide)) (by rfl) D_check_lot.g D_check_lot.F.kp D_check_lot.b ?_
  refine wA_cons ?_
  refine v 1 ?_
  refine wA_nil ?_
  refine ⟨rfl, _, rfl, ?_⟩
  refine wSs_cons ?_
  refine wS_ret ?_
  refine wE_callB (cr_all rfl) callD_gAll (by rfl) T.z_all (by decide +kernel) ?_
  refine wA_cons ?_
  refine wE_lc [("cell", 2)] rfl sc_Lot_is_in.nd (blkOk_by (N := ["self", "other", "cell"]) (sc := defScope s_Lot_is_in) (by decide +kernel)) ?_
  refine wI_seq ?_
  refine wE_fld ?_
  refine v 0 ?_
  refine ⟨_, _, _, _, rfl, T.cl, T.n_cells, (by first | exact lot_cells | rfl), fd_d, ?_⟩
  first | refine ⟨_, .inl rfl, ?_⟩ | refine ⟨_, .inr rfl, ?_⟩
  refine ⟨(by have := canon_len a; simpa using (by omega)), lcW_map (fun x => .bool (memD b x)) (fun x hx m' k' hk => ?_) ?_⟩
  · obtain ⟨c, hc, rfl⟩ := List.mem_map.mp hx
    have hk : k' (.d (.bool (decide (c ∈ b)))) m' := hk
    rw [← dec_keys] at hk
    intro s1 H1 C1 cl1 fp1
    refine g 2 sc_Lot_is_in.nd ?_
    intro s2 H2 C2 cl2 fp2
    refine wE_inK (room0 hr 1) ?_
    refine v 2 ?_
    refine wE_fld ?_
    refine v 1 ?_
    refine ⟨_, _, _, _, rfl, T.cl, T.n_own, (by first | exact lot_own | rfl), fd_k, ?_⟩
    refine ⟨CellN.k c, _, rfl, rfl, ?_⟩
    exact hk
  refine wA_nil ?_
  refine ⟨_, _, rfl, bools_map (fun c => decide (c ∈ b)) (fun x => .bool (memD b x)) (fun _ => rfl) _, ?_⟩
  rw [List.all_map]; exact hk
end
end K9

set_option Elab.async false
set_option linter.all false
set_option maxRecDepth 100000
set_option maxHeartbeats 4000000
namespace K9
open PySem PySem.Spec PyProof.Rows L2 DW
section
variable [TabsC] {P : Program} {w : World} {K : PySem.W.Frag} {mg : Str → Option Value} {base : Heap} {C_Lot : Addr}
theorem ok_are_boxes {f : Addr} {fd : FuncData} (D : DefAt K mg "are_boxes" s_are_boxes ["value", "least", "most", "low", "high"] f fd) (T : Txt K mg C_Lot) : FnG P w K mg base CX0 4 f fd ["value", "least", "most", "low", "high"] (spD K 5 spAreBoxes) := by
  obtain ⟨f_is_box, fd_is_box, D_is_box⟩ := T.d_is_box
  have G_is_box := ok_is_box (P := P) (w := w) (base := base) D_is_box T
  refine fnD D.F sc_are_boxes (fun cdv A outer s H E hr m ds kk hsp hlen => ?_)
  obtain ⟨bs, rfl, ⟨hl, hb⟩, hk⟩ := hsp
  refine wSs_cons ?_
  refine wS_if ?_
  refine wT_or ?_
  refine wW_or ?_
  refine wT_not ?_
  refine wT_val ?_
  refine wE_callB call_isi callD_isi (by rfl) T.z_isinstance (by decide +kernel) ?_
  refine wA_cons ?_
  refine v 0 ?_
  refine wA_cons ?_
  refine wE_ty (n := "tuple") (by rfl) T.z_tuple (by decide +kernel) ?_
  refine wA_nil ?_
  refine ⟨_, _, _, rfl, kit_tuple _, ?_⟩
  refine ⟨_, rfl, ?_⟩
  refine ⟨fun _ => ?_, fun ht => absurd ht ((by first | exact Bool.false_ne_true | exact (fun h => Bool.noConfusion (show true = false from h)) | exact ne_false rfl | exact bool_t (by assumption) | exact bool_f (by assumption) | exact dec_t (by assumption) | exact dec_f (by assumption) | exact bool_nt (by assumption) | decide | omega | (simp_all; done) | (simp_all; omega)))⟩
  refine wW_or1 ?_
  refine wT_not ?_
  refine wT_leleI ?_
  refine v 1 ?_
  refine wE_callB call_len callD_len (by rfl) T.z_len (by decide +kernel) ?_
  refine wA_cons ?_
  refine v 0 ?_
  refine wA_nil ?_
  refine ⟨_, rfl, .inl ⟨_, rfl, ?_⟩⟩
  refine ⟨_, _, rfl, rfl, fun _ => ?_, fun hc => absurd (Int.natCast_nonneg _) hc⟩
  refine v 2 ?_
  refine ⟨_, rfl, ?_⟩
  refine ⟨fun ht => absurd ht ((by simp; omega)), fun _ => ?_⟩
  refine wSs_nil ?_
  refine wSs_cons ?_
  refine wS_if ?_
  refine wT_not ?_
  refine wT_val ?_
  refine wE_callB (cr_all rfl) callD_gAll (by rfl) T.z_all (by decide +kernel) ?_
  refine wA_cons ?_
  refine wE_lc [("box", 5)] rfl sc_are_boxes.nd (blkOk_by (N := ["value", "least", "most", "low", "high", "box", "number"]) (sc := defScope s_are_boxes) (by decide +kernel)) ?_
  refine wI_seq ?_
  refine v 0 ?_
  first | refine ⟨_, .inl rfl, ?_⟩ | refine ⟨_, .inr rfl, ?_⟩
  refine ⟨(by simpa using (by omega)), lcW_map (fun _ => .bool true) (fun x hx m' k' hk => ?_) ?_⟩
  · obtain ⟨b, hc, rfl⟩ := List.mem_map.mp hx
    have e := (hb b hc).1.ok
    rw [← e] at hk
    intro s1 H1 C1 cl1 fp1
    refine g 5 sc_are_boxes.nd ?_
    intro s2 H2 C2 cl2 fp2
    refine wE_call G_is_box (hr.mono (by decide)) (by rfl) D_is_box.g D_is_box.F.kp D_is_box.b ?_
    refine wA_cons ?_
    refine v 5 ?_
    refine wA_nil ?_
    refine ⟨rfl, _, rfl, ?_⟩
    exact hk
  refine wA_nil ?_
  refine ⟨_, _, rfl, bools_const _, ?_⟩
  rw [all_rep]
  refine ⟨_, rfl, ?_⟩
  refine ⟨fun ht => absurd ht ((by first | exact Bool.false_ne_true | exact (fun h => Bool.noConfusion (show true = false from h)) | exact ne_false rfl | exact bool_t (by assumption) | exact bool_f (by assumption) | exact dec_t (by assumption) | exact dec_f (by assumption) | exact bool_nt (by assumption) | decide | omega | (simp_all; done) | (simp_all; omega))), fun _ => ?_⟩
  refine wSs_nil ?_
  refine wSs_cons ?_
  refine wS_ret ?_
  refine wE_callB (cr_all rfl) callD_gAll (by rfl) T.z_all (by decide +kernel) ?_
  refine wA_cons ?_
  refine wE_lc2 [("box", 5), ("number", 6)] [6] rfl sc_are_boxes.nd (blkOk_by (N := ["value", "least", "most", "low", "high", "box", "number"]) (sc := defScope s_are_boxes) (by decide +kernel)) (by decide) ?_
  refine wI_seq ?_
  refine v 0 ?_
  first | refine ⟨_, .inl rfl, ?_⟩ | refine ⟨_, .inr rfl, ?_⟩
  refine lc2_flat itemsD (fun _ _ => .bool true) (fun x hx D acc kx ka hka => ?_) (by rw [flat_trueB]; simp; omega) ?_
  · obtain ⟨b, hc, rfl⟩ := List.mem_map.mp hx
    intro s1 H1 C1 cl1 fp1
    refine g 5 sc_are_boxes.nd ?_
    intro s2 H2 C2 cl2 fp2
    refine wI_seq ?_
    refine v 5 ?_
    first | refine ⟨_, .inl rfl, ?_⟩ | refine ⟨_, .inr rfl, ?_⟩
    refine hka _ (fun y hy m' k' hk' => ?_)
    obtain ⟨i, rfl, hi⟩ : ∃ i : Int, y = .int i ∧ (-90 ≤ i ∧ i ≤ 90) := by
      obtain ⟨⟨o1, o2, o3⟩, ⟨o4, o5⟩, ⟨o6, o7⟩, o8, o9⟩ := hb b hc
      have hy : y ∈ [PyData.int b.x0, .int b.x1, .int b.y0, .int b.y1, .int b.z0, .int b.z1] := hy
      simp only [List.mem_cons, List.not_mem_nil, or_false] at hy
      rcases hy with h | h | h | h | h | h
      all_goals exact ⟨_, h, by omega, by omega⟩
    intro s3 H3 C3 cl3 fp3
    refine g 6 sc_are_boxes.nd ?_
    intro s4 H4 C4 cl4 fp4
    refine wE_leleI ?_
    refine v 3 ?_
    refine v 6 ?_
    refine ⟨_, _, rfl, rfl, fun hle => ?_, fun hle => ?_⟩
    · refine v 4 ?_
      refine ⟨_, rfl, ?_⟩
      exact Eq.mp (congrArg (fun z => k' (Dat.d (PyData.bool z)) m') (decide_eq_true hi.2).symm) hk'
    exact absurd hle (by omega)
  refine wA_nil ?_
  refine ⟨_, _, rfl, (by rw [List.nil_append, flat_trueB]; exact boolsOf_rep _), ?_⟩
  rw [all_rep]
  exact hk
theorem ok_check_boxes {f : Addr} {fd : FuncData} (D : DefAt K mg "check_boxes" s_check_boxes ["value"] f fd) (T : Txt K mg C_Lot) : FnG P w K mg base CX0 5 f fd ["value"] (spD K 1 spChkBoxes) := by
  obtain ⟨f_are_boxes, fd_are_boxes, D_are_boxes⟩ := T.d_are_boxes
  have G_are_boxes := ok_are_boxes (P := P) (w := w) (base := base) D_are_boxes T
  refine fnD D.F sc_check_boxes (fun cdv A outer s H E hr m ds kk hsp hlen => ?_)
  obtain ⟨bs, rfl, ⟨hl, hb⟩, hk⟩ := hsp
  refine wSs_cons ?_
  refine wS_if ?_
  refine wT_not ?_
  refine wT_val ?_
  refine wE_call G_are_boxes (hr.mono (by decide)) (by rfl) D_are_boxes.g D_are_boxes.F.kp D_are_boxes.b ?_
  refine wA_cons ?_
  refine v 0 ?_
  refine wA_cons ?_
  refine wE_int ?_
  refine wA_cons ?_
  refine wE_int ?_
  refine wA_cons ?_
  refine wE_neg ?_
  refine wE_int ?_
  refine ⟨_, rfl, ?_⟩
  refine wA_cons ?_
  refine wE_int ?_
  refine wA_nil ?_
  refine ⟨rfl, bs, rfl, ⟨hl, hb⟩, ?_⟩
  refine ⟨_, rfl, ?_⟩
  refine ⟨fun ht => absurd ht ((by first | exact Bool.false_ne_true | exact (fun h => Bool.noConfusion (show true = false from h)) | exact ne_false rfl | exact bool_t (by assumption) | exact bool_f (by assumption) | exact dec_t (by assumption) | exact dec_f (by assumption) | exact bool_nt (by assumption) | decide | omega | (simp_all; done) | (simp_all; omega))), fun _ => ?_⟩
  refine wSs_nil ?_
  refine wSs_nil ?_
  exact hk
theorem ok_cells_of_box {f : Addr} {fd : FuncData} (D : DefAt K mg "_cells_of_box" s_cells_of_box ["box", "inset"] f fd) (T : Txt K mg C_Lot) : FnG P w K mg base CX0 2 f fd ["box", "inset"] (spD K 2 spCellsOf) := by
  obtain ⟨f_axes, fd_axes, D_axes⟩ := T.d_axes
  have G_axes := ok_axes (P := P) (w := w) (base := base) D_axes T
  refine fnD D.F sc_cells_of_box (fun cdv A outer s H E hr m ds kk hsp hlen => ?_)
  obtain ⟨b, i, rfl, hb, hi, hk⟩ := hsp
  obtain ⟨q1, q2, q3⟩ := hb.tri
  refine wSs_cons ?_
  refine wS_asg (List.range 40) ?_
  refine wE_lc [("low", 8), ("high", 9)] rfl sc_cells_of_box.nd (blkOk_by (N := ["box", "inset", "xs", "ys", "zs", "x", "y", "z", "low", "high"]) (sc := defScope s_cells_of_box) (by decide +kernel)) ?_
  refine wI_seq ?_
  refine wE_call G_axes (hr.mono (by decide)) (by rfl) D_axes.g D_axes.F.kp D_axes.b ?_
  refine wA_cons ?_
  refine v 0 ?_
  refine wA_nil ?_
  refine ⟨rfl, [_], _, rfl, rfl, ?_⟩
  first | refine ⟨_, .inl rfl, ?_⟩ | refine ⟨_, .inr rfl, ?_⟩
  refine ⟨(by first | decide | (simp; done) | (simp; omega) | omega), ?_⟩
  refine lcW_cons (fun D1 => ?_)
  intro saD1 HaD1 CaD1 claD1 fpaD1
  first | refine wG_tup rfl rfl rfl ?_ | refine wG_lst rfl rfl rfl ?_
  refine wGs_cons ?_
  refine g 8 sc_cells_of_box.nd ?_
  refine wGs_cons ?_
  refine g 9 sc_cells_of_box.nd ?_
  refine wGs_nil ?_
  intro sbD1 HbD1 CbD1 clbD1 fpbD1
  refine wE_listRg2 rfl (by rfl) T.z_list (by rfl) T.z_range ?_
  refine wE_add ?_
  refine wE_mul ?_
  refine wE_int ?_
  refine v 8 ?_
  refine ⟨_, _, rfl, rfl, (by first | exact cmul (by omega) (by omega) (by omega) (by omega) | exact cmul (by decide) (by decide) (by decide) (by decide)), ?_⟩
  refine v 1 ?_
  refine ⟨_, _, rfl, rfl, ?_⟩
  refine wE_sub ?_
  refine wE_add ?_
  refine wE_mul ?_
  refine wE_int ?_
  refine v 9 ?_
  refine ⟨_, _, rfl, rfl, (by first | exact cmul (by omega) (by omega) (by omega) (by omega) | exact cmul (by decide) (by decide) (by decide) (by decide)), ?_⟩
  refine wE_int ?_
  refine ⟨_, _, rfl, rfl, ?_⟩
  refine v 1 ?_
  refine ⟨_, _, rfl, rfl, ?_⟩
  refine ⟨_, _, rfl, rfl, ⟨by omega, by omega, by omega, by omega⟩, ?_⟩
  refine ⟨_, _, rfl, rfl, ?_⟩
  refine lcW_cons (fun D2 => ?_)
  intro saD2 HaD2 CaD2 claD2 fpaD2
  first | refine wG_tup rfl rfl rfl ?_ | refine wG_lst rfl rfl rfl ?_
  refine wGs_cons ?_
  refine g 8 sc_cells_of_box.nd ?_
  refine wGs_cons ?_
  refine g 9 sc_cells_of_box.nd ?_
  refine wGs_nil ?_
  intro sbD2 HbD2 CbD2 clbD2 fpbD2
  refine wE_listRg2 rfl (by rfl) T.z_list (by rfl) T.z_range ?_
  refine wE_add ?_
  refine wE_mul ?_
  refine wE_int ?_
  refine v 8 ?_
  refine ⟨_, _, rfl, rfl, (by first | exact cmul (by omega) (by omega) (by omega) (by omega) | exact cmul (by decide) (by decide) (by decide) (by decide)), ?_⟩
  refine v 1 ?_
  refine ⟨_, _, rfl, rfl, ?_⟩
  refine wE_sub ?_
  refine wE_add ?_
  refine wE_mul ?_
  refine wE_int ?_
  refine v 9 ?_
  refine ⟨_, _, rfl, rfl, (by first | exact cmul (by omega) (by omega) (by omega) (by omega) | exact cmul (by decide) (by decide) (by decide) (by decide)), ?_⟩
  refine wE_int ?_
  refine ⟨_, _, rfl, rfl, ?_⟩
  refine v 1 ?_
  refine ⟨_, _, rfl, rfl, ?_⟩
  refine ⟨_, _, rfl, rfl, ⟨by omega, by omega, by omega, by omega⟩, ?_⟩
  refine ⟨_, _, rfl, rfl, ?_⟩
  refine lcW_cons (fun D3 => ?_)
  intro saD3 HaD3 CaD3 claD3 fpaD3
  first | refine wG_tup rfl rfl rfl ?_ | refine wG_lst rfl rfl rfl ?_
  refine wGs_cons ?_
  refine g 8 sc_cells_of_box.nd ?_
  refine wGs_cons ?_
  refine g 9 sc_cells_of_box.nd ?_
  refine wGs_nil ?_
  intro sbD3 HbD3 CbD3 clbD3 fpbD3
  refine wE_listRg2 rfl (by rfl) T.z_list (by rfl) T.z_range ?_
  refine wE_add ?_
  refine wE_mul ?_
  refine wE_int ?_
  refine v 8 ?_
  refine ⟨_, _, rfl, rfl, (by first | exact cmul (by omega) (by omega) (by omega) (by omega) | exact cmul (by decide) (by decide) (by decide) (by decide)), ?_⟩
  refine v 1 ?_
  refine ⟨_, _, rfl, rfl, ?_⟩
  refine wE_sub ?_
  refine wE_add ?_
  refine wE_mul ?_
  refine wE_int ?_
  refine v 9 ?_
  refine ⟨_, _, rfl, rfl, (by first | exact cmul (by omega) (by omega) (by omega) (by omega) | exact cmul (by decide) (by decide) (by decide) (by decide)), ?_⟩
  refine wE_int ?_
  refine ⟨_, _, rfl, rfl, ?_⟩
  refine v 1 ?_
  refine ⟨_, _, rfl, rfl, ?_⟩
  refine ⟨_, _, rfl, rfl, ⟨by omega, by omega, by omega, by omega⟩, ?_⟩
  refine ⟨_, _, rfl, rfl, ?_⟩
  refine lcW_nil ?_
  first | refine wG_tup rfl rfl rfl ?_ | refine wG_lst rfl rfl rfl ?_
  refine wGs_cons ?_
  refine g 2 sc_cells_of_box.nd ?_
  refine wGs_cons ?_
  refine g 3 sc_cells_of_box.nd ?_
  refine wGs_cons ?_
  refine g 4 sc_cells_of_box.nd ?_
  refine wGs_nil ?_
  refine wSs_cons ?_
  refine wS_ret ?_
  refine wE_lc3n [("x", 5), ("y", 6), ("z", 7)] [6, 7] [7] rfl sc_cells_of_box.nd (blkOk_by (N := ["box", "inset", "xs", "ys", "zs", "x", "y", "z", "low", "high"]) (sc := defScope s_cells_of_box) (by decide +kernel)) (by decide) (by decide) ?_
  refine wI_seq ?_
  refine v 2 ?_
  first | refine ⟨_, .inl rfl, ?_⟩ | refine ⟨_, .inr rfl, ?_⟩
  intro D
  refine runA_add (N := 9999999) (fun a => (upto (2 * b.y0 + i) ((2 * b.y1 + 1 - i) - (2 * b.y0 + i)).toNat).flatMap fun c => (upto (2 * b.z0 + i) ((2 * b.z1 + 1 - i) - (2 * b.z0 + i)).toNat).flatMap fun e => [.tuple [a, c, e]]) (by decide) (fun a ha acc1 kk1 hl1 hk1 => ?_) (by rw [prd_box, List.length_map]; have := len_boxC hb hi; simp; omega) (by rw [List.nil_append, prd_box]; exact hk)
  intro s1 H1 C1 cl1 fp1
  refine g 5 sc_cells_of_box.nd ?_
  intro s2 H2 C2 cl2 fp2
  refine wI_seq ?_
  refine v 3 ?_
  first | refine ⟨_, .inl rfl, ?_⟩ | refine ⟨_, .inr rfl, ?_⟩
  refine ⟨_, rfl, by omega, ?_⟩
  refine runA_add (N := 9999999) (fun c => (upto (2 * b.z0 + i) ((2 * b.z1 + 1 - i) - (2 * b.z0 + i)).toNat).flatMap fun e => [.tuple [a, c, e]]) (by decide) (fun c hc acc2 kk2 hl2 hk2 => ?_) hl1 hk1
  intro s3 H3 C3 cl3 fp3
  refine g 6 sc_cells_of_box.nd ?_
  intro s4 H4 C4 cl4 fp4
  refine wI_seq ?_
  refine v 4 ?_
  first | refine ⟨_, .inl rfl, ?_⟩ | refine ⟨_, .inr rfl, ?_⟩
  refine ⟨_, rfl, by omega, ?_⟩
  refine runA_add (N := 9999999) (fun e => [.tuple [a, c, e]]) (by decide) (fun e he acc3 kk3 hl3 hk3 => ?_) hl2 hk2
  intro s5 H5 C5 cl5 fp5
  refine g 7 sc_cells_of_box.nd ?_
  refine ⟨by omega, ?_⟩
  intro s6 H6 C6 cl6 fp6
  refine wE_tup (xs := fun _ => True) ?_
  refine wA_cons ?_
  refine v 5 ?_
  refine wA_cons ?_
  refine v 6 ?_
  refine wA_cons ?_
  refine v 7 ?_
  refine wA_nil ?_
  refine ⟨[_, _, _], rfl, (by first | decide | (simp; done) | (simp; omega) | omega), ?_⟩
  exact ⟨_, _, rfl, rfl, hk3⟩
theorem ok_lot_of_boxes {f : Addr} {fd : FuncData} (D : DefAt K mg "lot_of_boxes" s_lot_of_boxes ["boxes"] f fd) (T : Txt K mg C_Lot) : FnG P w K mg base CX0 7 f fd ["boxes"] (spD K 1 (spLotOf K C_Lot 0)) := by
  obtain ⟨f_check_boxes, fd_check_boxes, D_check_boxes⟩ := T.d_check_boxes
  have G_check_boxes := ok_check_boxes (P := P) (w := w) (base := base) D_check_boxes T
  obtain ⟨f_Lot___init, fd_Lot___init, D_Lot___init⟩ := T.d_Lot___init
  have G_Lot___init := ok_Lot___init (P := P) (w := w) (base := base) D_Lot___init T
  obtain ⟨f_cells_of_box, fd_cells_of_box, D_cells_of_box⟩ := T.d_cells_of_box
  have G_cells_of_box := ok_cells_of_box (P := P) (w := w) (base := base) D_cells_of_box T
  refine fnD D.F sc_lot_of_boxes (fun cdv A outer s H E hr m ds kk hsp hlen => ?_)
  obtain ⟨bs, rfl, hl, hb, hk⟩ := hsp
  have hI := in_boxesC hl hb (i := 0) (.inl rfl)
  refine wSs_cons ?_
  refine wS_expr ?_
  refine wE_call G_check_boxes (hr.mono (by decide)) (by rfl) D_check_boxes.g D_check_boxes.F.kp D_check_boxes.b ?_
  refine wA_cons ?_
  refine v 0 ?_
  refine wA_nil ?_
  refine ⟨rfl, bs, rfl, ⟨by omega, fun b hc => (hb b hc).good⟩, ?_⟩
  refine wSs_cons ?_
  refine wS_ret ?_
  refine wE_make (T.mk_Lot.mk' D_Lot___init.m) G_Lot___init (hr.mono (by decide)) (by rfl) T.mgLot D_Lot___init.b ?_
  refine wA_cons ?_
  refine wE_callTy call_tuple_of callD_tuple (by rfl) T.z_tuple (by decide +kernel) ?_
  refine wA_cons ?_
  refine wE_lc2 [("box", 1), ("cell", 2)] [2] rfl sc_lot_of_boxes.nd (blkOk_by (N := ["boxes", "box", "cell"]) (sc := defScope s_lot_of_boxes) (by decide +kernel)) (by decide) ?_
  refine wI_seq ?_
  refine v 0 ?_
  first | refine ⟨_, .inl rfl, ?_⟩ | refine ⟨_, .inr rfl, ?_⟩
  refine lc2_flat (fun x => (boxC (deB x) 0).map CellN.d) (fun _ y => y) (fun x hx D acc kx ka hka => ?_) (by rw [flat_boxes, List.length_map]; have := hI.1; simp; omega) ?_
  · obtain ⟨b, hc, rfl⟩ := List.mem_map.mp hx
    intro s1 H1 C1 cl1 fp1
    refine g 1 sc_lot_of_boxes.nd ?_
    intro s2 H2 C2 cl2 fp2
    refine wI_seq ?_
    refine wE_call G_cells_of_box (hr.mono (by decide)) (by rfl) D_cells_of_box.g D_cells_of_box.F.kp D_cells_of_box.b ?_
    refine wA_cons ?_
    refine v 1 ?_
    refine wA_cons ?_
    refine wE_int ?_
    refine wA_nil ?_
    refine ⟨rfl, b, _, rfl, hb b hc, (.inl rfl), ?_⟩
    first | refine ⟨_, .inl rfl, ?_⟩ | refine ⟨_, .inr rfl, ?_⟩
    refine hka _ (fun y hy m' k' hk' => ?_)
    intro s3 H3 C3 cl3 fp3
    refine g 2 sc_lot_of_boxes.nd ?_
    intro s4 H4 C4 cl4 fp4
    refine v 2 ?_
    exact hk'
  refine wA_nil ?_
  first | refine ⟨_, .inl rfl, ?_⟩ | refine ⟨_, .inr (.inl rfl), ?_⟩ | refine ⟨_, .inr (.inr ⟨_, rfl, lookup_hd⟩), ?_⟩
  refine wA_nil ?_
  refine ⟨rfl, ?_⟩
  refine ⟨boxesC bs 0, (by rw [List.nil_append, flat_boxes]), hI, ?_⟩
  exact hk
theorem ok_within_boxes {f : Addr} {fd : FuncData} (D : DefAt K mg "within_boxes" s_within_boxes ["boxes"] f fd) (T : Txt K mg C_Lot) : FnG P w K mg base CX0 7 f fd ["boxes"] (spD K 1 (spLotOf K C_Lot 1)) := by
  obtain ⟨f_check_boxes, fd_check_boxes, D_check_boxes⟩ := T.d_check_boxes
  have G_check_boxes := ok_check_boxes (P := P) (w := w) (base := base) D_check_boxes T
  obtain ⟨f_Lot___init, fd_Lot___init, D_Lot___init⟩ := T.d_Lot___init
  have G_Lot___init := ok_Lot___init (P := P) (w := w) (base := base) D_Lot___init T
  obtain ⟨f_cells_of_box, fd_cells_of_box, D_cells_of_box⟩ := T.d_cells_of_box
  have G_cells_of_box := ok_cells_of_box (P := P) (w := w) (base := base) D_cells_of_box T
  refine fnD D.F sc_within_boxes (fun cdv A outer s H E hr m ds kk hsp hlen => ?_)
  obtain ⟨bs, rfl, hl, hb, hk⟩ := hsp
  have hI := in_boxesC hl hb (i := 1) (.inr rfl)
  refine wSs_cons ?_
  refine wS_expr ?_
  refine wE_call G_check_boxes (hr.mono (by decide)) (by rfl) D_check_boxes.g D_check_boxes.F.kp D_check_boxes.b ?_
  refine wA_cons ?_
  refine v 0 ?_
  refine wA_nil ?_
  refine ⟨rfl, bs, rfl, ⟨by omega, fun b hc => (hb b hc).good⟩, ?_⟩
  refine wSs_cons ?_
  refine wS_ret ?_
  refine wE_make (T.mk_Lot.mk' D_Lot___init.m) G_Lot___init (hr.mono (by decide)) (by rfl) T.mgLot D_Lot___init.b ?_
  refine wA_cons ?_
  refine wE_callTy call_tuple_of callD_tuple (by rfl) T.z_tuple (by decide +kernel) ?_
  refine wA_cons ?_
  refine wE_lc2 [("box", 1), ("cell", 2)] [2] rfl sc_within_boxes.nd (blkOk_by (N := ["boxes", "box", "cell"]) (sc := defScope s_within_boxes) (by decide +kernel)) (by decide) ?_
  refine wI_seq ?_
  refine v 0 ?_
  first | refine ⟨_, .inl rfl, ?_⟩ | refine ⟨_, .inr rfl, ?_⟩
  refine lc2_flat (fun x => (boxC (deB x) 1).map CellN.d) (fun _ y => y) (fun x hx D acc kx ka hka => ?_) (by rw [flat_boxes, List.length_map]; have := hI.1; simp; omega) ?_
  · obtain ⟨b, hc, rfl⟩ := List.mem_map.mp hx
    intro s1 H1 C1 cl1 fp1
    refine g 1 sc_within_boxes.nd ?_
    intro s2 H2 C2 cl2 fp2
    refine wI_seq ?_
    refine wE_call G_cells_of_box (hr.mono (by decide)) (by rfl) D_cells_of_box.g D_cells_of_box.F.kp D_cells_of_box.b ?_
    refine wA_cons ?_
    refine v 1 ?_
    refine wA_cons ?_
    refine wE_int ?_
    refine wA_nil ?_
    refine ⟨rfl, b, _, rfl, hb b hc, (.inr rfl), ?_⟩
    first | refine ⟨_, .inl rfl, ?_⟩ | refine ⟨_, .inr rfl, ?_⟩
    refine hka _ (fun y hy m' k' hk' => ?_)
    intro s3 H3 C3 cl3 fp3
    refine g 2 sc_within_boxes.nd ?_
    intro s4 H4 C4 cl4 fp4
    refine v 2 ?_
    exact hk'
  refine wA_nil ?_
  first | refine ⟨_, .inl rfl, ?_⟩ | refine ⟨_, .inr (.inl rfl), ?_⟩ | refine ⟨_, .inr (.inr ⟨_, rfl, lookup_hd⟩), ?_⟩
  refine wA_nil ?_
  refine ⟨rfl, ?_⟩
  refine ⟨boxesC bs 1, (by rw [List.nil_append, flat_boxes]), hI, ?_⟩
  exact hk
theorem ok_Lot_is_closed {f : Addr} {fd : FuncData} (D : PropAt K C_Lot "is_closed" "Lot.is_closed" s_Lot_is_closed ["self"] f fd) (T : Txt K mg C_Lot) : FnG P w K mg base CX0 10 f fd ["self"] (spD K 1 (spShut K C_Lot 1)) := by
  obtain ⟨f_rim_of, fd_rim_of, D_rim_of⟩ := T.d_rim_of
  have G_rim_of := ok_rim_of (P := P) (w := w) (base := base) D_rim_of T
  refine fnD D.F sc_Lot_is_closed (fun cdv A outer s H E hr m ds kk hsp hlen => ?_)
  obtain ⟨l, rfl, hl, hk⟩ := hsp
  obtain ⟨bs, hs1, hs2⟩ := bools_shut l 1 (canon l)
  have hs3 := shut_len l 1 (canon l)
  have lc := canon_len l
  refine wSs_cons ?_
  refine wS_ret ?_
  refine wE_callB (cr_all rfl) callD_gAll (by rfl) T.z_all (by decide +kernel) ?_
  refine wA_cons ?_
  refine wE_lc2 [("cell", 1), ("beside", 2)] [2] rfl sc_Lot_is_closed.nd (blkOk_by (N := ["self", "cell", "beside"]) (sc := defScope s_Lot_is_closed) (by decide +kernel)) (by decide) ?_
  refine wI_seq ?_
  refine wE_fld ?_
  refine v 0 ?_
  refine ⟨_, _, _, _, rfl, T.cl, T.n_cells, (by first | exact lot_cells | rfl), fd_d, ?_⟩
  first | refine ⟨_, .inl rfl, ?_⟩ | refine ⟨_, .inr rfl, ?_⟩
  refine lc2_flat (fun x => besL (deC x) 1) (fun _ y => .bool (memD l y)) (fun x hx D acc kx ka hka => ?_) (Nat.le_trans (Nat.add_le_add (Nat.le_refl 0) hs3) (by omega)) ?_
  · obtain ⟨c, hc, rfl⟩ := List.mem_map.mp hx
    intro s1 H1 C1 cl1 fp1
    refine g 1 sc_Lot_is_closed.nd ?_
    intro s2 H2 C2 cl2 fp2
    refine wI_seq ?_
    refine wE_call G_rim_of (hr.mono (by decide)) (by rfl) D_rim_of.g D_rim_of.F.kp D_rim_of.b ?_
    refine wA_cons ?_
    refine v 1 ?_
    refine wA_nil ?_
    refine ⟨rfl, c, rfl, ?_⟩
    first | refine ⟨_, .inl rfl, ?_⟩ | refine ⟨_, .inr rfl, ?_⟩
    refine hka _ (fun y hy m' k' hk' => ?_)
    have hy : y ∈ besL c 1 := hy
    rw [besL_C] at hy
    obtain ⟨o, ho, rfl⟩ := List.mem_map.mp hy
    have hk' : k' (.d (.bool (decide (o ∈ l)))) m' := hk'
    rw [← dec_keys] at hk'
    intro s3 H3 C3 cl3 fp3
    refine g 2 sc_Lot_is_closed.nd ?_
    intro s4 H4 C4 cl4 fp4
    refine wE_inK (room0 hr 1) ?_
    refine v 2 ?_
    refine wE_fld ?_
    refine v 0 ?_
    refine ⟨_, _, _, _, rfl, T.cl, T.n_own, (by first | exact lot_own | rfl), fd_k, ?_⟩
    refine ⟨CellN.k o, _, rfl, rfl, ?_⟩
    exact hk'
  refine wA_nil ?_
  refine ⟨_, _, rfl, (by rw [List.nil_append]; exact hs1), ?_⟩
  rw [hs2]; exact hk
theorem ok_Lot_is_open {f : Addr} {fd : FuncData} (D : PropAt K C_Lot "is_open" "Lot.is_open" s_Lot_is_open ["self"] f fd) (T : Txt K mg C_Lot) : FnG P w K mg base CX0 10 f fd ["self"] (spD K 1 (spShut K C_Lot 0)) := by
  obtain ⟨f_around_of, fd_around_of, D_around_of⟩ := T.d_around_of
  have G_around_of := ok_around_of (P := P) (w := w) (base := base) D_around_of T
  refine fnD D.F sc_Lot_is_open (fun cdv A outer s H E hr m ds kk hsp hlen => ?_)
  obtain ⟨l, rfl, hl, hk⟩ := hsp
  obtain ⟨bs, hs1, hs2⟩ := bools_shut l 0 (canon l)
  have hs3 := shut_len l 0 (canon l)
  have lc := canon_len l
  refine wSs_cons ?_
  refine wS_ret ?_
  refine wE_callB (cr_all rfl) callD_gAll (by rfl) T.z_all (by decide +kernel) ?_
  refine wA_cons ?_
  refine wE_lc2 [("cell", 1), ("beside", 2)] [2] rfl sc_Lot_is_open.nd (blkOk_by (N := ["self", "cell", "beside"]) (sc := defScope s_Lot_is_open) (by decide +kernel)) (by decide) ?_
  refine wI_seq ?_
  refine wE_fld ?_
  refine v 0 ?_
  refine ⟨_, _, _, _, rfl, T.cl, T.n_cells, (by first | exact lot_cells | rfl), fd_d, ?_⟩
  first | refine ⟨_, .inl rfl, ?_⟩ | refine ⟨_, .inr rfl, ?_⟩
  refine lc2_flat (fun x => besL (deC x) 0) (fun _ y => .bool (memD l y)) (fun x hx D acc kx ka hka => ?_) (Nat.le_trans (Nat.add_le_add (Nat.le_refl 0) hs3) (by omega)) ?_
  · obtain ⟨c, hc, rfl⟩ := List.mem_map.mp hx
    intro s1 H1 C1 cl1 fp1
    refine g 1 sc_Lot_is_open.nd ?_
    intro s2 H2 C2 cl2 fp2
    refine wI_seq ?_
    refine wE_call G_around_of (hr.mono (by decide)) (by rfl) D_around_of.g D_around_of.F.kp D_around_of.b ?_
    refine wA_cons ?_
    refine v 1 ?_
    refine wA_nil ?_
    refine ⟨rfl, c, rfl, ?_⟩
    first | refine ⟨_, .inl rfl, ?_⟩ | refine ⟨_, .inr rfl, ?_⟩
    refine hka _ (fun y hy m' k' hk' => ?_)
    have hy : y ∈ besL c 0 := hy
    rw [besL_C] at hy
    obtain ⟨o, ho, rfl⟩ := List.mem_map.mp hy
    have hk' : k' (.d (.bool (decide (o ∈ l)))) m' := hk'
    rw [← dec_keys] at hk'
    intro s3 H3 C3 cl3 fp3
    refine g 2 sc_Lot_is_open.nd ?_
    intro s4 H4 C4 cl4 fp4
    refine wE_inK (room0 hr 1) ?_
    refine v 2 ?_
    refine wE_fld ?_
    refine v 0 ?_
    refine ⟨_, _, _, _, rfl, T.cl, T.n_own, (by first | exact lot_own | rfl), fd_k, ?_⟩
    refine ⟨CellN.k o, _, rfl, rfl, ?_⟩
    exact hk'
  refine wA_nil ?_
  refine ⟨_, _, rfl, (by rw [List.nil_append]; exact hs1), ?_⟩
  rw [hs2]; exact hk
end
end K9

set_option Elab.async false
set_option linter.all false
set_option maxRecDepth 100000
set_option maxHeartbeats 1000000
namespace L2
open PySem PySem.Spec PyProof.Rows
def tIfT (t ta tb : TT) : TT := fun σ H Q => t σ H fun c H1 => if c = true then ta σ H1 Q else tb σ H1 Q
theorem pt_ifExp {X : Cx} {c a b : Expr} {pos : Pos} {tA ta tb : TT} (hc : PT X c tA) (ha : PT X a ta) (hb : PT X b tb) : PT X (.IfExp c a b pos) (tIfT tA ta tb) := by
  refine ⟨fun pins s σ H Q I h => ?_⟩
  refine isTrue_IfExp (thn (hc.run pins s σ H _ I h) fun d s1 ⟨H1, I1, q1⟩ => ?_)
  cases d with
  | true => exact ha.run pins s1 σ H1 Q I1 q1
  | false => exact hb.run pins s1 σ H1 Q I1 q1
end L2
namespace DW
variable [TabsC]
open PySem PySem.Spec PyProof.Rows L2
theorem wS_join {X : Cx} {env : DEnv} {m : Me} {D : DE} {st : Stmt} (J : DEnv → Me → Prop) (h : wS X st env m { D with nx := J }) (h2 : ∀ env' m', J env' m' → D.nx env' m') : wS X st env m D :=
  fun σ H E he hm hE => h σ H E he hm ⟨fun σ' env' m' H' e1 he1 hm1 h1 => hE.nx σ' env' m' H' e1 he1 hm1 (h2 env' m' h1), hE.rt, hE.bk, hE.ct⟩
theorem lay_boxes : ∀ bs : List BoxN, PyData.canLayAll0 (bs.map BoxN.d) = true ∧ PyData.depthAll (bs.map BoxN.d) ≤ 1
  | [] => by simp [PyData.canLayAll0, PyData.depthAll]
  | b :: r => by
    obtain ⟨i1, i2⟩ := lay_boxes r
    simp only [List.map_cons, PyData.canLayAll0, PyData.depthAll, i1, Bool.and_true, BoxN.d, PyData.canLay0, PyData.depth]
    refine ⟨by simp, ?_⟩
    exact Nat.max_le.mpr ⟨by simp, i2⟩
theorem boxes_shaped (bs : List BoxN) : SeqAt.shaped (.list (bs.map BoxN.d)) = true := by
  obtain ⟨h1, h2⟩ := lay_boxes bs
  unfold SeqAt.shaped
  simp only [PyData.canLay0, PyData.depth, h1, Bool.true_and]
  exact decide_eq_true (by omega)
theorem nd_f {P : Prop} [Decidable P] (h : (!decide P) = true) : ¬ P := by simpa using h
theorem nd_t {P : Prop} [Decidable P] (h : (!decide P) = false) : P := by simpa using h
section
variable {X : Cx} {env : DEnv} {m : Me} {kb : Bool → Me → Prop} {a b c : Expr} {pos : Pos}
theorem wT_ite (h : wT X c env m fun t m1 => (t = true → wT X a env m1 kb) ∧ (t = false → wT X b env m1 kb)) : wT X (.IfExp c a b pos) env m kb :=
  wT_of (pt_ifExp ptW ptW ptW) fun σ H Q he hm hq => h σ H _ he hm fun t m1 H1 e1 hm1 ⟨h1, h2⟩ => by
    cases t with
    | true => exact h1 rfl σ H1 Q (he.mono e1) hm1 fun v m2 H2 e2 => hq v m2 H2 (e1.trans e2)
    | false => exact h2 rfl σ H1 Q (he.mono e1) hm1 fun v m2 H2 e2 => hq v m2 H2 (e1.trans e2)
theorem wT_ltltC (h : wE X a env m fun dx m1 => wE X b env m1 fun dy m2 => ∃ i j l : Int, dx = .d (.int i) ∧ dy = .d (.int j) ∧ (wE X c env m2 fun dz m3 => dz = .d (.int l) ∧ m3 = m2) ∧ kb (decide (i < j ∧ j < l)) m2)
    (hm : lastMarks [.Lt, .Lt] [b, c] = false := by with_unfolding_all rfl) : wT X (.Compare a [.Lt, .Lt] [b, c] pos) env m kb :=
  wT_ltlt (hm := hm) fun σ H Q he hm hq => h σ H _ he hm fun v d m1 H1 e1 hm1 dv h1 => hq v d m1 H1 e1 hm1 dv fun σ2 H2 Q2 he2 hm2 hq2 => h1 σ2 H2 _ he2 hm2 fun v2 d2 m2 H2 e2 hm3 dv2 ⟨i, j, l, q1, q2, hc, hk⟩ => hq2 v2 d2 m2 H2 e2 hm3 dv2
    ⟨i, j, q1, q2, fun z σ3 H3 Q3 he3 hm4 hq3 => hc σ3 H3 _ he3 hm4 fun v3 d3 m3 H3 e3 hm5 dv3 ⟨q3, q4⟩ => hq3 v3 d3 m3 H3 e3 hm5 dv3 ⟨l, q3, by
      subst q4
      rwa [show decide (j < l) = decide (i < j ∧ j < l) from by simp [z]]⟩, fun z => by
      rwa [show decide (i < j ∧ j < l) = false from by simp [z]] at hk⟩
theorem wT_leleC (h : wE X a env m fun dx m1 => wE X b env m1 fun dy m2 => ∃ i j l : Int, dx = .d (.int i) ∧ dy = .d (.int j) ∧ (wE X c env m2 fun dz m3 => dz = .d (.int l) ∧ m3 = m2) ∧ kb (decide (i ≤ j ∧ j ≤ l)) m2)
    (hm : lastMarks [.LtE, .LtE] [b, c] = false := by with_unfolding_all rfl) : wT X (.Compare a [.LtE, .LtE] [b, c] pos) env m kb :=
  wT_leleI (hm := hm) fun σ H Q he hm hq => h σ H _ he hm fun v d m1 H1 e1 hm1 dv h1 => hq v d m1 H1 e1 hm1 dv fun σ2 H2 Q2 he2 hm2 hq2 => h1 σ2 H2 _ he2 hm2 fun v2 d2 m2 H2 e2 hm3 dv2 ⟨i, j, l, q1, q2, hc, hk⟩ => hq2 v2 d2 m2 H2 e2 hm3 dv2
    ⟨i, j, q1, q2, fun z σ3 H3 Q3 he3 hm4 hq3 => hc σ3 H3 _ he3 hm4 fun v3 d3 m3 H3 e3 hm5 dv3 ⟨q3, q4⟩ => hq3 v3 d3 m3 H3 e3 hm5 dv3 ⟨l, q3, by
      subst q4
      rwa [show decide (j ≤ l) = decide (i ≤ j ∧ j ≤ l) from by simp [z]]⟩, fun z => by
      rwa [show decide (i ≤ j ∧ j ≤ l) = false from by simp [z]] at hk⟩
end
end DW

set_option Elab.async false
set_option linter.all false
set_option maxRecDepth 100000
set_option maxHeartbeats 4000000
namespace K9
open PySem PySem.Spec PyProof.Rows L2 DW
section
variable [TabsC] {P : Program} {w : World} {K : PySem.W.Frag} {mg : Str → Option Value} {base : Heap} {C_Lot : Addr}
theorem ok_law_pot {f : Addr} {fd : FuncData} (D : DefAt K mg "_law_pot" s_law_pot ["script", "place"] f fd) (T : Txt K mg C_Lot) : FnG P w K mg base CX0 3 f fd ["script", "place"] (spD K 2 spPot) := by
  refine fnD D.F sc_law_pot (fun cdv A outer s H E hr m ds kk hsp hlen => ?_)
  obtain ⟨ns, p, rfl, hl, ⟨hp0, hp1⟩, hk⟩ := hsp
  by_cases hp : p < (ns.length : Int)
  · obtain ⟨c, hc⟩ := atI_ints hp0 hp
    refine wSs_cons ?_
    refine st 2 sc_law_pot.nd ?_
    refine wE_ite ?_
    refine wT_lt ?_
    refine v 1 ?_
    refine wE_callB call_len callD_len (by rfl) T.z_len (by decide +kernel) ?_
    refine wA_cons ?_
    refine v 0 ?_
    refine wA_nil ?_
    first | refine ⟨_, rfl, .inl ⟨_, rfl, ?_⟩⟩ | refine ⟨_, rfl, .inr ⟨_, rfl, (by first | decide | (simp; done) | (simp; omega) | omega), ?_⟩⟩
    refine ⟨_, _, rfl, rfl, _, rfl, ?_⟩
    refine ⟨fun _ => ?_, fun ht => absurd ht ((by first | exact Bool.false_ne_true | exact (fun h => Bool.noConfusion (show true = false from h)) | exact ne_false rfl | exact bool_t (by assumption) | exact bool_f (by assumption) | exact dec_t (by assumption) | exact dec_f (by assumption) | exact bool_nt (by assumption) | decide | omega | (simp_all; done) | (simp_all; omega)))⟩
    refine wE_at ?_
    refine v 0 ?_
    refine v 1 ?_
    refine .inl ⟨_, _, _, rfl, rfl, hc, ?_⟩
    refine wSs_cons ?_
    refine st 3 sc_law_pot.nd ?_
    refine wE_mul ?_
    refine wE_mod ?_
    refine wE_callTy call_int1 callD_int (by rfl) T.z_int (by decide +kernel) ?_
    refine wA_cons ?_
    refine wE_callB call_abs (callD_I1 (g := fun i => if i < 0 then -i else i)) (by rfl) T.z_abs (by decide +kernel) ?_
    refine wA_cons ?_
    refine v 2 ?_
    refine wA_nil ?_
    refine ⟨_, rfl, ?_⟩
    refine wA_nil ?_
    first | refine .inl ⟨_, rfl, ?_⟩ | refine .inr ⟨_, rfl, ?_⟩
    refine wE_powW ?_
    refine wE_powW ?_
    refine wE_int ?_
    refine wE_int ?_
    refine ⟨_, _, rfl, rfl, (by first | decide +kernel | exact cpow3 rfl (by omega) (by omega)), ?_⟩
    refine wE_int ?_
    refine ⟨_, _, rfl, rfl, (by first | decide +kernel | exact cpow3 rfl (by omega) (by omega)), ?_⟩
    refine ⟨_, _, rfl, rfl, (by first | decide | omega | exact big10.2), ?_⟩
    refine wE_callTy call_int1 callD_int (by rfl) T.z_int (by decide +kernel) ?_
    refine wA_cons ?_
    refine wE_ge ?_
    refine wE_callB call_abs (callD_I1 (g := fun i => if i < 0 then -i else i)) (by rfl) T.z_abs (by decide +kernel) ?_
    refine wA_cons ?_
    refine v 2 ?_
    refine wA_nil ?_
    refine ⟨_, rfl, ?_⟩
    refine wE_powW ?_
    refine wE_int ?_
    refine wE_int ?_
    refine ⟨_, _, rfl, rfl, (by first | decide +kernel | exact cpow3 rfl (by omega) (by omega)), ?_⟩
    refine ⟨_, _, rfl, rfl, ?_⟩
    refine wA_nil ?_
    first | refine .inl ⟨_, rfl, ?_⟩ | refine .inr ⟨_, rfl, ?_⟩
    refine ⟨_, _, rfl, rfl, (by exact potMul _ _), ?_⟩
    refine wSs_cons ?_
    refine st 4 sc_law_pot.nd ?_
    refine wE_mod ?_
    refine wE_callTy call_int1 callD_int (by rfl) T.z_int (by decide +kernel) ?_
    refine wA_cons ?_
    refine v 2 ?_
    refine wA_nil ?_
    first | refine .inl ⟨_, rfl, ?_⟩ | refine .inr ⟨_, rfl, ?_⟩
    refine wE_int ?_
    refine ⟨_, _, rfl, rfl, (by first | decide | omega | exact big10.2), ?_⟩
    refine wSs_cons ?_
    refine wS_ret ?_
    refine wE_lstO ?_
    refine wA_cons ?_
    refine v 3 ?_
    refine wA_cons ?_
    refine wE_mod ?_
    refine wE_callTy call_int1 callD_int (by rfl) T.z_int (by decide +kernel) ?_
    refine wA_cons ?_
    refine wE_add ?_
    refine wE_add ?_
    refine wE_mul ?_
    refine v 4 ?_
    refine wE_int ?_
    refine ⟨_, _, rfl, rfl, (by first | exact cmul (by omega) (by omega) (by omega) (by omega) | exact cmul (by decide) (by decide) (by decide) (by decide)), ?_⟩
    refine wE_mul ?_
    refine wE_mul ?_
    refine wE_int ?_
    refine v 1 ?_
    refine ⟨_, _, rfl, rfl, (by first | exact cmul (by omega) (by omega) (by omega) (by omega) | exact cmul (by decide) (by decide) (by decide) (by decide)), ?_⟩
    refine v 1 ?_
    refine ⟨_, _, rfl, rfl, (by first | exact cmul (by omega) (by omega) (by omega) (by omega) | exact cmul (by decide) (by decide) (by decide) (by decide)), ?_⟩
    refine ⟨_, _, rfl, rfl, ?_⟩
    refine wE_int ?_
    refine ⟨_, _, rfl, rfl, ?_⟩
    refine wA_nil ?_
    first | refine .inl ⟨_, rfl, ?_⟩ | refine .inr ⟨_, rfl, ?_⟩
    refine wE_int ?_
    refine ⟨_, _, rfl, rfl, (by first | decide | omega | exact big10.2), ?_⟩
    refine wA_cons ?_
    refine wE_int ?_
    refine wA_nil ?_
    refine ⟨[_, _, _], rfl, (by first | decide | (simp; done) | (simp; omega) | omega), fun l1 => ?_⟩
    exact hk _ _ _ (potOwn _ _).1 (potOwn _ _).2 (Int.emod_nonneg _ (by decide)) (Int.lt_trans (Int.emod_lt_of_pos _ (by decide)) (by decide))
  · obtain ⟨s0, hs0⟩ := cut1 ns
    refine wSs_cons ?_
    refine st 2 sc_law_pot.nd ?_
    refine wE_ite ?_
    refine wT_lt ?_
    refine v 1 ?_
    refine wE_callB call_len callD_len (by rfl) T.z_len (by decide +kernel) ?_
    refine wA_cons ?_
    refine v 0 ?_
    refine wA_nil ?_
    first | refine ⟨_, rfl, .inl ⟨_, rfl, ?_⟩⟩ | refine ⟨_, rfl, .inr ⟨_, rfl, (by first | decide | (simp; done) | (simp; omega) | omega), ?_⟩⟩
    refine ⟨_, _, rfl, rfl, _, rfl, ?_⟩
    refine ⟨fun ht => absurd ht ((by first | exact Bool.false_ne_true | exact (fun h => Bool.noConfusion (show true = false from h)) | exact ne_false rfl | exact bool_t (by assumption) | exact bool_f (by assumption) | exact dec_t (by assumption) | exact dec_f (by assumption) | exact bool_nt (by assumption) | decide | omega | (simp_all; done) | (simp_all; omega))), fun _ => ?_⟩
    refine wE_add ?_
    refine wE_add ?_
    refine wE_mod ?_
    refine wE_callTy call_int1 callD_int (by rfl) T.z_int (by decide +kernel) ?_
    refine wA_cons ?_
    refine wE_callB (cr_sum rfl) callD_gSum (by rfl) T.z_sum (by decide +kernel) ?_
    refine wA_cons ?_
    refine wE_slL ?_
    refine v 0 ?_
    refine ⟨_, rfl, ?_⟩
    refine wO_none ?_
    refine wO_some ?_
    refine wE_int ?_
    refine ⟨_, rfl, ?_⟩
    refine wA_nil ?_
    refine ⟨_, _, rfl, hs0, ?_⟩
    refine wA_nil ?_
    first | refine .inl ⟨_, rfl, ?_⟩ | refine .inr ⟨_, rfl, ?_⟩
    refine wE_int ?_
    refine ⟨_, _, rfl, rfl, (by first | decide | omega | exact big10.2), ?_⟩
    refine wE_mul ?_
    refine wE_int ?_
    refine v 1 ?_
    refine ⟨_, _, rfl, rfl, (by first | exact cmul (by omega) (by omega) (by omega) (by omega) | exact cmul (by decide) (by decide) (by decide) (by decide)), ?_⟩
    refine ⟨_, _, rfl, rfl, ?_⟩
    refine wE_int ?_
    refine ⟨_, _, rfl, rfl, ?_⟩
    refine wSs_cons ?_
    refine st 3 sc_law_pot.nd ?_
    refine wE_mul ?_
    refine wE_mod ?_
    refine wE_callTy call_int1 callD_int (by rfl) T.z_int (by decide +kernel) ?_
    refine wA_cons ?_
    refine wE_callB call_abs (callD_I1 (g := fun i => if i < 0 then -i else i)) (by rfl) T.z_abs (by decide +kernel) ?_
    refine wA_cons ?_
    refine v 2 ?_
    refine wA_nil ?_
    refine ⟨_, rfl, ?_⟩
    refine wA_nil ?_
    first | refine .inl ⟨_, rfl, ?_⟩ | refine .inr ⟨_, rfl, ?_⟩
    refine wE_powW ?_
    refine wE_powW ?_
    refine wE_int ?_
    refine wE_int ?_
    refine ⟨_, _, rfl, rfl, (by first | decide +kernel | exact cpow3 rfl (by omega) (by omega)), ?_⟩
    refine wE_int ?_
    refine ⟨_, _, rfl, rfl, (by first | decide +kernel | exact cpow3 rfl (by omega) (by omega)), ?_⟩
    refine ⟨_, _, rfl, rfl, (by first | decide | omega | exact big10.2), ?_⟩
    refine wE_callTy call_int1 callD_int (by rfl) T.z_int (by decide +kernel) ?_
    refine wA_cons ?_
    refine wE_ge ?_
    refine wE_callB call_abs (callD_I1 (g := fun i => if i < 0 then -i else i)) (by rfl) T.z_abs (by decide +kernel) ?_
    refine wA_cons ?_
    refine v 2 ?_
    refine wA_nil ?_
    refine ⟨_, rfl, ?_⟩
    refine wE_powW ?_
    refine wE_int ?_
    refine wE_int ?_
    refine ⟨_, _, rfl, rfl, (by first | decide +kernel | exact cpow3 rfl (by omega) (by omega)), ?_⟩
    refine ⟨_, _, rfl, rfl, ?_⟩
    refine wA_nil ?_
    first | refine .inl ⟨_, rfl, ?_⟩ | refine .inr ⟨_, rfl, ?_⟩
    refine ⟨_, _, rfl, rfl, (by exact potMul _ _), ?_⟩
    refine wSs_cons ?_
    refine st 4 sc_law_pot.nd ?_
    refine wE_mod ?_
    refine wE_callTy call_int1 callD_int (by rfl) T.z_int (by decide +kernel) ?_
    refine wA_cons ?_
    refine v 2 ?_
    refine wA_nil ?_
    first | refine .inl ⟨_, rfl, ?_⟩ | refine .inr ⟨_, rfl, ?_⟩
    refine wE_int ?_
    refine ⟨_, _, rfl, rfl, (by first | decide | omega | exact big10.2), ?_⟩
    refine wSs_cons ?_
    refine wS_ret ?_
    refine wE_lstO ?_
    refine wA_cons ?_
    refine v 3 ?_
    refine wA_cons ?_
    refine wE_mod ?_
    refine wE_callTy call_int1 callD_int (by rfl) T.z_int (by decide +kernel) ?_
    refine wA_cons ?_
    refine wE_add ?_
    refine wE_add ?_
    refine wE_mul ?_
    refine v 4 ?_
    refine wE_int ?_
    refine ⟨_, _, rfl, rfl, (by first | exact cmul (by omega) (by omega) (by omega) (by omega) | exact cmul (by decide) (by decide) (by decide) (by decide)), ?_⟩
    refine wE_mul ?_
    refine wE_mul ?_
    refine wE_int ?_
    refine v 1 ?_
    refine ⟨_, _, rfl, rfl, (by first | exact cmul (by omega) (by omega) (by omega) (by omega) | exact cmul (by decide) (by decide) (by decide) (by decide)), ?_⟩
    refine v 1 ?_
    refine ⟨_, _, rfl, rfl, (by first | exact cmul (by omega) (by omega) (by omega) (by omega) | exact cmul (by decide) (by decide) (by decide) (by decide)), ?_⟩
    refine ⟨_, _, rfl, rfl, ?_⟩
    refine wE_int ?_
    refine ⟨_, _, rfl, rfl, ?_⟩
    refine wA_nil ?_
    first | refine .inl ⟨_, rfl, ?_⟩ | refine .inr ⟨_, rfl, ?_⟩
    refine wE_int ?_
    refine ⟨_, _, rfl, rfl, (by first | decide | omega | exact big10.2), ?_⟩
    refine wA_cons ?_
    refine wE_int ?_
    refine wA_nil ?_
    refine ⟨[_, _, _], rfl, (by first | decide | (simp; done) | (simp; omega) | omega), fun l1 => ?_⟩
    exact hk _ _ _ (potOwn _ _).1 (potOwn _ _).2 (Int.emod_nonneg _ (by decide)) (Int.lt_trans (Int.emod_lt_of_pos _ (by decide)) (by decide))
theorem ok_law_take {f : Addr} {fd : FuncData} (D : DefAt K mg "_law_take" s_law_take ["pot", "upto"] f fd) (T : Txt K mg C_Lot) : FnG P w K mg base CX0 1 f fd ["pot", "upto"] (spD K 2 spTake) := by
  refine fnD D.F sc_law_take (fun cdv A outer s H E hr m ds kk hsp hlen => ?_)
  obtain ⟨a, u, rfl, hp, ⟨hu0, hu1⟩, hn, hk⟩ := hsp
  obtain ⟨mp, mn, ml⟩ := m
  dsimp only at hp hn hk
  subst hp
  refine wSs_clo (wSs_ghost (fun Hx hmx => ?_))
  obtain ⟨x, y, z, hx0, hx1, hy0, hy1, hz0, hz1, hm1, ex⟩ := pot_own hmx
  refine ⟨_, hm1, ex, ?_⟩
  clear hm1 ex hmx
  by_cases hx : 0 < x
  · refine wSs_cons ?_
    refine wS_if ?_
    refine wT_gt ?_
    refine wE_at ?_
    refine v 0 ?_
    refine wE_int ?_
    refine .inl ⟨_, _, _, seq_hd, rfl, rfl, ?_⟩
    refine wE_int ?_
    refine ⟨_, _, rfl, rfl, _, rfl, ?_⟩
    refine ⟨fun _ => ?_, fun ht => absurd ht ((by first | exact Bool.false_ne_true | exact (fun h => Bool.noConfusion (show true = false from h)) | exact ne_false rfl | exact bool_t (by assumption) | exact bool_f (by assumption) | exact dec_t (by assumption) | exact dec_f (by assumption) | exact bool_nt (by assumption) | decide | omega | (simp_all; done) | (simp_all; omega)))⟩
    refine wSs_cons ?_
    refine st 4 sc_law_take.nd ?_
    refine wE_modL ?_
    refine wE_callTy call_int1 callD_int (by rfl) T.z_int (by decide +kernel) ?_
    refine wA_cons ?_
    refine wE_at ?_
    refine v 0 ?_
    refine wE_int ?_
    refine .inl ⟨_, _, _, seq_hd, rfl, rfl, ?_⟩
    refine wA_nil ?_
    first | refine .inl ⟨_, rfl, ?_⟩ | refine .inr ⟨_, rfl, ?_⟩
    refine v 1 ?_
    refine ⟨_, _, rfl, rfl, (by first | decide | omega | exact big10.2), fun r1 hr10 hr11 => ?_⟩
    refine wSs_cons ?_
    refine wS_setItem ?_
    refine wE_fdiv ?_
    refine wE_at ?_
    refine v 0 ?_
    refine wE_int ?_
    refine .inl ⟨_, _, _, seq_hd, rfl, rfl, ?_⟩
    refine v 1 ?_
    refine ⟨_, _, rfl, rfl, (by exact cdiv (by omega) (by omega)), ?_⟩
    refine v 0 ?_
    refine wE_int ?_
    refine ⟨_, _, _, _, _, _, rfl, rfl, rfl, rfl, rfl, ?_⟩
    refine wSs_cons ?_
    refine wS_ret ?_
    refine v 4 ?_
    exact ⟨⟨some a, mn + 1, ml⟩, own_pot (div_ok hx0 hx1 hu0).1 (div_ok hx0 hx1 hu0).2 hy0 hy1 hz0 (by omega), hk _ hr10 hr11⟩
  · refine wSs_cons ?_
    refine wS_if ?_
    refine wT_gt ?_
    refine wE_at ?_
    refine v 0 ?_
    refine wE_int ?_
    refine .inl ⟨_, _, _, seq_hd, rfl, rfl, ?_⟩
    refine wE_int ?_
    refine ⟨_, _, rfl, rfl, _, rfl, ?_⟩
    refine ⟨fun ht => absurd ht ((by first | exact Bool.false_ne_true | exact (fun h => Bool.noConfusion (show true = false from h)) | exact ne_false rfl | exact bool_t (by assumption) | exact bool_f (by assumption) | exact dec_t (by assumption) | exact dec_f (by assumption) | exact bool_nt (by assumption) | decide | omega | (simp_all; done) | (simp_all; omega))), fun _ => ?_⟩
    refine wSs_nil ?_
    refine wSs_cons ?_
    refine wS_setItem ?_
    refine wE_add ?_
    refine wE_at ?_
    refine v 0 ?_
    refine wE_int ?_
    refine .inl ⟨_, _, _, seq_hd, rfl, rfl, ?_⟩
    refine wE_int ?_
    refine ⟨_, _, rfl, rfl, ?_⟩
    refine v 0 ?_
    refine wE_int ?_
    refine ⟨_, _, _, _, _, _, rfl, rfl, rfl, rfl, rfl, ?_⟩
    refine wSs_cons ?_
    refine st 2 sc_law_take.nd ?_
    refine wE_at ?_
    refine wE_lst ?_
    refine wA_cons ?_
    refine wE_int ?_
    refine wA_cons ?_
    refine wE_int ?_
    refine wA_cons ?_
    refine wE_int ?_
    refine wA_cons ?_
    refine wE_int ?_
    refine wA_cons ?_
    refine wE_int ?_
    refine wA_nil ?_
    refine ⟨[_, _, _, _, _], rfl, (by first | decide | (simp; done) | (simp; omega) | omega), ?_⟩
    refine wE_modL ?_
    refine wE_callTy call_int1 callD_int (by rfl) T.z_int (by decide +kernel) ?_
    refine wA_cons ?_
    refine wE_at ?_
    refine v 0 ?_
    refine wE_int ?_
    refine .inl ⟨_, _, _, seq_hd, rfl, rfl, ?_⟩
    refine wA_nil ?_
    first | refine .inl ⟨_, rfl, ?_⟩ | refine .inr ⟨_, rfl, ?_⟩
    refine wE_int ?_
    refine ⟨_, _, rfl, rfl, (by first | decide | omega | exact big10.2), fun r1 hr10 hr11 => ?_⟩
    obtain ⟨q, hq, hq0, hq1⟩ := prime5 2147483647 2147483629 2147483587 2147483579 2147483563 r1 hr10 hr11 (by decide)
    refine .inl ⟨_, _, _, rfl, rfl, hq, ?_⟩
    refine wSs_cons ?_
    refine st 3 sc_law_take.nd ?_
    refine wE_modL ?_
    refine wE_callTy call_int1 callD_int (by rfl) T.z_int (by decide +kernel) ?_
    refine wA_cons ?_
    refine wE_powW ?_
    refine wE_callTy call_int1 callD_int (by rfl) T.z_int (by decide +kernel) ?_
    refine wA_cons ?_
    refine wE_add ?_
    refine wE_add ?_
    refine wE_at ?_
    refine v 0 ?_
    refine wE_int ?_
    refine .inl ⟨_, _, _, seq_hd, rfl, rfl, ?_⟩
    refine wE_mul ?_
    refine wE_mul ?_
    refine wE_int ?_
    refine wE_at ?_
    refine v 0 ?_
    refine wE_int ?_
    refine .inl ⟨_, _, _, seq_hd, rfl, rfl, ?_⟩
    refine ⟨_, _, rfl, rfl, (by first | exact cmul (by omega) (by omega) (by omega) (by omega) | exact cmul (by decide) (by decide) (by decide) (by decide)), ?_⟩
    refine wE_at ?_
    refine v 0 ?_
    refine wE_int ?_
    refine .inl ⟨_, _, _, seq_hd, rfl, rfl, ?_⟩
    refine ⟨_, _, rfl, rfl, (by first | exact cmul (by omega) (by omega) (by omega) (by omega) | exact cmul (by decide) (by decide) (by decide) (by decide)), ?_⟩
    refine ⟨_, _, rfl, rfl, ?_⟩
    refine wE_int ?_
    refine ⟨_, _, rfl, rfl, ?_⟩
    refine wA_nil ?_
    first | refine .inl ⟨_, rfl, ?_⟩ | refine .inr ⟨_, rfl, ?_⟩
    refine wE_int ?_
    refine ⟨_, _, rfl, rfl, (by have hs := sqB 100233 (z + 1) (by decide) (by decide) (by omega) (by omega); exact cpow3 rfl (by omega) (by omega)), ?_⟩
    refine wA_nil ?_
    first | refine .inl ⟨_, rfl, ?_⟩ | refine .inr ⟨_, rfl, ?_⟩
    refine v 2 ?_
    refine ⟨_, _, rfl, rfl, (by first | decide | omega | exact big10.2), fun b2 hb20 hb21 => ?_⟩
    refine wSs_cons ?_
    refine wS_ret ?_
    refine wE_modL ?_
    refine wE_callTy call_int1 callD_int (by rfl) T.z_int (by decide +kernel) ?_
    refine wA_cons ?_
    refine wE_fdiv ?_
    refine wE_mul ?_
    refine v 3 ?_
    refine wE_add ?_
    refine wE_mod ?_
    refine wE_callTy call_int1 callD_int (by rfl) T.z_int (by decide +kernel) ?_
    refine wA_cons ?_
    refine v 3 ?_
    refine wA_nil ?_
    first | refine .inl ⟨_, rfl, ?_⟩ | refine .inr ⟨_, rfl, ?_⟩
    refine wE_int ?_
    refine ⟨_, _, rfl, rfl, (by first | decide | omega | exact big10.2), ?_⟩
    refine wE_mul ?_
    refine wE_int ?_
    refine wE_at ?_
    refine v 0 ?_
    refine wE_int ?_
    refine .inl ⟨_, _, _, seq_hd, rfl, rfl, ?_⟩
    refine ⟨_, _, rfl, rfl, (by first | exact cmul (by omega) (by omega) (by omega) (by omega) | exact cmul (by decide) (by decide) (by decide) (by decide)), ?_⟩
    refine ⟨_, _, rfl, rfl, ?_⟩
    refine ⟨_, _, rfl, rfl, (by first | exact cmul (by omega) (by omega) (by omega) (by omega) | exact cmul (by decide) (by decide) (by decide) (by decide)), ?_⟩
    refine wE_int ?_
    refine ⟨_, _, rfl, rfl, (by exact cdiv (by omega) (by omega)), ?_⟩
    refine wA_nil ?_
    first | refine .inl ⟨_, rfl, ?_⟩ | refine .inr ⟨_, rfl, ?_⟩
    refine v 1 ?_
    refine ⟨_, _, rfl, rfl, (by first | decide | omega | exact big10.2), fun w3 hw30 hw31 => ?_⟩
    exact ⟨⟨some a, mn + 1, ml⟩, own_pot hx0 hx1 hy0 hy1 (by omega) (by omega), hk _ hw30 hw31⟩
theorem ok_law_cells {f : Addr} {fd : FuncData} (D : DefAt K mg "_law_cells" s_law_cells ["script", "limit"] f fd) (T : Txt K mg C_Lot) : FnG P w K mg base CX0 3 f fd ["script", "limit"] (spD K 2 spCells) := by
  refine fnD D.F sc_law_cells (fun cdv A outer s H E hr m ds kk hsp hlen => ?_)
  obtain ⟨ns, l, rfl, ⟨hl0, hl1⟩, hn, hk⟩ := hsp
  refine wSs_cons ?_
  refine wS_ret ?_
  refine wE_listRg1 rfl (by rfl) T.z_list (by rfl) T.z_range ?_
  refine wE_callB (call_max2 rfl) (callD_I2 (g := fun i j => if j > i then j else i)) (by rfl) T.z_max (by decide +kernel) ?_
  refine wA_cons ?_
  refine wE_int ?_
  refine wA_cons ?_
  refine wE_callB (call_min2 rfl) (callD_I2 (g := fun i j => if j < i then j else i)) (by rfl) T.z_min (by decide +kernel) ?_
  refine wA_cons ?_
  refine v 1 ?_
  refine wA_cons ?_
  refine wE_callB call_len callD_len (by rfl) T.z_len (by decide +kernel) ?_
  refine wA_cons ?_
  refine v 0 ?_
  refine wA_nil ?_
  first | refine ⟨_, rfl, .inl ⟨_, rfl, ?_⟩⟩ | refine ⟨_, rfl, .inr ⟨_, rfl, (by first | decide | (simp; done) | (simp; omega) | omega), ?_⟩⟩
  refine wA_nil ?_
  refine ⟨_, _, rfl, ?_⟩
  refine wA_nil ?_
  refine ⟨_, _, rfl, ?_⟩
  refine ⟨_, rfl, (by (try rw [List.length_map]); (try dsimp only); (repeat' split) <;> omega), ?_⟩
  exact hk _ ((by (try rw [List.length_map]); (try dsimp only); (repeat' split) <;> omega)) ((by (try rw [List.length_map]); (try dsimp only); (repeat' split) <;> omega))
theorem ok_law_drawn_box {f : Addr} {fd : FuncData} (D : DefAt K mg "_law_drawn_box" s_law_drawn_box ["pot", "low", "high"] f fd) (T : Txt K mg C_Lot) : FnG P w K mg base CX0 2 f fd ["pot", "low", "high"] (spD K 3 spDBox) := by
  obtain ⟨f_law_take, fd_law_take, D_law_take⟩ := T.d_law_take
  have G_law_take := ok_law_take (P := P) (w := w) (base := base) D_law_take T
  refine fnD D.F sc_law_drawn_box (fun cdv A outer s H E hr m ds kk hsp hlen => ?_)
  obtain ⟨a, lo, hi, rfl, hp, ⟨hl0, hl1, hl2⟩, hn, hk⟩ := hsp
  refine wSs_clo ?_
  refine wSs_cons ?_
  refine st 3 sc_law_drawn_box.nd ?_
  refine wE_lstO ?_
  refine wA_nil ?_
  refine ⟨[], rfl, (by first | decide | (simp; done) | (simp; omega) | omega), fun l1 => ?_⟩
  refine wSs_cons ?_
  refine wS_for (List.range 40) PassesOwn.never rfl ?_
  refine wI_rng1 ?_ (by rfl) T.z_range
  refine wE_int ?_
  refine ⟨_, rfl, (by first | exact Bool.false_ne_true | exact (fun h => Bool.noConfusion (show true = false from h)) | exact ne_false rfl | exact bool_t (by assumption) | exact bool_f (by assumption) | exact dec_t (by assumption) | exact dec_f (by assumption) | exact bool_nt (by assumption) | decide | omega | (simp_all; done) | (simp_all; omega)), ?_⟩
  refine forW_cons ?_
  refine g 4 sc_law_drawn_box.nd ?_
  refine wSs_cons ?_
  refine st 5 sc_law_drawn_box.nd ?_
  refine wE_add ?_
  refine v 1 ?_
  refine wE_call G_law_take (hr.mono (by decide)) (by rfl) D_law_take.g D_law_take.F.kp D_law_take.b ?_
  refine wA_cons ?_
  refine v 0 ?_
  refine wA_cons ?_
  refine wE_sub ?_
  refine v 2 ?_
  refine v 1 ?_
  refine ⟨_, _, rfl, rfl, ?_⟩
  refine wA_nil ?_
  refine ⟨rfl, _, _, rfl, hp, (by first | decide | omega), (by (try simp only [Me.drawn, Me.own, Me.to]); omega), fun t2 ht20 ht21 => ?_⟩
  refine ⟨_, _, rfl, rfl, ?_⟩
  refine wSs_cons ?_
  refine wS_extend ?_
  refine v 3 ?_
  refine ⟨_, _, rfl, lookup_hd, ?_⟩
  refine wE_lstO ?_
  refine wA_cons ?_
  refine v 5 ?_
  refine wA_cons ?_
  refine wE_add ?_
  refine wE_add ?_
  refine v 5 ?_
  refine wE_int ?_
  refine ⟨_, _, rfl, rfl, ?_⟩
  refine wE_call G_law_take (hr.mono (by decide)) (by rfl) D_law_take.g D_law_take.F.kp D_law_take.b ?_
  refine wA_cons ?_
  refine v 0 ?_
  refine wA_cons ?_
  refine wE_sub ?_
  refine v 2 ?_
  refine v 5 ?_
  refine ⟨_, _, rfl, rfl, ?_⟩
  refine wA_nil ?_
  refine ⟨rfl, _, _, rfl, hp, (by first | decide | omega), (by (try simp only [Me.drawn, Me.own, Me.to]); omega), fun t4 ht40 ht41 => ?_⟩
  refine ⟨_, _, rfl, rfl, ?_⟩
  refine wA_nil ?_
  refine ⟨[_, _], rfl, (by first | decide | (simp; done) | (simp; omega) | omega), fun l3 => ?_⟩
  refine ⟨_, _, _, _, rfl, rfl, (by first | decide | (simp; done) | (simp; omega) | omega), ?_⟩
  refine wSs_nil ?_
  refine forW_cons ?_
  refine g 4 sc_law_drawn_box.nd ?_
  refine wSs_cons ?_
  refine st 5 sc_law_drawn_box.nd ?_
  refine wE_add ?_
  refine v 1 ?_
  refine wE_call G_law_take (hr.mono (by decide)) (by rfl) D_law_take.g D_law_take.F.kp D_law_take.b ?_
  refine wA_cons ?_
  refine v 0 ?_
  refine wA_cons ?_
  refine wE_sub ?_
  refine v 2 ?_
  refine v 1 ?_
  refine ⟨_, _, rfl, rfl, ?_⟩
  refine wA_nil ?_
  refine ⟨rfl, _, _, rfl, hp, (by first | decide | omega), (by (try simp only [Me.drawn, Me.own, Me.to]); omega), fun t5 ht50 ht51 => ?_⟩
  refine ⟨_, _, rfl, rfl, ?_⟩
  refine wSs_cons ?_
  refine wS_extend ?_
  refine v 3 ?_
  refine ⟨_, _, rfl, lookup_hd, ?_⟩
  refine wE_lstO ?_
  refine wA_cons ?_
  refine v 5 ?_
  refine wA_cons ?_
  refine wE_add ?_
  refine wE_add ?_
  refine v 5 ?_
  refine wE_int ?_
  refine ⟨_, _, rfl, rfl, ?_⟩
  refine wE_call G_law_take (hr.mono (by decide)) (by rfl) D_law_take.g D_law_take.F.kp D_law_take.b ?_
  refine wA_cons ?_
  refine v 0 ?_
  refine wA_cons ?_
  refine wE_sub ?_
  refine v 2 ?_
  refine v 5 ?_
  refine ⟨_, _, rfl, rfl, ?_⟩
  refine wA_nil ?_
  refine ⟨rfl, _, _, rfl, hp, (by first | decide | omega), (by (try simp only [Me.drawn, Me.own, Me.to]); omega), fun t7 ht70 ht71 => ?_⟩
  refine ⟨_, _, rfl, rfl, ?_⟩
  refine wA_nil ?_
  refine ⟨[_, _], rfl, (by first | decide | (simp; done) | (simp; omega) | omega), fun l6 => ?_⟩
  refine ⟨_, _, _, _, rfl, rfl, (by first | decide | (simp; done) | (simp; omega) | omega), ?_⟩
  refine wSs_nil ?_
  refine forW_cons ?_
  refine g 4 sc_law_drawn_box.nd ?_
  refine wSs_cons ?_
  refine st 5 sc_law_drawn_box.nd ?_
  refine wE_add ?_
  refine v 1 ?_
  refine wE_call G_law_take (hr.mono (by decide)) (by rfl) D_law_take.g D_law_take.F.kp D_law_take.b ?_
  refine wA_cons ?_
  refine v 0 ?_
  refine wA_cons ?_
  refine wE_sub ?_
  refine v 2 ?_
  refine v 1 ?_
  refine ⟨_, _, rfl, rfl, ?_⟩
  refine wA_nil ?_
  refine ⟨rfl, _, _, rfl, hp, (by first | decide | omega), (by (try simp only [Me.drawn, Me.own, Me.to]); omega), fun t8 ht80 ht81 => ?_⟩
  refine ⟨_, _, rfl, rfl, ?_⟩
  refine wSs_cons ?_
  refine wS_extend ?_
  refine v 3 ?_
  refine ⟨_, _, rfl, lookup_hd, ?_⟩
  refine wE_lstO ?_
  refine wA_cons ?_
  refine v 5 ?_
  refine wA_cons ?_
  refine wE_add ?_
  refine wE_add ?_
  refine v 5 ?_
  refine wE_int ?_
  refine ⟨_, _, rfl, rfl, ?_⟩
  refine wE_call G_law_take (hr.mono (by decide)) (by rfl) D_law_take.g D_law_take.F.kp D_law_take.b ?_
  refine wA_cons ?_
  refine v 0 ?_
  refine wA_cons ?_
  refine wE_sub ?_
  refine v 2 ?_
  refine v 5 ?_
  refine ⟨_, _, rfl, rfl, ?_⟩
  refine wA_nil ?_
  refine ⟨rfl, _, _, rfl, hp, (by first | decide | omega), (by (try simp only [Me.drawn, Me.own, Me.to]); omega), fun t10 ht100 ht101 => ?_⟩
  refine ⟨_, _, rfl, rfl, ?_⟩
  refine wA_nil ?_
  refine ⟨[_, _], rfl, (by first | decide | (simp; done) | (simp; omega) | omega), fun l9 => ?_⟩
  refine ⟨_, _, _, _, rfl, rfl, (by first | decide | (simp; done) | (simp; omega) | omega), ?_⟩
  refine wSs_nil ?_
  refine wSs_cons ?_
  refine wS_ret ?_
  refine wE_callTy call_tuple_of callD_tuple (by rfl) T.z_tuple (by decide +kernel) ?_
  refine wA_cons ?_
  refine v 3 ?_
  refine wA_nil ?_
  first | refine ⟨_, .inl rfl, ?_⟩ | refine ⟨_, .inr (.inl rfl), ?_⟩ | refine ⟨_, .inr (.inr ⟨_, rfl, lookup_hd⟩), ?_⟩
  exact ⟨_, MTo.drop1, hk ⟨_, _, _, _, _, _⟩ ⟨by dsimp only; omega, by dsimp only; omega, by dsimp only; omega⟩ ⟨⟨by dsimp only; omega, by dsimp only; omega⟩, ⟨by dsimp only; omega, by dsimp only; omega⟩, ⟨by dsimp only; omega, by dsimp only; omega⟩⟩⟩
theorem ok_law_of {f : Addr} {fd : FuncData} (D : DefAt K mg "_law_of" s_law_of ["pot", "some"] f fd) (T : Txt K mg C_Lot) : FnG P w K mg base CX0 3 f fd ["pot", "some"] (spD K 2 spOf2) := by
  obtain ⟨f_law_take, fd_law_take, D_law_take⟩ := T.d_law_take
  have G_law_take := ok_law_take (P := P) (w := w) (base := base) D_law_take T
  refine fnD D.F sc_law_of (fun cdv A outer s H E hr m ds kk hsp hlen => ?_)
  obtain ⟨a, dx, xs, rfl, hs2, hp, ⟨hl0, hl1⟩, hn, hk⟩ := hsp
  refine wSs_cons ?_
  refine wS_ret ?_
  refine wE_at ?_
  refine v 1 ?_
  refine wE_call G_law_take (hr.mono (by decide)) (by rfl) D_law_take.g D_law_take.F.kp D_law_take.b ?_
  refine wA_cons ?_
  refine v 0 ?_
  refine wA_cons ?_
  refine wE_callB call_len callD_len (by rfl) T.z_len (by decide +kernel) ?_
  refine wA_cons ?_
  refine v 1 ?_
  refine wA_nil ?_
  refine ⟨_, rfl, .inl ⟨_, hs2, ?_⟩⟩
  refine wA_nil ?_
  refine ⟨rfl, _, _, rfl, hp, (by first | decide | omega), (by (try simp only [Me.drawn, Me.own, Me.to]); omega), fun t1 ht10 ht11 => ?_⟩
  obtain ⟨zz, hzz, hzm⟩ := at_mem ht10 ht11
  refine .inl ⟨_, _, _, hs2, rfl, hzz, ?_⟩
  exact hk _ hzm
theorem ok_law_common {f : Addr} {fd : FuncData} (D : DefAt K mg "_law_common" s_law_common ["one", "other"] f fd) (T : Txt K mg C_Lot) : FnG P w K mg base CX0 1 f fd ["one", "other"] (spD K 2 spCommon) := by
  refine fnD D.F sc_law_common (fun cdv A outer s H E hr m ds kk hsp hlen => ?_)
  obtain ⟨t, b, rfl, ⟨ht0, ht1⟩, ⟨hb0, hb1⟩, hk⟩ := hsp
  refine wSs_cons ?_
  refine wS_par 0 1 rfl sc_law_common.nd rfl rfl (by decide) rfl rfl ?_ (by rfl)
  refine wA_cons ?_
  refine wE_callB call_abs (callD_I1 (g := fun i => if i < 0 then -i else i)) (by rfl) T.z_abs (by decide +kernel) ?_
  refine wA_cons ?_
  refine v 0 ?_
  refine wA_nil ?_
  refine ⟨_, rfl, ?_⟩
  refine wA_cons ?_
  refine wE_callB call_abs (callD_I1 (g := fun i => if i < 0 then -i else i)) (by rfl) T.z_abs (by decide +kernel) ?_
  refine wA_cons ?_
  refine v 1 ?_
  refine wA_nil ?_
  refine ⟨_, rfl, ?_⟩
  refine wA_nil ?_
  refine ⟨_, _, rfl, ?_⟩
  refine wSs_cons ?_
  refine wS_while (fun n e m' => m' = m ∧ ∃ x y : Nat, e = [some (.d (.int (x : Int))), some (.d (.int (y : Int)))] ∧ Nat.gcd x y = Nat.gcd t.natAbs b.natAbs ∧ n = y) PassesOwn.never b.natAbs ⟨rfl, t.natAbs, b.natAbs, envAbs2 t b, rfl, rfl⟩ ?_
  rintro n e m' ⟨rfl, x, y, rfl, hg, rfl⟩
  refine wT_ne ?_
  refine v 1 ?_
  refine wE_int ?_
  first | refine .inl ⟨_, _, rfl, rfl, _, rfl, ?_⟩ | refine .inr (.inl ⟨_, _, rfl, rfl, _, rfl, ?_⟩) | refine .inr (.inr ⟨_, _, rfl, rfl, _, rfl, ?_⟩)
  refine ⟨fun ht => ?_, fun ht => ?_⟩
  · have hy : ¬ ((n : Int) = 0) := fun e => by rw [decide_eq_true e] at ht; cases ht
    have hy2 : (0 : Int) < (n : Int) := by omega
    refine wSs_cons ?_
    refine wS_par 0 1 rfl sc_law_common.nd rfl rfl (by decide) rfl rfl ?_ (by rfl)
    refine wA_cons ?_
    refine v 1 ?_
    refine wA_cons ?_
    refine wE_mod ?_
    refine wE_callTy call_int1 callD_int (by rfl) T.z_int (by decide +kernel) ?_
    refine wA_cons ?_
    refine v 0 ?_
    refine wA_nil ?_
    first | refine .inl ⟨_, rfl, ?_⟩ | refine .inr ⟨_, rfl, ?_⟩
    refine v 1 ?_
    refine ⟨_, _, rfl, rfl, (by first | decide | omega | exact big10.2), ?_⟩
    refine wA_nil ?_
    refine ⟨_, _, rfl, ?_⟩
    refine wSs_nil ?_
    exact ⟨x % n, Nat.mod_lt _ (by omega), rfl, n, x % n, rfl, gcd_turn (by omega) hg, rfl⟩
  have hy : (n : Int) = 0 := by by_cases h : (n : Int) = 0; exact h; rw [decide_eq_false h] at ht; cases ht
  obtain rfl : n = 0 := by omega
  rw [Nat.gcd_zero_right] at hg
  have hx : gcdI t b = (x : Int) := by unfold gcdI; rw [← hg]
  rw [hx] at hk
  refine wSs_cons ?_
  refine wS_ret ?_
  refine v 0 ?_
  exact hk
theorem ok_law_fraction {f : Addr} {fd : FuncData} (D : DefAt K mg "_law_fraction" s_law_fraction ["top", "bottom"] f fd) (T : Txt K mg C_Lot) : FnG P w K mg base CX0 2 f fd ["top", "bottom"] (spD K 2 spFrac) := by
  obtain ⟨f_law_common, fd_law_common, D_law_common⟩ := T.d_law_common
  have G_law_common := ok_law_common (P := P) (w := w) (base := base) D_law_common T
  refine fnD D.F sc_law_fraction (fun cdv A outer s H E hr m ds kk hsp hlen => ?_)
  obtain ⟨t, b, rfl, ⟨ht0, ht1⟩, ⟨hb0, hb1⟩, hk⟩ := hsp
  have hx0 := gcdI_pos (t := t) hb0
  have hx1 := gcdI_le (t := t) hb0
  refine wSs_cons ?_
  refine st 2 sc_law_fraction.nd ?_
  refine wE_call G_law_common (hr.mono (by decide)) (by rfl) D_law_common.g D_law_common.F.kp D_law_common.b ?_
  refine wA_cons ?_
  refine v 0 ?_
  refine wA_cons ?_
  refine v 1 ?_
  refine wA_nil ?_
  refine ⟨rfl, _, _, rfl, ⟨ht0, ht1⟩, ⟨hb0, hb1⟩, ?_⟩
  refine wSs_cons ?_
  refine wS_ret ?_
  refine wE_tup (xs := fun _ => True) ?_
  refine wA_cons ?_
  refine wE_fdiv ?_
  refine v 0 ?_
  refine v 2 ?_
  refine ⟨_, _, rfl, rfl, (by exact cdiv (by omega) (by omega)), ?_⟩
  refine wA_cons ?_
  refine wE_fdiv ?_
  refine v 1 ?_
  refine v 2 ?_
  refine ⟨_, _, rfl, rfl, (by exact cdiv (by omega) (by omega)), ?_⟩
  refine wA_nil ?_
  refine ⟨[_, _], rfl, (by first | decide | (simp; done) | (simp; omega) | omega), ?_⟩
  exact hk
theorem ok_law_drawn_number {f : Addr} {fd : FuncData} (D : DefAt K mg "_law_drawn_number" s_law_drawn_number ["pot"] f fd) (T : Txt K mg C_Lot) : FnG P w K mg base CX0 8 f fd ["pot"] (spD K 1 spDNum) := by
  obtain ⟨f_law_take, fd_law_take, D_law_take⟩ := T.d_law_take
  have G_law_take := ok_law_take (P := P) (w := w) (base := base) D_law_take T
  obtain ⟨f_law_of, fd_law_of, D_law_of⟩ := T.d_law_of
  have G_law_of := ok_law_of (P := P) (w := w) (base := base) D_law_of T
  obtain ⟨f_law_fraction, fd_law_fraction, D_law_fraction⟩ := T.d_law_fraction
  have G_law_fraction := ok_law_fraction (P := P) (w := w) (base := base) D_law_fraction T
  refine fnD D.F sc_law_drawn_number (fun cdv A outer s H E hr m ds kk hsp hlen => ?_)
  obtain ⟨a, rfl, hp, hn, hk⟩ := hsp
  refine wSs_cons ?_
  refine wS_if ?_
  refine wT_eq ?_
  refine wE_call G_law_take (hr.mono (by decide)) (by rfl) D_law_take.g D_law_take.F.kp D_law_take.b ?_
  refine wA_cons ?_
  refine v 0 ?_
  refine wA_cons ?_
  refine wE_int ?_
  refine wA_nil ?_
  refine ⟨rfl, _, _, rfl, hp, (by first | decide | omega), (by (try simp only [Me.drawn, Me.own, Me.to]); omega), fun t1 ht10 ht11 => ?_⟩
  refine wE_int ?_
  first | refine .inl ⟨_, _, rfl, rfl, _, rfl, ?_⟩ | refine .inr (.inl ⟨_, _, rfl, rfl, _, rfl, ?_⟩) | refine .inr (.inr ⟨_, _, rfl, rfl, _, rfl, ?_⟩)
  refine ⟨fun ht => ?_, fun ht => ?_⟩
  · refine wSs_cons ?_
    refine wS_ret ?_
    refine wE_tup (xs := fun _ => True) ?_
    refine wA_cons ?_
    refine wE_callTy call_int1 callD_int (by rfl) T.z_int (by decide +kernel) ?_
    refine wA_cons ?_
    refine wE_sub ?_
    refine wE_call G_law_take (hr.mono (by decide)) (by rfl) D_law_take.g D_law_take.F.kp D_law_take.b ?_
    refine wA_cons ?_
    refine v 0 ?_
    refine wA_cons ?_
    refine wE_int ?_
    refine wA_nil ?_
    refine ⟨rfl, _, _, rfl, hp, (by first | decide | omega), (by (try simp only [Me.drawn, Me.own, Me.to]); omega), fun t2 ht20 ht21 => ?_⟩
    refine wE_int ?_
    refine ⟨_, _, rfl, rfl, ?_⟩
    refine wA_nil ?_
    first | refine .inl ⟨_, rfl, ?_⟩ | refine .inr ⟨_, rfl, ?_⟩
    refine wA_cons ?_
    refine wE_int ?_
    refine wA_nil ?_
    refine ⟨[_, _], rfl, (by first | decide | (simp; done) | (simp; omega) | omega), ?_⟩
    exact hk _ _ (m.n + 1 + 1) ⟨by decide, Nat.gcd_one_right _⟩ ⟨by omega, by omega⟩ (by decide) (by omega)
  · refine wSs_nil ?_
    refine wSs_cons ?_
    refine st 1 sc_law_drawn_number.nd ?_
    refine wE_call G_law_of (hr.mono (by decide)) (by rfl) D_law_of.g D_law_of.F.kp D_law_of.b ?_
    refine wA_cons ?_
    refine v 0 ?_
    refine wA_cons ?_
    refine wE_lst ?_
    refine wA_cons ?_
    refine wE_int ?_
    refine wA_cons ?_
    refine wE_int ?_
    refine wA_cons ?_
    refine wE_int ?_
    refine wA_cons ?_
    refine wE_int ?_
    refine wA_nil ?_
    refine ⟨[_, _, _, _], rfl, (by first | decide | (simp; done) | (simp; omega) | omega), ?_⟩
    refine wA_nil ?_
    refine ⟨rfl, _, _, _, rfl, rfl, hp, by simp, (by (try simp only [Me.drawn, Me.own, Me.to]); omega), fun z3 hz3 => ?_⟩
    obtain ⟨b, rfl, hb0, hb1⟩ : ∃ b : Int, z3 = .int b ∧ 2 ≤ b ∧ b ≤ 100 := by simp at hz3; rcases hz3 with rfl | rfl | rfl | rfl <;> exact ⟨_, rfl, by decide, by decide⟩
    refine wSs_cons ?_
    refine wS_ret ?_
    refine wE_call G_law_fraction (hr.mono (by decide)) (by rfl) D_law_fraction.g D_law_fraction.F.kp D_law_fraction.b ?_
    refine wA_cons ?_
    refine wE_callTy call_int1 callD_int (by rfl) T.z_int (by decide +kernel) ?_
    refine wA_cons ?_
    refine wE_sub ?_
    refine wE_call G_law_take (hr.mono (by decide)) (by rfl) D_law_take.g D_law_take.F.kp D_law_take.b ?_
    refine wA_cons ?_
    refine v 0 ?_
    refine wA_cons ?_
    refine wE_mul ?_
    refine wE_int ?_
    refine v 1 ?_
    refine ⟨_, _, rfl, rfl, (by first | exact cmul (by omega) (by omega) (by omega) (by omega) | exact cmul (by decide) (by decide) (by decide) (by decide)), ?_⟩
    refine wA_nil ?_
    refine ⟨rfl, _, _, rfl, hp, (by first | decide | omega), (by (try simp only [Me.drawn, Me.own, Me.to]); omega), fun t4 ht40 ht41 => ?_⟩
    refine wE_mul ?_
    refine wE_int ?_
    refine v 1 ?_
    refine ⟨_, _, rfl, rfl, (by first | exact cmul (by omega) (by omega) (by omega) (by omega) | exact cmul (by decide) (by decide) (by decide) (by decide)), ?_⟩
    refine ⟨_, _, rfl, rfl, ?_⟩
    refine wA_nil ?_
    first | refine .inl ⟨_, rfl, ?_⟩ | refine .inr ⟨_, rfl, ?_⟩
    refine wA_cons ?_
    refine v 1 ?_
    refine wA_nil ?_
    refine ⟨rfl, _, _, rfl, ⟨by omega, by omega⟩, ⟨by omega, by omega⟩, ?_⟩
    have hq := div_lit (gcdI_pos (t := t4 - 4 * b) (by omega : 0 < b)) (B := 1300) (by decide) (t := t4 - 4 * b) ⟨by omega, by omega⟩
    have hq2 := div_lit (gcdI_pos (t := t4 - 4 * b) (by omega : 0 < b)) (B := 1000) (by decide) (t := b) ⟨by omega, by omega⟩
    exact hk _ _ (m.n + 1 + 1 + 1) (frOk_div (by omega)) hq (by omega) (by omega)
theorem ok_law_drawn_point {f : Addr} {fd : FuncData} (D : DefAt K mg "_law_drawn_point" s_law_drawn_point ["pot"] f fd) (T : Txt K mg C_Lot) : FnG P w K mg base CX0 9 f fd ["pot"] (spD K 1 spDPt) := by
  obtain ⟨f_law_drawn_number, fd_law_drawn_number, D_law_drawn_number⟩ := T.d_law_drawn_number
  have G_law_drawn_number := ok_law_drawn_number (P := P) (w := w) (base := base) D_law_drawn_number T
  refine fnD D.F sc_law_drawn_point (fun cdv A outer s H E hr m ds kk hsp hlen => ?_)
  obtain ⟨a, rfl, hp, hn, hk⟩ := hsp
  refine wSs_cons ?_
  refine wS_ret ?_
  refine wE_callTy call_tuple_of callD_tuple (by rfl) T.z_tuple (by decide +kernel) ?_
  refine wA_cons ?_
  refine wE_lc [("axis", 1)] rfl sc_law_drawn_point.nd (blkOk_by (N := ["pot", "axis"]) (sc := defScope s_law_drawn_point) (by decide +kernel)) ?_
  refine wI_rng1 ?_ (by rfl) T.z_range
  refine wE_int ?_
  refine ⟨_, rfl, (by first | exact Bool.false_ne_true | exact (fun h => Bool.noConfusion (show true = false from h)) | exact ne_false rfl | exact bool_t (by assumption) | exact bool_f (by assumption) | exact dec_t (by assumption) | exact dec_f (by assumption) | exact bool_nt (by assumption) | decide | omega | (simp_all; done) | (simp_all; omega)), ?_⟩
  refine ⟨(by first | decide | (simp; done) | (simp; omega) | omega), ?_⟩
  refine lcW_cons (fun D1 => ?_)
  intro saD1 HaD1 CaD1 claD1 fpaD1
  refine g 1 sc_law_drawn_point.nd ?_
  intro sbD1 HbD1 CbD1 clbD1 fpbD1
  refine wE_call G_law_drawn_number (hr.mono (by decide)) (by rfl) D_law_drawn_number.g D_law_drawn_number.F.kp D_law_drawn_number.b ?_
  refine wA_cons ?_
  refine v 0 ?_
  refine wA_nil ?_
  refine ⟨rfl, _, rfl, hp, (by (try simp only [Me.drawn, Me.own, Me.to]); omega), fun t1 b1 n1 hf1 ht1 hb1 hn1 => ?_⟩
  have hn1' : n1 ≤ m.n + 3 := by (try simp only [Me.drawn, Me.own, Me.to] at hn1); omega
  refine ⟨_, (Me.to _ n1), rfl, rfl, ?_⟩
  refine lcW_cons (fun D2 => ?_)
  intro saD2 HaD2 CaD2 claD2 fpaD2
  refine g 1 sc_law_drawn_point.nd ?_
  intro sbD2 HbD2 CbD2 clbD2 fpbD2
  refine wE_call G_law_drawn_number (hr.mono (by decide)) (by rfl) D_law_drawn_number.g D_law_drawn_number.F.kp D_law_drawn_number.b ?_
  refine wA_cons ?_
  refine v 0 ?_
  refine wA_nil ?_
  refine ⟨rfl, _, rfl, hp, (by (try simp only [Me.drawn, Me.own, Me.to]); omega), fun t2 b2 n2 hf2 ht2 hb2 hn2 => ?_⟩
  have hn2' : n2 ≤ m.n + 6 := by (try simp only [Me.drawn, Me.own, Me.to] at hn2); omega
  refine ⟨_, (Me.to _ n2), rfl, rfl, ?_⟩
  refine lcW_cons (fun D3 => ?_)
  intro saD3 HaD3 CaD3 claD3 fpaD3
  refine g 1 sc_law_drawn_point.nd ?_
  intro sbD3 HbD3 CbD3 clbD3 fpbD3
  refine wE_call G_law_drawn_number (hr.mono (by decide)) (by rfl) D_law_drawn_number.g D_law_drawn_number.F.kp D_law_drawn_number.b ?_
  refine wA_cons ?_
  refine v 0 ?_
  refine wA_nil ?_
  refine ⟨rfl, _, rfl, hp, (by (try simp only [Me.drawn, Me.own, Me.to]); omega), fun t3 b3 n3 hf3 ht3 hb3 hn3 => ?_⟩
  have hn3' : n3 ≤ m.n + 9 := by (try simp only [Me.drawn, Me.own, Me.to] at hn3); omega
  refine ⟨_, (Me.to _ n3), rfl, rfl, ?_⟩
  refine lcW_nil ?_
  refine wA_nil ?_
  first | refine ⟨_, .inl rfl, ?_⟩ | refine ⟨_, .inr (.inl rfl), ?_⟩ | refine ⟨_, .inr (.inr ⟨_, rfl, lookup_hd⟩), ?_⟩
  have hf1' := hf1.1
  have hf2' := hf2.1
  have hf3' := hf3.1
  exact hk ⟨t1, b1, t2, b2, t3, b3⟩ n3 ⟨hf1, hf2, hf3, ⟨⟨by dsimp only; omega, by dsimp only; omega⟩, ⟨by dsimp only; omega, by dsimp only; omega⟩⟩, ⟨⟨by dsimp only; omega, by dsimp only; omega⟩, ⟨by dsimp only; omega, by dsimp only; omega⟩⟩, ⟨⟨by dsimp only; omega, by dsimp only; omega⟩, ⟨by dsimp only; omega, by dsimp only; omega⟩⟩⟩ ⟨idx_sm hf1.1 ht1, idx_sm hf2.1 ht2, idx_sm hf3.1 ht3⟩ (by omega)
theorem ok_law_one_each {f : Addr} {fd : FuncData} (D : DefAt K mg "_law_one_each" s_law_one_each ["cells"] f fd) (T : Txt K mg C_Lot) : FnG P w K mg base CX0 1 f fd ["cells"] (spD K 1 spOneEach) := by
  refine fnD D.F sc_law_one_each (fun cdv A outer s H E hr m ds kk hsp hlen => ?_)
  obtain ⟨l, rfl, hl, hk⟩ := hsp
  refine wSs_cons ?_
  refine wS_ret ?_
  refine wE_callTy call_tuple_of callD_tuple (by rfl) T.z_tuple (by decide +kernel) ?_
  refine wA_cons ?_
  refine wE_callB (cr_sortK rfl (room0 hr 64)) callD_sortK (by rfl) T.z_sorted (by decide +kernel) ?_
  refine wA_cons ?_
  refine wE_callTy (call_dictT rfl (room0 hr 4)) callD_dictT (by rfl) T.z_dict (by decide +kernel) ?_
  refine wA_cons ?_
  refine wE_lc [("cell", 1)] rfl sc_law_one_each.nd (blkOk_by (N := ["cells", "cell"]) (sc := defScope s_law_one_each) (by decide +kernel)) ?_
  refine wI_seq ?_
  refine v 0 ?_
  first | refine ⟨_, .inl rfl, ?_⟩ | refine ⟨_, .inr rfl, ?_⟩
  refine ⟨(by simpa using (by omega)), lcW_map (fun x => .tuple [x, .bool true]) (fun x hx m' k' hk => ?_) ?_⟩
  · intro s1 H1 C1 cl1 fp1
    refine g 1 sc_law_one_each.nd ?_
    intro s2 H2 C2 cl2 fp2
    refine wE_tup (xs := fun _ => True) ?_
    refine wA_cons ?_
    refine v 1 ?_
    refine wA_cons ?_
    refine wE_bl ?_
    refine wA_nil ?_
    refine ⟨[_, _], rfl, (by first | decide | (simp; done) | (simp; omega) | omega), ?_⟩
    exact hk
  refine wA_nil ?_
  refine ⟨l.map CellN.k, (by rw [List.nil_append, pairs_eq]), ?_⟩
  refine wA_nil ?_
  refine ⟨_, rfl, keys_ne, ?_⟩
  refine wA_nil ?_
  first | refine ⟨_, .inl rfl, ?_⟩ | refine ⟨_, .inr (.inl rfl), ?_⟩ | refine ⟨_, .inr (.inr ⟨_, rfl, lookup_hd⟩), ?_⟩
  exact Eq.mp (congrArg (fun z => kk (Dat.d (PyData.tuple z)) m) (canon_d l).symm) hk
theorem ok_law_product_cells {f : Addr} {fd : FuncData} (D : DefAt K mg "_law_product_cells" s_law_product_cells ["sides"] f fd) (T : Txt K mg C_Lot) : FnG P w K mg base CX0 1 f fd ["sides"] (spD K 1 spProdC) := by
  refine fnD D.F sc_law_product_cells (fun cdv A outer s H E hr m ds kk hsp hlen => ?_)
  obtain ⟨xs, ys, zs, rfl, ⟨h1, h2, h3⟩, hk⟩ := hsp
  refine wSs_cons ?_
  refine st 1 sc_law_product_cells.nd ?_
  refine wE_lstO ?_
  refine wA_nil ?_
  refine ⟨[], rfl, (by first | decide | (simp; done) | (simp; omega) | omega), fun l1 => ?_⟩
  refine wSs_cons ?_
  refine wS_for (List.range 40) PassesOwn.never rfl ?_
  refine wI_seq ?_
  refine wE_at ?_
  refine v 0 ?_
  refine wE_int ?_
  refine .inl ⟨_, _, _, rfl, rfl, rfl, ?_⟩
  first | refine ⟨_, .inl rfl, ?_⟩ | refine ⟨_, .inr rfl, ?_⟩
  refine forW_inv0 (fun j e m' => ∃ iv jv kv : Option Dat, e = [some (.d (.list [.list (xs.map .int), .list (ys.map .int), .list (zs.map .int)])), some (.r (.ref l1)), iv, jv, kv] ∧ m' = ⟨m.p, m.n, (l1, (prodC (xs.take j) ys zs).map CellN.d) :: m.ls⟩) ?_ ⟨none, none, none, rfl, rfl⟩ ?_
  · rintro j x e m' hx ⟨iv, jv, kv, rfl, rfl⟩
    obtain ⟨hj, rfl⟩ := ints_get hx
    refine g 2 sc_law_product_cells.nd ?_
    refine wSs_cons ?_
    refine wS_for (List.range 40) PassesOwn.never rfl ?_
    refine wI_seq ?_
    refine wE_at ?_
    refine v 0 ?_
    refine wE_int ?_
    refine .inl ⟨_, _, _, rfl, rfl, rfl, ?_⟩
    first | refine ⟨_, .inl rfl, ?_⟩ | refine ⟨_, .inr rfl, ?_⟩
    refine forW_inv0 (fun j2 e m' => ∃ jv kv : Option Dat, e = [some (.d (.list [.list (xs.map .int), .list (ys.map .int), .list (zs.map .int)])), some (.r (.ref l1)), some (.d (.int xs[j])), jv, kv] ∧ m' = ⟨m.p, m.n, (l1, (prodC (xs.take j) ys zs ++ prodC [xs[j]] (ys.take j2) zs).map CellN.d) :: m.ls⟩) ?_ ⟨_, _, rfl, by rw [List.take_zero, prodC_nilY, List.append_nil]⟩ ?_
    · rintro j2 x e m' hx ⟨jv, kv, rfl, rfl⟩
      obtain ⟨hj2, rfl⟩ := ints_get hx
      have w1 := len_prodC_le (xs := xs.take j) (ys := ys) (zs := zs) (a := 20) (b := 20) (c := 20) (by rw [List.length_take]; omega) h2 h3
      have w2 := len_prodC_le (xs := [xs[j]]) (ys := ys.take j2) (zs := zs) (a := 1) (b := 20) (c := 20) (by simp) (by rw [List.length_take]; omega) h3
      refine g 3 sc_law_product_cells.nd ?_
      refine wSs_cons ?_
      refine wS_extendD ?_
      refine v 1 ?_
      refine ⟨_, _, rfl, lookup_hd, ?_⟩
      refine wE_lc [("k", 4)] rfl sc_law_product_cells.nd (blkOk_by (N := ["sides", "found", "i", "j", "k"]) (sc := defScope s_law_product_cells) (by decide +kernel)) ?_
      refine wI_seq ?_
      refine wE_at ?_
      refine v 0 ?_
      refine wE_int ?_
      refine .inl ⟨_, _, _, rfl, rfl, rfl, ?_⟩
      first | refine ⟨_, .inl rfl, ?_⟩ | refine ⟨_, .inr rfl, ?_⟩
      refine ⟨(by simpa using (by omega)), lcW_map (fun z => .tuple [.int xs[j], .int ys[j2], z]) (fun x hx m' k' hk => ?_) ?_⟩
      · intro s1 H1 C1 cl1 fp1
        refine g 4 sc_law_product_cells.nd ?_
        intro s2 H2 C2 cl2 fp2
        refine wE_tup (xs := fun _ => True) ?_
        refine wA_cons ?_
        refine v 2 ?_
        refine wA_cons ?_
        refine v 3 ?_
        refine wA_cons ?_
        refine v 4 ?_
        refine wA_nil ?_
        refine ⟨[_, _, _], rfl, (by first | decide | (simp; done) | (simp; omega) | omega), ?_⟩
        exact hk
      refine ⟨_, _, _, rfl, rfl, (by simp at w1 w2 ⊢; omega), ?_⟩
      refine wSs_nil ?_
      exact ⟨_, _, rfl, by rw [prodC_row _ _ _ _ hj2]; rfl⟩
    rintro e m' ⟨jv, kv, rfl, rfl⟩
    refine wSs_nil ?_
    exact ⟨_, _, _, rfl, by rw [List.length_map, List.take_length, take_get hj, prodC_snoc]⟩
  rintro e m' ⟨iv, jv, kv, rfl, rfl⟩
  rw [List.length_map, List.take_length]
  refine wSs_freeC 1 rfl ?_
  refine wSs_cons ?_
  refine wS_ret ?_
  refine v 1 ?_
  exact hk
theorem ok_law_drawn_boxes {f : Addr} {fd : FuncData} (D : DefAt K mg "_law_drawn_boxes" s_law_drawn_boxes ["pot", "many"] f fd) (T : Txt K mg C_Lot) : FnG P w K mg base CX0 3 f fd ["pot", "many"] (spD K 2 spDBoxes) := by
  obtain ⟨f_law_drawn_box, fd_law_drawn_box, D_law_drawn_box⟩ := T.d_law_drawn_box
  have G_law_drawn_box := ok_law_drawn_box (P := P) (w := w) (base := base) D_law_drawn_box T
  refine fnD D.F sc_law_drawn_boxes (fun cdv A outer s H E hr m ds kk hsp hlen => ?_)
  obtain ⟨a, n, rfl, hn, hp, hn2, hk⟩ := hsp
  rcases hn with rfl | rfl | rfl
  · refine wSs_cons ?_
    refine wS_ret ?_
    refine wE_callTy call_tuple_of callD_tuple (by rfl) T.z_tuple (by decide +kernel) ?_
    refine wA_cons ?_
    refine wE_lc [("lap", 2)] rfl sc_law_drawn_boxes.nd (blkOk_by (N := ["pot", "many", "lap"]) (sc := defScope s_law_drawn_boxes) (by decide +kernel)) ?_
    refine wI_rng1 ?_ (by rfl) T.z_range
    refine v 1 ?_
    refine ⟨_, rfl, (by first | exact Bool.false_ne_true | exact (fun h => Bool.noConfusion (show true = false from h)) | exact ne_false rfl | exact bool_t (by assumption) | exact bool_f (by assumption) | exact dec_t (by assumption) | exact dec_f (by assumption) | exact bool_nt (by assumption) | decide | omega | (simp_all; done) | (simp_all; omega)), ?_⟩
    refine ⟨(by first | decide | (simp; done) | (simp; omega) | omega), ?_⟩
    refine lcW_nil ?_
    refine wA_nil ?_
    first | refine ⟨_, .inl rfl, ?_⟩ | refine ⟨_, .inr (.inl rfl), ?_⟩ | refine ⟨_, .inr (.inr ⟨_, rfl, lookup_hd⟩), ?_⟩
    exact hk [] _ (by simp) (fun b hb => nomatch hb) (by (try simp only [Me.drawn, Me.own, Me.to]); omega)
  · refine wSs_cons ?_
    refine wS_ret ?_
    refine wE_callTy call_tuple_of callD_tuple (by rfl) T.z_tuple (by decide +kernel) ?_
    refine wA_cons ?_
    refine wE_lc [("lap", 2)] rfl sc_law_drawn_boxes.nd (blkOk_by (N := ["pot", "many", "lap"]) (sc := defScope s_law_drawn_boxes) (by decide +kernel)) ?_
    refine wI_rng1 ?_ (by rfl) T.z_range
    refine v 1 ?_
    refine ⟨_, rfl, (by first | exact Bool.false_ne_true | exact (fun h => Bool.noConfusion (show true = false from h)) | exact ne_false rfl | exact bool_t (by assumption) | exact bool_f (by assumption) | exact dec_t (by assumption) | exact dec_f (by assumption) | exact bool_nt (by assumption) | decide | omega | (simp_all; done) | (simp_all; omega)), ?_⟩
    refine ⟨(by first | decide | (simp; done) | (simp; omega) | omega), ?_⟩
    refine lcW_cons (fun D1 => ?_)
    intro saD1 HaD1 CaD1 claD1 fpaD1
    refine g 2 sc_law_drawn_boxes.nd ?_
    intro sbD1 HbD1 CbD1 clbD1 fpbD1
    refine wE_call G_law_drawn_box (hr.mono (by decide)) (by rfl) D_law_drawn_box.g D_law_drawn_box.F.kp D_law_drawn_box.b ?_
    refine wA_cons ?_
    refine v 0 ?_
    refine wA_cons ?_
    refine wE_neg ?_
    refine wE_int ?_
    refine ⟨_, rfl, ?_⟩
    refine wA_cons ?_
    refine wE_int ?_
    refine wA_nil ?_
    refine ⟨rfl, _, _, _, rfl, hp, ⟨by decide, by decide, by decide⟩, (by (try simp only [Me.drawn, Me.own, Me.to]); omega), fun b1 ho1 hi1 => ?_⟩
    refine ⟨_, (Me.drawn _ 6), rfl, rfl, ?_⟩
    refine lcW_nil ?_
    refine wA_nil ?_
    first | refine ⟨_, .inl rfl, ?_⟩ | refine ⟨_, .inr (.inl rfl), ?_⟩ | refine ⟨_, .inr (.inr ⟨_, rfl, lookup_hd⟩), ?_⟩
    exact hk [b1] _ (by simp) (fun b hb => by simp at hb; subst hb; exact ⟨ho1, hi1⟩) (by (try simp only [Me.drawn, Me.own, Me.to]); omega)
  · refine wSs_cons ?_
    refine wS_ret ?_
    refine wE_callTy call_tuple_of callD_tuple (by rfl) T.z_tuple (by decide +kernel) ?_
    refine wA_cons ?_
    refine wE_lc [("lap", 2)] rfl sc_law_drawn_boxes.nd (blkOk_by (N := ["pot", "many", "lap"]) (sc := defScope s_law_drawn_boxes) (by decide +kernel)) ?_
    refine wI_rng1 ?_ (by rfl) T.z_range
    refine v 1 ?_
    refine ⟨_, rfl, (by first | exact Bool.false_ne_true | exact (fun h => Bool.noConfusion (show true = false from h)) | exact ne_false rfl | exact bool_t (by assumption) | exact bool_f (by assumption) | exact dec_t (by assumption) | exact dec_f (by assumption) | exact bool_nt (by assumption) | decide | omega | (simp_all; done) | (simp_all; omega)), ?_⟩
    refine ⟨(by first | decide | (simp; done) | (simp; omega) | omega), ?_⟩
    refine lcW_cons (fun D1 => ?_)
    intro saD1 HaD1 CaD1 claD1 fpaD1
    refine g 2 sc_law_drawn_boxes.nd ?_
    intro sbD1 HbD1 CbD1 clbD1 fpbD1
    refine wE_call G_law_drawn_box (hr.mono (by decide)) (by rfl) D_law_drawn_box.g D_law_drawn_box.F.kp D_law_drawn_box.b ?_
    refine wA_cons ?_
    refine v 0 ?_
    refine wA_cons ?_
    refine wE_neg ?_
    refine wE_int ?_
    refine ⟨_, rfl, ?_⟩
    refine wA_cons ?_
    refine wE_int ?_
    refine wA_nil ?_
    refine ⟨rfl, _, _, _, rfl, hp, ⟨by decide, by decide, by decide⟩, (by (try simp only [Me.drawn, Me.own, Me.to]); omega), fun b1 ho1 hi1 => ?_⟩
    refine ⟨_, (Me.drawn _ 6), rfl, rfl, ?_⟩
    refine lcW_cons (fun D2 => ?_)
    intro saD2 HaD2 CaD2 claD2 fpaD2
    refine g 2 sc_law_drawn_boxes.nd ?_
    intro sbD2 HbD2 CbD2 clbD2 fpbD2
    refine wE_call G_law_drawn_box (hr.mono (by decide)) (by rfl) D_law_drawn_box.g D_law_drawn_box.F.kp D_law_drawn_box.b ?_
    refine wA_cons ?_
    refine v 0 ?_
    refine wA_cons ?_
    refine wE_neg ?_
    refine wE_int ?_
    refine ⟨_, rfl, ?_⟩
    refine wA_cons ?_
    refine wE_int ?_
    refine wA_nil ?_
    refine ⟨rfl, _, _, _, rfl, hp, ⟨by decide, by decide, by decide⟩, (by (try simp only [Me.drawn, Me.own, Me.to]); omega), fun b2 ho2 hi2 => ?_⟩
    refine ⟨_, (Me.drawn _ 6), rfl, rfl, ?_⟩
    refine lcW_nil ?_
    refine wA_nil ?_
    first | refine ⟨_, .inl rfl, ?_⟩ | refine ⟨_, .inr (.inl rfl), ?_⟩ | refine ⟨_, .inr (.inr ⟨_, rfl, lookup_hd⟩), ?_⟩
    exact hk [b1, b2] _ (by simp) (fun b hb => by simp at hb; rcases hb with rfl | rfl; exact ⟨ho1, hi1⟩; exact ⟨ho2, hi2⟩) (by (try simp only [Me.drawn, Me.own, Me.to]); omega)
theorem ok_law_lies {f : Addr} {fd : FuncData} (D : DefAt K mg "_law_lies" s_law_lies ["box", "point", "is_within"] f fd) (T : Txt K mg C_Lot) : FnG P w K mg base CX0 1 f fd ["box", "point", "is_within"] (spD K 3 spLies) := by
  refine fnD D.F sc_law_lies (fun cdv A outer s H E hr m ds kk hsp hlen => ?_)
  obtain ⟨b, p, w, i, rfl, hw, hb, hp, hk⟩ := hsp
  obtain ⟨s1, s2, s3, s4, s5, s6⟩ := hb.sml
  have s7 := hp.sa.2
  have s8 := hp.sb.2
  have s9 := hp.sc.2
  cases w
  · obtain rfl : i = 0 := hw
    refine wSs_cons ?_
    refine wS_for (List.range 40) PassesOwn.never rfl ?_
    refine wI_rng1 ?_ (by rfl) T.z_range
    refine wE_int ?_
    refine ⟨_, rfl, (by first | exact Bool.false_ne_true | exact (fun h => Bool.noConfusion (show true = false from h)) | exact ne_false rfl | exact bool_t (by assumption) | exact bool_f (by assumption) | exact dec_t (by assumption) | exact dec_f (by assumption) | exact bool_nt (by assumption) | decide | omega | (simp_all; done) | (simp_all; omega)), ?_⟩
    change forW _ _ _ _ _ [PyData.int 0, PyData.int 1, PyData.int 2] _ _
    refine forW_cons ?_
    refine g 3 sc_law_lies.nd ?_
    refine wSs_cons ?_
    refine wS_asg (List.range 40) ?_
    refine wE_at ?_
    refine v 1 ?_
    refine v 3 ?_
    refine .inl ⟨_, _, _, rfl, rfl, rfl, ?_⟩
    refine wG_tup rfl rfl rfl ?_
    refine wGs_cons ?_
    refine g 4 sc_law_lies.nd ?_
    refine wGs_cons ?_
    refine g 5 sc_law_lies.nd ?_
    refine wGs_nil ?_
    refine wSs_cons ?_
    refine wS_par 6 7 rfl sc_law_lies.nd rfl rfl (by decide) rfl rfl ?_ (by rfl)
    refine wA_cons ?_
    refine wE_mul ?_
    refine wE_at ?_
    refine v 0 ?_
    refine wE_mul ?_
    refine wE_int ?_
    refine v 3 ?_
    refine ⟨_, _, rfl, rfl, (by first | exact Sm.mul (by assumption) (by assumption) | exact cmul (by decide) (by decide) (by decide) (by decide)), ?_⟩
    refine .inl ⟨_, _, _, rfl, rfl, rfl, ?_⟩
    refine v 5 ?_
    refine ⟨_, _, rfl, rfl, (by first | exact Sm.mul (by assumption) (by assumption) | exact cmul (by decide) (by decide) (by decide) (by decide)), ?_⟩
    refine wA_cons ?_
    refine wE_mul ?_
    refine wE_at ?_
    refine v 0 ?_
    refine wE_add ?_
    refine wE_mul ?_
    refine wE_int ?_
    refine v 3 ?_
    refine ⟨_, _, rfl, rfl, (by first | exact Sm.mul (by assumption) (by assumption) | exact cmul (by decide) (by decide) (by decide) (by decide)), ?_⟩
    refine wE_int ?_
    refine ⟨_, _, rfl, rfl, ?_⟩
    refine .inl ⟨_, _, _, rfl, rfl, rfl, ?_⟩
    refine v 5 ?_
    refine ⟨_, _, rfl, rfl, (by first | exact Sm.mul (by assumption) (by assumption) | exact cmul (by decide) (by decide) (by decide) (by decide)), ?_⟩
    refine wA_nil ?_
    refine ⟨_, _, rfl, ?_⟩
    refine wSs_cons ?_
    refine wS_if ?_
    refine wT_not ?_
    refine wT_ite ?_
    refine wT_tru ?_
    refine v 2 ?_
    refine ⟨_, rfl, ?_⟩
    refine ⟨fun ht => absurd ht ((by first | exact Bool.false_ne_true | exact (fun h => Bool.noConfusion (show true = false from h)) | exact ne_false rfl | exact bool_t (by assumption) | exact bool_f (by assumption) | exact dec_t (by assumption) | exact dec_f (by assumption) | exact bool_nt (by assumption) | decide | omega | (simp_all; done) | (simp_all; omega))), fun _ => ?_⟩
    refine wT_leleC ?_
    refine v 6 ?_
    refine v 4 ?_
    refine ⟨_, _, (b.x1 * p.a'), rfl, rfl, ?_, ?_⟩
    · refine v 7 ?_
      exact ⟨rfl, rfl⟩
    refine ⟨fun ht => ?_, fun ht => ?_⟩
    · refine wSs_cons ?_
      refine wS_ret ?_
      refine wE_bl ?_
      exact Eq.mp (congrArg (fun z => kk (Dat.d (PyData.bool z)) m) (decide_eq_false fun h => nd_f ht ((lies0 hp).mp h).1)) hk
    · refine wSs_nil ?_
      refine wSs_nil ?_
      change forW _ _ _ _ _ _ [some (.d b.d), some (.d p.d), some (.d (.bool false)), some (.d (.int 0)), some (.d (.int p.a)), some (.d (.int p.a')), some (.d (.int (b.x0 * p.a'))), some (.d (.int (b.x1 * p.a')))] _
      refine forW_cons ?_
      refine g 3 sc_law_lies.nd ?_
      refine wSs_cons ?_
      refine wS_asg (List.range 40) ?_
      refine wE_at ?_
      refine v 1 ?_
      refine v 3 ?_
      refine .inl ⟨_, _, _, rfl, rfl, rfl, ?_⟩
      refine wG_tup rfl rfl rfl ?_
      refine wGs_cons ?_
      refine g 4 sc_law_lies.nd ?_
      refine wGs_cons ?_
      refine g 5 sc_law_lies.nd ?_
      refine wGs_nil ?_
      refine wSs_cons ?_
      refine wS_par 6 7 rfl sc_law_lies.nd rfl rfl (by decide) rfl rfl ?_ (by rfl)
      refine wA_cons ?_
      refine wE_mul ?_
      refine wE_at ?_
      refine v 0 ?_
      refine wE_mul ?_
      refine wE_int ?_
      refine v 3 ?_
      refine ⟨_, _, rfl, rfl, (by first | exact Sm.mul (by assumption) (by assumption) | exact cmul (by decide) (by decide) (by decide) (by decide)), ?_⟩
      refine .inl ⟨_, _, _, rfl, rfl, rfl, ?_⟩
      refine v 5 ?_
      refine ⟨_, _, rfl, rfl, (by first | exact Sm.mul (by assumption) (by assumption) | exact cmul (by decide) (by decide) (by decide) (by decide)), ?_⟩
      refine wA_cons ?_
      refine wE_mul ?_
      refine wE_at ?_
      refine v 0 ?_
      refine wE_add ?_
      refine wE_mul ?_
      refine wE_int ?_
      refine v 3 ?_
      refine ⟨_, _, rfl, rfl, (by first | exact Sm.mul (by assumption) (by assumption) | exact cmul (by decide) (by decide) (by decide) (by decide)), ?_⟩
      refine wE_int ?_
      refine ⟨_, _, rfl, rfl, ?_⟩
      refine .inl ⟨_, _, _, rfl, rfl, rfl, ?_⟩
      refine v 5 ?_
      refine ⟨_, _, rfl, rfl, (by first | exact Sm.mul (by assumption) (by assumption) | exact cmul (by decide) (by decide) (by decide) (by decide)), ?_⟩
      refine wA_nil ?_
      refine ⟨_, _, rfl, ?_⟩
      refine wSs_cons ?_
      refine wS_if ?_
      refine wT_not ?_
      refine wT_ite ?_
      refine wT_tru ?_
      refine v 2 ?_
      refine ⟨_, rfl, ?_⟩
      refine ⟨fun ht => absurd ht ((by first | exact Bool.false_ne_true | exact (fun h => Bool.noConfusion (show true = false from h)) | exact ne_false rfl | exact bool_t (by assumption) | exact bool_f (by assumption) | exact dec_t (by assumption) | exact dec_f (by assumption) | exact bool_nt (by assumption) | decide | omega | (simp_all; done) | (simp_all; omega))), fun _ => ?_⟩
      refine wT_leleC ?_
      refine v 6 ?_
      refine v 4 ?_
      refine ⟨_, _, (b.y1 * p.b'), rfl, rfl, ?_, ?_⟩
      · refine v 7 ?_
        exact ⟨rfl, rfl⟩
      refine ⟨fun ht => ?_, fun ht => ?_⟩
      · refine wSs_cons ?_
        refine wS_ret ?_
        refine wE_bl ?_
        exact Eq.mp (congrArg (fun z => kk (Dat.d (PyData.bool z)) m) (decide_eq_false fun h => nd_f ht ((lies0 hp).mp h).2.1)) hk
      · refine wSs_nil ?_
        refine wSs_nil ?_
        change forW _ _ _ _ _ _ [some (.d b.d), some (.d p.d), some (.d (.bool false)), some (.d (.int 1)), some (.d (.int p.b)), some (.d (.int p.b')), some (.d (.int (b.y0 * p.b'))), some (.d (.int (b.y1 * p.b')))] _
        refine forW_cons ?_
        refine g 3 sc_law_lies.nd ?_
        refine wSs_cons ?_
        refine wS_asg (List.range 40) ?_
        refine wE_at ?_
        refine v 1 ?_
        refine v 3 ?_
        refine .inl ⟨_, _, _, rfl, rfl, rfl, ?_⟩
        refine wG_tup rfl rfl rfl ?_
        refine wGs_cons ?_
        refine g 4 sc_law_lies.nd ?_
        refine wGs_cons ?_
        refine g 5 sc_law_lies.nd ?_
        refine wGs_nil ?_
        refine wSs_cons ?_
        refine wS_par 6 7 rfl sc_law_lies.nd rfl rfl (by decide) rfl rfl ?_ (by rfl)
        refine wA_cons ?_
        refine wE_mul ?_
        refine wE_at ?_
        refine v 0 ?_
        refine wE_mul ?_
        refine wE_int ?_
        refine v 3 ?_
        refine ⟨_, _, rfl, rfl, (by first | exact Sm.mul (by assumption) (by assumption) | exact cmul (by decide) (by decide) (by decide) (by decide)), ?_⟩
        refine .inl ⟨_, _, _, rfl, rfl, rfl, ?_⟩
        refine v 5 ?_
        refine ⟨_, _, rfl, rfl, (by first | exact Sm.mul (by assumption) (by assumption) | exact cmul (by decide) (by decide) (by decide) (by decide)), ?_⟩
        refine wA_cons ?_
        refine wE_mul ?_
        refine wE_at ?_
        refine v 0 ?_
        refine wE_add ?_
        refine wE_mul ?_
        refine wE_int ?_
        refine v 3 ?_
        refine ⟨_, _, rfl, rfl, (by first | exact Sm.mul (by assumption) (by assumption) | exact cmul (by decide) (by decide) (by decide) (by decide)), ?_⟩
        refine wE_int ?_
        refine ⟨_, _, rfl, rfl, ?_⟩
        refine .inl ⟨_, _, _, rfl, rfl, rfl, ?_⟩
        refine v 5 ?_
        refine ⟨_, _, rfl, rfl, (by first | exact Sm.mul (by assumption) (by assumption) | exact cmul (by decide) (by decide) (by decide) (by decide)), ?_⟩
        refine wA_nil ?_
        refine ⟨_, _, rfl, ?_⟩
        refine wSs_cons ?_
        refine wS_if ?_
        refine wT_not ?_
        refine wT_ite ?_
        refine wT_tru ?_
        refine v 2 ?_
        refine ⟨_, rfl, ?_⟩
        refine ⟨fun ht => absurd ht ((by first | exact Bool.false_ne_true | exact (fun h => Bool.noConfusion (show true = false from h)) | exact ne_false rfl | exact bool_t (by assumption) | exact bool_f (by assumption) | exact dec_t (by assumption) | exact dec_f (by assumption) | exact bool_nt (by assumption) | decide | omega | (simp_all; done) | (simp_all; omega))), fun _ => ?_⟩
        refine wT_leleC ?_
        refine v 6 ?_
        refine v 4 ?_
        refine ⟨_, _, (b.z1 * p.c'), rfl, rfl, ?_, ?_⟩
        · refine v 7 ?_
          exact ⟨rfl, rfl⟩
        refine ⟨fun ht => ?_, fun ht => ?_⟩
        · refine wSs_cons ?_
          refine wS_ret ?_
          refine wE_bl ?_
          exact Eq.mp (congrArg (fun z => kk (Dat.d (PyData.bool z)) m) (decide_eq_false fun h => nd_f ht ((lies0 hp).mp h).2.2)) hk
        · refine wSs_nil ?_
          refine wSs_nil ?_
          refine wSs_cons ?_
          refine wS_ret ?_
          refine wE_bl ?_
          exact Eq.mp (congrArg (fun z => kk (Dat.d (PyData.bool z)) m) (decide_eq_true ((lies0 hp).mpr ⟨nd_t (by assumption), nd_t (by assumption), nd_t (by assumption)⟩))) hk
  · obtain rfl : i = 1 := hw
    refine wSs_cons ?_
    refine wS_for (List.range 40) PassesOwn.never rfl ?_
    refine wI_rng1 ?_ (by rfl) T.z_range
    refine wE_int ?_
    refine ⟨_, rfl, (by first | exact Bool.false_ne_true | exact (fun h => Bool.noConfusion (show true = false from h)) | exact ne_false rfl | exact bool_t (by assumption) | exact bool_f (by assumption) | exact dec_t (by assumption) | exact dec_f (by assumption) | exact bool_nt (by assumption) | decide | omega | (simp_all; done) | (simp_all; omega)), ?_⟩
    change forW _ _ _ _ _ [PyData.int 0, PyData.int 1, PyData.int 2] _ _
    refine forW_cons ?_
    refine g 3 sc_law_lies.nd ?_
    refine wSs_cons ?_
    refine wS_asg (List.range 40) ?_
    refine wE_at ?_
    refine v 1 ?_
    refine v 3 ?_
    refine .inl ⟨_, _, _, rfl, rfl, rfl, ?_⟩
    refine wG_tup rfl rfl rfl ?_
    refine wGs_cons ?_
    refine g 4 sc_law_lies.nd ?_
    refine wGs_cons ?_
    refine g 5 sc_law_lies.nd ?_
    refine wGs_nil ?_
    refine wSs_cons ?_
    refine wS_par 6 7 rfl sc_law_lies.nd rfl rfl (by decide) rfl rfl ?_ (by rfl)
    refine wA_cons ?_
    refine wE_mul ?_
    refine wE_at ?_
    refine v 0 ?_
    refine wE_mul ?_
    refine wE_int ?_
    refine v 3 ?_
    refine ⟨_, _, rfl, rfl, (by first | exact Sm.mul (by assumption) (by assumption) | exact cmul (by decide) (by decide) (by decide) (by decide)), ?_⟩
    refine .inl ⟨_, _, _, rfl, rfl, rfl, ?_⟩
    refine v 5 ?_
    refine ⟨_, _, rfl, rfl, (by first | exact Sm.mul (by assumption) (by assumption) | exact cmul (by decide) (by decide) (by decide) (by decide)), ?_⟩
    refine wA_cons ?_
    refine wE_mul ?_
    refine wE_at ?_
    refine v 0 ?_
    refine wE_add ?_
    refine wE_mul ?_
    refine wE_int ?_
    refine v 3 ?_
    refine ⟨_, _, rfl, rfl, (by first | exact Sm.mul (by assumption) (by assumption) | exact cmul (by decide) (by decide) (by decide) (by decide)), ?_⟩
    refine wE_int ?_
    refine ⟨_, _, rfl, rfl, ?_⟩
    refine .inl ⟨_, _, _, rfl, rfl, rfl, ?_⟩
    refine v 5 ?_
    refine ⟨_, _, rfl, rfl, (by first | exact Sm.mul (by assumption) (by assumption) | exact cmul (by decide) (by decide) (by decide) (by decide)), ?_⟩
    refine wA_nil ?_
    refine ⟨_, _, rfl, ?_⟩
    refine wSs_cons ?_
    refine wS_if ?_
    refine wT_not ?_
    refine wT_ite ?_
    refine wT_tru ?_
    refine v 2 ?_
    refine ⟨_, rfl, ?_⟩
    refine ⟨fun _ => ?_, fun ht => absurd ht ((by first | exact Bool.false_ne_true | exact (fun h => Bool.noConfusion (show true = false from h)) | exact ne_false rfl | exact bool_t (by assumption) | exact bool_f (by assumption) | exact dec_t (by assumption) | exact dec_f (by assumption) | exact bool_nt (by assumption) | decide | omega | (simp_all; done) | (simp_all; omega)))⟩
    refine wT_ltltC ?_
    refine v 6 ?_
    refine v 4 ?_
    refine ⟨_, _, (b.x1 * p.a'), rfl, rfl, ?_, ?_⟩
    · refine v 7 ?_
      exact ⟨rfl, rfl⟩
    refine ⟨fun ht => ?_, fun ht => ?_⟩
    · refine wSs_cons ?_
      refine wS_ret ?_
      refine wE_bl ?_
      exact Eq.mp (congrArg (fun z => kk (Dat.d (PyData.bool z)) m) (decide_eq_false fun h => nd_f ht ((lies1 hp).mp h).1)) hk
    · refine wSs_nil ?_
      refine wSs_nil ?_
      change forW _ _ _ _ _ _ [some (.d b.d), some (.d p.d), some (.d (.bool true)), some (.d (.int 0)), some (.d (.int p.a)), some (.d (.int p.a')), some (.d (.int (b.x0 * p.a'))), some (.d (.int (b.x1 * p.a')))] _
      refine forW_cons ?_
      refine g 3 sc_law_lies.nd ?_
      refine wSs_cons ?_
      refine wS_asg (List.range 40) ?_
      refine wE_at ?_
      refine v 1 ?_
      refine v 3 ?_
      refine .inl ⟨_, _, _, rfl, rfl, rfl, ?_⟩
      refine wG_tup rfl rfl rfl ?_
      refine wGs_cons ?_
      refine g 4 sc_law_lies.nd ?_
      refine wGs_cons ?_
      refine g 5 sc_law_lies.nd ?_
      refine wGs_nil ?_
      refine wSs_cons ?_
      refine wS_par 6 7 rfl sc_law_lies.nd rfl rfl (by decide) rfl rfl ?_ (by rfl)
      refine wA_cons ?_
      refine wE_mul ?_
      refine wE_at ?_
      refine v 0 ?_
      refine wE_mul ?_
      refine wE_int ?_
      refine v 3 ?_
      refine ⟨_, _, rfl, rfl, (by first | exact Sm.mul (by assumption) (by assumption) | exact cmul (by decide) (by decide) (by decide) (by decide)), ?_⟩
      refine .inl ⟨_, _, _, rfl, rfl, rfl, ?_⟩
      refine v 5 ?_
      refine ⟨_, _, rfl, rfl, (by first | exact Sm.mul (by assumption) (by assumption) | exact cmul (by decide) (by decide) (by decide) (by decide)), ?_⟩
      refine wA_cons ?_
      refine wE_mul ?_
      refine wE_at ?_
      refine v 0 ?_
      refine wE_add ?_
      refine wE_mul ?_
      refine wE_int ?_
      refine v 3 ?_
      refine ⟨_, _, rfl, rfl, (by first | exact Sm.mul (by assumption) (by assumption) | exact cmul (by decide) (by decide) (by decide) (by decide)), ?_⟩
      refine wE_int ?_
      refine ⟨_, _, rfl, rfl, ?_⟩
      refine .inl ⟨_, _, _, rfl, rfl, rfl, ?_⟩
      refine v 5 ?_
      refine ⟨_, _, rfl, rfl, (by first | exact Sm.mul (by assumption) (by assumption) | exact cmul (by decide) (by decide) (by decide) (by decide)), ?_⟩
      refine wA_nil ?_
      refine ⟨_, _, rfl, ?_⟩
      refine wSs_cons ?_
      refine wS_if ?_
      refine wT_not ?_
      refine wT_ite ?_
      refine wT_tru ?_
      refine v 2 ?_
      refine ⟨_, rfl, ?_⟩
      refine ⟨fun _ => ?_, fun ht => absurd ht ((by first | exact Bool.false_ne_true | exact (fun h => Bool.noConfusion (show true = false from h)) | exact ne_false rfl | exact bool_t (by assumption) | exact bool_f (by assumption) | exact dec_t (by assumption) | exact dec_f (by assumption) | exact bool_nt (by assumption) | decide | omega | (simp_all; done) | (simp_all; omega)))⟩
      refine wT_ltltC ?_
      refine v 6 ?_
      refine v 4 ?_
      refine ⟨_, _, (b.y1 * p.b'), rfl, rfl, ?_, ?_⟩
      · refine v 7 ?_
        exact ⟨rfl, rfl⟩
      refine ⟨fun ht => ?_, fun ht => ?_⟩
      · refine wSs_cons ?_
        refine wS_ret ?_
        refine wE_bl ?_
        exact Eq.mp (congrArg (fun z => kk (Dat.d (PyData.bool z)) m) (decide_eq_false fun h => nd_f ht ((lies1 hp).mp h).2.1)) hk
      · refine wSs_nil ?_
        refine wSs_nil ?_
        change forW _ _ _ _ _ _ [some (.d b.d), some (.d p.d), some (.d (.bool true)), some (.d (.int 1)), some (.d (.int p.b)), some (.d (.int p.b')), some (.d (.int (b.y0 * p.b'))), some (.d (.int (b.y1 * p.b')))] _
        refine forW_cons ?_
        refine g 3 sc_law_lies.nd ?_
        refine wSs_cons ?_
        refine wS_asg (List.range 40) ?_
        refine wE_at ?_
        refine v 1 ?_
        refine v 3 ?_
        refine .inl ⟨_, _, _, rfl, rfl, rfl, ?_⟩
        refine wG_tup rfl rfl rfl ?_
        refine wGs_cons ?_
        refine g 4 sc_law_lies.nd ?_
        refine wGs_cons ?_
        refine g 5 sc_law_lies.nd ?_
        refine wGs_nil ?_
        refine wSs_cons ?_
        refine wS_par 6 7 rfl sc_law_lies.nd rfl rfl (by decide) rfl rfl ?_ (by rfl)
        refine wA_cons ?_
        refine wE_mul ?_
        refine wE_at ?_
        refine v 0 ?_
        refine wE_mul ?_
        refine wE_int ?_
        refine v 3 ?_
        refine ⟨_, _, rfl, rfl, (by first | exact Sm.mul (by assumption) (by assumption) | exact cmul (by decide) (by decide) (by decide) (by decide)), ?_⟩
        refine .inl ⟨_, _, _, rfl, rfl, rfl, ?_⟩
        refine v 5 ?_
        refine ⟨_, _, rfl, rfl, (by first | exact Sm.mul (by assumption) (by assumption) | exact cmul (by decide) (by decide) (by decide) (by decide)), ?_⟩
        refine wA_cons ?_
        refine wE_mul ?_
        refine wE_at ?_
        refine v 0 ?_
        refine wE_add ?_
        refine wE_mul ?_
        refine wE_int ?_
        refine v 3 ?_
        refine ⟨_, _, rfl, rfl, (by first | exact Sm.mul (by assumption) (by assumption) | exact cmul (by decide) (by decide) (by decide) (by decide)), ?_⟩
        refine wE_int ?_
        refine ⟨_, _, rfl, rfl, ?_⟩
        refine .inl ⟨_, _, _, rfl, rfl, rfl, ?_⟩
        refine v 5 ?_
        refine ⟨_, _, rfl, rfl, (by first | exact Sm.mul (by assumption) (by assumption) | exact cmul (by decide) (by decide) (by decide) (by decide)), ?_⟩
        refine wA_nil ?_
        refine ⟨_, _, rfl, ?_⟩
        refine wSs_cons ?_
        refine wS_if ?_
        refine wT_not ?_
        refine wT_ite ?_
        refine wT_tru ?_
        refine v 2 ?_
        refine ⟨_, rfl, ?_⟩
        refine ⟨fun _ => ?_, fun ht => absurd ht ((by first | exact Bool.false_ne_true | exact (fun h => Bool.noConfusion (show true = false from h)) | exact ne_false rfl | exact bool_t (by assumption) | exact bool_f (by assumption) | exact dec_t (by assumption) | exact dec_f (by assumption) | exact bool_nt (by assumption) | decide | omega | (simp_all; done) | (simp_all; omega)))⟩
        refine wT_ltltC ?_
        refine v 6 ?_
        refine v 4 ?_
        refine ⟨_, _, (b.z1 * p.c'), rfl, rfl, ?_, ?_⟩
        · refine v 7 ?_
          exact ⟨rfl, rfl⟩
        refine ⟨fun ht => ?_, fun ht => ?_⟩
        · refine wSs_cons ?_
          refine wS_ret ?_
          refine wE_bl ?_
          exact Eq.mp (congrArg (fun z => kk (Dat.d (PyData.bool z)) m) (decide_eq_false fun h => nd_f ht ((lies1 hp).mp h).2.2)) hk
        · refine wSs_nil ?_
          refine wSs_nil ?_
          refine wSs_cons ?_
          refine wS_ret ?_
          refine wE_bl ?_
          exact Eq.mp (congrArg (fun z => kk (Dat.d (PyData.bool z)) m) (decide_eq_true ((lies1 hp).mpr ⟨nd_t (by assumption), nd_t (by assumption), nd_t (by assumption)⟩))) hk
theorem ok_law_in_boxes {f : Addr} {fd : FuncData} (D : DefAt K mg "_law_in_boxes" s_law_in_boxes ["boxes", "is_within"] f fd) (T : Txt K mg C_Lot) : FnG P w K mg base CX0 2 f fd ["boxes", "is_within"] (spD K 2 spInBoxes) := by
  obtain ⟨f_law_product_cells, fd_law_product_cells, D_law_product_cells⟩ := T.d_law_product_cells
  have G_law_product_cells := ok_law_product_cells (P := P) (w := w) (base := base) D_law_product_cells T
  obtain ⟨f_law_one_each, fd_law_one_each, D_law_one_each⟩ := T.d_law_one_each
  have G_law_one_each := ok_law_one_each (P := P) (w := w) (base := base) D_law_one_each T
  refine fnD D.F sc_law_in_boxes (fun cdv A outer s H E hr m ds kk hsp hlen => ?_)
  obtain ⟨bs, w, i, rfl, hw, hl, hb, hk⟩ := hsp
  cases w
  · obtain rfl : i = 0 := hw
    refine wSs_cons ?_
    refine st 2 sc_law_in_boxes.nd ?_
    refine wE_lstO ?_
    refine wA_nil ?_
    refine ⟨[], rfl, (by first | decide | (simp; done) | (simp; omega) | omega), fun l1 => ?_⟩
    refine wSs_cons ?_
    refine wS_for (List.range 40) PassesOwn.never rfl ?_
    refine wI_seq ?_
    refine v 0 ?_
    first | refine ⟨_, .inl rfl, ?_⟩ | refine ⟨_, .inr rfl, ?_⟩
    refine forW_inv0 (fun j e m' => ∃ bv mv av : Option Dat, e = [some (.d (.list (bs.map BoxN.d))), some (.d (.bool false)), some (.r (.ref l1)), bv, mv, av] ∧ m' = ⟨m.p, m.n, (l1, (boxesC (bs.take j) 0).map CellN.d) :: m.ls⟩) ?_ ⟨none, none, none, rfl, rfl⟩ ?_
    · rintro j x e m' hx ⟨bv, mv, av, rfl, rfl⟩
      obtain ⟨hj, rfl⟩ := boxes_get hx
      have hbj := hb _ (List.getElem_mem hj)
      obtain ⟨q1, q2, q3⟩ := hbj.tri
      have w1 := len_boxesC (i := 0) (.inl rfl) (bs := bs.take j) fun c hc => hb c (List.mem_of_mem_take hc)
      have w2 := len_boxC hbj (i := 0) (.inl rfl)
      have w3 : (bs.take j).length ≤ 3 := by rw [List.length_take]; omega
      refine g 3 sc_law_in_boxes.nd ?_
      refine wSs_cons ?_
      refine st 4 sc_law_in_boxes.nd ?_
      refine wE_ite ?_
      refine wT_tru ?_
      refine v 1 ?_
      refine ⟨_, rfl, ?_⟩
      refine ⟨fun ht => absurd ht ((by first | exact Bool.false_ne_true | exact (fun h => Bool.noConfusion (show true = false from h)) | exact ne_false rfl | exact bool_t (by assumption) | exact bool_f (by assumption) | exact dec_t (by assumption) | exact dec_f (by assumption) | exact bool_nt (by assumption) | decide | omega | (simp_all; done) | (simp_all; omega))), fun _ => ?_⟩
      refine wE_int ?_
      refine wSs_cons ?_
      refine wS_extendD ?_
      refine v 2 ?_
      refine ⟨_, _, rfl, lookup_hd, ?_⟩
      refine wE_call G_law_product_cells (hr.mono (by decide)) (by rfl) D_law_product_cells.g D_law_product_cells.F.kp D_law_product_cells.b ?_
      refine wA_cons ?_
      refine wE_lc [("axis", 5)] rfl sc_law_in_boxes.nd (blkOk_by (N := ["boxes", "is_within", "found", "box", "more", "axis"]) (sc := defScope s_law_in_boxes) (by decide +kernel)) ?_
      refine wI_rng1 ?_ (by rfl) T.z_range
      refine wE_int ?_
      refine ⟨_, rfl, (by first | exact Bool.false_ne_true | exact (fun h => Bool.noConfusion (show true = false from h)) | exact ne_false rfl | exact bool_t (by assumption) | exact bool_f (by assumption) | exact dec_t (by assumption) | exact dec_f (by assumption) | exact bool_nt (by assumption) | decide | omega | (simp_all; done) | (simp_all; omega)), ?_⟩
      refine ⟨(by first | decide | (simp; done) | (simp; omega) | omega), ?_⟩
      change lcW _ [PyData.int 0, PyData.int 1, PyData.int 2] _ _ _
      refine lcW_cons (fun D2 => ?_)
      intro saD2 HaD2 CaD2 claD2 fpaD2
      refine g 5 sc_law_in_boxes.nd ?_
      intro sbD2 HbD2 CbD2 clbD2 fpbD2
      refine wE_listRg2 rfl (by rfl) T.z_list (by rfl) T.z_range ?_
      refine wE_add ?_
      refine wE_mul ?_
      refine wE_int ?_
      refine wE_at ?_
      refine v 3 ?_
      refine wE_mul ?_
      refine wE_int ?_
      refine v 5 ?_
      refine ⟨_, _, rfl, rfl, (by first | exact cmul (by omega) (by omega) (by omega) (by omega) | exact cmul (by decide) (by decide) (by decide) (by decide)), ?_⟩
      refine .inl ⟨_, _, _, rfl, rfl, rfl, ?_⟩
      refine ⟨_, _, rfl, rfl, (by first | exact cmul (by omega) (by omega) (by omega) (by omega) | exact cmul (by decide) (by decide) (by decide) (by decide)), ?_⟩
      refine v 4 ?_
      refine ⟨_, _, rfl, rfl, ?_⟩
      refine wE_sub ?_
      refine wE_add ?_
      refine wE_mul ?_
      refine wE_int ?_
      refine wE_at ?_
      refine v 3 ?_
      refine wE_add ?_
      refine wE_mul ?_
      refine wE_int ?_
      refine v 5 ?_
      refine ⟨_, _, rfl, rfl, (by first | exact cmul (by omega) (by omega) (by omega) (by omega) | exact cmul (by decide) (by decide) (by decide) (by decide)), ?_⟩
      refine wE_int ?_
      refine ⟨_, _, rfl, rfl, ?_⟩
      refine .inl ⟨_, _, _, rfl, rfl, rfl, ?_⟩
      refine ⟨_, _, rfl, rfl, (by first | exact cmul (by omega) (by omega) (by omega) (by omega) | exact cmul (by decide) (by decide) (by decide) (by decide)), ?_⟩
      refine wE_int ?_
      refine ⟨_, _, rfl, rfl, ?_⟩
      refine v 4 ?_
      refine ⟨_, _, rfl, rfl, ?_⟩
      refine ⟨_, _, rfl, rfl, ⟨by omega, by omega, by omega, by omega⟩, ?_⟩
      refine ⟨_, _, rfl, rfl, ?_⟩
      refine lcW_cons (fun D3 => ?_)
      intro saD3 HaD3 CaD3 claD3 fpaD3
      refine g 5 sc_law_in_boxes.nd ?_
      intro sbD3 HbD3 CbD3 clbD3 fpbD3
      refine wE_listRg2 rfl (by rfl) T.z_list (by rfl) T.z_range ?_
      refine wE_add ?_
      refine wE_mul ?_
      refine wE_int ?_
      refine wE_at ?_
      refine v 3 ?_
      refine wE_mul ?_
      refine wE_int ?_
      refine v 5 ?_
      refine ⟨_, _, rfl, rfl, (by first | exact cmul (by omega) (by omega) (by omega) (by omega) | exact cmul (by decide) (by decide) (by decide) (by decide)), ?_⟩
      refine .inl ⟨_, _, _, rfl, rfl, rfl, ?_⟩
      refine ⟨_, _, rfl, rfl, (by first | exact cmul (by omega) (by omega) (by omega) (by omega) | exact cmul (by decide) (by decide) (by decide) (by decide)), ?_⟩
      refine v 4 ?_
      refine ⟨_, _, rfl, rfl, ?_⟩
      refine wE_sub ?_
      refine wE_add ?_
      refine wE_mul ?_
      refine wE_int ?_
      refine wE_at ?_
      refine v 3 ?_
      refine wE_add ?_
      refine wE_mul ?_
      refine wE_int ?_
      refine v 5 ?_
      refine ⟨_, _, rfl, rfl, (by first | exact cmul (by omega) (by omega) (by omega) (by omega) | exact cmul (by decide) (by decide) (by decide) (by decide)), ?_⟩
      refine wE_int ?_
      refine ⟨_, _, rfl, rfl, ?_⟩
      refine .inl ⟨_, _, _, rfl, rfl, rfl, ?_⟩
      refine ⟨_, _, rfl, rfl, (by first | exact cmul (by omega) (by omega) (by omega) (by omega) | exact cmul (by decide) (by decide) (by decide) (by decide)), ?_⟩
      refine wE_int ?_
      refine ⟨_, _, rfl, rfl, ?_⟩
      refine v 4 ?_
      refine ⟨_, _, rfl, rfl, ?_⟩
      refine ⟨_, _, rfl, rfl, ⟨by omega, by omega, by omega, by omega⟩, ?_⟩
      refine ⟨_, _, rfl, rfl, ?_⟩
      refine lcW_cons (fun D4 => ?_)
      intro saD4 HaD4 CaD4 claD4 fpaD4
      refine g 5 sc_law_in_boxes.nd ?_
      intro sbD4 HbD4 CbD4 clbD4 fpbD4
      refine wE_listRg2 rfl (by rfl) T.z_list (by rfl) T.z_range ?_
      refine wE_add ?_
      refine wE_mul ?_
      refine wE_int ?_
      refine wE_at ?_
      refine v 3 ?_
      refine wE_mul ?_
      refine wE_int ?_
      refine v 5 ?_
      refine ⟨_, _, rfl, rfl, (by first | exact cmul (by omega) (by omega) (by omega) (by omega) | exact cmul (by decide) (by decide) (by decide) (by decide)), ?_⟩
      refine .inl ⟨_, _, _, rfl, rfl, rfl, ?_⟩
      refine ⟨_, _, rfl, rfl, (by first | exact cmul (by omega) (by omega) (by omega) (by omega) | exact cmul (by decide) (by decide) (by decide) (by decide)), ?_⟩
      refine v 4 ?_
      refine ⟨_, _, rfl, rfl, ?_⟩
      refine wE_sub ?_
      refine wE_add ?_
      refine wE_mul ?_
      refine wE_int ?_
      refine wE_at ?_
      refine v 3 ?_
      refine wE_add ?_
      refine wE_mul ?_
      refine wE_int ?_
      refine v 5 ?_
      refine ⟨_, _, rfl, rfl, (by first | exact cmul (by omega) (by omega) (by omega) (by omega) | exact cmul (by decide) (by decide) (by decide) (by decide)), ?_⟩
      refine wE_int ?_
      refine ⟨_, _, rfl, rfl, ?_⟩
      refine .inl ⟨_, _, _, rfl, rfl, rfl, ?_⟩
      refine ⟨_, _, rfl, rfl, (by first | exact cmul (by omega) (by omega) (by omega) (by omega) | exact cmul (by decide) (by decide) (by decide) (by decide)), ?_⟩
      refine wE_int ?_
      refine ⟨_, _, rfl, rfl, ?_⟩
      refine v 4 ?_
      refine ⟨_, _, rfl, rfl, ?_⟩
      refine ⟨_, _, rfl, rfl, ⟨by omega, by omega, by omega, by omega⟩, ?_⟩
      refine ⟨_, _, rfl, rfl, ?_⟩
      refine lcW_nil ?_
      refine wA_nil ?_
      refine ⟨rfl, spanI bs[j].x0 bs[j].x1 0, spanI bs[j].y0 bs[j].y1 0, spanI bs[j].z0 bs[j].z1 0, (by rw [upto_upI, upto_upI, upto_upI]; rfl), ⟨Nat.le_trans (span_le ⟨q1.1, q1.2.2⟩ (.inl rfl)) (by decide), Nat.le_trans (span_le ⟨q2.1, q2.2.2⟩ (.inl rfl)) (by decide), Nat.le_trans (span_le ⟨q3.1, q3.2.2⟩ (.inl rfl)) (by decide)⟩, ?_⟩
      refine ⟨_, _, _, rfl, rfl, (by rw [List.length_map, List.length_map]; exact Nat.le_trans (Nat.add_le_add w1 w2) (by omega)), ?_⟩
      refine wSs_nil ?_
      exact ⟨_, _, _, rfl, by rw [boxesC_take hj, List.map_append]; rfl⟩
    rintro e m' ⟨bv, mv, av, rfl, rfl⟩
    rw [List.length_map, List.take_length]
    refine wSs_freeC 2 rfl ?_
    refine wSs_cons ?_
    refine wS_ret ?_
    refine wE_call G_law_one_each (hr.mono (by decide)) (by rfl) D_law_one_each.g D_law_one_each.F.kp D_law_one_each.b ?_
    refine wA_cons ?_
    refine v 2 ?_
    refine wA_nil ?_
    refine ⟨rfl, boxesC bs 0, rfl, (in_boxesC hl hb (i := 0) (.inl rfl)).1, ?_⟩
    exact hk
  · obtain rfl : i = 1 := hw
    refine wSs_cons ?_
    refine st 2 sc_law_in_boxes.nd ?_
    refine wE_lstO ?_
    refine wA_nil ?_
    refine ⟨[], rfl, (by first | decide | (simp; done) | (simp; omega) | omega), fun l1 => ?_⟩
    refine wSs_cons ?_
    refine wS_for (List.range 40) PassesOwn.never rfl ?_
    refine wI_seq ?_
    refine v 0 ?_
    first | refine ⟨_, .inl rfl, ?_⟩ | refine ⟨_, .inr rfl, ?_⟩
    refine forW_inv0 (fun j e m' => ∃ bv mv av : Option Dat, e = [some (.d (.list (bs.map BoxN.d))), some (.d (.bool true)), some (.r (.ref l1)), bv, mv, av] ∧ m' = ⟨m.p, m.n, (l1, (boxesC (bs.take j) 1).map CellN.d) :: m.ls⟩) ?_ ⟨none, none, none, rfl, rfl⟩ ?_
    · rintro j x e m' hx ⟨bv, mv, av, rfl, rfl⟩
      obtain ⟨hj, rfl⟩ := boxes_get hx
      have hbj := hb _ (List.getElem_mem hj)
      obtain ⟨q1, q2, q3⟩ := hbj.tri
      have w1 := len_boxesC (i := 1) (.inr rfl) (bs := bs.take j) fun c hc => hb c (List.mem_of_mem_take hc)
      have w2 := len_boxC hbj (i := 1) (.inr rfl)
      have w3 : (bs.take j).length ≤ 3 := by rw [List.length_take]; omega
      refine g 3 sc_law_in_boxes.nd ?_
      refine wSs_cons ?_
      refine st 4 sc_law_in_boxes.nd ?_
      refine wE_ite ?_
      refine wT_tru ?_
      refine v 1 ?_
      refine ⟨_, rfl, ?_⟩
      refine ⟨fun _ => ?_, fun ht => absurd ht ((by first | exact Bool.false_ne_true | exact (fun h => Bool.noConfusion (show true = false from h)) | exact ne_false rfl | exact bool_t (by assumption) | exact bool_f (by assumption) | exact dec_t (by assumption) | exact dec_f (by assumption) | exact bool_nt (by assumption) | decide | omega | (simp_all; done) | (simp_all; omega)))⟩
      refine wE_int ?_
      refine wSs_cons ?_
      refine wS_extendD ?_
      refine v 2 ?_
      refine ⟨_, _, rfl, lookup_hd, ?_⟩
      refine wE_call G_law_product_cells (hr.mono (by decide)) (by rfl) D_law_product_cells.g D_law_product_cells.F.kp D_law_product_cells.b ?_
      refine wA_cons ?_
      refine wE_lc [("axis", 5)] rfl sc_law_in_boxes.nd (blkOk_by (N := ["boxes", "is_within", "found", "box", "more", "axis"]) (sc := defScope s_law_in_boxes) (by decide +kernel)) ?_
      refine wI_rng1 ?_ (by rfl) T.z_range
      refine wE_int ?_
      refine ⟨_, rfl, (by first | exact Bool.false_ne_true | exact (fun h => Bool.noConfusion (show true = false from h)) | exact ne_false rfl | exact bool_t (by assumption) | exact bool_f (by assumption) | exact dec_t (by assumption) | exact dec_f (by assumption) | exact bool_nt (by assumption) | decide | omega | (simp_all; done) | (simp_all; omega)), ?_⟩
      refine ⟨(by first | decide | (simp; done) | (simp; omega) | omega), ?_⟩
      change lcW _ [PyData.int 0, PyData.int 1, PyData.int 2] _ _ _
      refine lcW_cons (fun D2 => ?_)
      intro saD2 HaD2 CaD2 claD2 fpaD2
      refine g 5 sc_law_in_boxes.nd ?_
      intro sbD2 HbD2 CbD2 clbD2 fpbD2
      refine wE_listRg2 rfl (by rfl) T.z_list (by rfl) T.z_range ?_
      refine wE_add ?_
      refine wE_mul ?_
      refine wE_int ?_
      refine wE_at ?_
      refine v 3 ?_
      refine wE_mul ?_
      refine wE_int ?_
      refine v 5 ?_
      refine ⟨_, _, rfl, rfl, (by first | exact cmul (by omega) (by omega) (by omega) (by omega) | exact cmul (by decide) (by decide) (by decide) (by decide)), ?_⟩
      refine .inl ⟨_, _, _, rfl, rfl, rfl, ?_⟩
      refine ⟨_, _, rfl, rfl, (by first | exact cmul (by omega) (by omega) (by omega) (by omega) | exact cmul (by decide) (by decide) (by decide) (by decide)), ?_⟩
      refine v 4 ?_
      refine ⟨_, _, rfl, rfl, ?_⟩
      refine wE_sub ?_
      refine wE_add ?_
      refine wE_mul ?_
      refine wE_int ?_
      refine wE_at ?_
      refine v 3 ?_
      refine wE_add ?_
      refine wE_mul ?_
      refine wE_int ?_
      refine v 5 ?_
      refine ⟨_, _, rfl, rfl, (by first | exact cmul (by omega) (by omega) (by omega) (by omega) | exact cmul (by decide) (by decide) (by decide) (by decide)), ?_⟩
      refine wE_int ?_
      refine ⟨_, _, rfl, rfl, ?_⟩
      refine .inl ⟨_, _, _, rfl, rfl, rfl, ?_⟩
      refine ⟨_, _, rfl, rfl, (by first | exact cmul (by omega) (by omega) (by omega) (by omega) | exact cmul (by decide) (by decide) (by decide) (by decide)), ?_⟩
      refine wE_int ?_
      refine ⟨_, _, rfl, rfl, ?_⟩
      refine v 4 ?_
      refine ⟨_, _, rfl, rfl, ?_⟩
      refine ⟨_, _, rfl, rfl, ⟨by omega, by omega, by omega, by omega⟩, ?_⟩
      refine ⟨_, _, rfl, rfl, ?_⟩
      refine lcW_cons (fun D3 => ?_)
      intro saD3 HaD3 CaD3 claD3 fpaD3
      refine g 5 sc_law_in_boxes.nd ?_
      intro sbD3 HbD3 CbD3 clbD3 fpbD3
      refine wE_listRg2 rfl (by rfl) T.z_list (by rfl) T.z_range ?_
      refine wE_add ?_
      refine wE_mul ?_
      refine wE_int ?_
      refine wE_at ?_
      refine v 3 ?_
      refine wE_mul ?_
      refine wE_int ?_
      refine v 5 ?_
      refine ⟨_, _, rfl, rfl, (by first | exact cmul (by omega) (by omega) (by omega) (by omega) | exact cmul (by decide) (by decide) (by decide) (by decide)), ?_⟩
      refine .inl ⟨_, _, _, rfl, rfl, rfl, ?_⟩
      refine ⟨_, _, rfl, rfl, (by first | exact cmul (by omega) (by omega) (by omega) (by omega) | exact cmul (by decide) (by decide) (by decide) (by decide)), ?_⟩
      refine v 4 ?_
      refine ⟨_, _, rfl, rfl, ?_⟩
      refine wE_sub ?_
      refine wE_add ?_
      refine wE_mul ?_
      refine wE_int ?_
      refine wE_at ?_
      refine v 3 ?_
      refine wE_add ?_
      refine wE_mul ?_
      refine wE_int ?_
      refine v 5 ?_
      refine ⟨_, _, rfl, rfl, (by first | exact cmul (by omega) (by omega) (by omega) (by omega) | exact cmul (by decide) (by decide) (by decide) (by decide)), ?_⟩
      refine wE_int ?_
      refine ⟨_, _, rfl, rfl, ?_⟩
      refine .inl ⟨_, _, _, rfl, rfl, rfl, ?_⟩
      refine ⟨_, _, rfl, rfl, (by first | exact cmul (by omega) (by omega) (by omega) (by omega) | exact cmul (by decide) (by decide) (by decide) (by decide)), ?_⟩
      refine wE_int ?_
      refine ⟨_, _, rfl, rfl, ?_⟩
      refine v 4 ?_
      refine ⟨_, _, rfl, rfl, ?_⟩
      refine ⟨_, _, rfl, rfl, ⟨by omega, by omega, by omega, by omega⟩, ?_⟩
      refine ⟨_, _, rfl, rfl, ?_⟩
      refine lcW_cons (fun D4 => ?_)
      intro saD4 HaD4 CaD4 claD4 fpaD4
      refine g 5 sc_law_in_boxes.nd ?_
      intro sbD4 HbD4 CbD4 clbD4 fpbD4
      refine wE_listRg2 rfl (by rfl) T.z_list (by rfl) T.z_range ?_
      refine wE_add ?_
      refine wE_mul ?_
      refine wE_int ?_
      refine wE_at ?_
      refine v 3 ?_
      refine wE_mul ?_
      refine wE_int ?_
      refine v 5 ?_
      refine ⟨_, _, rfl, rfl, (by first | exact cmul (by omega) (by omega) (by omega) (by omega) | exact cmul (by decide) (by decide) (by decide) (by decide)), ?_⟩
      refine .inl ⟨_, _, _, rfl, rfl, rfl, ?_⟩
      refine ⟨_, _, rfl, rfl, (by first | exact cmul (by omega) (by omega) (by omega) (by omega) | exact cmul (by decide) (by decide) (by decide) (by decide)), ?_⟩
      refine v 4 ?_
      refine ⟨_, _, rfl, rfl, ?_⟩
      refine wE_sub ?_
      refine wE_add ?_
      refine wE_mul ?_
      refine wE_int ?_
      refine wE_at ?_
      refine v 3 ?_
      refine wE_add ?_
      refine wE_mul ?_
      refine wE_int ?_
      refine v 5 ?_
      refine ⟨_, _, rfl, rfl, (by first | exact cmul (by omega) (by omega) (by omega) (by omega) | exact cmul (by decide) (by decide) (by decide) (by decide)), ?_⟩
      refine wE_int ?_
      refine ⟨_, _, rfl, rfl, ?_⟩
      refine .inl ⟨_, _, _, rfl, rfl, rfl, ?_⟩
      refine ⟨_, _, rfl, rfl, (by first | exact cmul (by omega) (by omega) (by omega) (by omega) | exact cmul (by decide) (by decide) (by decide) (by decide)), ?_⟩
      refine wE_int ?_
      refine ⟨_, _, rfl, rfl, ?_⟩
      refine v 4 ?_
      refine ⟨_, _, rfl, rfl, ?_⟩
      refine ⟨_, _, rfl, rfl, ⟨by omega, by omega, by omega, by omega⟩, ?_⟩
      refine ⟨_, _, rfl, rfl, ?_⟩
      refine lcW_nil ?_
      refine wA_nil ?_
      refine ⟨rfl, spanI bs[j].x0 bs[j].x1 1, spanI bs[j].y0 bs[j].y1 1, spanI bs[j].z0 bs[j].z1 1, (by rw [upto_upI, upto_upI, upto_upI]; rfl), ⟨Nat.le_trans (span_le ⟨q1.1, q1.2.2⟩ (.inr rfl)) (by decide), Nat.le_trans (span_le ⟨q2.1, q2.2.2⟩ (.inr rfl)) (by decide), Nat.le_trans (span_le ⟨q3.1, q3.2.2⟩ (.inr rfl)) (by decide)⟩, ?_⟩
      refine ⟨_, _, _, rfl, rfl, (by rw [List.length_map, List.length_map]; exact Nat.le_trans (Nat.add_le_add w1 w2) (by omega)), ?_⟩
      refine wSs_nil ?_
      exact ⟨_, _, _, rfl, by rw [boxesC_take hj, List.map_append]; rfl⟩
    rintro e m' ⟨bv, mv, av, rfl, rfl⟩
    rw [List.length_map, List.take_length]
    refine wSs_freeC 2 rfl ?_
    refine wSs_cons ?_
    refine wS_ret ?_
    refine wE_call G_law_one_each (hr.mono (by decide)) (by rfl) D_law_one_each.g D_law_one_each.F.kp D_law_one_each.b ?_
    refine wA_cons ?_
    refine v 2 ?_
    refine wA_nil ?_
    refine ⟨rfl, boxesC bs 1, rfl, (in_boxesC hl hb (i := 1) (.inr rfl)).1, ?_⟩
    exact hk
end
end K9

set_option Elab.async false
set_option linter.all false
set_option maxRecDepth 100000
set_option maxHeartbeats 4000000
namespace K9
open PySem PySem.Spec PyProof.Rows L2 DW
section
variable [TabsC] {P : Program} {w : World} {K : PySem.W.Frag} {mg : Str → Option Value} {base : Heap} {C_Lot : Addr}
theorem kb_lot_of_boxes {f : Addr} {fd : FuncData} (D : DefAt K mg "lot_of_boxes" s_lot_of_boxes ["boxes"] f fd) : KBinds K fd ["boxes"] ["boxes"] gK gK := by
  obtain ⟨oc, od, kV, doc, pm, an, cdv, ct, osl, rfl, lk, hcd⟩ := D.F.ex
  exact kbinds_of (fun s ws hl => match ws, hl with | [_], _ => .of_eq rfl) (by decide)
theorem kb_within_boxes {f : Addr} {fd : FuncData} (D : DefAt K mg "within_boxes" s_within_boxes ["boxes"] f fd) : KBinds K fd ["boxes"] ["boxes"] gK gK := by
  obtain ⟨oc, od, kV, doc, pm, an, cdv, ct, osl, rfl, lk, hcd⟩ := D.F.ex
  exact kbinds_of (fun s ws hl => match ws, hl with | [_], _ => .of_eq rfl) (by decide)
theorem ok_law_right {f : Addr} {fd : FuncData} (D : DefAt K mg "_law_right" s_law_right ["pot"] f fd) (T : Txt K mg C_Lot) : FnG P w K mg base CX0 13 f fd ["pot"] (spD K 1 (spRight)) := by
  obtain ⟨f_law_drawn_boxes, fd_law_drawn_boxes, D_law_drawn_boxes⟩ := T.d_law_drawn_boxes
  have G_law_drawn_boxes := ok_law_drawn_boxes (P := P) (w := w) (base := base) D_law_drawn_boxes T
  obtain ⟨f_law_of, fd_law_of, D_law_of⟩ := T.d_law_of
  have G_law_of := ok_law_of (P := P) (w := w) (base := base) D_law_of T
  obtain ⟨f_law_take, fd_law_take, D_law_take⟩ := T.d_law_take
  have G_law_take := ok_law_take (P := P) (w := w) (base := base) D_law_take T
  obtain ⟨f_lot_of_boxes, fd_lot_of_boxes, D_lot_of_boxes⟩ := T.d_lot_of_boxes
  have G_lot_of_boxes := ok_lot_of_boxes (P := P) (w := w) (base := base) D_lot_of_boxes T
  have KB_lot_of_boxes := kb_lot_of_boxes D_lot_of_boxes
  obtain ⟨f_within_boxes, fd_within_boxes, D_within_boxes⟩ := T.d_within_boxes
  have G_within_boxes := ok_within_boxes (P := P) (w := w) (base := base) D_within_boxes T
  have KB_within_boxes := kb_within_boxes D_within_boxes
  obtain ⟨f_law_in_boxes, fd_law_in_boxes, D_law_in_boxes⟩ := T.d_law_in_boxes
  have G_law_in_boxes := ok_law_in_boxes (P := P) (w := w) (base := base) D_law_in_boxes T
  obtain ⟨f_law_drawn_point, fd_law_drawn_point, D_law_drawn_point⟩ := T.d_law_drawn_point
  have G_law_drawn_point := ok_law_drawn_point (P := P) (w := w) (base := base) D_law_drawn_point T
  obtain ⟨f_law_lies, fd_law_lies, D_law_lies⟩ := T.d_law_lies
  have G_law_lies := ok_law_lies (P := P) (w := w) (base := base) D_law_lies T
  obtain ⟨f_Lot_has, fd_Lot_has, D_Lot_has⟩ := T.d_Lot_has
  have G_Lot_has := ok_Lot_has (P := P) (w := w) (base := base) D_Lot_has T
  obtain ⟨f_Lot_is_closed, fd_Lot_is_closed, D_Lot_is_closed⟩ := T.d_Lot_is_closed
  have G_Lot_is_closed := ok_Lot_is_closed (P := P) (w := w) (base := base) D_Lot_is_closed T
  obtain ⟨f_Lot_is_open, fd_Lot_is_open, D_Lot_is_open⟩ := T.d_Lot_is_open
  have G_Lot_is_open := ok_Lot_is_open (P := P) (w := w) (base := base) D_Lot_is_open T
  obtain ⟨f_Lot_is_in, fd_Lot_is_in, D_Lot_is_in⟩ := T.d_Lot_is_in
  have G_Lot_is_in := ok_Lot_is_in (P := P) (w := w) (base := base) D_Lot_is_in T
  refine fnD D.F sc_law_right (fun cdv A outer s H E hr m ds kk hsp hlen => ?_)
  obtain ⟨l, px, py, n0, ls, rfl, rfl, hn0, hx0, hx1, hy0, hy1, hk⟩ := hsp
  refine wSs_clo (wSs_to (own_pot (n := n0) hx0 hx1 hy0 hy1 (by decide) (by omega)) ?_)
  have hp : (Me.mk (some l) n0 ls).p = some l := rfl
  refine wSs_cons ?_
  refine st 1 sc_law_right.nd ?_
  refine wE_listO (by rfl) T.z_list ?_
  refine wE_call G_law_drawn_boxes (hr.mono (by decide)) (by rfl) D_law_drawn_boxes.g D_law_drawn_boxes.F.kp D_law_drawn_boxes.b ?_
  refine wA_cons ?_
  refine v 0 ?_
  refine wA_cons ?_
  refine wE_call G_law_of (hr.mono (by decide)) (by rfl) D_law_of.g D_law_of.F.kp D_law_of.b ?_
  refine wA_cons ?_
  refine v 0 ?_
  refine wA_cons ?_
  refine wE_lst ?_
  refine wA_cons ?_
  refine wE_int ?_
  refine wA_cons ?_
  refine wE_int ?_
  refine wA_cons ?_
  refine wE_int ?_
  refine wA_cons ?_
  refine wE_int ?_
  refine wA_cons ?_
  refine wE_int ?_
  refine wA_cons ?_
  refine wE_int ?_
  refine wA_nil ?_
  refine ⟨[_, _, _, _, _, _], rfl, (by first | decide | (simp; done) | (simp; omega) | omega), ?_⟩
  refine wA_nil ?_
  refine ⟨rfl, _, _, _, rfl, rfl, hp, by simp, (by (try simp only [Me.drawn, Me.own, Me.to]); omega), fun z2 hz2 => ?_⟩
  obtain ⟨d, rfl, hd⟩ : ∃ d : Int, z2 = .int d ∧ (d = 0 ∨ d = 1 ∨ d = 2) := by simp at hz2; rcases hz2 with rfl | rfl | rfl <;> exact ⟨_, rfl, by decide⟩
  refine wA_nil ?_
  refine ⟨rfl, _, _, rfl, hd, hp, (by (try simp only [Me.drawn, Me.own, Me.to]); omega), fun bs0 n1 hbl hbn hn1 => ?_⟩
  refine ⟨_, .inl rfl, fun l1 => ?_⟩
  have hn1' : n1 ≤ n0 + 13 := by (try simp only [Me.drawn, Me.own, Me.to] at hn1); omega
  refine wSs_cons ?_
  refine wS_join (fun e m' => ∃ (one : Option Dat) (bs : List BoxN) (n : Nat), e = [some (.r (.ref l)), some (.r (.ref l1)), none, one, none, none, none, none, none] ∧ m' = ⟨some l, n, (l1, bs.map BoxN.d) :: ls⟩ ∧ bs.length ≤ 3 ∧ (∀ b ∈ bs, b.Near) ∧ n ≤ n0 + 20) ?_ ?_
  · by_cases he : bs0 = []
    · subst he
      refine wS_if ?_
      refine wT_and ?_
      refine wW_and ?_
      refine wT_neD (room65 hr) ?_
      refine v 1 ?_
      refine wE_lst ?_
      refine wA_nil ?_
      refine ⟨[], rfl, (by first | decide | (simp; done) | (simp; omega) | omega), ?_⟩
      refine ⟨_, _, datOwn, rfl, nil_shaped, nil_shaped, _, rfl, ?_⟩
      rw [show PyData.eqv (.list (List.map BoxN.d [])) (.list []) = true from eqv_nil]
      refine ⟨fun ht => absurd ht ((by first | exact Bool.false_ne_true | exact (fun h => Bool.noConfusion (show true = false from h)) | exact ne_false rfl | exact bool_t (by assumption) | exact bool_f (by assumption) | exact dec_t (by assumption) | exact dec_f (by assumption) | exact bool_nt (by assumption) | decide | omega | (simp_all; done) | (simp_all; omega))), fun _ => ?_⟩
      refine ⟨fun ht => absurd ht ((by first | exact Bool.false_ne_true | exact (fun h => Bool.noConfusion (show true = false from h)) | exact ne_false rfl | exact bool_t (by assumption) | exact bool_f (by assumption) | exact dec_t (by assumption) | exact dec_f (by assumption) | exact bool_nt (by assumption) | decide | omega | (simp_all; done) | (simp_all; omega))), fun _ => ?_⟩
      refine wSs_nil ?_
      exact ⟨_, [], _, rfl, rfl, by omega, (fun b hb => ⟨(hbn b hb).1, by have := (hbn b hb).2; unfold BoxN.In at this ⊢; omega⟩), by (try simp only [Me.drawn, Me.own, Me.to]); omega⟩
    obtain ⟨b0, br, rfl⟩ : ∃ b0 br, bs0 = b0 :: br := by cases bs0; exact absurd rfl he; exact ⟨_, _, rfl⟩
    have hbl2 : br.length ≤ 1 := by simpa using hbl
    refine wS_if ?_
    refine wT_and ?_
    refine wW_and ?_
    refine wT_neD (room65 hr) ?_
    refine v 1 ?_
    refine wE_lst ?_
    refine wA_nil ?_
    refine ⟨[], rfl, (by first | decide | (simp; done) | (simp; omega) | omega), ?_⟩
    refine ⟨_, _, datOwn, rfl, boxes_shaped _, nil_shaped, _, rfl, ?_⟩
    rw [show PyData.eqv (.list (List.map BoxN.d (b0 :: br))) (.list []) = false from eqv_cons _ _]
    refine ⟨fun _ => ?_, fun ht => absurd ht ((by first | exact Bool.false_ne_true | exact (fun h => Bool.noConfusion (show true = false from h)) | exact ne_false rfl | exact bool_t (by assumption) | exact bool_f (by assumption) | exact dec_t (by assumption) | exact dec_f (by assumption) | exact bool_nt (by assumption) | decide | omega | (simp_all; done) | (simp_all; omega)))⟩
    refine wW_and1 ?_
    refine wT_eq ?_
    refine wE_call G_law_take (hr.mono (by decide)) (by rfl) D_law_take.g D_law_take.F.kp D_law_take.b ?_
    refine wA_cons ?_
    refine v 0 ?_
    refine wA_cons ?_
    refine wE_int ?_
    refine wA_nil ?_
    refine ⟨rfl, _, _, rfl, hp, (by first | decide | omega), (by (try simp only [Me.drawn, Me.own, Me.to]); omega), fun t3 ht30 ht31 => ?_⟩
    refine wE_int ?_
    first | refine .inl ⟨_, _, rfl, rfl, _, rfl, ?_⟩ | refine .inr (.inl ⟨_, _, rfl, rfl, _, rfl, ?_⟩) | refine .inr (.inr ⟨_, _, rfl, rfl, _, rfl, ?_⟩)
    refine ⟨fun ht => ?_, fun ht => ?_⟩
    · refine wSs_cons ?_
      refine st 3 sc_law_right.nd ?_
      refine wE_at ?_
      refine v 1 ?_
      refine wE_int ?_
      refine .inl ⟨_, _, _, seq_hd, rfl, (show atI (List.map BoxN.d (b0 :: br)) ((0 : Nat) : Int) = some b0.d from atI_nat rfl), ?_⟩
      refine wSs_cons ?_
      refine wS_append ?_
      refine v 1 ?_
      refine ⟨_, _, rfl, lookup_hd, ?_⟩
      refine wE_catT ?_
      refine wE_tup (xs := fun _ => True) ?_
      refine wA_cons ?_
      refine wE_at ?_
      refine v 3 ?_
      refine wE_int ?_
      refine .inl ⟨_, _, _, rfl, rfl, rfl, ?_⟩
      refine wA_cons ?_
      refine wE_add ?_
      refine wE_at ?_
      refine v 3 ?_
      refine wE_int ?_
      refine .inl ⟨_, _, _, rfl, rfl, rfl, ?_⟩
      refine wE_int ?_
      refine ⟨_, _, rfl, rfl, ?_⟩
      refine wA_nil ?_
      refine ⟨[_, _], rfl, (by first | decide | (simp; done) | (simp; omega) | omega), ?_⟩
      refine wE_slT ?_
      refine v 3 ?_
      refine ⟨_, rfl, ?_⟩
      refine wO_some ?_
      refine wE_int ?_
      refine ⟨_, rfl, ?_⟩
      refine wO_none ?_
      refine ⟨_, _, rfl, rfl, (show 2 + 4 ≤ 10000000 from by decide), ?_⟩
      refine ⟨_, _, _, rfl, rfl, (by first | decide | (simp; done) | (simp; omega) | omega), ?_⟩
      refine wSs_nil ?_
      have hbq := hbn b0 (.head _)
      obtain ⟨⟨o1, o2, o3⟩, ⟨p1, p2⟩, ⟨p3, p4⟩, p5, p6⟩ := hbq
      exact ⟨_, (b0 :: br) ++ [⟨b0.x1, b0.x1 + 1, b0.y0, b0.y1, b0.z0, b0.z1⟩], _, rfl, (by rw [List.map_append]; rfl), (by simp; omega), (fun b hb => (List.mem_append.mp hb).elim (fun hb => ⟨(hbn b hb).1, by have := (hbn b hb).2; unfold BoxN.In at this ⊢; omega⟩) fun h => by obtain rfl := List.mem_singleton.mp h; exact ⟨⟨by dsimp only; omega, o2, o3⟩, ⟨by dsimp only; omega, by dsimp only; omega⟩, ⟨by dsimp only; omega, by dsimp only; omega⟩, by dsimp only; omega, by dsimp only; omega⟩), by (try simp only [Me.drawn, Me.own, Me.to]); omega⟩
    refine wSs_nil ?_
    exact ⟨_, (b0 :: br), _, rfl, rfl, by omega, (fun b hb => ⟨(hbn b hb).1, by have := (hbn b hb).2; unfold BoxN.In at this ⊢; omega⟩), by (try simp only [Me.drawn, Me.own, Me.to]); omega⟩
  rintro e m' ⟨one, bs, n2, rfl, rfl, hbl3, hbn3, hn2⟩
  show wSs _ _ _ _ _
  refine wSs_freeC 1 rfl ?_
  have hC0 := in_boxesC hbl3 hbn3 (i := 0) (.inl rfl)
  have hC1 := in_boxesC hbl3 hbn3 (i := 1) (.inr rfl)
  refine wSs_cons ?_
  refine wS_par 4 5 rfl sc_law_right.nd rfl rfl (by decide) rfl rfl ?_ (by rfl)
  refine wA_cons ?_
  refine wE_callK G_lot_of_boxes (hr.mono (by decide)) (by rfl) D_lot_of_boxes.g D_lot_of_boxes.F.kp KB_lot_of_boxes ?_
  refine wK_cons ?_
  refine wE_callTy call_tuple_of callD_tuple (by rfl) T.z_tuple (by decide +kernel) ?_
  refine wA_cons ?_
  refine v 1 ?_
  refine wA_nil ?_
  first | refine ⟨_, .inl rfl, ?_⟩ | refine ⟨_, .inr (.inl rfl), ?_⟩ | refine ⟨_, .inr (.inr ⟨_, rfl, lookup_hd⟩), ?_⟩
  refine wK_nil ?_
  refine ⟨rfl, bs, rfl, hbl3, hbn3, ?_⟩
  refine wA_cons ?_
  refine wE_callK G_within_boxes (hr.mono (by decide)) (by rfl) D_within_boxes.g D_within_boxes.F.kp KB_within_boxes ?_
  refine wK_cons ?_
  refine wE_callTy call_tuple_of callD_tuple (by rfl) T.z_tuple (by decide +kernel) ?_
  refine wA_cons ?_
  refine v 1 ?_
  refine wA_nil ?_
  first | refine ⟨_, .inl rfl, ?_⟩ | refine ⟨_, .inr (.inl rfl), ?_⟩ | refine ⟨_, .inr (.inr ⟨_, rfl, lookup_hd⟩), ?_⟩
  refine wK_nil ?_
  refine ⟨rfl, bs, rfl, hbl3, hbn3, ?_⟩
  refine wA_nil ?_
  refine ⟨_, _, rfl, ?_⟩
  refine wSs_cons ?_
  refine wS_if ?_
  refine wT_or ?_
  refine wW_or ?_
  refine wT_ne ?_
  refine wE_callB (repr_ok hr.gd hr.room.units) callD_gRepr (by rfl) T.z_repr (by decide +kernel) ?_
  refine wA_cons ?_
  refine wE_fld ?_
  refine v 4 ?_
  refine ⟨_, _, _, _, rfl, T.cl, T.n_cells, (by first | exact lot_cells | rfl), fd_d, ?_⟩
  refine wA_nil ?_
  refine ⟨_, 3, 800000, rfl, szCells hC0.canon.1 hC0.canon.2, by decide, by decide, ?_⟩
  refine wE_callB (repr_ok hr.gd hr.room.units) callD_gRepr (by rfl) T.z_repr (by decide +kernel) ?_
  refine wA_cons ?_
  refine wE_call G_law_in_boxes (hr.mono (by decide)) (by rfl) D_law_in_boxes.g D_law_in_boxes.F.kp D_law_in_boxes.b ?_
  refine wA_cons ?_
  refine v 1 ?_
  refine wA_cons ?_
  refine wE_bl ?_
  refine wA_nil ?_
  refine ⟨rfl, bs, false, 0, rfl, rfl, hbl3, hbn3, ?_⟩
  refine wA_nil ?_
  refine ⟨_, 3, 800000, rfl, szCells hC0.canon.1 hC0.canon.2, by decide, by decide, ?_⟩
  first | refine .inl ⟨_, _, rfl, rfl, _, rfl, ?_⟩ | refine .inr (.inl ⟨_, _, rfl, rfl, _, rfl, ?_⟩) | refine .inr (.inr ⟨_, _, rfl, rfl, _, rfl, ?_⟩)
  refine ⟨fun _ => ?_, fun ht => absurd ht ((by first | exact Bool.false_ne_true | exact (fun h => Bool.noConfusion (show true = false from h)) | exact ne_false rfl | exact bool_t (by assumption) | exact bool_f (by assumption) | exact dec_t (by assumption) | exact dec_f (by assumption) | exact bool_nt (by assumption) | decide | omega | (simp_all; done) | (simp_all; omega)))⟩
  refine wW_or1 ?_
  refine wT_ne ?_
  refine wE_callB (repr_ok hr.gd hr.room.units) callD_gRepr (by rfl) T.z_repr (by decide +kernel) ?_
  refine wA_cons ?_
  refine wE_fld ?_
  refine v 5 ?_
  refine ⟨_, _, _, _, rfl, T.cl, T.n_cells, (by first | exact lot_cells | rfl), fd_d, ?_⟩
  refine wA_nil ?_
  refine ⟨_, 3, 800000, rfl, szCells hC1.canon.1 hC1.canon.2, by decide, by decide, ?_⟩
  refine wE_callB (repr_ok hr.gd hr.room.units) callD_gRepr (by rfl) T.z_repr (by decide +kernel) ?_
  refine wA_cons ?_
  refine wE_call G_law_in_boxes (hr.mono (by decide)) (by rfl) D_law_in_boxes.g D_law_in_boxes.F.kp D_law_in_boxes.b ?_
  refine wA_cons ?_
  refine v 1 ?_
  refine wA_cons ?_
  refine wE_bl ?_
  refine wA_nil ?_
  refine ⟨rfl, bs, true, 1, rfl, rfl, hbl3, hbn3, ?_⟩
  refine wA_nil ?_
  refine ⟨_, 3, 800000, rfl, szCells hC1.canon.1 hC1.canon.2, by decide, by decide, ?_⟩
  first | refine .inl ⟨_, _, rfl, rfl, _, rfl, ?_⟩ | refine .inr (.inl ⟨_, _, rfl, rfl, _, rfl, ?_⟩) | refine .inr (.inr ⟨_, _, rfl, rfl, _, rfl, ?_⟩)
  refine ⟨fun ht => absurd ht ((by first | exact Bool.false_ne_true | exact (fun h => Bool.noConfusion (show true = false from h)) | exact ne_false rfl | exact bool_t (by assumption) | exact bool_f (by assumption) | exact dec_t (by assumption) | exact dec_f (by assumption) | exact bool_nt (by assumption) | decide | omega | (simp_all; done) | (simp_all; omega))), fun _ => ?_⟩
  refine wSs_nil ?_
  refine wSs_cons ?_
  refine wS_for (List.range 40) PassesOwn.never rfl ?_
  refine wI_rng1 ?_ (by rfl) T.z_range
  refine wE_int ?_
  refine ⟨_, rfl, (by first | exact Bool.false_ne_true | exact (fun h => Bool.noConfusion (show true = false from h)) | exact ne_false rfl | exact bool_t (by assumption) | exact bool_f (by assumption) | exact dec_t (by assumption) | exact dec_f (by assumption) | exact bool_nt (by assumption) | decide | omega | (simp_all; done) | (simp_all; omega)), ?_⟩
  refine forW_inv0 (fun j e m' => ∃ lap point due : Option Dat, e = [some (.r (.ref l)), some (.d (.list (bs.map BoxN.d))), lap, one, some (lotD K C_Lot (boxesC bs 0)), some (lotD K C_Lot (boxesC bs 1)), point, due, none] ∧ ∃ n, n ≤ n2 + 12 * j ∧ m' = ⟨some l, n, ls⟩) ?_ ⟨none, none, none, rfl, n2, by omega, rfl⟩ ?_
  · rintro j x e m' hx ⟨lap, point, due, rfl, n, hn4, rfl⟩
    obtain ⟨hj, rfl⟩ := upto_get hx
    have hj2 : j < 10 := hj
    have hp : (some l : Option Addr) = some l := rfl
    refine g 2 sc_law_right.nd ?_
    refine wSs_cons ?_
    refine st 6 sc_law_right.nd ?_
    refine wE_call G_law_drawn_point (hr.mono (by decide)) (by rfl) D_law_drawn_point.g D_law_drawn_point.F.kp D_law_drawn_point.b ?_
    refine wA_cons ?_
    refine v 0 ?_
    refine wA_nil ?_
    refine ⟨rfl, _, rfl, hp, (by (try simp only [Me.drawn, Me.own, Me.to]); omega), fun p nn hpo hcs hnn => ?_⟩
    have hnn2 : nn ≤ n + 10 := by (try simp only [Me.drawn, Me.own, Me.to] at hnn); omega
    refine wSs_cons ?_
    refine st 7 sc_law_right.nd ?_
    refine wE_tup (xs := fun _ => True) ?_
    refine wA_cons ?_
    refine wE_callB (cr_any rfl) callD_gAny (by rfl) T.z_any (by decide +kernel) ?_
    refine wA_cons ?_
    refine wE_lc [("box", 8)] rfl sc_law_right.nd (blkOk_by (N := ["pot", "boxes", "lap", "one", "closed", "opened", "point", "due", "box"]) (sc := defScope s_law_right) (by decide +kernel)) ?_
    refine wI_seq ?_
    refine v 1 ?_
    first | refine ⟨_, .inl rfl, ?_⟩ | refine ⟨_, .inr rfl, ?_⟩
    refine ⟨(by simpa using (by omega)), lcW_map (fun x => .bool (decide (idxP p ∈ boxC (deB x) 0))) (fun x hx m' k' hk => ?_) ?_⟩
    · obtain ⟨b, hc, rfl⟩ := List.mem_map.mp hx
      intro s1 H1 C1 cl1 fp1
      refine g 8 sc_law_right.nd ?_
      intro s2 H2 C2 cl2 fp2
      refine wE_call G_law_lies (hr.mono (by decide)) (by rfl) D_law_lies.g D_law_lies.F.kp D_law_lies.b ?_
      refine wA_cons ?_
      refine v 8 ?_
      refine wA_cons ?_
      refine v 6 ?_
      refine wA_cons ?_
      refine wE_bl ?_
      refine wA_nil ?_
      refine ⟨rfl, b, p, false, 0, rfl, rfl, hbn3 b hc, hpo, ?_⟩
      exact hk
    refine wA_nil ?_
    refine ⟨_, _, rfl, (by rw [List.nil_append]; exact bools_boxes (fun b => decide (idxP p ∈ boxC b 0)) bs), ?_⟩
    rw [any_boxes]
    refine wA_cons ?_
    refine wE_callB (cr_any rfl) callD_gAny (by rfl) T.z_any (by decide +kernel) ?_
    refine wA_cons ?_
    refine wE_lc [("box", 8)] rfl sc_law_right.nd (blkOk_by (N := ["pot", "boxes", "lap", "one", "closed", "opened", "point", "due", "box"]) (sc := defScope s_law_right) (by decide +kernel)) ?_
    refine wI_seq ?_
    refine v 1 ?_
    first | refine ⟨_, .inl rfl, ?_⟩ | refine ⟨_, .inr rfl, ?_⟩
    refine ⟨(by simpa using (by omega)), lcW_map (fun x => .bool (decide (idxP p ∈ boxC (deB x) 1))) (fun x hx m' k' hk => ?_) ?_⟩
    · obtain ⟨b, hc, rfl⟩ := List.mem_map.mp hx
      intro s1 H1 C1 cl1 fp1
      refine g 8 sc_law_right.nd ?_
      intro s2 H2 C2 cl2 fp2
      refine wE_call G_law_lies (hr.mono (by decide)) (by rfl) D_law_lies.g D_law_lies.F.kp D_law_lies.b ?_
      refine wA_cons ?_
      refine v 8 ?_
      refine wA_cons ?_
      refine v 6 ?_
      refine wA_cons ?_
      refine wE_bl ?_
      refine wA_nil ?_
      refine ⟨rfl, b, p, true, 1, rfl, rfl, hbn3 b hc, hpo, ?_⟩
      exact hk
    refine wA_nil ?_
    refine ⟨_, _, rfl, (by rw [List.nil_append]; exact bools_boxes (fun b => decide (idxP p ∈ boxC b 1)) bs), ?_⟩
    rw [any_boxes]
    refine wA_nil ?_
    refine ⟨[_, _], rfl, (by first | decide | (simp; done) | (simp; omega) | omega), ?_⟩
    refine wSs_cons ?_
    refine wS_if ?_
    refine wT_ne ?_
    refine wE_callB (repr_ok hr.gd hr.room.units) callD_gRepr (by rfl) T.z_repr (by decide +kernel) ?_
    refine wA_cons ?_
    refine wE_tup (xs := fun _ => True) ?_
    refine wA_cons ?_
    refine wE_meth T.cl D_Lot_has.m G_Lot_has (hr.mono (by decide)) D_Lot_has.b ?_
    refine v 4 ?_
    refine ⟨_, rfl, lot_no (by decide +kernel), ?_⟩
    refine wA_cons ?_
    refine v 6 ?_
    refine wA_nil ?_
    refine ⟨rfl, ?_⟩
    refine ⟨boxesC bs 0, p, rfl, hpo, ?_⟩
    refine wA_cons ?_
    refine wE_meth T.cl D_Lot_has.m G_Lot_has (hr.mono (by decide)) D_Lot_has.b ?_
    refine v 5 ?_
    refine ⟨_, rfl, lot_no (by decide +kernel), ?_⟩
    refine wA_cons ?_
    refine v 6 ?_
    refine wA_nil ?_
    refine ⟨rfl, ?_⟩
    refine ⟨boxesC bs 1, p, rfl, hpo, ?_⟩
    refine wA_nil ?_
    refine ⟨[_, _], rfl, (by first | decide | (simp; done) | (simp; omega) | omega), ?_⟩
    refine wA_nil ?_
    refine ⟨_, _, _, rfl, Sz.tup (.cons Sz.bool (.cons Sz.bool .nil)), by decide, by decide, ?_⟩
    refine wE_callB (repr_ok hr.gd hr.room.units) callD_gRepr (by rfl) T.z_repr (by decide +kernel) ?_
    refine wA_cons ?_
    refine v 7 ?_
    refine wA_nil ?_
    refine ⟨_, _, _, rfl, Sz.tup (.cons Sz.bool (.cons Sz.bool .nil)), by decide, by decide, ?_⟩
    first | refine .inl ⟨_, _, rfl, rfl, _, rfl, ?_⟩ | refine .inr (.inl ⟨_, _, rfl, rfl, _, rfl, ?_⟩) | refine .inr (.inr ⟨_, _, rfl, rfl, _, rfl, ?_⟩)
    refine ⟨fun ht => absurd ht ((by first | exact Bool.false_ne_true | exact (fun h => Bool.noConfusion (show true = false from h)) | exact ne_false rfl | exact bool_t (by assumption) | exact bool_f (by assumption) | exact dec_t (by assumption) | exact dec_f (by assumption) | exact bool_nt (by assumption) | decide | omega | (simp_all; done) | (simp_all; omega))), fun _ => ?_⟩
    refine wSs_nil ?_
    refine wSs_nil ?_
    exact ⟨_, _, _, rfl, _, (by (try simp only [Me.drawn, Me.own, Me.to]); omega), rfl⟩
  rintro e m' ⟨lap, point, due, rfl, n, hn4, rfl⟩
  refine wSs_cons ?_
  refine wS_ret ?_
  refine wE_and ?_
  refine wE_isB ?_
  refine wE_propX T.cl D_Lot_is_closed.p G_Lot_is_closed (hr.mono (by decide)) D_Lot_is_closed.b ?_
  refine v 4 ?_
  refine ⟨_, rfl, ?_⟩
  refine ⟨boxesC bs 0, rfl, hC0.1, ?_⟩
  rw [boxes_shut0]
  refine wE_bl ?_
  refine ⟨_, _, rfl, rfl, ?_⟩
  refine ⟨_, rfl, fun _ => ?_, fun ht => absurd ht ((by first | exact Bool.false_ne_true | exact (fun h => Bool.noConfusion (show true = false from h)) | exact ne_false rfl | exact bool_t (by assumption) | exact bool_f (by assumption) | exact dec_t (by assumption) | exact dec_f (by assumption) | exact bool_nt (by assumption) | decide | omega | (simp_all; done) | (simp_all; omega)))⟩
  refine wE_and ?_
  refine wE_isB ?_
  refine wE_propX T.cl D_Lot_is_open.p G_Lot_is_open (hr.mono (by decide)) D_Lot_is_open.b ?_
  refine v 5 ?_
  refine ⟨_, rfl, ?_⟩
  refine ⟨boxesC bs 1, rfl, hC1.1, ?_⟩
  rw [boxes_shut1]
  refine wE_bl ?_
  refine ⟨_, _, rfl, rfl, ?_⟩
  refine ⟨_, rfl, fun _ => ?_, fun ht => absurd ht ((by first | exact Bool.false_ne_true | exact (fun h => Bool.noConfusion (show true = false from h)) | exact ne_false rfl | exact bool_t (by assumption) | exact bool_f (by assumption) | exact dec_t (by assumption) | exact dec_f (by assumption) | exact bool_nt (by assumption) | decide | omega | (simp_all; done) | (simp_all; omega)))⟩
  refine wE_and1 ?_
  refine wE_isB ?_
  refine wE_meth T.cl D_Lot_is_in.m G_Lot_is_in (hr.mono (by decide)) D_Lot_is_in.b ?_
  refine v 5 ?_
  refine ⟨_, rfl, lot_no (by decide +kernel), ?_⟩
  refine wA_cons ?_
  refine v 4 ?_
  refine wA_nil ?_
  refine ⟨rfl, ?_⟩
  refine ⟨boxesC bs 1, boxesC bs 0, rfl, hC1.1, ?_⟩
  rw [all_sub (fun c hc => boxes_sub hc)]
  refine wE_bl ?_
  refine ⟨_, _, rfl, rfl, ?_⟩
  exact ⟨_, pot_drop, hk⟩
theorem ok_law {f : Addr} {fd : FuncData} (D : DefAt K mg "law" s_law ["script"] f fd) (T : Txt K mg C_Lot) : FnG P w K mg base CX0 14 f fd ["script"] (spD K 1 spLawD) := by
  obtain ⟨f_law_cells, fd_law_cells, D_law_cells⟩ := T.d_law_cells
  have G_law_cells := ok_law_cells (P := P) (w := w) (base := base) D_law_cells T
  obtain ⟨f_law_right, fd_law_right, D_law_right⟩ := T.d_law_right
  have G_law_right := ok_law_right (P := P) (w := w) (base := base) D_law_right T
  obtain ⟨f_law_pot, fd_law_pot, D_law_pot⟩ := T.d_law_pot
  have G_law_pot := ok_law_pot (P := P) (w := w) (base := base) D_law_pot T
  refine fnD D.F sc_law (fun cdv A outer s H E hr m ds kk hsp hlen => ?_)
  obtain ⟨ns, rfl, hl, rfl, hk⟩ := hsp
  refine wSs_cons ?_
  refine wS_ret ?_
  refine wE_callB (cr_all rfl) callD_gAll (by rfl) T.z_all (by decide +kernel) ?_
  refine wA_cons ?_
  refine wE_lc [("place", 1)] rfl sc_law.nd (blkOk_by (N := ["script", "place"]) (sc := defScope s_law) (by decide +kernel)) ?_
  refine wI_seq ?_
  refine wE_call G_law_cells (hr.mono (by decide)) (by rfl) D_law_cells.g D_law_cells.F.kp D_law_cells.b ?_
  refine wA_cons ?_
  refine v 0 ?_
  refine wA_cons ?_
  refine wE_int ?_
  refine wA_nil ?_
  refine ⟨rfl, _, _, rfl, by decide, hl, fun n hn1 hn2 => ?_⟩
  first | refine ⟨_, .inl rfl, ?_⟩ | refine ⟨_, .inr rfl, ?_⟩
  refine ⟨(by simp [upto]; omega), lcW_inv0 (fun j acc m' => acc = List.replicate j (.bool true) ∧ m' = ⟨none, 0, []⟩) ?_ ⟨rfl, rfl⟩ ?_⟩
  · rintro j x acc m' D k' hx ⟨rfl, rfl⟩ q
    obtain ⟨hj, rfl⟩ := upto_get hx
    intro s1 H1 C1 cl1 fp1
    refine g 1 sc_law.nd ?_
    intro s2 H2 C2 cl2 fp2
    refine wE_call G_law_right (hr.mono (by decide)) (by rfl) D_law_right.g D_law_right.F.kp D_law_right.b ?_
    refine wA_cons ?_
    refine wE_call G_law_pot (hr.mono (by decide)) (by rfl) D_law_pot.g D_law_pot.F.kp D_law_pot.b ?_
    refine wA_cons ?_
    refine v 0 ?_
    refine wA_cons ?_
    refine v 1 ?_
    refine wA_nil ?_
    refine ⟨rfl, _, _, rfl, hl, ⟨by omega, by omega⟩, fun l px py ph1 ph2 ph3 ph4 => ?_⟩
    refine wA_nil ?_
    refine ⟨rfl, l, px, py, 0, _, rfl, rfl, by decide, ph1, ph2, ph3, ph4, ?_⟩
    exact q (.bool true) ⟨none, 0, []⟩ ⟨by rw [List.replicate_succ'], rfl⟩
  rintro acc m' ⟨rfl, rfl⟩
  refine wA_nil ?_
  refine ⟨_, _, rfl, boolsOf_rep _, ?_⟩
  rw [all_rep]
  exact hk _
end
end K9

set_option Elab.async false
set_option linter.all false
set_option maxRecDepth 100000
set_option maxHeartbeats 1000000
namespace DW
open PySem PySem.Spec PyProof.Rows L2
/-! ### the end's facts of a class of one's own -/
theorem sub_no {K : PySem.W.Frag} {C : Addr} {T : String} (h : (PySem.fastBuiltinMro T).map (fun l => l.all fun v => match v with | .ref _ => false | _ => true) = some true) : PySem.W.subIn K (.type T) (.ref C) = some false := by
  show (PySem.fastBuiltinMro T).map (·.contains (.ref C)) = some false
  cases e : PySem.fastBuiltinMro T with
  | none => rw [e] at h; cases h
  | some l =>
    rw [e] at h
    have h2 : (l.all fun v => match v with | .ref _ => false | _ => true) = true := Option.some.inj h
    refine congrArg some (Bool.eq_false_iff.mpr fun q => ?_)
    have q2 := List.contains_iff_mem.mp q
    have q3 := List.all_eq_true.mp h2 _ q2
    cases q3
theorem noattr_mk {K : PySem.W.Frag} {C : Addr} {f : Str} (h : PySem.W.findIn K (.ref C) f = some none) : NoAttr K C f := h
theorem nft_mk {K : PySem.W.Frag} {C : Addr} : PySem.W.notFirst K C (.type "tuple") = true := by
  unfold PySem.W.notFirst
  rw [sub_no (T := "tuple") (by decide +kernel)]
  simp
theorem kit_mk {K : PySem.W.Frag} {C : Addr} (h1 : PySem.W.isClsIn K C = true) (h2 : PySem.W.typeIn K (.ref C) = some (.type "type")) : KitN K C := by
  have one : ∀ T : String, (PySem.fastBuiltinMro T).map (fun l => l.all fun v => match v with | .ref _ => false | _ => true) = some true → PySem.W.kitOne K (.type T) (.ref C) = some false := fun T h => by
    unfold PySem.W.kitOne PySem.W.kitCls
    rw [if_neg (by intro q; have := eq_of_beq q; cases this)]
    dsimp only
    rw [show (PySem.W.clsIn K C).isSome = true from h1, h2, sub_no h]
    simp
  exact ⟨one _ (by decide +kernel), one _ (by decide +kernel), one _ (by decide +kernel), one _ (by decide +kernel), one _ (by decide +kernel), one _ (by decide +kernel)⟩
end DW

set_option Elab.async false
set_option linter.all false
set_option maxRecDepth 100000
set_option maxHeartbeats 1000000
namespace K9
open PySem PySem.Spec PyProof.Rows L2 DW
theorem dm_is_integer {K : PySem.W.Frag} {h : Heap} {mg : Str → Option Value} {f : Addr} (X : K.In h) (G : h.Ns mainGlobals mg) {od an : Option Addr} {sl : Array (Option Value)} {oc kV dc pm cd ct : Value}
    (a : PySem.W.nsIn K mainGlobals "is_integer" = some (some (.ref f))) (l : K.lookup f = some ⟨oc, od, .func (PySem.W.fnOf "is_integer" "is_integer" (defArgs s_is_integer) (defBody s_is_integer) (defScope s_is_integer) .none kV dc pm an cd ct), sl⟩) (c : PySem.W.codeIn K cd "is_integer" = true) (k : PySem.W.keepIn K (.ref f) = true) :
    ∃ f fd, DefAt K mg "is_integer" s_is_integer ["value"] f fd := ⟨f, _, fun_mk l c k, PySem.W.mg_of X G a, (fun_mk l c k).binds (ps := ["value"]) fun _ _ _ _ _ _ us hl => match us, hl with | [_], _ => rfl⟩
theorem dm_is_fraction {K : PySem.W.Frag} {h : Heap} {mg : Str → Option Value} {f : Addr} (X : K.In h) (G : h.Ns mainGlobals mg) {od an : Option Addr} {sl : Array (Option Value)} {oc kV dc pm cd ct : Value}
    (a : PySem.W.nsIn K mainGlobals "is_fraction" = some (some (.ref f))) (l : K.lookup f = some ⟨oc, od, .func (PySem.W.fnOf "is_fraction" "is_fraction" (defArgs s_is_fraction) (defBody s_is_fraction) (defScope s_is_fraction) .none kV dc pm an cd ct), sl⟩) (c : PySem.W.codeIn K cd "is_fraction" = true) (k : PySem.W.keepIn K (.ref f) = true) :
    ∃ f fd, DefAt K mg "is_fraction" s_is_fraction ["value"] f fd := ⟨f, _, fun_mk l c k, PySem.W.mg_of X G a, (fun_mk l c k).binds (ps := ["value"]) fun _ _ _ _ _ _ us hl => match us, hl with | [_], _ => rfl⟩
theorem dm_is_point {K : PySem.W.Frag} {h : Heap} {mg : Str → Option Value} {f : Addr} (X : K.In h) (G : h.Ns mainGlobals mg) {od an : Option Addr} {sl : Array (Option Value)} {oc kV dc pm cd ct : Value}
    (a : PySem.W.nsIn K mainGlobals "is_point" = some (some (.ref f))) (l : K.lookup f = some ⟨oc, od, .func (PySem.W.fnOf "is_point" "is_point" (defArgs s_is_point) (defBody s_is_point) (defScope s_is_point) .none kV dc pm an cd ct), sl⟩) (c : PySem.W.codeIn K cd "is_point" = true) (k : PySem.W.keepIn K (.ref f) = true) :
    ∃ f fd, DefAt K mg "is_point" s_is_point ["value"] f fd := ⟨f, _, fun_mk l c k, PySem.W.mg_of X G a, (fun_mk l c k).binds (ps := ["value"]) fun _ _ _ _ _ _ us hl => match us, hl with | [_], _ => rfl⟩
theorem dm_check_point {K : PySem.W.Frag} {h : Heap} {mg : Str → Option Value} {f : Addr} (X : K.In h) (G : h.Ns mainGlobals mg) {od an : Option Addr} {sl : Array (Option Value)} {oc kV dc pm cd ct : Value}
    (a : PySem.W.nsIn K mainGlobals "check_point" = some (some (.ref f))) (l : K.lookup f = some ⟨oc, od, .func (PySem.W.fnOf "check_point" "check_point" (defArgs s_check_point) (defBody s_check_point) (defScope s_check_point) .none kV dc pm an cd ct), sl⟩) (c : PySem.W.codeIn K cd "check_point" = true) (k : PySem.W.keepIn K (.ref f) = true) :
    ∃ f fd, DefAt K mg "check_point" s_check_point ["value"] f fd := ⟨f, _, fun_mk l c k, PySem.W.mg_of X G a, (fun_mk l c k).binds (ps := ["value"]) fun _ _ _ _ _ _ us hl => match us, hl with | [_], _ => rfl⟩
theorem dm_axes {K : PySem.W.Frag} {h : Heap} {mg : Str → Option Value} {f : Addr} (X : K.In h) (G : h.Ns mainGlobals mg) {od an : Option Addr} {sl : Array (Option Value)} {oc kV dc pm cd ct : Value}
    (a : PySem.W.nsIn K mainGlobals "axes" = some (some (.ref f))) (l : K.lookup f = some ⟨oc, od, .func (PySem.W.fnOf "axes" "axes" (defArgs s_axes) (defBody s_axes) (defScope s_axes) .none kV dc pm an cd ct), sl⟩) (c : PySem.W.codeIn K cd "axes" = true) (k : PySem.W.keepIn K (.ref f) = true) :
    ∃ f fd, DefAt K mg "axes" s_axes ["box"] f fd := ⟨f, _, fun_mk l c k, PySem.W.mg_of X G a, (fun_mk l c k).binds (ps := ["box"]) fun _ _ _ _ _ _ us hl => match us, hl with | [_], _ => rfl⟩
theorem dm_is_box {K : PySem.W.Frag} {h : Heap} {mg : Str → Option Value} {f : Addr} (X : K.In h) (G : h.Ns mainGlobals mg) {od an : Option Addr} {sl : Array (Option Value)} {oc kV dc pm cd ct : Value}
    (a : PySem.W.nsIn K mainGlobals "is_box" = some (some (.ref f))) (l : K.lookup f = some ⟨oc, od, .func (PySem.W.fnOf "is_box" "is_box" (defArgs s_is_box) (defBody s_is_box) (defScope s_is_box) .none kV dc pm an cd ct), sl⟩) (c : PySem.W.codeIn K cd "is_box" = true) (k : PySem.W.keepIn K (.ref f) = true) :
    ∃ f fd, DefAt K mg "is_box" s_is_box ["value"] f fd := ⟨f, _, fun_mk l c k, PySem.W.mg_of X G a, (fun_mk l c k).binds (ps := ["value"]) fun _ _ _ _ _ _ us hl => match us, hl with | [_], _ => rfl⟩
theorem dm_is_cell {K : PySem.W.Frag} {h : Heap} {mg : Str → Option Value} {f : Addr} (X : K.In h) (G : h.Ns mainGlobals mg) {od an : Option Addr} {sl : Array (Option Value)} {oc kV dc pm cd ct : Value}
    (a : PySem.W.nsIn K mainGlobals "is_cell" = some (some (.ref f))) (l : K.lookup f = some ⟨oc, od, .func (PySem.W.fnOf "is_cell" "is_cell" (defArgs s_is_cell) (defBody s_is_cell) (defScope s_is_cell) .none kV dc pm an cd ct), sl⟩) (c : PySem.W.codeIn K cd "is_cell" = true) (k : PySem.W.keepIn K (.ref f) = true) :
    ∃ f fd, DefAt K mg "is_cell" s_is_cell ["value"] f fd := ⟨f, _, fun_mk l c k, PySem.W.mg_of X G a, (fun_mk l c k).binds (ps := ["value"]) fun _ _ _ _ _ _ us hl => match us, hl with | [_], _ => rfl⟩
theorem dm_is_cube {K : PySem.W.Frag} {h : Heap} {mg : Str → Option Value} {f : Addr} (X : K.In h) (G : h.Ns mainGlobals mg) {od an : Option Addr} {sl : Array (Option Value)} {oc kV dc pm cd ct : Value}
    (a : PySem.W.nsIn K mainGlobals "is_cube" = some (some (.ref f))) (l : K.lookup f = some ⟨oc, od, .func (PySem.W.fnOf "is_cube" "is_cube" (defArgs s_is_cube) (defBody s_is_cube) (defScope s_is_cube) .none kV dc pm an cd ct), sl⟩) (c : PySem.W.codeIn K cd "is_cube" = true) (k : PySem.W.keepIn K (.ref f) = true) :
    ∃ f fd, DefAt K mg "is_cube" s_is_cube ["cell"] f fd := ⟨f, _, fun_mk l c k, PySem.W.mg_of X G a, (fun_mk l c k).binds (ps := ["cell"]) fun _ _ _ _ _ _ us hl => match us, hl with | [_], _ => rfl⟩
theorem dm_index_of {K : PySem.W.Frag} {h : Heap} {mg : Str → Option Value} {f : Addr} (X : K.In h) (G : h.Ns mainGlobals mg) {od an : Option Addr} {sl : Array (Option Value)} {oc kV dc pm cd ct : Value}
    (a : PySem.W.nsIn K mainGlobals "_index_of" = some (some (.ref f))) (l : K.lookup f = some ⟨oc, od, .func (PySem.W.fnOf "_index_of" "_index_of" (defArgs s_index_of) (defBody s_index_of) (defScope s_index_of) .none kV dc pm an cd ct), sl⟩) (c : PySem.W.codeIn K cd "_index_of" = true) (k : PySem.W.keepIn K (.ref f) = true) :
    ∃ f fd, DefAt K mg "_index_of" s_index_of ["fraction"] f fd := ⟨f, _, fun_mk l c k, PySem.W.mg_of X G a, (fun_mk l c k).binds (ps := ["fraction"]) fun _ _ _ _ _ _ us hl => match us, hl with | [_], _ => rfl⟩
theorem dm_cell_of {K : PySem.W.Frag} {h : Heap} {mg : Str → Option Value} {f : Addr} (X : K.In h) (G : h.Ns mainGlobals mg) {od an : Option Addr} {sl : Array (Option Value)} {oc kV dc pm cd ct : Value}
    (a : PySem.W.nsIn K mainGlobals "cell_of" = some (some (.ref f))) (l : K.lookup f = some ⟨oc, od, .func (PySem.W.fnOf "cell_of" "cell_of" (defArgs s_cell_of) (defBody s_cell_of) (defScope s_cell_of) .none kV dc pm an cd ct), sl⟩) (c : PySem.W.codeIn K cd "cell_of" = true) (k : PySem.W.keepIn K (.ref f) = true) :
    ∃ f fd, DefAt K mg "cell_of" s_cell_of ["point"] f fd := ⟨f, _, fun_mk l c k, PySem.W.mg_of X G a, (fun_mk l c k).binds (ps := ["point"]) fun _ _ _ _ _ _ us hl => match us, hl with | [_], _ => rfl⟩
theorem dm_beside {K : PySem.W.Frag} {h : Heap} {mg : Str → Option Value} {f : Addr} (X : K.In h) (G : h.Ns mainGlobals mg) {od an : Option Addr} {sl : Array (Option Value)} {oc kV dc pm cd ct : Value}
    (a : PySem.W.nsIn K mainGlobals "_beside" = some (some (.ref f))) (l : K.lookup f = some ⟨oc, od, .func (PySem.W.fnOf "_beside" "_beside" (defArgs s_beside) (defBody s_beside) (defScope s_beside) .none kV dc pm an cd ct), sl⟩) (c : PySem.W.codeIn K cd "_beside" = true) (k : PySem.W.keepIn K (.ref f) = true) :
    ∃ f fd, DefAt K mg "_beside" s_beside ["cell", "parity"] f fd := ⟨f, _, fun_mk l c k, PySem.W.mg_of X G a, (fun_mk l c k).binds (ps := ["cell", "parity"]) fun _ _ _ _ _ _ us hl => match us, hl with | [_, _], _ => rfl⟩
theorem dm_rim_of {K : PySem.W.Frag} {h : Heap} {mg : Str → Option Value} {f : Addr} (X : K.In h) (G : h.Ns mainGlobals mg) {od an : Option Addr} {sl : Array (Option Value)} {oc kV dc pm cd ct : Value}
    (a : PySem.W.nsIn K mainGlobals "rim_of" = some (some (.ref f))) (l : K.lookup f = some ⟨oc, od, .func (PySem.W.fnOf "rim_of" "rim_of" (defArgs s_rim_of) (defBody s_rim_of) (defScope s_rim_of) .none kV dc pm an cd ct), sl⟩) (c : PySem.W.codeIn K cd "rim_of" = true) (k : PySem.W.keepIn K (.ref f) = true) :
    ∃ f fd, DefAt K mg "rim_of" s_rim_of ["cell"] f fd := ⟨f, _, fun_mk l c k, PySem.W.mg_of X G a, (fun_mk l c k).binds (ps := ["cell"]) fun _ _ _ _ _ _ us hl => match us, hl with | [_], _ => rfl⟩
theorem dm_around_of {K : PySem.W.Frag} {h : Heap} {mg : Str → Option Value} {f : Addr} (X : K.In h) (G : h.Ns mainGlobals mg) {od an : Option Addr} {sl : Array (Option Value)} {oc kV dc pm cd ct : Value}
    (a : PySem.W.nsIn K mainGlobals "around_of" = some (some (.ref f))) (l : K.lookup f = some ⟨oc, od, .func (PySem.W.fnOf "around_of" "around_of" (defArgs s_around_of) (defBody s_around_of) (defScope s_around_of) .none kV dc pm an cd ct), sl⟩) (c : PySem.W.codeIn K cd "around_of" = true) (k : PySem.W.keepIn K (.ref f) = true) :
    ∃ f fd, DefAt K mg "around_of" s_around_of ["cell"] f fd := ⟨f, _, fun_mk l c k, PySem.W.mg_of X G a, (fun_mk l c k).binds (ps := ["cell"]) fun _ _ _ _ _ _ us hl => match us, hl with | [_], _ => rfl⟩
theorem dm_are_boxes {K : PySem.W.Frag} {h : Heap} {mg : Str → Option Value} {f : Addr} (X : K.In h) (G : h.Ns mainGlobals mg) {od an : Option Addr} {sl : Array (Option Value)} {oc kV dc pm cd ct : Value}
    (a : PySem.W.nsIn K mainGlobals "are_boxes" = some (some (.ref f))) (l : K.lookup f = some ⟨oc, od, .func (PySem.W.fnOf "are_boxes" "are_boxes" (defArgs s_are_boxes) (defBody s_are_boxes) (defScope s_are_boxes) .none kV dc pm an cd ct), sl⟩) (c : PySem.W.codeIn K cd "are_boxes" = true) (k : PySem.W.keepIn K (.ref f) = true) :
    ∃ f fd, DefAt K mg "are_boxes" s_are_boxes ["value", "least", "most", "low", "high"] f fd := ⟨f, _, fun_mk l c k, PySem.W.mg_of X G a, (fun_mk l c k).binds (ps := ["value", "least", "most", "low", "high"]) fun _ _ _ _ _ _ us hl => match us, hl with | [_, _, _, _, _], _ => rfl⟩
theorem dm_in_bounds {K : PySem.W.Frag} {h : Heap} {mg : Str → Option Value} {f : Addr} (X : K.In h) (G : h.Ns mainGlobals mg) {od an : Option Addr} {sl : Array (Option Value)} {oc kV dc pm cd ct : Value}
    (a : PySem.W.nsIn K mainGlobals "_in_bounds" = some (some (.ref f))) (l : K.lookup f = some ⟨oc, od, .func (PySem.W.fnOf "_in_bounds" "_in_bounds" (defArgs s_in_bounds) (defBody s_in_bounds) (defScope s_in_bounds) .none kV dc pm an cd ct), sl⟩) (c : PySem.W.codeIn K cd "_in_bounds" = true) (k : PySem.W.keepIn K (.ref f) = true) :
    ∃ f fd, DefAt K mg "_in_bounds" s_in_bounds ["index"] f fd := ⟨f, _, fun_mk l c k, PySem.W.mg_of X G a, (fun_mk l c k).binds (ps := ["index"]) fun _ _ _ _ _ _ us hl => match us, hl with | [_], _ => rfl⟩
theorem dm_are_cells {K : PySem.W.Frag} {h : Heap} {mg : Str → Option Value} {f : Addr} (X : K.In h) (G : h.Ns mainGlobals mg) {od an : Option Addr} {sl : Array (Option Value)} {oc kV dc pm cd ct : Value}
    (a : PySem.W.nsIn K mainGlobals "_are_cells" = some (some (.ref f))) (l : K.lookup f = some ⟨oc, od, .func (PySem.W.fnOf "_are_cells" "_are_cells" (defArgs s_are_cells) (defBody s_are_cells) (defScope s_are_cells) .none kV dc pm an cd ct), sl⟩) (c : PySem.W.codeIn K cd "_are_cells" = true) (k : PySem.W.keepIn K (.ref f) = true) :
    ∃ f fd, DefAt K mg "_are_cells" s_are_cells ["value"] f fd := ⟨f, _, fun_mk l c k, PySem.W.mg_of X G a, (fun_mk l c k).binds (ps := ["value"]) fun _ _ _ _ _ _ us hl => match us, hl with | [_], _ => rfl⟩
theorem dm_Lot___init {K : PySem.W.Frag} {h : Heap} {mg : Str → Option Value} {f C_Lot : Addr} (X : K.In h) (G : h.Ns mainGlobals mg) {od an : Option Addr} {sl : Array (Option Value)} {oc kV dc pm cd ct : Value}
    (a : PySem.W.findIn K (.ref C_Lot) "__init__" = some (some (.ref f))) (i : PySem.W.isFn K (.ref f) = true) (l : K.lookup f = some ⟨oc, od, .func (PySem.W.fnOf "__init__" "Lot.__init__" (defArgs s_Lot___init) (defBody s_Lot___init) (defScope s_Lot___init) .none kV dc pm an cd ct), sl⟩) (c : PySem.W.codeIn K cd "Lot.__init__" = true) (k : PySem.W.keepIn K (.ref f) = true) :
    ∃ f fd, MethAt K C_Lot "__init__" "Lot.__init__" s_Lot___init ["self", "cells"] f fd := ⟨f, _, fun_mk l c k, ⟨a, i, k⟩, (fun_mk l c k).binds (ps := ["self", "cells"]) fun _ _ _ _ _ _ us hl => match us, hl with | [_, _], _ => rfl⟩
theorem dm_Lot___eq {K : PySem.W.Frag} {h : Heap} {mg : Str → Option Value} {f C_Lot : Addr} (X : K.In h) (G : h.Ns mainGlobals mg) {od an : Option Addr} {sl : Array (Option Value)} {oc kV dc pm cd ct : Value}
    (a : PySem.W.findIn K (.ref C_Lot) "__eq__" = some (some (.ref f))) (i : PySem.W.isFn K (.ref f) = true) (l : K.lookup f = some ⟨oc, od, .func (PySem.W.fnOf "__eq__" "Lot.__eq__" (defArgs s_Lot___eq) (defBody s_Lot___eq) (defScope s_Lot___eq) .none kV dc pm an cd ct), sl⟩) (c : PySem.W.codeIn K cd "Lot.__eq__" = true) (k : PySem.W.keepIn K (.ref f) = true) :
    ∃ f fd, MethAt K C_Lot "__eq__" "Lot.__eq__" s_Lot___eq ["self", "other"] f fd := ⟨f, _, fun_mk l c k, ⟨a, i, k⟩, (fun_mk l c k).binds (ps := ["self", "other"]) fun _ _ _ _ _ _ us hl => match us, hl with | [_, _], _ => rfl⟩
theorem dm_Lot___len {K : PySem.W.Frag} {h : Heap} {mg : Str → Option Value} {f C_Lot : Addr} (X : K.In h) (G : h.Ns mainGlobals mg) {od an : Option Addr} {sl : Array (Option Value)} {oc kV dc pm cd ct : Value}
    (a : PySem.W.findIn K (.ref C_Lot) "__len__" = some (some (.ref f))) (i : PySem.W.isFn K (.ref f) = true) (l : K.lookup f = some ⟨oc, od, .func (PySem.W.fnOf "__len__" "Lot.__len__" (defArgs s_Lot___len) (defBody s_Lot___len) (defScope s_Lot___len) .none kV dc pm an cd ct), sl⟩) (c : PySem.W.codeIn K cd "Lot.__len__" = true) (k : PySem.W.keepIn K (.ref f) = true) :
    ∃ f fd, MethAt K C_Lot "__len__" "Lot.__len__" s_Lot___len ["self"] f fd := ⟨f, _, fun_mk l c k, ⟨a, i, k⟩, (fun_mk l c k).binds (ps := ["self"]) fun _ _ _ _ _ _ us hl => match us, hl with | [_], _ => rfl⟩
theorem dm_Lot_is_closed {K : PySem.W.Frag} {f C_Lot p : Addr} {od an : Option Addr} {sl : Array (Option Value)} {oc kV dc pm cd ct : Value} {rest : List Value}
    (a : PySem.W.findIn K (.ref C_Lot) "is_closed" = some (some (.ref p))) (g : PySem.W.specialIn K (.ref p) "__get__" = some (some (.builtin "property.__get__"))) (t : PySem.W.takesIn K (.ref p) = some true) (r : PySem.W.recIn K p "property" = some (.ref f :: rest))
    (l : K.lookup f = some ⟨oc, od, .func (PySem.W.fnOf "is_closed" "Lot.is_closed" (defArgs s_Lot_is_closed) (defBody s_Lot_is_closed) (defScope s_Lot_is_closed) .none kV dc pm an cd ct), sl⟩) (c : PySem.W.codeIn K cd "Lot.is_closed" = true) (k : PySem.W.keepIn K (.ref f) = true) :
    ∃ f fd, PropAt K C_Lot "is_closed" "Lot.is_closed" s_Lot_is_closed ["self"] f fd := ⟨f, _, fun_mk l c k, ⟨p, a, g, t, rest, r⟩, (fun_mk l c k).binds (ps := ["self"]) fun _ _ _ _ _ _ us hl => match us, hl with | [_], _ => rfl⟩
theorem dm_Lot_is_open {K : PySem.W.Frag} {f C_Lot p : Addr} {od an : Option Addr} {sl : Array (Option Value)} {oc kV dc pm cd ct : Value} {rest : List Value}
    (a : PySem.W.findIn K (.ref C_Lot) "is_open" = some (some (.ref p))) (g : PySem.W.specialIn K (.ref p) "__get__" = some (some (.builtin "property.__get__"))) (t : PySem.W.takesIn K (.ref p) = some true) (r : PySem.W.recIn K p "property" = some (.ref f :: rest))
    (l : K.lookup f = some ⟨oc, od, .func (PySem.W.fnOf "is_open" "Lot.is_open" (defArgs s_Lot_is_open) (defBody s_Lot_is_open) (defScope s_Lot_is_open) .none kV dc pm an cd ct), sl⟩) (c : PySem.W.codeIn K cd "Lot.is_open" = true) (k : PySem.W.keepIn K (.ref f) = true) :
    ∃ f fd, PropAt K C_Lot "is_open" "Lot.is_open" s_Lot_is_open ["self"] f fd := ⟨f, _, fun_mk l c k, ⟨p, a, g, t, rest, r⟩, (fun_mk l c k).binds (ps := ["self"]) fun _ _ _ _ _ _ us hl => match us, hl with | [_], _ => rfl⟩
theorem dm_Lot_has {K : PySem.W.Frag} {h : Heap} {mg : Str → Option Value} {f C_Lot : Addr} (X : K.In h) (G : h.Ns mainGlobals mg) {od an : Option Addr} {sl : Array (Option Value)} {oc kV dc pm cd ct : Value}
    (a : PySem.W.findIn K (.ref C_Lot) "has" = some (some (.ref f))) (i : PySem.W.isFn K (.ref f) = true) (l : K.lookup f = some ⟨oc, od, .func (PySem.W.fnOf "has" "Lot.has" (defArgs s_Lot_has) (defBody s_Lot_has) (defScope s_Lot_has) .none kV dc pm an cd ct), sl⟩) (c : PySem.W.codeIn K cd "Lot.has" = true) (k : PySem.W.keepIn K (.ref f) = true) :
    ∃ f fd, MethAt K C_Lot "has" "Lot.has" s_Lot_has ["self", "point"] f fd := ⟨f, _, fun_mk l c k, ⟨a, i, k⟩, (fun_mk l c k).binds (ps := ["self", "point"]) fun _ _ _ _ _ _ us hl => match us, hl with | [_, _], _ => rfl⟩
theorem dm_Lot_is_in {K : PySem.W.Frag} {h : Heap} {mg : Str → Option Value} {f C_Lot : Addr} (X : K.In h) (G : h.Ns mainGlobals mg) {od an : Option Addr} {sl : Array (Option Value)} {oc kV dc pm cd ct : Value}
    (a : PySem.W.findIn K (.ref C_Lot) "is_in" = some (some (.ref f))) (i : PySem.W.isFn K (.ref f) = true) (l : K.lookup f = some ⟨oc, od, .func (PySem.W.fnOf "is_in" "Lot.is_in" (defArgs s_Lot_is_in) (defBody s_Lot_is_in) (defScope s_Lot_is_in) .none kV dc pm an cd ct), sl⟩) (c : PySem.W.codeIn K cd "Lot.is_in" = true) (k : PySem.W.keepIn K (.ref f) = true) :
    ∃ f fd, MethAt K C_Lot "is_in" "Lot.is_in" s_Lot_is_in ["self", "other"] f fd := ⟨f, _, fun_mk l c k, ⟨a, i, k⟩, (fun_mk l c k).binds (ps := ["self", "other"]) fun _ _ _ _ _ _ us hl => match us, hl with | [_, _], _ => rfl⟩
theorem dm_check_lot {K : PySem.W.Frag} {h : Heap} {mg : Str → Option Value} {f : Addr} (X : K.In h) (G : h.Ns mainGlobals mg) {od an : Option Addr} {sl : Array (Option Value)} {oc kV dc pm cd ct : Value}
    (a : PySem.W.nsIn K mainGlobals "check_lot" = some (some (.ref f))) (l : K.lookup f = some ⟨oc, od, .func (PySem.W.fnOf "check_lot" "check_lot" (defArgs s_check_lot) (defBody s_check_lot) (defScope s_check_lot) .none kV dc pm an cd ct), sl⟩) (c : PySem.W.codeIn K cd "check_lot" = true) (k : PySem.W.keepIn K (.ref f) = true) :
    ∃ f fd, DefAt K mg "check_lot" s_check_lot ["value"] f fd := ⟨f, _, fun_mk l c k, PySem.W.mg_of X G a, (fun_mk l c k).binds (ps := ["value"]) fun _ _ _ _ _ _ us hl => match us, hl with | [_], _ => rfl⟩
theorem dm_check_boxes {K : PySem.W.Frag} {h : Heap} {mg : Str → Option Value} {f : Addr} (X : K.In h) (G : h.Ns mainGlobals mg) {od an : Option Addr} {sl : Array (Option Value)} {oc kV dc pm cd ct : Value}
    (a : PySem.W.nsIn K mainGlobals "check_boxes" = some (some (.ref f))) (l : K.lookup f = some ⟨oc, od, .func (PySem.W.fnOf "check_boxes" "check_boxes" (defArgs s_check_boxes) (defBody s_check_boxes) (defScope s_check_boxes) .none kV dc pm an cd ct), sl⟩) (c : PySem.W.codeIn K cd "check_boxes" = true) (k : PySem.W.keepIn K (.ref f) = true) :
    ∃ f fd, DefAt K mg "check_boxes" s_check_boxes ["value"] f fd := ⟨f, _, fun_mk l c k, PySem.W.mg_of X G a, (fun_mk l c k).binds (ps := ["value"]) fun _ _ _ _ _ _ us hl => match us, hl with | [_], _ => rfl⟩
theorem dm_cells_of_box {K : PySem.W.Frag} {h : Heap} {mg : Str → Option Value} {f : Addr} (X : K.In h) (G : h.Ns mainGlobals mg) {od an : Option Addr} {sl : Array (Option Value)} {oc kV dc pm cd ct : Value}
    (a : PySem.W.nsIn K mainGlobals "_cells_of_box" = some (some (.ref f))) (l : K.lookup f = some ⟨oc, od, .func (PySem.W.fnOf "_cells_of_box" "_cells_of_box" (defArgs s_cells_of_box) (defBody s_cells_of_box) (defScope s_cells_of_box) .none kV dc pm an cd ct), sl⟩) (c : PySem.W.codeIn K cd "_cells_of_box" = true) (k : PySem.W.keepIn K (.ref f) = true) :
    ∃ f fd, DefAt K mg "_cells_of_box" s_cells_of_box ["box", "inset"] f fd := ⟨f, _, fun_mk l c k, PySem.W.mg_of X G a, (fun_mk l c k).binds (ps := ["box", "inset"]) fun _ _ _ _ _ _ us hl => match us, hl with | [_, _], _ => rfl⟩
theorem dm_lot_of_boxes {K : PySem.W.Frag} {h : Heap} {mg : Str → Option Value} {f : Addr} (X : K.In h) (G : h.Ns mainGlobals mg) {od an : Option Addr} {sl : Array (Option Value)} {oc kV dc pm cd ct : Value}
    (a : PySem.W.nsIn K mainGlobals "lot_of_boxes" = some (some (.ref f))) (l : K.lookup f = some ⟨oc, od, .func (PySem.W.fnOf "lot_of_boxes" "lot_of_boxes" (defArgs s_lot_of_boxes) (defBody s_lot_of_boxes) (defScope s_lot_of_boxes) .none kV dc pm an cd ct), sl⟩) (c : PySem.W.codeIn K cd "lot_of_boxes" = true) (k : PySem.W.keepIn K (.ref f) = true) :
    ∃ f fd, DefAt K mg "lot_of_boxes" s_lot_of_boxes ["boxes"] f fd := ⟨f, _, fun_mk l c k, PySem.W.mg_of X G a, (fun_mk l c k).binds (ps := ["boxes"]) fun _ _ _ _ _ _ us hl => match us, hl with | [_], _ => rfl⟩
theorem dm_within_boxes {K : PySem.W.Frag} {h : Heap} {mg : Str → Option Value} {f : Addr} (X : K.In h) (G : h.Ns mainGlobals mg) {od an : Option Addr} {sl : Array (Option Value)} {oc kV dc pm cd ct : Value}
    (a : PySem.W.nsIn K mainGlobals "within_boxes" = some (some (.ref f))) (l : K.lookup f = some ⟨oc, od, .func (PySem.W.fnOf "within_boxes" "within_boxes" (defArgs s_within_boxes) (defBody s_within_boxes) (defScope s_within_boxes) .none kV dc pm an cd ct), sl⟩) (c : PySem.W.codeIn K cd "within_boxes" = true) (k : PySem.W.keepIn K (.ref f) = true) :
    ∃ f fd, DefAt K mg "within_boxes" s_within_boxes ["boxes"] f fd := ⟨f, _, fun_mk l c k, PySem.W.mg_of X G a, (fun_mk l c k).binds (ps := ["boxes"]) fun _ _ _ _ _ _ us hl => match us, hl with | [_], _ => rfl⟩
theorem dm_law_pot {K : PySem.W.Frag} {h : Heap} {mg : Str → Option Value} {f : Addr} (X : K.In h) (G : h.Ns mainGlobals mg) {od an : Option Addr} {sl : Array (Option Value)} {oc kV dc pm cd ct : Value}
    (a : PySem.W.nsIn K mainGlobals "_law_pot" = some (some (.ref f))) (l : K.lookup f = some ⟨oc, od, .func (PySem.W.fnOf "_law_pot" "_law_pot" (defArgs s_law_pot) (defBody s_law_pot) (defScope s_law_pot) .none kV dc pm an cd ct), sl⟩) (c : PySem.W.codeIn K cd "_law_pot" = true) (k : PySem.W.keepIn K (.ref f) = true) :
    ∃ f fd, DefAt K mg "_law_pot" s_law_pot ["script", "place"] f fd := ⟨f, _, fun_mk l c k, PySem.W.mg_of X G a, (fun_mk l c k).binds (ps := ["script", "place"]) fun _ _ _ _ _ _ us hl => match us, hl with | [_, _], _ => rfl⟩
theorem dm_law_take {K : PySem.W.Frag} {h : Heap} {mg : Str → Option Value} {f : Addr} (X : K.In h) (G : h.Ns mainGlobals mg) {od an : Option Addr} {sl : Array (Option Value)} {oc kV dc pm cd ct : Value}
    (a : PySem.W.nsIn K mainGlobals "_law_take" = some (some (.ref f))) (l : K.lookup f = some ⟨oc, od, .func (PySem.W.fnOf "_law_take" "_law_take" (defArgs s_law_take) (defBody s_law_take) (defScope s_law_take) .none kV dc pm an cd ct), sl⟩) (c : PySem.W.codeIn K cd "_law_take" = true) (k : PySem.W.keepIn K (.ref f) = true) :
    ∃ f fd, DefAt K mg "_law_take" s_law_take ["pot", "upto"] f fd := ⟨f, _, fun_mk l c k, PySem.W.mg_of X G a, (fun_mk l c k).binds (ps := ["pot", "upto"]) fun _ _ _ _ _ _ us hl => match us, hl with | [_, _], _ => rfl⟩
theorem dm_law_of {K : PySem.W.Frag} {h : Heap} {mg : Str → Option Value} {f : Addr} (X : K.In h) (G : h.Ns mainGlobals mg) {od an : Option Addr} {sl : Array (Option Value)} {oc kV dc pm cd ct : Value}
    (a : PySem.W.nsIn K mainGlobals "_law_of" = some (some (.ref f))) (l : K.lookup f = some ⟨oc, od, .func (PySem.W.fnOf "_law_of" "_law_of" (defArgs s_law_of) (defBody s_law_of) (defScope s_law_of) .none kV dc pm an cd ct), sl⟩) (c : PySem.W.codeIn K cd "_law_of" = true) (k : PySem.W.keepIn K (.ref f) = true) :
    ∃ f fd, DefAt K mg "_law_of" s_law_of ["pot", "some"] f fd := ⟨f, _, fun_mk l c k, PySem.W.mg_of X G a, (fun_mk l c k).binds (ps := ["pot", "some"]) fun _ _ _ _ _ _ us hl => match us, hl with | [_, _], _ => rfl⟩
theorem dm_law_cells {K : PySem.W.Frag} {h : Heap} {mg : Str → Option Value} {f : Addr} (X : K.In h) (G : h.Ns mainGlobals mg) {od an : Option Addr} {sl : Array (Option Value)} {oc kV dc pm cd ct : Value}
    (a : PySem.W.nsIn K mainGlobals "_law_cells" = some (some (.ref f))) (l : K.lookup f = some ⟨oc, od, .func (PySem.W.fnOf "_law_cells" "_law_cells" (defArgs s_law_cells) (defBody s_law_cells) (defScope s_law_cells) .none kV dc pm an cd ct), sl⟩) (c : PySem.W.codeIn K cd "_law_cells" = true) (k : PySem.W.keepIn K (.ref f) = true) :
    ∃ f fd, DefAt K mg "_law_cells" s_law_cells ["script", "limit"] f fd := ⟨f, _, fun_mk l c k, PySem.W.mg_of X G a, (fun_mk l c k).binds (ps := ["script", "limit"]) fun _ _ _ _ _ _ us hl => match us, hl with | [_, _], _ => rfl⟩
theorem dm_law_drawn_box {K : PySem.W.Frag} {h : Heap} {mg : Str → Option Value} {f : Addr} (X : K.In h) (G : h.Ns mainGlobals mg) {od an : Option Addr} {sl : Array (Option Value)} {oc kV dc pm cd ct : Value}
    (a : PySem.W.nsIn K mainGlobals "_law_drawn_box" = some (some (.ref f))) (l : K.lookup f = some ⟨oc, od, .func (PySem.W.fnOf "_law_drawn_box" "_law_drawn_box" (defArgs s_law_drawn_box) (defBody s_law_drawn_box) (defScope s_law_drawn_box) .none kV dc pm an cd ct), sl⟩) (c : PySem.W.codeIn K cd "_law_drawn_box" = true) (k : PySem.W.keepIn K (.ref f) = true) :
    ∃ f fd, DefAt K mg "_law_drawn_box" s_law_drawn_box ["pot", "low", "high"] f fd := ⟨f, _, fun_mk l c k, PySem.W.mg_of X G a, (fun_mk l c k).binds (ps := ["pot", "low", "high"]) fun _ _ _ _ _ _ us hl => match us, hl with | [_, _, _], _ => rfl⟩
theorem dm_law_common {K : PySem.W.Frag} {h : Heap} {mg : Str → Option Value} {f : Addr} (X : K.In h) (G : h.Ns mainGlobals mg) {od an : Option Addr} {sl : Array (Option Value)} {oc kV dc pm cd ct : Value}
    (a : PySem.W.nsIn K mainGlobals "_law_common" = some (some (.ref f))) (l : K.lookup f = some ⟨oc, od, .func (PySem.W.fnOf "_law_common" "_law_common" (defArgs s_law_common) (defBody s_law_common) (defScope s_law_common) .none kV dc pm an cd ct), sl⟩) (c : PySem.W.codeIn K cd "_law_common" = true) (k : PySem.W.keepIn K (.ref f) = true) :
    ∃ f fd, DefAt K mg "_law_common" s_law_common ["one", "other"] f fd := ⟨f, _, fun_mk l c k, PySem.W.mg_of X G a, (fun_mk l c k).binds (ps := ["one", "other"]) fun _ _ _ _ _ _ us hl => match us, hl with | [_, _], _ => rfl⟩
theorem dm_law_fraction {K : PySem.W.Frag} {h : Heap} {mg : Str → Option Value} {f : Addr} (X : K.In h) (G : h.Ns mainGlobals mg) {od an : Option Addr} {sl : Array (Option Value)} {oc kV dc pm cd ct : Value}
    (a : PySem.W.nsIn K mainGlobals "_law_fraction" = some (some (.ref f))) (l : K.lookup f = some ⟨oc, od, .func (PySem.W.fnOf "_law_fraction" "_law_fraction" (defArgs s_law_fraction) (defBody s_law_fraction) (defScope s_law_fraction) .none kV dc pm an cd ct), sl⟩) (c : PySem.W.codeIn K cd "_law_fraction" = true) (k : PySem.W.keepIn K (.ref f) = true) :
    ∃ f fd, DefAt K mg "_law_fraction" s_law_fraction ["top", "bottom"] f fd := ⟨f, _, fun_mk l c k, PySem.W.mg_of X G a, (fun_mk l c k).binds (ps := ["top", "bottom"]) fun _ _ _ _ _ _ us hl => match us, hl with | [_, _], _ => rfl⟩
theorem dm_law_drawn_number {K : PySem.W.Frag} {h : Heap} {mg : Str → Option Value} {f : Addr} (X : K.In h) (G : h.Ns mainGlobals mg) {od an : Option Addr} {sl : Array (Option Value)} {oc kV dc pm cd ct : Value}
    (a : PySem.W.nsIn K mainGlobals "_law_drawn_number" = some (some (.ref f))) (l : K.lookup f = some ⟨oc, od, .func (PySem.W.fnOf "_law_drawn_number" "_law_drawn_number" (defArgs s_law_drawn_number) (defBody s_law_drawn_number) (defScope s_law_drawn_number) .none kV dc pm an cd ct), sl⟩) (c : PySem.W.codeIn K cd "_law_drawn_number" = true) (k : PySem.W.keepIn K (.ref f) = true) :
    ∃ f fd, DefAt K mg "_law_drawn_number" s_law_drawn_number ["pot"] f fd := ⟨f, _, fun_mk l c k, PySem.W.mg_of X G a, (fun_mk l c k).binds (ps := ["pot"]) fun _ _ _ _ _ _ us hl => match us, hl with | [_], _ => rfl⟩
theorem dm_law_drawn_point {K : PySem.W.Frag} {h : Heap} {mg : Str → Option Value} {f : Addr} (X : K.In h) (G : h.Ns mainGlobals mg) {od an : Option Addr} {sl : Array (Option Value)} {oc kV dc pm cd ct : Value}
    (a : PySem.W.nsIn K mainGlobals "_law_drawn_point" = some (some (.ref f))) (l : K.lookup f = some ⟨oc, od, .func (PySem.W.fnOf "_law_drawn_point" "_law_drawn_point" (defArgs s_law_drawn_point) (defBody s_law_drawn_point) (defScope s_law_drawn_point) .none kV dc pm an cd ct), sl⟩) (c : PySem.W.codeIn K cd "_law_drawn_point" = true) (k : PySem.W.keepIn K (.ref f) = true) :
    ∃ f fd, DefAt K mg "_law_drawn_point" s_law_drawn_point ["pot"] f fd := ⟨f, _, fun_mk l c k, PySem.W.mg_of X G a, (fun_mk l c k).binds (ps := ["pot"]) fun _ _ _ _ _ _ us hl => match us, hl with | [_], _ => rfl⟩
theorem dm_law_one_each {K : PySem.W.Frag} {h : Heap} {mg : Str → Option Value} {f : Addr} (X : K.In h) (G : h.Ns mainGlobals mg) {od an : Option Addr} {sl : Array (Option Value)} {oc kV dc pm cd ct : Value}
    (a : PySem.W.nsIn K mainGlobals "_law_one_each" = some (some (.ref f))) (l : K.lookup f = some ⟨oc, od, .func (PySem.W.fnOf "_law_one_each" "_law_one_each" (defArgs s_law_one_each) (defBody s_law_one_each) (defScope s_law_one_each) .none kV dc pm an cd ct), sl⟩) (c : PySem.W.codeIn K cd "_law_one_each" = true) (k : PySem.W.keepIn K (.ref f) = true) :
    ∃ f fd, DefAt K mg "_law_one_each" s_law_one_each ["cells"] f fd := ⟨f, _, fun_mk l c k, PySem.W.mg_of X G a, (fun_mk l c k).binds (ps := ["cells"]) fun _ _ _ _ _ _ us hl => match us, hl with | [_], _ => rfl⟩
theorem dm_law_product_cells {K : PySem.W.Frag} {h : Heap} {mg : Str → Option Value} {f : Addr} (X : K.In h) (G : h.Ns mainGlobals mg) {od an : Option Addr} {sl : Array (Option Value)} {oc kV dc pm cd ct : Value}
    (a : PySem.W.nsIn K mainGlobals "_law_product_cells" = some (some (.ref f))) (l : K.lookup f = some ⟨oc, od, .func (PySem.W.fnOf "_law_product_cells" "_law_product_cells" (defArgs s_law_product_cells) (defBody s_law_product_cells) (defScope s_law_product_cells) .none kV dc pm an cd ct), sl⟩) (c : PySem.W.codeIn K cd "_law_product_cells" = true) (k : PySem.W.keepIn K (.ref f) = true) :
    ∃ f fd, DefAt K mg "_law_product_cells" s_law_product_cells ["sides"] f fd := ⟨f, _, fun_mk l c k, PySem.W.mg_of X G a, (fun_mk l c k).binds (ps := ["sides"]) fun _ _ _ _ _ _ us hl => match us, hl with | [_], _ => rfl⟩
theorem dm_law_drawn_boxes {K : PySem.W.Frag} {h : Heap} {mg : Str → Option Value} {f : Addr} (X : K.In h) (G : h.Ns mainGlobals mg) {od an : Option Addr} {sl : Array (Option Value)} {oc kV dc pm cd ct : Value}
    (a : PySem.W.nsIn K mainGlobals "_law_drawn_boxes" = some (some (.ref f))) (l : K.lookup f = some ⟨oc, od, .func (PySem.W.fnOf "_law_drawn_boxes" "_law_drawn_boxes" (defArgs s_law_drawn_boxes) (defBody s_law_drawn_boxes) (defScope s_law_drawn_boxes) .none kV dc pm an cd ct), sl⟩) (c : PySem.W.codeIn K cd "_law_drawn_boxes" = true) (k : PySem.W.keepIn K (.ref f) = true) :
    ∃ f fd, DefAt K mg "_law_drawn_boxes" s_law_drawn_boxes ["pot", "many"] f fd := ⟨f, _, fun_mk l c k, PySem.W.mg_of X G a, (fun_mk l c k).binds (ps := ["pot", "many"]) fun _ _ _ _ _ _ us hl => match us, hl with | [_, _], _ => rfl⟩
theorem dm_law_lies {K : PySem.W.Frag} {h : Heap} {mg : Str → Option Value} {f : Addr} (X : K.In h) (G : h.Ns mainGlobals mg) {od an : Option Addr} {sl : Array (Option Value)} {oc kV dc pm cd ct : Value}
    (a : PySem.W.nsIn K mainGlobals "_law_lies" = some (some (.ref f))) (l : K.lookup f = some ⟨oc, od, .func (PySem.W.fnOf "_law_lies" "_law_lies" (defArgs s_law_lies) (defBody s_law_lies) (defScope s_law_lies) .none kV dc pm an cd ct), sl⟩) (c : PySem.W.codeIn K cd "_law_lies" = true) (k : PySem.W.keepIn K (.ref f) = true) :
    ∃ f fd, DefAt K mg "_law_lies" s_law_lies ["box", "point", "is_within"] f fd := ⟨f, _, fun_mk l c k, PySem.W.mg_of X G a, (fun_mk l c k).binds (ps := ["box", "point", "is_within"]) fun _ _ _ _ _ _ us hl => match us, hl with | [_, _, _], _ => rfl⟩
theorem dm_law_in_boxes {K : PySem.W.Frag} {h : Heap} {mg : Str → Option Value} {f : Addr} (X : K.In h) (G : h.Ns mainGlobals mg) {od an : Option Addr} {sl : Array (Option Value)} {oc kV dc pm cd ct : Value}
    (a : PySem.W.nsIn K mainGlobals "_law_in_boxes" = some (some (.ref f))) (l : K.lookup f = some ⟨oc, od, .func (PySem.W.fnOf "_law_in_boxes" "_law_in_boxes" (defArgs s_law_in_boxes) (defBody s_law_in_boxes) (defScope s_law_in_boxes) .none kV dc pm an cd ct), sl⟩) (c : PySem.W.codeIn K cd "_law_in_boxes" = true) (k : PySem.W.keepIn K (.ref f) = true) :
    ∃ f fd, DefAt K mg "_law_in_boxes" s_law_in_boxes ["boxes", "is_within"] f fd := ⟨f, _, fun_mk l c k, PySem.W.mg_of X G a, (fun_mk l c k).binds (ps := ["boxes", "is_within"]) fun _ _ _ _ _ _ us hl => match us, hl with | [_, _], _ => rfl⟩
theorem dm_law_right {K : PySem.W.Frag} {h : Heap} {mg : Str → Option Value} {f : Addr} (X : K.In h) (G : h.Ns mainGlobals mg) {od an : Option Addr} {sl : Array (Option Value)} {oc kV dc pm cd ct : Value}
    (a : PySem.W.nsIn K mainGlobals "_law_right" = some (some (.ref f))) (l : K.lookup f = some ⟨oc, od, .func (PySem.W.fnOf "_law_right" "_law_right" (defArgs s_law_right) (defBody s_law_right) (defScope s_law_right) .none kV dc pm an cd ct), sl⟩) (c : PySem.W.codeIn K cd "_law_right" = true) (k : PySem.W.keepIn K (.ref f) = true) :
    ∃ f fd, DefAt K mg "_law_right" s_law_right ["pot"] f fd := ⟨f, _, fun_mk l c k, PySem.W.mg_of X G a, (fun_mk l c k).binds (ps := ["pot"]) fun _ _ _ _ _ _ us hl => match us, hl with | [_], _ => rfl⟩
theorem dm_law {K : PySem.W.Frag} {h : Heap} {mg : Str → Option Value} {f : Addr} (X : K.In h) (G : h.Ns mainGlobals mg) {od an : Option Addr} {sl : Array (Option Value)} {oc kV dc pm cd ct : Value}
    (a : PySem.W.nsIn K mainGlobals "law" = some (some (.ref f))) (l : K.lookup f = some ⟨oc, od, .func (PySem.W.fnOf "law" "law" (defArgs s_law) (defBody s_law) (defScope s_law) .none kV dc pm an cd ct), sl⟩) (c : PySem.W.codeIn K cd "law" = true) (k : PySem.W.keepIn K (.ref f) = true) :
    ∃ f fd, DefAt K mg "law" s_law ["script"] f fd := ⟨f, _, fun_mk l c k, PySem.W.mg_of X G a, (fun_mk l c k).binds (ps := ["script"]) fun _ _ _ _ _ _ us hl => match us, hl with | [_], _ => rfl⟩
theorem all_mk {P : Program} {w : World} {K : PySem.W.Frag} {mg : Str → Option Value} {fa : Addr} {{C_Lot : Addr}} (T : Txt K mg C_Lot) (hfa : mg "law" = some (.ref fa)) :
    ∃ fd : FuncData, (∀ (s : Shared) (u : Value), BindsTo s fd ⟨[u], []⟩ [("script", u)]) ∧ ∀ base : Heap, K.In base → base.Ns mainGlobals mg → FnG P w K mg base CX0 14 fa fd ["script"] (letI : TabsC := ⟨[]⟩; spD K 1 spLawD) := by
  letI : TabsC := ⟨[]⟩
  obtain ⟨f, fd, D⟩ := T.d_law
  have e := hfa.symm.trans D.g
  cases e
  refine ⟨fd, ?_, fun base _ _ => ok_law D T⟩
  obtain ⟨oc, od, kV, doc, pm, an, cdv, ct, osl, rfl, _, _⟩ := D.F.ex
  exact fun s v => .of_eq rfl
end K9
open PySem PySem.W PyProof.Rows
set_option maxRecDepth 100000 in
set_option maxHeartbeats 0 in
theorem PySem.Challenge.cw_allitreaches_k09_whole_lots_of_boxes_holds : PySem.Challenge.rw_allitreaches_k09_whole_lots_of_boxes.Holds := by
  w_on; o_law; k_head; (case hw => w_witness2)
  k_fill
  letI : DW.TabsC := ⟨[]⟩
  refine DW.walkG (l := PySem.Challenge.rw_allitreaches_k09_whole_lots_of_boxes) (n := 63) (k := 14) (x := "script") (sp := fun w => (letI : DW.TabsC := ⟨[]⟩; DW.spD _ 1 DW.spLawD)) rfl (by decide) rfl ⟨⟨rfl, by decide, by decide⟩, rfl⟩ (fun w h Y => PySem.W.kIn_of Y) ?F (fun w H a ns hl hO hS => (letI : DW.TabsC := ⟨[]⟩; DW.lawSat rfl hO hl hS))
  case F =>
    intro w mg fa h KX G hmg
    refine' K9.all_mk ?T hmg
    case T =>
      constructor
      case mgLot => (refine' PySem.W.mg_of KX G ?z; (case z => k_is))
      case d_is_integer => (refine' K9.dm_is_integer KX G ?a ?l ?c ?k; (case a => k_is); (case l => k_is); (case c => k_is); (case k => k_is))
      case d_is_fraction => (refine' K9.dm_is_fraction KX G ?a ?l ?c ?k; (case a => k_is); (case l => k_is); (case c => k_is); (case k => k_is))
      case d_is_point => (refine' K9.dm_is_point KX G ?a ?l ?c ?k; (case a => k_is); (case l => k_is); (case c => k_is); (case k => k_is))
      case d_check_point => (refine' K9.dm_check_point KX G ?a ?l ?c ?k; (case a => k_is); (case l => k_is); (case c => k_is); (case k => k_is))
      case d_axes => (refine' K9.dm_axes KX G ?a ?l ?c ?k; (case a => k_is); (case l => k_is); (case c => k_is); (case k => k_is))
      case d_is_box => (refine' K9.dm_is_box KX G ?a ?l ?c ?k; (case a => k_is); (case l => k_is); (case c => k_is); (case k => k_is))
      case d_is_cell => (refine' K9.dm_is_cell KX G ?a ?l ?c ?k; (case a => k_is); (case l => k_is); (case c => k_is); (case k => k_is))
      case d_is_cube => (refine' K9.dm_is_cube KX G ?a ?l ?c ?k; (case a => k_is); (case l => k_is); (case c => k_is); (case k => k_is))
      case d_index_of => (refine' K9.dm_index_of KX G ?a ?l ?c ?k; (case a => k_is); (case l => k_is); (case c => k_is); (case k => k_is))
      case d_cell_of => (refine' K9.dm_cell_of KX G ?a ?l ?c ?k; (case a => k_is); (case l => k_is); (case c => k_is); (case k => k_is))
      case d_beside => (refine' K9.dm_beside KX G ?a ?l ?c ?k; (case a => k_is); (case l => k_is); (case c => k_is); (case k => k_is))
      case d_rim_of => (refine' K9.dm_rim_of KX G ?a ?l ?c ?k; (case a => k_is); (case l => k_is); (case c => k_is); (case k => k_is))
      case d_around_of => (refine' K9.dm_around_of KX G ?a ?l ?c ?k; (case a => k_is); (case l => k_is); (case c => k_is); (case k => k_is))
      case d_are_boxes => (refine' K9.dm_are_boxes KX G ?a ?l ?c ?k; (case a => k_is); (case l => k_is); (case c => k_is); (case k => k_is))
      case d_in_bounds => (refine' K9.dm_in_bounds KX G ?a ?l ?c ?k; (case a => k_is); (case l => k_is); (case c => k_is); (case k => k_is))
      case d_are_cells => (refine' K9.dm_are_cells KX G ?a ?l ?c ?k; (case a => k_is); (case l => k_is); (case c => k_is); (case k => k_is))
      case d_Lot___init => (refine' K9.dm_Lot___init KX G ?a ?i ?l ?c ?k; (case a => k_is); (case i => k_is); (case l => k_is); (case c => k_is); (case k => k_is))
      case d_Lot___eq => (refine' K9.dm_Lot___eq KX G ?a ?i ?l ?c ?k; (case a => k_is); (case i => k_is); (case l => k_is); (case c => k_is); (case k => k_is))
      case d_Lot___len => (refine' K9.dm_Lot___len KX G ?a ?i ?l ?c ?k; (case a => k_is); (case i => k_is); (case l => k_is); (case c => k_is); (case k => k_is))
      case d_Lot_is_closed => (refine' K9.dm_Lot_is_closed ?a ?g ?t ?r ?l ?c ?k; (case a => k_is); (case g => k_is); (case t => k_is); (case r => k_is); (case l => k_is); (case c => k_is); (case k => k_is))
      case d_Lot_is_open => (refine' K9.dm_Lot_is_open ?a ?g ?t ?r ?l ?c ?k; (case a => k_is); (case g => k_is); (case t => k_is); (case r => k_is); (case l => k_is); (case c => k_is); (case k => k_is))
      case d_Lot_has => (refine' K9.dm_Lot_has KX G ?a ?i ?l ?c ?k; (case a => k_is); (case i => k_is); (case l => k_is); (case c => k_is); (case k => k_is))
      case d_Lot_is_in => (refine' K9.dm_Lot_is_in KX G ?a ?i ?l ?c ?k; (case a => k_is); (case i => k_is); (case l => k_is); (case c => k_is); (case k => k_is))
      case d_check_lot => (refine' K9.dm_check_lot KX G ?a ?l ?c ?k; (case a => k_is); (case l => k_is); (case c => k_is); (case k => k_is))
      case d_check_boxes => (refine' K9.dm_check_boxes KX G ?a ?l ?c ?k; (case a => k_is); (case l => k_is); (case c => k_is); (case k => k_is))
      case d_cells_of_box => (refine' K9.dm_cells_of_box KX G ?a ?l ?c ?k; (case a => k_is); (case l => k_is); (case c => k_is); (case k => k_is))
      case d_lot_of_boxes => (refine' K9.dm_lot_of_boxes KX G ?a ?l ?c ?k; (case a => k_is); (case l => k_is); (case c => k_is); (case k => k_is))
      case d_within_boxes => (refine' K9.dm_within_boxes KX G ?a ?l ?c ?k; (case a => k_is); (case l => k_is); (case c => k_is); (case k => k_is))
      case d_law_pot => (refine' K9.dm_law_pot KX G ?a ?l ?c ?k; (case a => k_is); (case l => k_is); (case c => k_is); (case k => k_is))
      case d_law_take => (refine' K9.dm_law_take KX G ?a ?l ?c ?k; (case a => k_is); (case l => k_is); (case c => k_is); (case k => k_is))
      case d_law_of => (refine' K9.dm_law_of KX G ?a ?l ?c ?k; (case a => k_is); (case l => k_is); (case c => k_is); (case k => k_is))
      case d_law_cells => (refine' K9.dm_law_cells KX G ?a ?l ?c ?k; (case a => k_is); (case l => k_is); (case c => k_is); (case k => k_is))
      case d_law_drawn_box => (refine' K9.dm_law_drawn_box KX G ?a ?l ?c ?k; (case a => k_is); (case l => k_is); (case c => k_is); (case k => k_is))
      case d_law_common => (refine' K9.dm_law_common KX G ?a ?l ?c ?k; (case a => k_is); (case l => k_is); (case c => k_is); (case k => k_is))
      case d_law_fraction => (refine' K9.dm_law_fraction KX G ?a ?l ?c ?k; (case a => k_is); (case l => k_is); (case c => k_is); (case k => k_is))
      case d_law_drawn_number => (refine' K9.dm_law_drawn_number KX G ?a ?l ?c ?k; (case a => k_is); (case l => k_is); (case c => k_is); (case k => k_is))
      case d_law_drawn_point => (refine' K9.dm_law_drawn_point KX G ?a ?l ?c ?k; (case a => k_is); (case l => k_is); (case c => k_is); (case k => k_is))
      case d_law_one_each => (refine' K9.dm_law_one_each KX G ?a ?l ?c ?k; (case a => k_is); (case l => k_is); (case c => k_is); (case k => k_is))
      case d_law_product_cells => (refine' K9.dm_law_product_cells KX G ?a ?l ?c ?k; (case a => k_is); (case l => k_is); (case c => k_is); (case k => k_is))
      case d_law_drawn_boxes => (refine' K9.dm_law_drawn_boxes KX G ?a ?l ?c ?k; (case a => k_is); (case l => k_is); (case c => k_is); (case k => k_is))
      case d_law_lies => (refine' K9.dm_law_lies KX G ?a ?l ?c ?k; (case a => k_is); (case l => k_is); (case c => k_is); (case k => k_is))
      case d_law_in_boxes => (refine' K9.dm_law_in_boxes KX G ?a ?l ?c ?k; (case a => k_is); (case l => k_is); (case c => k_is); (case k => k_is))
      case d_law_right => (refine' K9.dm_law_right KX G ?a ?l ?c ?k; (case a => k_is); (case l => k_is); (case c => k_is); (case k => k_is))
      case d_law => (refine' K9.dm_law KX G ?a ?l ?c ?k; (case a => k_is); (case l => k_is); (case c => k_is); (case k => k_is))
      case z_len => (refine' PySem.W.mg_none_of KX G ?z; (case z => k_is))
      case z_all => (refine' PySem.W.mg_none_of KX G ?z; (case z => k_is))
      case z_sum => (refine' PySem.W.mg_none_of KX G ?z; (case z => k_is))
      case z_abs => (refine' PySem.W.mg_none_of KX G ?z; (case z => k_is))
      case z_int => (refine' PySem.W.mg_none_of KX G ?z; (case z => k_is))
      case z_str => (refine' PySem.W.mg_none_of KX G ?z; (case z => k_is))
      case z_tuple => (refine' PySem.W.mg_none_of KX G ?z; (case z => k_is))
      case z_repr => (refine' PySem.W.mg_none_of KX G ?z; (case z => k_is))
      case z_isinstance => (refine' PySem.W.mg_none_of KX G ?z; (case z => k_is))
      case z_range => (refine' PySem.W.mg_none_of KX G ?z; (case z => k_is))
      case z_list => (refine' PySem.W.mg_none_of KX G ?z; (case z => k_is))
      case z_zip => (refine' PySem.W.mg_none_of KX G ?z; (case z => k_is))
      case z_min => (refine' PySem.W.mg_none_of KX G ?z; (case z => k_is))
      case z_max => (refine' PySem.W.mg_none_of KX G ?z; (case z => k_is))
      case z_bool => (refine' PySem.W.mg_none_of KX G ?z; (case z => k_is))
      case z_sorted => (refine' PySem.W.mg_none_of KX G ?z; (case z => k_is))
      case z_dict => (refine' PySem.W.mg_none_of KX G ?z; (case z => k_is))
      case z_any => (refine' PySem.W.mg_none_of KX G ?z; (case z => k_is))
      case cl => (refine' ⟨?q1, ?q2, ?q3, ?q4⟩; (case q1 => k_is); (case q2 => k_is); (case q3 => k_is); (case q4 => k_is))
      case ci => (refine' ⟨⟨?q1, ?q2, ?q3, ?q4⟩, ?q5, ?q6, ?q7, ?q8⟩; (case q1 => k_is); (case q2 => k_is); (case q3 => k_is); (case q4 => k_is); (case q5 => k_is); (case q6 => k_is); (case q7 => k_is); (case q8 => k_is))
      case kn => (refine' DW.kit_mk ?q1 ?q2; (case q1 => k_is); (case q2 => k_is))
      case mk_Lot => (refine' ⟨?q1, ?q2⟩; (case q1 => k_is); (case q2 => k_is))
      case n_own => (refine' DW.noattr_mk ?z; (case z => k_is))
      case n_cells => (refine' DW.noattr_mk ?z; (case z => k_is))
      case n_cubes => (refine' DW.noattr_mk ?z; (case z => k_is))
      case nft => exact DW.nft_mk
      case g_gcd => (refine' PySem.W.mg_of KX G ?z; (case z => k_is))
