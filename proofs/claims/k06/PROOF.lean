import PyProof.Rows.All
import Wide.All
import OpenK.AllK
import Wide.FinOn
import PySem.Challenge.RW_everlater_k06_rows_turned_renamed_and_pa
import HandS.ForMost
import HandS.TupAny
import HandS.Deep
import HandS.Wide
import HandS.SortRule
import HandS.Conv
import HandS.Zip
import HandS.Lambda
import HandS.NestedK
import HandS.EndTab
import HandS.OwnEq
import HandS.Style
import HandS.RaiseMore
import HandS.SortInts
import HandS.IsInst
import HandS.More
import HandS.SetFor
import HandS.Dict
import HandS.WideBits
import HandS.DictComp
import HandS.Small
import KE.KDictCopyH
import HandS.TupMul
import PyProof.TupleOfSeq
import HandS.TupLen
import KE.KDictPairs
import HandS.DictTup
import KE.KDictKeyed
import PyProof.EqKinds
import PyProof.Rows.IntBool
import PyProof.TwoTypesSub
import PyProof.NeData
import KE.SortKeyHeap
import KE.KMinKey
import HandS.SortKw
import HandS.Strs
import KE.KNestM
set_option Elab.async false
set_option linter.all false
set_option maxRecDepth 100000
set_option maxHeartbeats 4000000
set_option exponentiation.threshold 3000
namespace DL
open PySem PySem.Spec PyProof.Rows L2

/-! data without a heap: what a slot holds -/
/-- a table: fl tells that its keys are flat (each told as a list of one), else they are tuples -/
structure Tab where
  fl : Bool
  kvs : List (List Key × PyData)
inductive C where
  | l (xs : List PyData)
  | t (kvs : Tab)
/-- what stands in a tuple that has tables in it -/
inductive M where
  | d (x : PyData)
  | t (kvs : Tab)
inductive S where
  | d (x : PyData)
  | t (kvs : Tab)
  | z (ns : List Int)
  | p (xs : List M)
  | o (c : C)
abbrev Ds := List (Option S)

def hid (T : List Addr) (ρ : List (Option Addr)) (H : Hp) : Hp := fun b => if b ∈ T ∨ some b ∈ ρ then none else H b
theorem hid_some {T : List Addr} {ρ : List (Option Addr)} {H : Hp} {b : Addr} {o : HO} : hid T ρ H b = some o ↔ H b = some o ∧ b ∉ T ∧ some b ∉ ρ := by
  unfold hid
  constructor
  · intro h
    split at h
    · cases h
    · rename_i hn
      exact ⟨h, fun z => hn (.inl z), fun z => hn (.inr z)⟩
  · intro ⟨h, h1, h2⟩
    rw [if_neg (fun z => z.elim h1 h2)]
    exact h
theorem hid_same {T : List Addr} {ρ : List (Option Addr)} {H : Hp} : Same (hid T ρ H) H := fun _ _ h => (hid_some.mp h).1
theorem hid_mono {T : List Addr} {ρ : List (Option Addr)} {H H' : Hp} (h : Same H H') : Same (hid T ρ H) (hid T ρ H') := fun _ _ e =>
  let ⟨a, b, c⟩ := hid_some.mp e
  hid_some.mpr ⟨h _ _ a, b, c⟩
theorem hid_less {T T' : List Addr} {ρ ρ' : List (Option Addr)} {H : Hp} (h : ∀ b, (b ∈ T' ∨ some b ∈ ρ') → (b ∈ T ∨ some b ∈ ρ)) : Same (hid T ρ H) (hid T' ρ' H) := fun b _ e => by
  obtain ⟨a, h1, h2⟩ := hid_some.mp e
  refine hid_some.mpr ⟨a, fun z => ?_, fun z => ?_⟩
  · exact (h b (.inl z)).elim h1 h2
  · exact (h b (.inr z)).elim h1 h2

theorem seqT {K : PySem.W.Frag} {H H' : Hp} {a : Addr} {xs : List V} (e : Same H H') (h : SqT K H a xs) : SqT K H' a xs := by
  rcases h with (h | ⟨o, h⟩) | h
  · exact .inl (.inl (e _ _ h))
  · exact .inl (.inr ⟨o, e _ _ h⟩)
  · exact .inr h
/-! data that is tracked as it is -/
mutual
inductive Dq (K : PySem.W.Frag) (H : Hp) : V → PyData → Prop
  | non : Dq K H .non .none
  | bl (b : Bool) : Dq K H (.bl b) (.bool b)
  | int (i : Int) : Dq K H (.int i) (.int i)
  | str (x : Str) : Dq K H (.str x) (.str x)
  | lst {a : Addr} {xs : List V} {ds : List PyData} : H a = some (.lst xs) → DqAll K H xs ds → Dq K H (.ref a) (.list ds)
  | tup {a : Addr} {xs : List V} {ds : List PyData} : H a = some (.tup xs) → DqAll K H xs ds → Dq K H (.ref a) (.tuple ds)
  | dctE {a : Addr} : H a = some (.dK []) → Dq K H (.ref a) (.dict [])
  | dct1 {a : Addr} {k : Str} {v : V} {x : PyData} : H a = some (.dK [(.inr k, v)]) → Dq K H v x → Dq K H (.ref a) (.dict [(.str k, x)])
inductive DqAll (K : PySem.W.Frag) (H : Hp) : List V → List PyData → Prop
  | nil : DqAll K H [] []
  | cons {v : V} {vs : List V} {d : PyData} {ds : List PyData} : Dq K H v d → DqAll K H vs ds → DqAll K H (v :: vs) (d :: ds)
end
mutual
theorem dq_dp {K : PySem.W.Frag} {H : Hp} : ∀ {v : V} (d : PyData), d.canLay0 = true → Dq K H v d → L2.Dp K H v d
  | _, .none, _, h => by cases h; exact .non
  | _, .bool b, _, h => by cases h; exact .bl b
  | _, .int b, _, h => by cases h; exact .int b
  | _, .str b, _, h => by cases h; exact .str b
  | _, .list ds, l, h => by
    cases h with
    | lst hs ha => exact .lst (SqL.of hs) (dq_dpA ds l ha)
  | _, .tuple ds, l, h => by
    cases h with
    | tup hs ha => exact .tup (SqT.of hs) (dq_dpA ds l ha)
  | _, .dict _, l, h => by cases l
theorem dq_dpA {K : PySem.W.Frag} {H : Hp} : ∀ {vs : List V} (ds : List PyData), PyData.canLayAll0 ds = true → DqAll K H vs ds → L2.DpAll K H vs ds
  | _, [], _, h => by cases h; exact .nil
  | _, d :: ds, l, h => by
    cases h with
    | cons h1 h2 => exact .cons (dq_dp d (Bool.and_eq_true_iff.mp l).1 h1) (dq_dpA ds (Bool.and_eq_true_iff.mp l).2 h2)
end
mutual
theorem dpM {K : PySem.W.Frag} {H H' : Hp} (e : Same H H') : ∀ {v : V} (d : PyData), Dq K H v d → Dq K H' v d
  | _, .none, h => by cases h; exact .non
  | _, .bool b, h => by cases h; exact .bl b
  | _, .int b, h => by cases h; exact .int b
  | _, .str b, h => by cases h; exact .str b
  | _, .list ds, h => by
    cases h with
    | lst hs ha => exact .lst (e _ _ hs) (dpAllM e ds ha)
  | _, .tuple ds, h => by
    cases h with
    | tup hs ha => exact .tup (e _ _ hs) (dpAllM e ds ha)
  | _, .dict [], h => by
    cases h with
    | dctE hs => exact .dctE (e _ _ hs)
  | _, .dict [(k, x)], h => by
    cases h with
    | dct1 hs ha => exact .dct1 (e _ _ hs) (dpM e x ha)
  | _, .dict (_ :: _ :: _), h => by cases h
theorem dpAllM {K : PySem.W.Frag} {H H' : Hp} (e : Same H H') : ∀ {vs : List V} (ds : List PyData), DqAll K H vs ds → DqAll K H' vs ds
  | _, [], h => by cases h; exact .nil
  | _, d :: ds, h => by
    cases h with
    | cons h1 h2 => exact .cons (dpM e d h1) (dpAllM e ds h2)
end
theorem dpAll_len {K : PySem.W.Frag} {H : Hp} : ∀ {vs : List V} {ds : List PyData}, DqAll K H vs ds → vs.length = ds.length
  | _, [], h => by cases h; rfl
  | _, d :: ds, h => by
    cases h with
    | cons h1 h2 => simp [dpAll_len h2]
theorem dpAll_app {K : PySem.W.Frag} {H : Hp} : ∀ {vs ws : List V} {ds es : List PyData}, DqAll K H vs ds → DqAll K H ws es → DqAll K H (vs ++ ws) (ds ++ es)
  | _, _, [], _, h, h' => by cases h; exact h'
  | _, _, d :: ds, _, h, h' => by
    cases h with
    | cons h1 h2 => exact .cons h1 (dpAll_app h2 h')
theorem dpAll_get {K : PySem.W.Frag} {H : Hp} : ∀ {vs : List V} {ds : List PyData} {i : Nat} {d : PyData}, DqAll K H vs ds → ds[i]? = some d → ∃ v, vs[i]? = some v ∧ Dq K H v d
  | _, [], i, _, h, e => by simp at e
  | _, x :: ds, 0, d, h, e => by
    cases h with
    | cons h1 h2 => simp at e; subst e; exact ⟨_, rfl, h1⟩
  | _, x :: ds, i + 1, d, h, e => by
    cases h with
    | cons h1 h2 =>
      obtain ⟨v, a, b⟩ := dpAll_get (i := i) h2 (by simpa using e)
      exact ⟨v, by simpa using a, b⟩
theorem dpAll_getV {K : PySem.W.Frag} {H : Hp} {vs : List V} {ds : List PyData} {i : Nat} {v : V} (h : DqAll K H vs ds) (e : vs[i]? = some v) : ∃ d, ds[i]? = some d ∧ Dq K H v d := by
  have hl : i < vs.length := (List.getElem?_eq_some_iff.mp e).1
  rw [dpAll_len h] at hl
  obtain ⟨w, a, b⟩ := dpAll_get (i := i) h (List.getElem?_eq_getElem hl)
  rw [e] at a
  cases a
  exact ⟨_, List.getElem?_eq_getElem hl, b⟩
theorem dpAll_take {K : PySem.W.Frag} {H : Hp} : ∀ {vs : List V} {ds : List PyData} (n : Nat), DqAll K H vs ds → DqAll K H (vs.take n) (ds.take n)
  | _, _, 0, _ => .nil
  | _, [], n + 1, h => by cases h; exact .nil
  | _, d :: ds, n + 1, h => by
    cases h with
    | cons h1 h2 => exact .cons h1 (dpAll_take n h2)
theorem dpAll_drop {K : PySem.W.Frag} {H : Hp} : ∀ {vs : List V} {ds : List PyData} (n : Nat), DqAll K H vs ds → DqAll K H (vs.drop n) (ds.drop n)
  | _, _, 0, h => h
  | _, [], n + 1, h => by cases h; exact .nil
  | _, d :: ds, n + 1, h => by
    cases h with
    | cons h1 h2 => exact dpAll_drop n h2
theorem dpAll_rev {K : PySem.W.Frag} {H : Hp} : ∀ {vs : List V} {ds : List PyData}, DqAll K H vs ds → DqAll K H vs.reverse ds.reverse
  | _, [], h => by cases h; exact .nil
  | _, d :: ds, h => by
    cases h with
    | cons h1 h2 =>
      rw [List.reverse_cons, List.reverse_cons]
      exact dpAll_app (dpAll_rev h2) (.cons h1 .nil)
theorem dpAll_set {K : PySem.W.Frag} {H : Hp} {v : V} {d : PyData} (hv : Dq K H v d) : ∀ {vs : List V} {ds : List PyData} (n : Nat), DqAll K H vs ds → DqAll K H (vs.set n v) (ds.set n d)
  | _, [], n, h => by cases h; exact .nil
  | _, x :: ds, 0, h => by
    cases h with
    | cons h1 h2 => exact .cons hv h2
  | _, x :: ds, n + 1, h => by
    cases h with
    | cons h1 h2 => exact .cons h1 (dpAll_set hv n h2)
theorem dpAll_rep {K : PySem.W.Frag} {H : Hp} {vs : List V} {ds : List PyData} (h : DqAll K H vs ds) : ∀ n : Nat, DqAll K H (List.replicate n vs).flatten (List.replicate n ds).flatten
  | 0 => .nil
  | n + 1 => by
    rw [List.replicate_succ, List.replicate_succ, List.flatten_cons, List.flatten_cons]
    exact dpAll_app h (dpAll_rep h n)

def TV (K : PySem.W.Frag) (G : Hp) (ws : List (List Key × V)) (kvs : List (List Key × PyData)) : Prop := Paired (fun (p : List Key × V) (q : List Key × PyData) => p.1 = q.1 ∧ Dq K G p.2 q.2) ws kvs
theorem tvM {K : PySem.W.Frag} {H H' : Hp} (e : Same H H') {ws : List (List Key × V)} {kvs : List (List Key × PyData)} (h : TV K H ws kvs) : TV K H' ws kvs := Paired.mapP h fun _ q z => ⟨z.1, dpM e _ z.2⟩
def TbO (K : PySem.W.Frag) (G : Hp) (o : HO) (t : Tab) : Prop := (t.fl = false ∧ ∃ ws, o = .dT ws ∧ TV K G ws t.kvs) ∨ (t.fl = true ∧ ∃ ws : List (Key × V), o = .dK ws ∧ TV K G (ws.map fun p => ([p.1], p.2)) t.kvs)
theorem tbM {K : PySem.W.Frag} {H H' : Hp} (e : Same H H') {o : HO} {t : Tab} (h : TbO K H o t) : TbO K H' o t := h.elim (fun ⟨f, ws, h1, h2⟩ => .inl ⟨f, ws, h1, tvM e h2⟩) fun ⟨f, ws, h1, h2⟩ => .inr ⟨f, ws, h1, tvM e h2⟩
def CO (K : PySem.W.Frag) (G : Hp) (o : HO) : C → Prop
  | .l xs => ∃ vs, o = .lst vs ∧ DqAll K G vs xs
  | .t kvs => TbO K G o kvs
theorem coM {K : PySem.W.Frag} {H H' : Hp} (e : Same H H') {o : HO} : ∀ {c : C}, CO K H o c → CO K H' o c
  | .l _, ⟨vs, h1, h2⟩ => ⟨vs, h1, dpAllM e _ h2⟩
  | .t _, h => tbM e h
def MV (K : PySem.W.Frag) (G : Hp) (v : V) : M → Prop
  | .d x => Dq K G v x
  | .t kvs => ∃ a o, v = .ref a ∧ G a = some o ∧ TbO K G o kvs
theorem mvM {K : PySem.W.Frag} {H H' : Hp} (e : Same H H') {v : V} : ∀ {s : M}, MV K H v s → MV K H' v s
  | .d x, h => dpM e _ h
  | .t kvs, ⟨a, o, h1, h2, h3⟩ => ⟨a, o, h1, e _ _ h2, tbM e h3⟩
def SV (K : PySem.W.Frag) (G : Hp) (v : V) : S → Prop
  | .d x => Dq K G v x
  | .t kvs => ∃ a o, v = .ref a ∧ G a = some o ∧ TbO K G o kvs
  | .z ns => ∃ a, v = .ref a ∧ SqL K G a (ns.map V.int)
  | .p xs => ∃ a, v = .ref a ∧ ∃ vs, G a = some (.tup vs) ∧ Paired (MV K G) vs xs
  | .o _ => False
theorem svM {K : PySem.W.Frag} {H H' : Hp} (e : Same H H') {v : V} : ∀ {s : S}, SV K H v s → SV K H' v s
  | .d x, h => dpM e _ h
  | .t kvs, ⟨a, o, h1, h2, h3⟩ => ⟨a, o, h1, e _ _ h2, tbM e h3⟩
  | .z ns, ⟨a, h1, h2⟩ => ⟨a, h1, e.seq h2⟩
  | .p xs, ⟨a, h1, vs, h2, h3⟩ => ⟨a, h1, vs, e _ _ h2, Paired.mapP h3 fun _ q z => mvM e z⟩
/-- a value as it may be looked at: data, or an owned object as it stands -/
def At (K : PySem.W.Frag) (T : List Addr) (ρ : List (Option Addr)) (H : Hp) (v : V) : S → Prop
  | .o c => ∃ a o, v = .ref a ∧ H a = some o ∧ CO K (hid T ρ H) o c
  | s => SV K (hid T ρ H) v s
def frz : S → S
  | .o (.l xs) => .d (.list xs)
  | .o (.t kvs) => .t kvs
  | s => s

/-- no tuple: what may change -/
def NT : HO → Prop
  | .tup _ => False
  | .ext _ => False
  | _ => True
/-- the tables of code objects, each with the name that its code objects bear -/
class TB where
  tb : List (Addr × Str)
instance (priority := low) defTB : TB := ⟨[]⟩
variable [TB]
/-- what stands at an address that nobody writes: the same, or a table that has grown -/
def Kp (x y : Option HO) : Prop := y = x ∨ (∃ ps, x = some (.tbl ps)) ∧ ∃ qs, y = some (.tbl qs)
omit [TB] in
theorem Kp.refl {x : Option HO} : Kp x x := .inl rfl
omit [TB] in
theorem Kp.trans {x y z : Option HO} (a : Kp x y) (b : Kp y z) : Kp x z := by
  rcases a with rfl | ⟨⟨ps, rfl⟩, qs, rfl⟩
  · exact b
  · rcases b with rfl | ⟨_, rs, rfl⟩
    · exact .inr ⟨⟨ps, rfl⟩, qs, rfl⟩
    · exact .inr ⟨⟨ps, rfl⟩, rs, rfl⟩
omit [TB] in
theorem Kp.eq {x y : Option HO} {o : HO} (a : Kp x y) (h : x = some o) (n : ∀ ps, o ≠ .tbl ps) : y = some o := by
  rcases a with rfl | ⟨⟨ps, e⟩, _⟩
  · exact h
  · rw [h] at e
    exact absurd (Option.some.inj e) (n ps)
omit [TB] in
theorem Kp.nt {x y : Option HO} (a : Kp x y) (h : ∃ o, x = some o ∧ NT o) : ∃ o, y = some o ∧ NT o := by
  rcases a with rfl | ⟨_, qs, e⟩
  · exact h
  · exact ⟨_, e, trivial⟩
theorem tb_nt {K : PySem.W.Frag} {G : Hp} {o : HO} {t : Tab} (h : TbO K G o t) : NT o := h.elim (fun ⟨_, _, e, _⟩ => by rw [e]; trivial) fun ⟨_, _, e, _⟩ => by rw [e]; trivial
theorem co_nt {K : PySem.W.Frag} {G : Hp} {o : HO} : ∀ {c : C}, CO K G o c → NT o
  | .l _, ⟨_, e, _⟩ => by rw [e]; trivial
  | .t _, h => tb_nt h

theorem co_nb {K : PySem.W.Frag} {G : Hp} {o : HO} {c : C} (h : CO K G o c) : (∀ ps, o ≠ .tbl ps) ∧ NT o := by
  refine ⟨fun ps e => ?_, co_nt h⟩
  subst e
  cases c with
  | l xs =>
    obtain ⟨_, z, _⟩ := h
    cases z
  | t kvs =>
    rcases h with ⟨_, _, z, _⟩ | ⟨_, _, z, _⟩
    · cases z
    · cases z
theorem tb_nb {K : PySem.W.Frag} {G : Hp} {o : HO} {t : Tab} (h : TbO K G o t) : (∀ ps, o ≠ .tbl ps) ∧ NT o := co_nb (c := .t t) h
structure Sim (K : PySem.W.Frag) (T : List Addr) (ρ : List (Option Addr)) (δ : Ds) (σ : L2.St) (H : Hp) : Prop where
  len : ρ.length = δ.length
  slen : σ.length = δ.length
  slot : ∀ (i : Nat) (s : S), δ[i]? = some (some s) → ∃ v, σ[i]? = some (some v) ∧ At K T ρ H v s
  own : ∀ (i : Nat) (c : C), δ[i]? = some (some (.o c)) → ∃ a, ρ[i]? = some (some a) ∧ σ[i]? = some (some (.ref a))
  own' : ∀ (i : Nat) (a : Addr), ρ[i]? = some (some a) → ∃ c, δ[i]? = some (some (.o c))
  inj : ∀ (i j : Nat) (a : Addr), ρ[i]? = some (some a) → ρ[j]? = some (some a) → i = j
  nt : ∀ (i : Nat) (a : Addr), ρ[i]? = some (some a) → a ∉ T
  tmp : ∀ a, a ∈ T → ∃ o, H a = some o ∧ NT o
  tabT : ∀ p ∈ TB.tb, p.1 ∈ T
  tabs : LamX.Tabs TB.tb H
structure Ext (T : List Addr) (ρ : List (Option Addr)) (H : Hp) (ρ' : List (Option Addr)) (H' : Hp) : Prop where
  same : Same (hid T ρ H) (hid T ρ' H')
  tmp : ∀ a, a ∈ T → Kp (H a) (H' a)
  tabs : LamX.Tabs TB.tb H → LamX.Tabs TB.tb H'
theorem Ext.refl {T : List Addr} {ρ : List (Option Addr)} {H : Hp} : Ext T ρ H ρ H := ⟨Same.refl _, fun _ _ => .refl, id⟩
theorem Ext.trans {T : List Addr} {ρ ρ1 ρ2 : List (Option Addr)} {H H1 H2 : Hp} (a : Ext T ρ H ρ1 H1) (b : Ext T ρ1 H1 ρ2 H2) : Ext T ρ H ρ2 H2 := ⟨a.same.trans b.same, fun c h => (a.tmp c h).trans (b.tmp c h), fun h => b.tabs (a.tabs h)⟩
structure Trk (T : List Addr) (ρ : List (Option Addr)) (H : Hp) : Prop where
  tmp : ∀ a, a ∈ T → ∃ o, H a = some o ∧ NT o
  own : ∀ a, some a ∈ ρ → ∃ o, H a = some o ∧ NT o
  tabT : ∀ p ∈ TB.tb, p.1 ∈ T
section
variable {K : PySem.W.Frag} {T : List Addr} {ρ ρ1 ρ' : List (Option Addr)} {δ δ' : Ds} {σ σ' : L2.St} {H H1 H' : Hp}
theorem mem_ix {α : Type} {l : List α} {x : α} (h : x ∈ l) : ∃ i : Nat, l[i]? = some x := List.mem_iff_getElem?.mp h
theorem ix_mem {α : Type} {l : List α} {x : α} {i : Nat} (h : l[i]? = some x) : x ∈ l := List.mem_iff_getElem?.mpr ⟨i, h⟩
theorem Sim.trk (h : Sim K T ρ δ σ H) : Trk T ρ H := ⟨h.tmp, fun a ha => by
  obtain ⟨i, hi⟩ := mem_ix ha
  obtain ⟨c, hc⟩ := h.own' i a hi
  obtain ⟨v, e1, e2⟩ := h.slot i _ hc
  obtain ⟨b, eb1, eb2⟩ := h.own i c hc
  rw [hi] at eb1
  cases eb1
  rw [eb2] at e1
  cases e1
  obtain ⟨b, o, z, hb, hc⟩ := e2
  cases z
  exact ⟨o, hb, co_nt hc⟩, h.tabT⟩
theorem Trk.extT (k : Trk T ρ H) (e : Same H H') : Ext T ρ H ρ H' := ⟨hid_mono e, fun a ha => by
  obtain ⟨o, ho, _⟩ := k.tmp a ha
  exact .inl (by rw [e a o ho, ho]), fun h => h.ext e⟩
/-- where the tables stand still -/
theorem Ext.of (k : Trk T ρ H) (e : Same (hid T ρ H) (hid T ρ' H')) (t : ∀ a, a ∈ T → H' a = H a) : Ext T ρ H ρ' H' := ⟨e, fun a ha => .inl (t a ha), fun h p hp => by
  obtain ⟨ps, h1, h2, h3⟩ := h p hp
  refine ⟨ps, (t _ (k.tabT p hp)).trans h1, h2, fun pos cv hc => ?_⟩
  obtain ⟨c, e1, e2⟩ := h3 pos cv hc
  refine ⟨c, e1, (hid_some.mp (e c _ (hid_some.mpr ⟨e2, fun z => ?_, fun z => ?_⟩))).1⟩
  · obtain ⟨o, ho, hn⟩ := k.tmp c z
    rw [e2] at ho
    cases ho
    exact hn
  · obtain ⟨o, ho, hn⟩ := k.own c z
    rw [e2] at ho
    cases ho
    exact hn⟩
theorem Ext.at (x : Ext T ρ H ρ' H') {a : Addr} {o : HO} (ha : a ∈ T) (h : H a = some o) (n : ∀ ps, o ≠ .tbl ps := by intro _ z; cases z) : H' a = some o := (x.tmp a ha).eq h n
omit [TB] in
theorem nb_of {H : Hp} {D : Addr} {o : HO} (h : H D = some o) (n1 : ∀ ps, o ≠ .tbl ps := by intro _ z; cases z) (n2 : NT o := by trivial) : ∀ x, H D = some x → (∀ ps, x ≠ .tbl ps) ∧ NT x := fun x e => by
  rw [h] at e
  cases e
  exact ⟨n1, n2⟩
/-- a table elsewhere than where something else is written -/
theorem tabs_upd {T : List (Addr × Str)} {H : Hp} {a : Addr} {o : HO} (h : LamX.Tabs T H) (n : ∀ x, H a = some x → (∀ ps, x ≠ .tbl ps) ∧ NT x) : LamX.Tabs T (upd H a o) := fun p hp => by
  obtain ⟨ps, h1, h2, h3⟩ := h p hp
  refine ⟨ps, by rw [upd_ne (fun z => (n _ (by rw [← z]; exact h1)).1 ps rfl)]; exact h1, h2, fun pos cv hc => ?_⟩
  obtain ⟨c, e1, e2⟩ := h3 pos cv hc
  exact ⟨c, e1, by rw [upd_ne (fun z => (n (LamX.CodeO c p.2) (by rw [← z]; exact e2)).2)]; exact e2⟩
theorem Sim.nb {i : Nat} {c : C} {a : Addr} (h : Sim K T ρ δ σ H) (hi : δ[i]? = some (some (.o c))) (ha : ρ[i]? = some (some a)) : ∀ x, H a = some x → (∀ ps, x ≠ .tbl ps) ∧ NT x := fun x hx => by
  obtain ⟨v, e1, e2⟩ := h.slot i _ hi
  obtain ⟨b, e3, e4⟩ := h.own i c hi
  rw [ha] at e3
  cases e3
  rw [e4] at e1
  cases e1
  obtain ⟨b, o, z, hb, hc⟩ := e2
  cases z
  rw [hx] at hb
  cases hb
  exact co_nb hc
theorem atM (e : Same H H') {v : V} : ∀ {s : S}, At K T ρ H v s → At K T ρ H' v s
  | .o c, ⟨a, o, h1, h2, h3⟩ => ⟨a, o, h1, e _ _ h2, coM (hid_mono e) h3⟩
  | .d x, h => svM (s := .d x) (hid_mono e) h
  | .t x, h => svM (s := .t x) (hid_mono e) h
  | .z x, h => svM (s := .z x) (hid_mono e) h
  | .p x, h => svM (s := .p x) (hid_mono e) h
theorem Sim.mono (h : Sim K T ρ δ σ H) (e : Same H H') : Sim K T ρ δ σ H' where
  len := h.len
  slen := h.slen
  slot := fun i s hs => let ⟨v, a, b⟩ := h.slot i s hs; ⟨v, a, atM e b⟩
  own := h.own
  own' := h.own'
  inj := h.inj
  nt := h.nt
  tmp := fun a ha => let ⟨o, ho, hn⟩ := h.tmp a ha; ⟨o, e a o ho, hn⟩
  tabT := h.tabT
  tabs := h.tabs.ext e
/-- a new object is nobody's -/
theorem Trk.fresh (k : Trk T ρ H) {p : Addr} (hp : H p = none) : p ∉ T ∧ some p ∉ ρ := by
  constructor
  · intro z
    obtain ⟨o, ho, _⟩ := k.tmp p z
    rw [hp] at ho
    cases ho
  · intro z
    obtain ⟨o, ho, _⟩ := k.own p z
    rw [hp] at ho
    cases ho
theorem same_new {p : Addr} {o : HO} (hp : H p = none) : Same H (upd H p o) := fun b x e => by
  rw [upd_ne (ne_of_none e hp)]
  exact e
theorem Trk.hidNew (k : Trk T ρ H) {p : Addr} {o : HO} (hp : H p = none) : hid T ρ (upd H p o) p = some o := hid_some.mpr ⟨upd_same, k.fresh hp⟩
end
end DL

namespace DL
open PySem PySem.Spec PyProof.Rows L2
variable [TB]

inductive PV where
  | v (s : S)
  | own (i : Nat)
def slot (δ : Ds) (i : Nat) : Option S := (δ[i]?).join
theorem slot_some {δ : Ds} {i : Nat} {s : S} (h : slot δ i = some s) : δ[i]? = some (some s) := by
  unfold slot at h
  cases e : δ[i]? with
  | none => rw [e] at h; cases h
  | some x => rw [e] at h; cases x with
    | none => cases h
    | some y => cases h; rfl
def res (δ : Ds) : PV → Option S
  | .v s => some s
  | .own i => slot δ i
def resA (δ : Ds) : List PV → Option (List S)
  | [] => some []
  | p :: ps => (res δ p).bind fun s => (resA δ ps).map (s :: ·)
def dataA : List PV → Option (List PyData)
  | [] => some []
  | .v (.d x) :: ps => (dataA ps).map (x :: ·)
  | _ => none

abbrev EV := Ds → Option (S × Ds)
abbrev PEV := Ds → Option (PV × Ds)
abbrev TEV := Ds → Option (Bool × Ds)
abbrev AEV := Ds → Option (List PV × Ds)

section
variable (K : PySem.W.Frag) (T : List Addr) (ρ : List (Option Addr)) (H : Hp) (σ : L2.St)
def Post (Q : VK) (δ' : Ds) : S → Prop
  | .o c => ∀ ρ' p H0 o, Sim K T ρ' δ' σ H0 → Ext T ρ H ρ' H0 → H0 p = none → CO K (hid T ρ' H0) o c → Q (.ref p) (upd H0 p o)
  | s => ∀ ρ' v H', Sim K T ρ' δ' σ H' → Ext T ρ H ρ' H' → SV K (hid T ρ' H') v s → Q v H'
def PAt (v : V) : PV → Prop
  | .v s => SV K (hid T ρ H) v s
  | .own i => σ[i]? = some (some v)
/-- behind an operation that only lays new things -/
def PostO (Q : VK) : S → Prop
  | .o c => ∀ p o, H p = none → CO K (hid T ρ H) o c → Q (.ref p) (upd H p o)
  | s => ∀ v H', Same H H' → SV K (hid T ρ H') v s → Q v H'
end
def lift (K : PySem.W.Frag) (f : EV) : TE := fun σ H Q => ∃ T ρ δ s δ', Sim K T ρ δ σ H ∧ f δ = some (s, δ') ∧ Post K T ρ H σ Q δ' s
def liftP (K : PySem.W.Frag) (f : PEV) : TE := fun σ H Q => ∃ T ρ δ p δ', Sim K T ρ δ σ H ∧ f δ = some (p, δ') ∧ ∀ ρ' v H', Sim K T ρ' δ' σ H' → Ext T ρ H ρ' H' → PAt K T ρ' H' σ v p → Q v H'
def liftT (K : PySem.W.Frag) (f : TEV) : TT := fun σ H Q => ∃ T ρ δ b δ', Sim K T ρ δ σ H ∧ f δ = some (b, δ') ∧ ∀ ρ' H', Sim K T ρ' δ' σ H' → Ext T ρ H ρ' H' → Q b H'
def liftA (K : PySem.W.Frag) (f : AEV) : TA := fun σ H Q => ∃ T ρ δ ps δ', Sim K T ρ δ σ H ∧ f δ = some (ps, δ') ∧ ∀ ρ' vs H', Sim K T ρ' δ' σ H' → Ext T ρ H ρ' H' → Paired (PAt K T ρ' H' σ) vs ps → Q vs H'
abbrev DE (X : Cx) (e : Expr) (f : EV) : Prop := PE X e (lift X.K f)
abbrev DP (X : Cx) (e : Expr) (f : PEV) : Prop := PE X e (liftP X.K f)
abbrev DT (X : Cx) (e : Expr) (f : TEV) : Prop := PT X e (liftT X.K f)
abbrev DW (X : Cx) (e : Expr) (f : TEV) : Prop := PW X e (liftT X.K f)
abbrev DA (X : Cx) (es : List Expr) (f : AEV) : Prop := PA X es (liftA X.K f)

section
variable {X : Cx} {e : Expr}
theorem pe_imp {t t' : TE} (p : PE X e t) (m : ∀ σ H Q, t' σ H Q → t σ H Q) : PE X e t' := ⟨fun pins s σ H Q I h => p.run pins s σ H Q I (m σ H Q h)⟩
theorem pt_imp {t t' : TT} (p : PT X e t) (m : ∀ σ H Q, t' σ H Q → t σ H Q) : PT X e t' := ⟨fun pins s σ H Q I h => p.run pins s σ H Q I (m σ H Q h)⟩
theorem pw_imp {t t' : TT} (p : PW X e t) (m : ∀ σ H Q, t' σ H Q → t σ H Q) : PW X e t' := ⟨fun wh pins s σ H Q I h => p.run wh pins s σ H Q I (m σ H Q h)⟩
theorem pa_imp {es : List Expr} {t t' : TA} (p : PA X es t) (m : ∀ σ H Q, t' σ H Q → t σ H Q) : PA X es t' := ⟨fun pos pins s σ H Q I h => p.run pos pins s σ H Q I (m σ H Q h)⟩
theorem ps_imp {st : Stmt} {t t' : TS} (p : PS X st t) (m : ∀ D σ H, t' D σ H → t D σ H) : PS X st t' := ⟨fun pins s σ H D I h => p.run pins s σ H D I (m D σ H h)⟩
theorem pss_imp {st : List Stmt} {t t' : TS} (p : PSs X st t) (m : ∀ D σ H, t' D σ H → t D σ H) : PSs X st t' := ⟨fun pins s σ H D I h => p.run pins s σ H D I (m D σ H h)⟩
end

section
variable {K : PySem.W.Frag} {T : List Addr} {ρ ρ0 ρ1 : List (Option Addr)} {δ δ' : Ds} {σ σ' : L2.St} {H H0 H1 H' : Hp}
theorem sv_at {v : V} : ∀ {s : S}, SV K (hid T ρ H) v s → At K T ρ H v s
  | .d _, h => h
  | .t _, h => h
  | .z _, h => h
  | .p _, h => h
theorem pat_at {v : V} {p : PV} {s : S} (h : Sim K T ρ δ σ H) (e : Ext T ρ0 H0 ρ H) (hp : PAt K T ρ0 H0 σ v p) (hr : res δ p = some s) : At K T ρ H v s := by
  cases p with
  | v s' => cases hr; exact sv_at (svM e.same hp)
  | own i =>
    obtain ⟨w, e1, e2⟩ := h.slot i s (slot_some hr)
    have hp' : σ[i]? = some (some v) := hp
    rw [hp'] at e1
    cases e1
    exact e2
theorem pats_at (h : Sim K T ρ δ σ H) (e : Ext T ρ0 H0 ρ H) : ∀ {vs : List V} {ps : List PV} {ss : List S}, Paired (PAt K T ρ0 H0 σ) vs ps → resA δ ps = some ss → Paired (At K T ρ H) vs ss
  | _, _, _, .nil, hr => by cases hr; exact .nil
  | _, p :: ps, ss, .cons a b, hr => by
    unfold resA at hr
    cases e1 : res δ p with
    | none => rw [e1] at hr; cases hr
    | some s =>
      rw [e1] at hr
      cases e2 : resA δ ps with
      | none => rw [e2] at hr; cases hr
      | some r =>
        rw [e2] at hr
        cases hr
        exact .cons (pat_at h e a e1) (pats_at h e b e2)
theorem patM {v : V} {p : PV} (e : Ext T ρ0 H0 ρ H) (hp : PAt K T ρ0 H0 σ v p) : PAt K T ρ H σ v p := by
  cases p with
  | v s => exact svM (s := s) e.same hp
  | own i => exact hp
theorem data_dp : ∀ {vs : List V} {ps : List PV} {ds : List PyData}, Paired (PAt K T ρ H σ) vs ps → dataA ps = some ds → DqAll K (hid T ρ H) vs ds
  | _, _, _, .nil, hr => by cases hr; exact .nil
  | _, .v (.d x) :: ps, ds, .cons a b, hr => by
    have hr' : (dataA ps).map (x :: ·) = some ds := hr
    cases e2 : dataA ps with
    | none => rw [e2] at hr'; cases hr'
    | some r =>
      rw [e2] at hr'
      cases hr'
      exact .cons a (data_dp b e2)
  | _, .v (.t x) :: ps, ds, .cons a b, hr => by cases hr
  | _, .v (.z x) :: ps, ds, .cons a b, hr => by cases hr
  | _, .v (.p x) :: ps, ds, .cons a b, hr => by cases hr
  | _, .v (.o x) :: ps, ds, .cons a b, hr => by cases hr
  | _, .own x :: ps, ds, .cons a b, hr => by cases hr

/-- from the whole's end to an operation's -/
theorem post_o {Q : VK} {s : S} (h : Sim K T ρ1 δ' σ H1) (e : Ext T ρ H ρ1 H1) (q : Post K T ρ H σ Q δ' s) : PostO K T ρ1 H1 Q s := by
  cases s with
  | o c => exact fun p o hp hc => q ρ1 p H1 o h e hp hc
  | d x => exact fun v H' hs hv => q ρ1 v H' (h.mono hs) (e.trans (h.trk.extT hs)) hv
  | t x => exact fun v H' hs hv => q ρ1 v H' (h.mono hs) (e.trans (h.trk.extT hs)) hv
  | z x => exact fun v H' hs hv => q ρ1 v H' (h.mono hs) (e.trans (h.trk.extT hs)) hv
  | p x => exact fun v H' hs hv => q ρ1 v H' (h.mono hs) (e.trans (h.trk.extT hs)) hv
theorem post_step {Q : VK} {s : S} (e : Ext T ρ H ρ1 H1) (q : Post K T ρ H σ Q δ' s) : Post K T ρ1 H1 σ Q δ' s := by
  cases s with
  | o c => exact fun ρ' p H0 o h e' hp hc => q ρ' p H0 o h (e.trans e') hp hc
  | d x => exact fun ρ' v H' h e' hv => q ρ' v H' h (e.trans e') hv
  | t x => exact fun ρ' v H' h e' hv => q ρ' v H' h (e.trans e') hv
  | z x => exact fun ρ' v H' h e' hv => q ρ' v H' h (e.trans e') hv
  | p x => exact fun ρ' v H' h e' hv => q ρ' v H' h (e.trans e') hv
/-- what is new is laid down as data -/
theorem frz_new {p : Addr} {o : HO} {c : C} (k : Trk T ρ H) (hp : H p = none) (hc : CO K (hid T ρ H) o c) : SV K (hid T ρ (upd H p o)) (.ref p) (frz (.o c)) := by
  have hm : Same (hid T ρ H) (hid T ρ (upd H p o)) := hid_mono (same_new hp)
  cases c with
  | l xs =>
    obtain ⟨vs, rfl, ha⟩ := hc
    exact Dq.lst (k.hidNew hp) (dpAllM hm _ ha)
  | t kvs =>
    exact ⟨p, o, rfl, k.hidNew hp, tbM hm hc⟩
/-- an owned slot is data from now on -/
theorem Sim.freeze {i : Nat} {c : C} (h : Sim K T ρ δ σ H) (hi : δ[i]? = some (some (.o c))) : Sim K T (ρ.set i none) (δ.set i (some (frz (.o c)))) σ H ∧ Ext T ρ H (ρ.set i none) H ∧ ∃ v, σ[i]? = some (some v) ∧ SV K (hid T (ρ.set i none) H) v (frz (.o c)) := by
  have hil : i < δ.length := (List.getElem?_eq_some_iff.mp hi).1
  have hir : i < ρ.length := by rw [h.len]; exact hil
  have hl : Same (hid T ρ H) (hid T (ρ.set i none) H) := hid_less fun b hb => hb.elim .inl fun z => .inr (by
    rcases List.mem_or_eq_of_mem_set z with z | z
    · exact z
    · cases z)
  obtain ⟨a, ha, hσ⟩ := h.own i c hi
  obtain ⟨v, hv, hat⟩ := h.slot i _ hi
  rw [hσ] at hv
  cases hv
  obtain ⟨b, o, z, ho, hc⟩ := hat
  cases z
  have hna : some a ∉ ρ.set i none := fun z => by
    obtain ⟨j, hj⟩ := mem_ix z
    by_cases hij : i = j
    · subst hij
      rw [List.getElem?_set_self hir] at hj
      cases hj
    · rw [List.getElem?_set_ne hij] at hj
      exact hij (h.inj i j a ha hj)
  have hva : hid T (ρ.set i none) H a = some o := hid_some.mpr ⟨ho, h.nt i a ha, hna⟩
  have hsv : SV K (hid T (ρ.set i none) H) (.ref a) (frz (.o c)) := by
    cases c with
    | l xs =>
      obtain ⟨vs, rfl, hd⟩ := hc
      exact Dq.lst hva (dpAllM hl _ hd)
    | t kvs =>
      exact ⟨a, o, rfl, hva, tbM hl hc⟩
  have hno : ∀ c', frz (.o c) ≠ .o c' := fun c' z => by cases c <;> cases z
  refine ⟨⟨?_, ?_, ?_, ?_, ?_, ?_, ?_, h.tmp, h.tabT, h.tabs⟩, ⟨hl, fun _ _ => .refl, id⟩, _, hσ, hsv⟩
  · rw [List.length_set, List.length_set]; exact h.len
  · rw [List.length_set]; exact h.slen
  · intro j s hj
    by_cases hij : i = j
    · subst hij
      rw [List.getElem?_set_self hil] at hj
      cases hj
      exact ⟨_, hσ, sv_at hsv⟩
    · rw [List.getElem?_set_ne hij] at hj
      obtain ⟨w, e1, e2⟩ := h.slot j s hj
      refine ⟨w, e1, ?_⟩
      cases s with
      | o c' =>
        obtain ⟨x, o', z1, z2, z3⟩ := e2
        exact ⟨x, o', z1, z2, coM hl z3⟩
      | d x => exact svM (s := .d x) hl e2
      | t x => exact svM (s := .t x) hl e2
      | z x => exact svM (s := .z x) hl e2
      | p x => exact svM (s := .p x) hl e2
  · intro j c' hj
    by_cases hij : i = j
    · subst hij
      rw [List.getElem?_set_self hil] at hj
      exact absurd (Option.some.inj (Option.some.inj hj)) (hno c')
    · rw [List.getElem?_set_ne hij] at hj
      rw [List.getElem?_set_ne hij]
      exact h.own j c' hj
  · intro j b hj
    by_cases hij : i = j
    · subst hij
      rw [List.getElem?_set_self hir] at hj
      cases hj
    · rw [List.getElem?_set_ne hij] at hj
      rw [List.getElem?_set_ne hij]
      exact h.own' j b hj
  · intro j k b hj hk
    have f : ∀ m, (ρ.set i none)[m]? = some (some b) → ρ[m]? = some (some b) := fun m hm => by
      by_cases him : i = m
      · subst him
        rw [List.getElem?_set_self hir] at hm
        cases hm
      · rw [List.getElem?_set_ne him] at hm
        exact hm
    exact h.inj j k b (f j hj) (f k hk)
  · intro j b hj
    by_cases hij : i = j
    · subst hij
      rw [List.getElem?_set_self hir] at hj
      cases hj
    · rw [List.getElem?_set_ne hij] at hj
      exact h.nt j b hj
end

/-! ### names, constants -/
def vr (i : Nat) : EV := fun δ => match slot δ i with
  | some (.o c) => some (frz (.o c), δ.set i (some (frz (.o c))))
  | some s => some (s, δ)
  | none => none
def pk (i : Nat) : PEV := fun δ => match slot δ i with
  | some (.o _) => some (.own i, δ)
  | some s => some (.v s, δ)
  | none => none
def cst (x : PyData) : EV := fun δ => some (.d x, δ)
def frzP (f : EV) : PEV := fun δ => (f δ).map fun r => (PV.v (frz r.1), r.2)
section
variable {X : Cx} {a b : Expr} {pos : Pos}
theorem de_var {i : Nat} {x : Str} (p : PE X (.Name x pos) (tVar i)) : DE X (.Name x pos) (vr i) := pe_imp p fun σ H Q ⟨T, ρ, δ, s, δ', hs, hf, hq⟩ => by
  unfold vr at hf
  cases e : slot δ i with
  | none => rw [e] at hf; cases hf
  | some s' =>
    rw [e] at hf
    cases s' with
    | o c =>
      obtain ⟨h1, h2, v, h3, h4⟩ := hs.freeze (slot_some e)
      cases hf
      refine ⟨v, h3, ?_⟩
      cases c with
      | l xs => exact hq _ v H h1 h2 h4
      | t xs => exact hq _ v H h1 h2 h4
    | d x =>
      cases hf
      obtain ⟨v, h3, h4⟩ := hs.slot i _ (slot_some e)
      exact ⟨v, h3, hq _ v H hs .refl h4⟩
    | t x =>
      cases hf
      obtain ⟨v, h3, h4⟩ := hs.slot i _ (slot_some e)
      exact ⟨v, h3, hq _ v H hs .refl h4⟩
    | z x =>
      cases hf
      obtain ⟨v, h3, h4⟩ := hs.slot i _ (slot_some e)
      exact ⟨v, h3, hq _ v H hs .refl h4⟩
    | p x =>
      cases hf
      obtain ⟨v, h3, h4⟩ := hs.slot i _ (slot_some e)
      exact ⟨v, h3, hq _ v H hs .refl h4⟩
theorem dp_var {i : Nat} {x : Str} (p : PE X (.Name x pos) (tVar i)) : DP X (.Name x pos) (pk i) := pe_imp p fun σ H Q ⟨T, ρ, δ, s, δ', hs, hf, hq⟩ => by
  unfold pk at hf
  cases e : slot δ i with
  | none => rw [e] at hf; cases hf
  | some s' =>
    rw [e] at hf
    obtain ⟨v, h3, h4⟩ := hs.slot i _ (slot_some e)
    cases s' with
    | o c =>
      cases hf
      exact ⟨v, h3, hq _ v H hs .refl h3⟩
    | d x =>
      cases hf
      exact ⟨v, h3, hq _ v H hs .refl h4⟩
    | t x =>
      cases hf
      exact ⟨v, h3, hq _ v H hs .refl h4⟩
    | z x =>
      cases hf
      exact ⟨v, h3, hq _ v H hs .refl h4⟩
    | p x =>
      cases hf
      exact ⟨v, h3, hq _ v H hs .refl h4⟩
theorem de_cst {e : Expr} {v : V} {x : PyData} (p : PE X e (tC v)) (hd : ∀ G, Dq X.K G v x) : DE X e (cst x) := pe_imp p fun σ H Q ⟨T, ρ, δ, s, δ', hs, hf, hq⟩ => by
  cases hf
  exact hq _ v H hs .refl (hd _)
theorem de_int {i j pos} : DE X (.Constant (.int i) j pos) (cst (.int i)) := de_cst pe_int fun _ => .int i
theorem de_bl {b j pos} : DE X (.Constant (.bool b) j pos) (cst (.bool b)) := de_cst pe_bl fun _ => .bl b
theorem de_non {j pos} : DE X (.Constant .none j pos) (cst .none) := de_cst pe_non fun _ => .non
theorem de_str {x j pos} : DE X (.Constant (.str x) j pos) (cst (.str x)) := de_cst pe_str fun _ => .str x
theorem dp_of {e : Expr} {f : EV} (p : DE X e f) : DP X e (frzP f) := pe_imp p fun σ H Q ⟨T, ρ, δ, s, δ', hs, hf, hq⟩ => by
  unfold frzP at hf
  cases e : f δ with
  | none => rw [e] at hf; cases hf
  | some r =>
    obtain ⟨s', δ1⟩ := r
    rw [e] at hf
    cases hf
    refine ⟨T, ρ, δ, s', δ1, hs, e, ?_⟩
    cases s' with
    | o c => exact fun ρ' p H0 o h e hp hc => hq ρ' (.ref p) (upd H0 p o) (h.mono (same_new hp)) (e.trans (h.trk.extT (same_new hp))) (frz_new h.trk hp hc)
    | d x => exact fun ρ' v H' h e hv => hq ρ' v H' h e hv
    | t x => exact fun ρ' v H' h e hv => hq ρ' v H' h e hv
    | z x => exact fun ρ' v H' h e hv => hq ρ' v H' h e hv
    | p x => exact fun ρ' v H' h e hv => hq ρ' v H' h e hv

/-! ### two operands -/
def bin (g : S → S → Option S) (fa fb : PEV) : EV := fun δ => (fa δ).bind fun x => (fb x.2).bind fun y => (res y.2 x.1).bind fun s => (res y.2 y.1).bind fun u => (g s u).map fun z => (z, y.2)
def OpD (K : PySem.W.Frag) (r : R2) (g : S → S → Option S) : Prop := ∀ (T : List Addr) (ρ : List (Option Addr)) (H : Hp) (x y : V) (a b s : S) (Q : VK), Trk T ρ H → At K T ρ H x a → At K T ρ H y b → g a b = some s → PostO K T ρ H Q s → r x y H Q
theorem bin_ok {r : R2} {g : S → S → Option S} {fa fb : PEV} (hd : OpD X.K r g) (σ : L2.St) (H : Hp) (Q : VK) (h : lift X.K (bin g fa fb) σ H Q) : tOp r (liftP X.K fa) (liftP X.K fb) σ H Q := by
  obtain ⟨T, ρ, δ, s, δ', hs, hf, hq⟩ := h
  unfold bin at hf
  cases ea : fa δ with
  | none => rw [ea] at hf; cases hf
  | some x =>
    rw [ea] at hf
    simp only [Option.bind_some] at hf
    cases eb : fb x.2 with
    | none => rw [eb] at hf; cases hf
    | some y =>
      rw [eb] at hf
      simp only [Option.bind_some] at hf
      cases e1 : res y.2 x.1 with
      | none => rw [e1] at hf; cases hf
      | some u =>
        rw [e1] at hf
        simp only [Option.bind_some] at hf
        cases e2 : res y.2 y.1 with
        | none => rw [e2] at hf; cases hf
        | some w =>
          rw [e2] at hf
          simp only [Option.bind_some] at hf
          cases e3 : g u w with
          | none => rw [e3] at hf; cases hf
          | some z =>
            rw [e3] at hf
            cases hf
            refine ⟨T, ρ, δ, x.1, x.2, hs, by rw [ea], fun ρ1 v1 H1 s1 x1 p1 => ?_⟩
            refine ⟨T, ρ1, x.2, y.1, y.2, s1, by rw [eb], fun ρ2 v2 H2 s2 x2 p2 => ?_⟩
            exact hd T ρ2 H2 v1 v2 u w s Q s2.trk (pat_at s2 x2 p1 e1) (pat_at s2 .refl p2 e2) e3 (post_o s2 (x1.trans x2) hq)
theorem de_op {op : Operator} {r : R2} {g : S → S → Option S} {fa fb : PEV} (ho : OpR X (binaryOp op) r) (hd : OpD X.K r g) (ha : DP X a fa) (hb : DP X b fb) : DE X (.BinOp a op b pos) (bin g fa fb) := pe_imp (pe_op ho ha hb) (bin_ok hd)
theorem de_cmp {op : CmpOp} {r : R2} {g : S → S → Option S} {fa fb : PEV} (ho : OpR X (compareOp op) r) (hd : OpD X.K r g) (ha : DP X a fa) (hb : DP X b fb) (hm : behindInMarks op b = false) : DE X (.Compare a [op] [b] pos) (bin g fa fb) := pe_imp (pe_cmpR ho ha hb hm) (bin_ok hd)
theorem de_ix {r : R2} {g : S → S → Option S} {fa fb : PEV} (ho : IxR X r) (hd : OpD X.K r g) (ha : DP X a fa) (hb : DP X b fb) (hs : PlainIx b) : DE X (.Subscript a b pos) (bin g fa fb) := pe_imp (pe_ix ho ha hb hs) (bin_ok hd)
/-! ### tests -/
def bl (f : EV) : TEV := fun δ => (f δ).bind fun r => match r.1 with
  | .d (.bool b) => some (b, r.2)
  | _ => none
theorem bl_ok {f : EV} (σ : L2.St) (H : Hp) (Q : Bool → Hp → Prop) (h : liftT X.K (bl f) σ H Q) : tB (lift X.K f) σ H Q := by
  obtain ⟨T, ρ, δ, b, δ', hs, hf, hq⟩ := h
  unfold bl at hf
  cases ea : f δ with
  | none => rw [ea] at hf; cases hf
  | some x =>
    obtain ⟨s, δ1⟩ := x
    rw [ea] at hf
    simp only [Option.bind_some] at hf
    split at hf
    · rename_i k
      cases hf
      refine ⟨T, ρ, δ, _, _, hs, ea, fun ρ' v H' s1 x1 hv => ?_⟩
      cases hv
      exact ⟨_, rfl, hq ρ' H' s1 x1⟩
    · cases hf
theorem dt_val {e : Expr} {f : EV} (p : DE X e f) (he : ∀ whole, isTrue e X.env whole = (do let v ← whole; standAt e.pos; holding [v] (truthy v)) := by intro _; rfl) : DT X e (bl f) := pt_imp (pt_val p he) bl_ok
theorem dt_cmp {op : CmpOp} {r : R2} {g : S → S → Option S} {fa fb : PEV} (ho : OpR X (compareOp op) r) (hd : OpD X.K r g) (ha : DP X a fa) (hb : DP X b fb) (hm : behindInMarks op b = false) : DT X (.Compare a [op] [b] pos) (bl (bin g fa fb)) :=
  pt_imp (pt_cmpR ho ha hb hm) fun σ H Q h => by
    have q := bl_ok σ H Q h
    exact bin_ok (X := X) hd σ H _ q
def andT (f g : TEV) : TEV := fun δ => (f δ).bind fun r => if r.1 then g r.2 else some (false, r.2)
def orT (f g : TEV) : TEV := fun δ => (f δ).bind fun r => if r.1 then some (true, r.2) else g r.2
def notT (f : TEV) : TEV := fun δ => (f δ).map fun r => (!r.1, r.2)
variable {rest : List Expr} {f g : TEV}
theorem and_ok (σ : L2.St) (H : Hp) (Q : Bool → Hp → Prop) (h : liftT X.K (andT f g) σ H Q) : tAnd (liftT X.K f) (liftT X.K g) σ H Q := by
  obtain ⟨T, ρ, δ, b, δ', hs, hf, hq⟩ := h
  unfold andT at hf
  cases ea : f δ with
  | none => rw [ea] at hf; cases hf
  | some x =>
    obtain ⟨k, δ1⟩ := x
    rw [ea] at hf
    simp only [Option.bind_some] at hf
    refine ⟨T, ρ, δ, k, δ1, hs, ea, fun ρ' H' s1 x1 => ?_⟩
    cases k with
    | true =>
      rw [if_pos rfl] at hf
      rw [if_pos rfl]
      exact ⟨T, ρ', δ1, b, δ', s1, hf, fun ρ2 H2 s2 x2 => hq ρ2 H2 s2 (x1.trans x2)⟩
    | false =>
      rw [if_neg Bool.false_ne_true] at hf
      rw [if_neg Bool.false_ne_true]
      cases hf
      exact hq ρ' H' s1 x1
theorem or_ok (σ : L2.St) (H : Hp) (Q : Bool → Hp → Prop) (h : liftT X.K (orT f g) σ H Q) : tOr (liftT X.K f) (liftT X.K g) σ H Q := by
  obtain ⟨T, ρ, δ, b, δ', hs, hf, hq⟩ := h
  unfold orT at hf
  cases ea : f δ with
  | none => rw [ea] at hf; cases hf
  | some x =>
    obtain ⟨k, δ1⟩ := x
    rw [ea] at hf
    simp only [Option.bind_some] at hf
    refine ⟨T, ρ, δ, k, δ1, hs, ea, fun ρ' H' s1 x1 => ?_⟩
    cases k with
    | false =>
      rw [if_neg Bool.false_ne_true] at hf
      rw [if_neg Bool.false_ne_true]
      exact ⟨T, ρ', δ1, b, δ', s1, hf, fun ρ2 H2 s2 x2 => hq ρ2 H2 s2 (x1.trans x2)⟩
    | true =>
      rw [if_pos rfl] at hf
      rw [if_pos rfl]
      cases hf
      exact hq ρ' H' s1 x1
theorem dw_and1 (ha : DT X a f) : DW X (.BoolOp .And [a] pos) f := pw_and1 ha
theorem dw_or1 (ha : DT X a f) : DW X (.BoolOp .Or [a] pos) f := pw_or1 ha
theorem dw_and (ha : DT X a f) (hb : DW X (.BoolOp .And (b :: rest) pos) g) : DW X (.BoolOp .And (a :: b :: rest) pos) (andT f g) := pw_imp (pw_and ha hb) and_ok
theorem dw_or (ha : DT X a f) (hb : DW X (.BoolOp .Or (b :: rest) pos) g) : DW X (.BoolOp .Or (a :: b :: rest) pos) (orT f g) := pw_imp (pw_or ha hb) or_ok
theorem dt_not (ha : DT X a f) : DT X (.UnaryOp .Not a pos) (notT f) := pt_imp (pt_not ha) fun σ H Q ⟨T, ρ, δ, b, δ', hs, hf, hq⟩ => by
  unfold notT at hf
  cases ea : f δ with
  | none => rw [ea] at hf; cases hf
  | some x =>
    rw [ea] at hf
    cases hf
    exact ⟨T, ρ, δ, x.1, x.2, hs, by rw [ea], hq⟩
/-- as values -/
def andV (f g : EV) : EV := fun δ => (f δ).bind fun r => match r.1 with
  | .d (.bool b) => if b then g r.2 else some (.d (.bool false), r.2)
  | _ => none
def orV (f g : EV) : EV := fun δ => (f δ).bind fun r => match r.1 with
  | .d (.bool b) => if b then some (.d (.bool true), r.2) else g r.2
  | _ => none
def notV (f : EV) : EV := fun δ => (f δ).bind fun r => match r.1 with
  | .d (.bool b) => some (.d (.bool (!b)), r.2)
  | _ => none
variable {f1 f2 f3 : EV}
theorem de_one {op} (ha : DE X a f1) : DE X (.BoolOp op [a] pos) f1 := pe_one ha
theorem de_and (ha : DE X a f1) (hb : DE X (.BoolOp .And (b :: rest) pos) f2) : DE X (.BoolOp .And (a :: b :: rest) pos) (andV f1 f2) := pe_imp (pe_and ha hb) fun σ H Q ⟨T, ρ, δ, s, δ', hs, hf, hq⟩ => by
  unfold andV at hf
  cases ea : f1 δ with
  | none => rw [ea] at hf; cases hf
  | some x =>
    obtain ⟨s1, δ1⟩ := x
    rw [ea] at hf
    simp only [Option.bind_some] at hf
    split at hf
    · rename_i k
      refine ⟨T, ρ, δ, _, δ1, hs, ea, fun ρ' v H' s1 x1 hv => ?_⟩
      cases hv
      refine ⟨k, rfl, ?_⟩
      cases k with
      | true =>
        rw [if_pos rfl] at hf
        rw [if_pos rfl]
        exact ⟨T, ρ', δ1, s, δ', s1, hf, post_step x1 hq⟩
      | false =>
        rw [if_neg Bool.false_ne_true] at hf
        rw [if_neg Bool.false_ne_true]
        cases hf
        exact hq ρ' _ H' s1 x1 (Dq.bl false)
    · cases hf
theorem de_or (ha : DE X a f1) (hb : DE X (.BoolOp .Or (b :: rest) pos) f2) : DE X (.BoolOp .Or (a :: b :: rest) pos) (orV f1 f2) := pe_imp (pe_or ha hb) fun σ H Q ⟨T, ρ, δ, s, δ', hs, hf, hq⟩ => by
  unfold orV at hf
  cases ea : f1 δ with
  | none => rw [ea] at hf; cases hf
  | some x =>
    obtain ⟨s1, δ1⟩ := x
    rw [ea] at hf
    simp only [Option.bind_some] at hf
    split at hf
    · rename_i k
      refine ⟨T, ρ, δ, _, δ1, hs, ea, fun ρ' v H' s1 x1 hv => ?_⟩
      cases hv
      refine ⟨k, rfl, ?_⟩
      cases k with
      | false =>
        rw [if_neg Bool.false_ne_true] at hf
        rw [if_neg Bool.false_ne_true]
        exact ⟨T, ρ', δ1, s, δ', s1, hf, post_step x1 hq⟩
      | true =>
        rw [if_pos rfl] at hf
        rw [if_pos rfl]
        cases hf
        exact hq ρ' _ H' s1 x1 (Dq.bl true)
    · cases hf
theorem de_not (ha : DE X a f1) : DE X (.UnaryOp .Not a pos) (notV f1) := pe_imp (pe_not ha) fun σ H Q ⟨T, ρ, δ, s, δ', hs, hf, hq⟩ => by
  unfold notV at hf
  cases ea : f1 δ with
  | none => rw [ea] at hf; cases hf
  | some x =>
    obtain ⟨s1, δ1⟩ := x
    rw [ea] at hf
    simp only [Option.bind_some] at hf
    split at hf
    · rename_i k
      cases hf
      refine ⟨T, ρ, δ, _, _, hs, ea, fun ρ' v H' s1 x1 hv => ?_⟩
      cases hv
      exact ⟨k, rfl, hq ρ' _ H' s1 x1 (Dq.bl _)⟩
    · cases hf
def ifE (t : TEV) (f g : EV) : EV := fun δ => (t δ).bind fun r => if r.1 then f r.2 else g r.2
theorem de_ifE {c : Expr} (hc : DT X c f) (ha : DE X a f1) (hb : DE X b f2) : DE X (.IfExp c a b pos) (ifE f f1 f2) := pe_imp (pe_ifExp hc ha hb) fun σ H Q ⟨T, ρ, δ, s, δ', hs, hf, hq⟩ => by
  unfold ifE at hf
  cases ea : f δ with
  | none => rw [ea] at hf; cases hf
  | some x =>
    obtain ⟨k, δ1⟩ := x
    rw [ea] at hf
    simp only [Option.bind_some] at hf
    refine ⟨T, ρ, δ, k, δ1, hs, ea, fun ρ' H' s1 x1 => ?_⟩
    cases k with
    | true =>
      rw [if_pos rfl] at hf
      rw [if_pos rfl]
      exact ⟨T, ρ', δ1, s, δ', s1, hf, post_step x1 hq⟩
    | false =>
      rw [if_neg Bool.false_ne_true] at hf
      rw [if_neg Bool.false_ne_true]
      exact ⟨T, ρ', δ1, s, δ', s1, hf, post_step x1 hq⟩
/-! ### arguments, displays, calls of what is built in -/
def nilA : AEV := fun δ => some ([], δ)
def consA (f : PEV) (g : AEV) : AEV := fun δ => (f δ).bind fun x => (g x.2).map fun y => (x.1 :: y.1, y.2)
theorem da_nil : DA X [] nilA := pa_imp pa_nil fun σ H Q ⟨T, ρ, δ, ps, δ', hs, hf, hq⟩ => by
  cases hf
  exact hq ρ [] H hs .refl .nil
theorem da_cons {es : List Expr} {fp : PEV} {fa : AEV} (h1 : DP X e fp) (h2 : DA X es fa) (hstar : starEach (e :: es) X.env = (false, eval e X.env) :: starEach es X.env := by rfl) : DA X (e :: es) (consA fp fa) := pa_imp (pa_cons h1 h2 hstar) fun σ H Q ⟨T, ρ, δ, ps, δ', hs, hf, hq⟩ => by
  unfold consA at hf
  cases ea : fp δ with
  | none => rw [ea] at hf; cases hf
  | some x =>
    rw [ea] at hf
    simp only [Option.bind_some] at hf
    cases eb : fa x.2 with
    | none => rw [eb] at hf; cases hf
    | some y =>
      rw [eb] at hf
      cases hf
      refine ⟨T, ρ, δ, x.1, x.2, hs, by rw [ea], fun ρ1 v1 H1 s1 x1 p1 => ?_⟩
      refine ⟨T, ρ1, x.2, y.1, y.2, s1, by rw [eb], fun ρ2 vs H2 s2 x2 p2 => ?_⟩
      exact hq ρ2 (v1 :: vs) H2 s2 (x1.trans x2) (.cons (patM x2 p1) p2)
def tupE (fa : AEV) : EV := fun δ => (fa δ).bind fun x => (dataA x.1).bind fun ds => if ds.length ≤ sizeLine then some (.d (.tuple ds), x.2) else none
def lstE (fa : AEV) : EV := fun δ => (fa δ).bind fun x => (dataA x.1).bind fun ds => if ds.length ≤ sizeLine then some (.o (.l ds), x.2) else none
theorem de_tup {es : List Expr} {fa : AEV} {k} (h : DA X es fa) : DE X (.Tuple es k pos) (tupE fa) := pe_imp (pe_tup h) fun σ H Q ⟨T, ρ, δ, s, δ', hs, hf, hq⟩ => by
  unfold tupE at hf
  cases ea : fa δ with
  | none => rw [ea] at hf; cases hf
  | some x =>
    rw [ea] at hf
    simp only [Option.bind_some] at hf
    cases eb : dataA x.1 with
    | none => rw [eb] at hf; cases hf
    | some ds =>
      rw [eb] at hf
      simp only [Option.bind_some] at hf
      split at hf
      · rename_i hl
        cases hf
        refine ⟨T, ρ, δ, x.1, x.2, hs, by rw [ea], fun ρ1 vs H1 s1 x1 p1 => ?_⟩
        have hd := data_dp p1 eb
        refine ⟨by rw [dpAll_len hd]; exact hl, fun p hp => ?_⟩
        have hm := same_new (o := .tup vs) hp
        exact hq ρ1 (.ref p) _ (s1.mono hm) (x1.trans (s1.trk.extT hm)) (Dq.tup (s1.trk.hidNew hp) (dpAllM (hid_mono hm) _ hd))
      · cases hf
theorem de_lst {es : List Expr} {fa : AEV} (h : DA X es fa) : DE X (.List es pos) (lstE fa) := pe_imp (pe_lst h) fun σ H Q ⟨T, ρ, δ, s, δ', hs, hf, hq⟩ => by
  unfold lstE at hf
  cases ea : fa δ with
  | none => rw [ea] at hf; cases hf
  | some x =>
    rw [ea] at hf
    simp only [Option.bind_some] at hf
    cases eb : dataA x.1 with
    | none => rw [eb] at hf; cases hf
    | some ds =>
      rw [eb] at hf
      simp only [Option.bind_some] at hf
      split at hf
      · rename_i hl
        cases hf
        refine ⟨T, ρ, δ, x.1, x.2, hs, by rw [ea], fun ρ1 vs H1 s1 x1 p1 => ?_⟩
        have hd := data_dp p1 eb
        refine ⟨by rw [dpAll_len hd]; exact hl, fun p hp => ?_⟩
        exact hq ρ1 p H1 (.lst vs) s1 x1 hp ⟨vs, rfl, hd⟩
      · cases hf
def callB (g : List S → Option S) (fa : AEV) : EV := fun δ => (fa δ).bind fun x => (resA x.2 x.1).bind fun ss => (g ss).map fun z => (z, x.2)
def CallD (K : PySem.W.Frag) (r : List V → Hp → VK → Prop) (g : List S → Option S) : Prop := ∀ (T : List Addr) (ρ : List (Option Addr)) (H : Hp) (vs : List V) (ss : List S) (s : S) (Q : VK), Trk T ρ H → Paired (At K T ρ H) vs ss → g ss = some s → PostO K T ρ H Q s → r vs H Q
theorem callB_ok {r : List V → Hp → VK → Prop} {g : List S → Option S} {fa : AEV} (hd : CallD X.K r g) (σ : L2.St) (H : Hp) (Q : VK) (h : lift X.K (callB g fa) σ H Q) : tCB r (liftA X.K fa) σ H Q := by
  obtain ⟨T, ρ, δ, s, δ', hs, hf, hq⟩ := h
  unfold callB at hf
  cases ea : fa δ with
  | none => rw [ea] at hf; cases hf
  | some x =>
    rw [ea] at hf
    simp only [Option.bind_some] at hf
    cases eb : resA x.2 x.1 with
    | none => rw [eb] at hf; cases hf
    | some ss =>
      rw [eb] at hf
      simp only [Option.bind_some] at hf
      cases e3 : g ss with
      | none => rw [e3] at hf; cases hf
      | some z =>
        rw [e3] at hf
        cases hf
        refine ⟨T, ρ, δ, x.1, x.2, hs, by rw [ea], fun ρ1 vs H1 s1 x1 p1 => ?_⟩
        exact hd T ρ1 H1 vs ss _ Q s1.trk (pats_at s1 .refl p1 eb) e3 (post_o s1 x1 hq)
theorem de_callB {id : String} {x : Str} {es : List Expr} {p : Pos} {r : List V → Hp → VK → Prop} {g : List S → Option S} {fa : AEV} (hc : CallR X (.builtin id) r) (hd : CallD X.K r g) (hg : Gl X x) (hm : X.mg x = none) (hv : bootBuiltins x = some (.builtin id)) (ha : DA X (e :: es) fa) (hn : x ≠ "__name__" := by decide) (hdb : (x == ("__debug__" : Str)) = false := by decide)
    (he : starEach (e :: es) X.env = (false, eval e X.env) :: starEach es X.env := by rfl) (hpl : (backTo pos (starEach es X.env)).any (·.1) = false := by rfl) : DE X (.Call (.Name x p) (e :: es) [] pos) (callB g fa) := pe_imp (pe_callB hc hg hm hv ha hn hdb he hpl) (callB_ok hd)
theorem de_callTy {id : String} {x : Str} {es : List Expr} {p : Pos} {r : List V → Hp → VK → Prop} {g : List S → Option S} {fa : AEV} (hc : CallR X (.type id) r) (hd : CallD X.K r g) (hg : Gl X x) (hm : X.mg x = none) (hv : bootBuiltins x = some (.type id)) (ha : DA X (e :: es) fa) (hn : x ≠ "__name__" := by decide) (hdb : (x == ("__debug__" : Str)) = false := by decide)
    (he : starEach (e :: es) X.env = (false, eval e X.env) :: starEach es X.env := by rfl) (hpl : (backTo pos (starEach es X.env)).any (·.1) = false := by rfl) : DE X (.Call (.Name x p) (e :: es) [] pos) (callB g fa) := pe_imp (pe_callTy hc hg hm hv ha hn hdb he hpl) (callB_ok hd)
end
end DL

namespace DL
open PySem PySem.Spec PyProof.Rows L2
variable [TB]

inductive Out where
  | nx (δ : Ds) | rt (s : S) (δ : Ds) | bk (δ : Ds) | ct (δ : Ds)
abbrev SEV := Ds → Option Out
def Keep (P : List Nat) (σ σ' : L2.St) : Prop := ∀ i ∈ P, σ'[i]? = σ[i]?
theorem Keep.refl {P : List Nat} {σ : L2.St} : Keep P σ σ := fun _ _ => rfl
theorem Keep.trans {P : List Nat} {σ σ1 σ2 : L2.St} (a : Keep P σ σ1) (b : Keep P σ1 σ2) : Keep P σ σ2 := fun i hi => (b i hi).trans (a i hi)

section
variable (K : PySem.W.Frag) (T : List Addr) (ρ : List (Option Addr)) (H : Hp) (σ : L2.St) (P : List Nat)
def PostR (Q : VK) (δ' : Ds) : S → Prop
  | .o c => ∀ ρ' σ' p H0 o, Sim K T ρ' δ' σ' H0 → Ext T ρ H ρ' H0 → Keep P σ σ' → H0 p = none → CO K (hid T ρ' H0) o c → Q (.ref p) (upd H0 p o)
  | s => ∀ ρ' σ' v H', Sim K T ρ' δ' σ' H' → Ext T ρ H ρ' H' → Keep P σ σ' → SV K (hid T ρ' H') v s → Q v H'
def PostN (q : L2.St → Hp → Prop) (δ' : Ds) : Prop := ∀ ρ' σ' H', Sim K T ρ' δ' σ' H' → Ext T ρ H ρ' H' → Keep P σ σ' → q σ' H'
def PostS (D : Ends) : Out → Prop
  | .nx δ' => PostN K T ρ H σ P D.nx δ'
  | .bk δ' => PostN K T ρ H σ P D.bk δ'
  | .ct δ' => PostN K T ρ H σ P D.ct δ'
  | .rt s δ' => PostR K T ρ H σ P D.rt δ' s
end
def liftS (K : PySem.W.Frag) (P : List Nat) (f : SEV) : TS := fun D σ H => ∃ T ρ δ o, Sim K T ρ δ σ H ∧ f δ = some o ∧ PostS K T ρ H σ P D o
abbrev DS (X : Cx) (P : List Nat) (st : Stmt) (f : SEV) : Prop := PS X st (liftS X.K P f)
abbrev DSs (X : Cx) (P : List Nat) (st : List Stmt) (f : SEV) : Prop := PSs X st (liftS X.K P f)

section
variable {K : PySem.W.Frag} {T : List Addr} {ρ ρ0 ρ1 : List (Option Addr)} {δ δ' : Ds} {σ σ' σ1 : L2.St} {H H0 H1 H' : Hp} {P : List Nat}
theorem postN_step {q : L2.St → Hp → Prop} (e : Ext T ρ H ρ1 H1) (k : Keep P σ σ1) (h : PostN K T ρ H σ P q δ') : PostN K T ρ1 H1 σ1 P q δ' := fun ρ' σ' H' s x y => h ρ' σ' H' s (e.trans x) (k.trans y)
theorem postR_step {Q : VK} {s : S} (e : Ext T ρ H ρ1 H1) (k : Keep P σ σ1) (h : PostR K T ρ H σ P Q δ' s) : PostR K T ρ1 H1 σ1 P Q δ' s := by
  cases s with
  | o c => exact fun ρ' σ' p H0 o s x y hp hc => h ρ' σ' p H0 o s (e.trans x) (k.trans y) hp hc
  | d c => exact fun ρ' σ' v H' s x y hv => h ρ' σ' v H' s (e.trans x) (k.trans y) hv
  | t c => exact fun ρ' σ' v H' s x y hv => h ρ' σ' v H' s (e.trans x) (k.trans y) hv
  | z c => exact fun ρ' σ' v H' s x y hv => h ρ' σ' v H' s (e.trans x) (k.trans y) hv
  | p c => exact fun ρ' σ' v H' s x y hv => h ρ' σ' v H' s (e.trans x) (k.trans y) hv
theorem postS_step {D : Ends} {o : Out} (e : Ext T ρ H ρ1 H1) (k : Keep P σ σ1) (h : PostS K T ρ H σ P D o) : PostS K T ρ1 H1 σ1 P D o := by
  cases o with
  | nx δ => exact postN_step e k h
  | bk δ => exact postN_step e k h
  | ct δ => exact postN_step e k h
  | rt s δ => exact postR_step e k h
/-- where a value of an expression goes on -/
theorem post_mk {Q : VK} {s : S} (h : PostR K T ρ H σ P Q δ' s) : Post K T ρ H σ Q δ' s := by
  cases s with
  | o c => exact fun ρ' p H0 o s x hp hc => h ρ' σ p H0 o s x .refl hp hc
  | d c => exact fun ρ' v H' s x hv => h ρ' σ v H' s x .refl hv
  | t c => exact fun ρ' v H' s x hv => h ρ' σ v H' s x .refl hv
  | z c => exact fun ρ' v H' s x hv => h ρ' σ v H' s x .refl hv
  | p c => exact fun ρ' v H' s x hv => h ρ' σ v H' s x .refl hv

/-- a slot gets data -/
theorem Sim.setD {i : Nat} {v : V} {s : S} (h : Sim K T ρ δ σ H) (hv : SV K (hid T ρ H) v s) : Sim K T (ρ.set i none) (δ.set i (some s)) (σ.set i (some v)) H ∧ Ext T ρ H (ρ.set i none) H := by
  by_cases hil : i < δ.length
  case neg =>
    rw [List.set_eq_of_length_le (by rw [h.len]; omega), List.set_eq_of_length_le (by omega), List.set_eq_of_length_le (by rw [h.slen]; omega)]
    exact ⟨h, .refl⟩
  have hir : i < ρ.length := by rw [h.len]; exact hil
  have his : i < σ.length := by rw [h.slen]; exact hil
  have hl : Same (hid T ρ H) (hid T (ρ.set i none) H) := hid_less fun b hb => hb.elim .inl fun z => .inr (by
    rcases List.mem_or_eq_of_mem_set z with z | z
    · exact z
    · cases z)
  have fr : ∀ (m : Nat) (b : Addr), (ρ.set i none)[m]? = some (some b) → m ≠ i ∧ ρ[m]? = some (some b) := fun m b hm => by
    by_cases him : i = m
    · subst him
      rw [List.getElem?_set_self hir] at hm
      cases hm
    · rw [List.getElem?_set_ne him] at hm
      exact ⟨Ne.symm him, hm⟩
  refine ⟨⟨?_, ?_, ?_, ?_, ?_, ?_, ?_, h.tmp, h.tabT, h.tabs⟩, hl, fun _ _ => .refl, id⟩
  · rw [List.length_set, List.length_set]; exact h.len
  · rw [List.length_set, List.length_set]; exact h.slen
  · intro j s' hj
    by_cases hij : i = j
    · subst hij
      rw [List.getElem?_set_self hil] at hj
      cases hj
      exact ⟨v, List.getElem?_set_self his, sv_at (svM hl hv)⟩
    · rw [List.getElem?_set_ne hij] at hj
      obtain ⟨w, e1, e2⟩ := h.slot j s' hj
      refine ⟨w, by rw [List.getElem?_set_ne hij]; exact e1, ?_⟩
      cases s' with
      | o c' =>
        obtain ⟨x, o', z1, z2, z3⟩ := e2
        exact ⟨x, o', z1, z2, coM hl z3⟩
      | d x => exact svM (s := .d x) hl e2
      | t x => exact svM (s := .t x) hl e2
      | z x => exact svM (s := .z x) hl e2
      | p x => exact svM (s := .p x) hl e2
  · intro j c' hj
    by_cases hij : i = j
    · subst hij
      rw [List.getElem?_set_self hil] at hj
      cases hj
      exact hv.elim
    · rw [List.getElem?_set_ne hij] at hj
      rw [List.getElem?_set_ne hij, List.getElem?_set_ne hij]
      exact h.own j c' hj
  · intro j b hj
    obtain ⟨h1, h2⟩ := fr j b hj
    rw [List.getElem?_set_ne (Ne.symm h1)]
    exact h.own' j b h2
  · intro j k b hj hk
    exact h.inj j k b (fr j b hj).2 (fr k b hk).2
  · intro j b hj
    exact h.nt j b (fr j b hj).2
/-- a slot gets what is new -/
theorem Sim.setO {i : Nat} {p : Addr} {o : HO} {c : C} (h : Sim K T ρ δ σ H) (hp : H p = none) (hc : CO K (hid T ρ H) o c) : ∃ ρ', Sim K T ρ' (δ.set i (some (.o c))) (σ.set i (some (.ref p))) (upd H p o) ∧ Ext T ρ H ρ' (upd H p o) := by
  by_cases hil : i < δ.length
  case neg =>
    rw [List.set_eq_of_length_le (by omega), List.set_eq_of_length_le (by rw [h.slen]; omega)]
    exact ⟨ρ, h.mono (same_new hp), h.trk.extT (same_new hp)⟩
  have hir : i < ρ.length := by rw [h.len]; exact hil
  have his : i < σ.length := by rw [h.slen]; exact hil
  obtain ⟨npT, npρ⟩ := h.trk.fresh hp
  have hl : Same (hid T ρ H) (hid T (ρ.set i (some p)) (upd H p o)) := fun b x e => by
    obtain ⟨e1, e2, e3⟩ := hid_some.mp e
    have nb : b ≠ p := ne_of_none e1 hp
    refine hid_some.mpr ⟨by rw [upd_ne nb]; exact e1, e2, fun z => ?_⟩
    rcases List.mem_or_eq_of_mem_set z with z | z
    · exact e3 z
    · exact nb (Option.some.inj z)
  have fr : ∀ (m : Nat) (b : Addr), (ρ.set i (some p))[m]? = some (some b) → (m = i ∧ b = p) ∨ (m ≠ i ∧ ρ[m]? = some (some b)) := fun m b hm => by
    by_cases him : i = m
    · subst him
      rw [List.getElem?_set_self hir] at hm
      cases hm
      exact .inl ⟨rfl, rfl⟩
    · rw [List.getElem?_set_ne him] at hm
      exact .inr ⟨Ne.symm him, hm⟩
  refine ⟨ρ.set i (some p), ⟨?_, ?_, ?_, ?_, ?_, ?_, ?_, ?_, h.tabT, tabs_upd h.tabs fun x e => by rw [hp] at e; cases e⟩, Ext.of h.trk hl fun a ha => ?_⟩
  · rw [List.length_set, List.length_set]; exact h.len
  · rw [List.length_set, List.length_set]; exact h.slen
  · intro j s' hj
    by_cases hij : i = j
    · subst hij
      rw [List.getElem?_set_self hil] at hj
      cases hj
      exact ⟨.ref p, List.getElem?_set_self his, p, o, rfl, upd_same, coM hl hc⟩
    · rw [List.getElem?_set_ne hij] at hj
      obtain ⟨w, e1, e2⟩ := h.slot j s' hj
      refine ⟨w, by rw [List.getElem?_set_ne hij]; exact e1, ?_⟩
      cases s' with
      | o c' =>
        obtain ⟨x, o', z1, z2, z3⟩ := e2
        exact ⟨x, o', z1, by rw [upd_ne (ne_of_none z2 hp)]; exact z2, coM hl z3⟩
      | d x => exact svM (s := .d x) hl e2
      | t x => exact svM (s := .t x) hl e2
      | z x => exact svM (s := .z x) hl e2
      | p x => exact svM (s := .p x) hl e2
  · intro j c' hj
    by_cases hij : i = j
    · subst hij
      exact ⟨p, List.getElem?_set_self hir, List.getElem?_set_self his⟩
    · rw [List.getElem?_set_ne hij] at hj
      rw [List.getElem?_set_ne hij, List.getElem?_set_ne hij]
      exact h.own j c' hj
  · intro j b hj
    rcases fr j b hj with ⟨rfl, rfl⟩ | ⟨h1, h2⟩
    · exact ⟨c, List.getElem?_set_self hil⟩
    · rw [List.getElem?_set_ne (Ne.symm h1)]
      exact h.own' j b h2
  · intro j k b hj hk
    rcases fr j b hj with ⟨e1, e2⟩ | ⟨h1, h2⟩
    · rcases fr k b hk with ⟨e3, e4⟩ | ⟨h3, h4⟩
      · rw [e1, e3]
      · subst e2
        exact absurd (ix_mem h4) npρ
    · rcases fr k b hk with ⟨e3, e4⟩ | ⟨h3, h4⟩
      · subst e4
        exact absurd (ix_mem h2) npρ
      · exact h.inj j k b h2 h4
  · intro j b hj
    rcases fr j b hj with ⟨e1, e2⟩ | ⟨h1, h2⟩
    · subst e2
      exact npT
    · exact h.nt j b h2
  · intro a ha
    obtain ⟨x, hx, hn⟩ := h.tmp a ha
    exact ⟨x, by rw [upd_ne (ne_of_none hx hp)]; exact hx, hn⟩
  · obtain ⟨x, hx, _⟩ := h.tmp a ha
    rw [upd_ne (ne_of_none hx hp)]
/-- an owned object is written -/
theorem hid_write {a : Addr} {o : HO} (ha : some a ∈ ρ) : hid T ρ (upd H a o) = hid T ρ H := by
  funext b
  unfold hid
  by_cases hb : b = a
  · subst hb
    rw [if_pos (.inr ha), if_pos (.inr ha)]
  · rw [upd_ne hb]
theorem Sim.write {i : Nat} {a : Addr} {o : HO} {c c0 : C} (h : Sim K T ρ δ σ H) (hi : δ[i]? = some (some (.o c0))) (ha : ρ[i]? = some (some a)) (hc : CO K (hid T ρ H) o c) : Sim K T ρ (δ.set i (some (.o c))) σ (upd H a o) ∧ Ext T ρ H ρ (upd H a o) := by
  have hil : i < δ.length := (List.getElem?_eq_some_iff.mp hi).1
  have hw := hid_write (T := T) (H := H) (o := o) (ix_mem ha)
  have hσ : σ[i]? = some (some (.ref a)) := by
    obtain ⟨b, e1, e2⟩ := h.own i c0 hi
    rw [ha] at e1
    cases e1
    exact e2
  refine ⟨⟨?_, ?_, ?_, ?_, ?_, h.inj, h.nt, ?_, h.tabT, tabs_upd h.tabs (h.nb hi ha)⟩, Ext.of h.trk (by rw [hw]; exact Same.refl _) fun b hb => ?_⟩
  · rw [List.length_set]; exact h.len
  · rw [List.length_set]; exact h.slen
  · intro j s hj
    by_cases hij : i = j
    · subst hij
      rw [List.getElem?_set_self hil] at hj
      cases hj
      exact ⟨.ref a, hσ, a, o, rfl, upd_same, by rw [hw]; exact hc⟩
    · rw [List.getElem?_set_ne hij] at hj
      obtain ⟨w, e1, e2⟩ := h.slot j s hj
      refine ⟨w, e1, ?_⟩
      cases s with
      | o c' =>
        obtain ⟨b, f1, f2⟩ := h.own j c' hj
        obtain ⟨x, o', z1, z2, z3⟩ := e2
        rw [e1, z1] at f2
        cases f2
        have nb : b ≠ a := fun z => by
          subst z
          exact hij (h.inj i j b ha f1)
        exact ⟨b, o', z1, by rw [upd_ne nb]; exact z2, by rw [hw]; exact z3⟩
      | d x => exact (show SV K (hid T ρ (upd H a o)) w (.d x) by rw [hw]; exact e2)
      | t x => exact (show SV K (hid T ρ (upd H a o)) w (.t x) by rw [hw]; exact e2)
      | z x => exact (show SV K (hid T ρ (upd H a o)) w (.z x) by rw [hw]; exact e2)
      | p x => exact (show SV K (hid T ρ (upd H a o)) w (.p x) by rw [hw]; exact e2)
  · intro j c' hj
    by_cases hij : i = j
    · subst hij
      exact ⟨a, ha, hσ⟩
    · rw [List.getElem?_set_ne hij] at hj
      exact h.own j c' hj
  · intro j b hj
    by_cases hij : i = j
    · subst hij
      exact ⟨c, List.getElem?_set_self hil⟩
    · rw [List.getElem?_set_ne hij]
      exact h.own' j b hj
  · intro b hb
    obtain ⟨x, hx, hn⟩ := h.tmp b hb
    by_cases hba : b = a
    · exact ⟨o, by rw [hba, upd_same], co_nt hc⟩
    · exact ⟨x, by rw [upd_ne hba]; exact hx, hn⟩
  · have nb : b ≠ a := fun z => by
      subst z
      exact h.nt i b ha hb
    rw [upd_ne nb]
end

/-! ### statements -/
section
variable {X : Cx} {P : List Nat} {pos : Pos} {e : Expr}
def nxS : SEV := fun δ => some (.nx δ)
def seqS (f g : SEV) : SEV := fun δ => (f δ).bind fun
  | .nx δ' => g δ'
  | o => some o
theorem dss_nil : DSs X P [] nxS := pss_imp pss_nil fun D σ H ⟨T, ρ, δ, o, hs, hf, hq⟩ => by
  cases hf
  exact hq ρ σ H hs .refl .refl
theorem ds_pass : DS X P (.Pass pos) nxS := ps_imp ps_pass fun D σ H ⟨T, ρ, δ, o, hs, hf, hq⟩ => by
  cases hf
  exact hq ρ σ H hs .refl .refl
theorem dss_cons {st : Stmt} {rest : List Stmt} {f g : SEV} (h1 : DS X P st f) (h2 : DSs X P rest g) : DSs X P (st :: rest) (seqS f g) := pss_imp (pss_cons h1 h2) fun D σ H ⟨T, ρ, δ, o, hs, hf, hq⟩ => by
  unfold seqS at hf
  cases ea : f δ with
  | none => rw [ea] at hf; cases hf
  | some x =>
    rw [ea] at hf
    simp only [Option.bind_some] at hf
    refine ⟨T, ρ, δ, x, hs, ea, ?_⟩
    cases x with
    | nx δ1 => exact fun ρ' σ' H' s1 x1 k1 => ⟨T, ρ', δ1, o, s1, hf, postS_step x1 k1 hq⟩
    | bk δ1 => cases hf; exact hq
    | ct δ1 => cases hf; exact hq
    | rt s δ1 => cases hf; exact hq
theorem dss_one {st : Stmt} {f : SEV} (h1 : DS X P st f) : DSs X P [st] f := pss_one h1
def setS (i : Nat) (f : EV) : SEV := fun δ => (f δ).map fun r => .nx (r.2.set i (some r.1))
theorem set_ok {K : PySem.W.Frag} {i : Nat} {f : EV} (hP : i ∉ P) {D : Ends} {σ : L2.St} {H : Hp} (h : liftS K P (setS i f) D σ H) : lift K f σ H (fun x H1 => gName i x σ H1 D.nx) := by
  obtain ⟨T, ρ, δ, o, hs, hf, hq⟩ := h
  unfold setS at hf
  cases ea : f δ with
  | none => rw [ea] at hf; cases hf
  | some x =>
    obtain ⟨s, δ1⟩ := x
    rw [ea] at hf
    cases hf
    have kp : ∀ v : V, Keep P σ (σ.set i (some v)) := fun v j hj => List.getElem?_set_ne (fun z : i = j => hP (by rw [z]; exact hj))
    refine ⟨T, ρ, δ, s, δ1, hs, ea, ?_⟩
    cases s with
    | o c =>
      intro ρ' p H0 o s1 x1 hp hc
      obtain ⟨ρ2, a, b⟩ := s1.setO (i := i) hp hc
      exact hq ρ2 _ _ a (x1.trans b) (kp _)
    | d c =>
      intro ρ' v H' s1 x1 hv
      obtain ⟨a, b⟩ := s1.setD (i := i) hv
      exact hq _ _ _ a (x1.trans b) (kp _)
    | t c =>
      intro ρ' v H' s1 x1 hv
      obtain ⟨a, b⟩ := s1.setD (i := i) hv
      exact hq _ _ _ a (x1.trans b) (kp _)
    | z c =>
      intro ρ' v H' s1 x1 hv
      obtain ⟨a, b⟩ := s1.setD (i := i) hv
      exact hq _ _ _ a (x1.trans b) (kp _)
    | p c =>
      intro ρ' v H' s1 x1 hv
      obtain ⟨a, b⟩ := s1.setD (i := i) hv
      exact hq _ _ _ a (x1.trans b) (kp _)
theorem ds_set {i : Nat} {x : Str} {f : EV} {pos' : Pos} (hN : X.N.Nodup) (hi : X.N[i]? = some x) (hx : Loc X.env.scope x) (hP : i ∉ P) (he : DE X e f) (hs : swapsWith e (some (.Name x pos')) pos.line X.env = pure false := by rfl)
    (hf : X.fn x = true ∨ X.env.scope.names.lookup x = some .local := by first | exact .inl rfl | exact .inr rfl | assumption) : DS X P (.Assign [.Name x pos'] e pos) (setS i f) := ps_imp (ps_set hN hi hx he hs hf) fun D σ H h => set_ok hP h
def exprS (f : EV) : SEV := fun δ => (f δ).map fun r => .nx r.2
theorem ds_expr {f : EV} (he : DE X e f) (hs : swapsWith e none pos.line X.env = pure false := by rfl) : DS X P (.Expr e pos) (exprS f) := ps_imp (ps_expr he hs) fun D σ H ⟨T, ρ, δ, o, hs, hf, hq⟩ => by
  unfold exprS at hf
  cases ea : f δ with
  | none => rw [ea] at hf; cases hf
  | some x =>
    obtain ⟨s, δ1⟩ := x
    rw [ea] at hf
    cases hf
    refine ⟨T, ρ, δ, s, δ1, hs, ea, ?_⟩
    cases s with
    | o c => exact fun ρ' p H0 o s1 x1 hp hc => hq ρ' σ _ (s1.mono (same_new hp)) (x1.trans (s1.trk.extT (same_new hp))) .refl
    | d c => exact fun ρ' v H' s1 x1 hv => hq ρ' σ _ s1 x1 .refl
    | t c => exact fun ρ' v H' s1 x1 hv => hq ρ' σ _ s1 x1 .refl
    | z c => exact fun ρ' v H' s1 x1 hv => hq ρ' σ _ s1 x1 .refl
    | p c => exact fun ρ' v H' s1 x1 hv => hq ρ' σ _ s1 x1 .refl
def retS (f : EV) : SEV := fun δ => (f δ).map fun r => .rt r.1 r.2
theorem ds_ret {f : EV} (he : DE X e f) : DS X P (.Return (some e) pos) (retS f) := ps_imp (ps_ret he) fun D σ H ⟨T, ρ, δ, o, hs, hf, hq⟩ => by
  unfold retS at hf
  cases ea : f δ with
  | none => rw [ea] at hf; cases hf
  | some x =>
    rw [ea] at hf
    cases hf
    exact ⟨T, ρ, δ, x.1, x.2, hs, by rw [ea], post_mk hq⟩
def ifS (t : TEV) (f g : SEV) : SEV := fun δ => (t δ).bind fun r => if r.1 then f r.2 else g r.2
theorem ds_if {c : Expr} {a b : List Stmt} {t : TEV} {f g : SEV} (hc : DT X c t) (ha : DSs X P a f) (hb : DSs X P b g) : DS X P (.If c a b pos) (ifS t f g) := ps_imp (ps_if hc ha hb) fun D σ H ⟨T, ρ, δ, o, hs, hf, hq⟩ => by
  unfold ifS at hf
  cases ea : t δ with
  | none => rw [ea] at hf; cases hf
  | some x =>
    obtain ⟨k, δ1⟩ := x
    rw [ea] at hf
    simp only [Option.bind_some] at hf
    refine ⟨T, ρ, δ, k, δ1, hs, ea, fun ρ' H' s1 x1 => ?_⟩
    cases k with
    | true =>
      rw [if_pos rfl] at hf
      rw [if_pos rfl]
      exact ⟨T, ρ', δ1, o, s1, hf, postS_step x1 .refl hq⟩
    | false =>
      rw [if_neg Bool.false_ne_true] at hf
      rw [if_neg Bool.false_ne_true]
      exact ⟨T, ρ', δ1, o, s1, hf, postS_step x1 .refl hq⟩
end
end DL

namespace DL
open PySem PySem.Spec PyProof.Rows L2
variable [TB]

/-! ### defs and their calls -/
abbrev FN := List S → Option (S × List (Option C))
section
variable (K : PySem.W.Frag) (T : List Addr) (as : List (Option Addr)) (H : Hp)
def Own (cs : List (Option C)) : Prop := ∀ (k : Nat) (a : Addr), as[k]? = some (some a) → ∃ c o, cs[k]? = some (some c) ∧ H a = some o ∧ CO K (hid T as H) o c
def PostF (Q : VK) (cs : List (Option C)) : S → Prop
  | .o c => ∀ p H0 o, Own K T as H0 cs → Ext T as H as H0 → H0 p = none → CO K (hid T as H0) o c → Q (.ref p) (upd H0 p o)
  | s => ∀ v H', Own K T as H' cs → Ext T as H as H' → SV K (hid T as H') v s → Q v H'
end
def spF (K : PySem.W.Frag) (m : Nat) (F : FN) : Sp := fun vs H Q _ => ∃ T as ss r cs, Sim K T as (ss.map some) (vs.map some) H ∧ ss.length = m ∧ F ss = some (r, cs) ∧ PostF K T as H Q cs r
def ownC (P : List Nat) : Nat → List S → Ds → Option (List (Option C))
  | _, [], _ => some []
  | k, .o _ :: ss, some (.o c) :: δ => if k ∈ P then (ownC P (k + 1) ss δ).map (some c :: ·) else none
  | _, .o _ :: _, _ => none
  | k, _ :: ss, _ :: δ => (ownC P (k + 1) ss δ).map (none :: ·)
  | _, _ :: _, [] => none
def finF (P : List Nat) (ss : List S) : Option Out → Option (S × List (Option C))
  | some (.rt s δ) => (ownC P 0 ss δ).map fun cs => (s, cs)
  | some (.nx δ) => (ownC P 0 ss δ).map fun cs => (.d .none, cs)
  | _ => none
def runF (P : List Nat) (n : Nat) (body : SEV) : FN := fun ss => finF P ss (body (ss.map some ++ List.replicate (n - ss.length) none))
theorem ownC_spec {P : List Nat} : ∀ {k : Nat} {ss : List S} {δ : Ds} {cs : List (Option C)}, ownC P k ss δ = some cs → ∀ (j : Nat) (c0 : C), ss[j]? = some (.o c0) → k + j ∈ P ∧ ∃ c, δ[j]? = some (some (.o c)) ∧ cs[j]? = some (some c)
  | k, [], δ, cs, h, j, c0, e => by simp at e
  | k, .o c :: ss, some (.o c') :: δ, cs, h, j, c0, e => by
    unfold ownC at h
    split at h
    · rename_i hk
      cases e1 : ownC P (k + 1) ss δ with
      | none => rw [e1] at h; cases h
      | some r =>
        rw [e1] at h
        cases h
        cases j with
        | zero => exact ⟨hk, c', rfl, rfl⟩
        | succ j =>
          obtain ⟨a, c1, b, d⟩ := ownC_spec e1 j c0 (by simpa using e)
          exact ⟨by rw [show k + (j + 1) = k + 1 + j by omega]; exact a, c1, by simpa using b, by simpa using d⟩
    · cases h
  | k, .d x :: ss, y :: δ, cs, h, j, c0, e => by
    unfold ownC at h
    cases e1 : ownC P (k + 1) ss δ with
    | none => rw [e1] at h; cases h
    | some r =>
      rw [e1] at h
      cases h
      cases j with
      | zero => simp at e
      | succ j =>
        obtain ⟨a, c1, b, d⟩ := ownC_spec e1 j c0 (by simpa using e)
        exact ⟨by rw [show k + (j + 1) = k + 1 + j by omega]; exact a, c1, by simpa using b, by simpa using d⟩
  | k, .t x :: ss, y :: δ, cs, h, j, c0, e => by
    unfold ownC at h
    cases e1 : ownC P (k + 1) ss δ with
    | none => rw [e1] at h; cases h
    | some r =>
      rw [e1] at h
      cases h
      cases j with
      | zero => simp at e
      | succ j =>
        obtain ⟨a, c1, b, d⟩ := ownC_spec e1 j c0 (by simpa using e)
        exact ⟨by rw [show k + (j + 1) = k + 1 + j by omega]; exact a, c1, by simpa using b, by simpa using d⟩
  | k, .z x :: ss, y :: δ, cs, h, j, c0, e => by
    unfold ownC at h
    cases e1 : ownC P (k + 1) ss δ with
    | none => rw [e1] at h; cases h
    | some r =>
      rw [e1] at h
      cases h
      cases j with
      | zero => simp at e
      | succ j =>
        obtain ⟨a, c1, b, d⟩ := ownC_spec e1 j c0 (by simpa using e)
        exact ⟨by rw [show k + (j + 1) = k + 1 + j by omega]; exact a, c1, by simpa using b, by simpa using d⟩
  | k, .p x :: ss, y :: δ, cs, h, j, c0, e => by
    unfold ownC at h
    cases e1 : ownC P (k + 1) ss δ with
    | none => rw [e1] at h; cases h
    | some r =>
      rw [e1] at h
      cases h
      cases j with
      | zero => simp at e
      | succ j =>
        obtain ⟨a, c1, b, d⟩ := ownC_spec e1 j c0 (by simpa using e)
        exact ⟨by rw [show k + (j + 1) = k + 1 + j by omega]; exact a, c1, by simpa using b, by simpa using d⟩
  | k, .o c :: ss, [], cs, h, j, c0, e => by simp [ownC] at h
  | k, .o c :: ss, none :: δ, cs, h, j, c0, e => by simp [ownC] at h
  | k, .o c :: ss, some (.d x) :: δ, cs, h, j, c0, e => by simp [ownC] at h
  | k, .o c :: ss, some (.t x) :: δ, cs, h, j, c0, e => by simp [ownC] at h
  | k, .o c :: ss, some (.z x) :: δ, cs, h, j, c0, e => by simp [ownC] at h
  | k, .o c :: ss, some (.p x) :: δ, cs, h, j, c0, e => by simp [ownC] at h
  | k, .z c :: ss, [], cs, h, j, c0, e => by simp [ownC] at h
  | k, .p c :: ss, [], cs, h, j, c0, e => by simp [ownC] at h
  | k, .d c :: ss, [], cs, h, j, c0, e => by simp [ownC] at h
  | k, .t c :: ss, [], cs, h, j, c0, e => by simp [ownC] at h
theorem mem_app_none {ρ : List (Option Addr)} {n : Nat} {b : Addr} : some b ∈ ρ ++ List.replicate n none ↔ some b ∈ ρ := by
  rw [List.mem_append]
  constructor
  · rintro (h | h)
    · exact h
    · cases (List.mem_replicate.mp h).2
  · exact .inl
theorem hid_app {T : List Addr} {ρ : List (Option Addr)} {n : Nat} {H : Hp} : hid T (ρ ++ List.replicate n none) H = hid T ρ H := by
  funext b
  unfold hid
  simp only [mem_app_none]
theorem get_app {α : Type} {l : List (Option α)} {n j : Nat} {x : α} (h : (l ++ List.replicate n none)[j]? = some (some x)) : l[j]? = some (some x) := by
  by_cases hj : j < l.length
  · rw [List.getElem?_append_left hj] at h
    exact h
  · rw [List.getElem?_append_right (by omega), List.getElem?_replicate] at h
    split at h <;> cases h
theorem get_app' {α : Type} {l : List (Option α)} {n j : Nat} {x : α} (h : l[j]? = some (some x)) : (l ++ List.replicate n none)[j]? = some (some x) := by
  rw [List.getElem?_append_left (List.getElem?_eq_some_iff.mp h).1]
  exact h
theorem at_hid {K : PySem.W.Frag} {T T' : List Addr} {ρ ρ' : List (Option Addr)} {H : Hp} {v : V} {s : S} (e : hid T ρ H = hid T' ρ' H) (h : At K T ρ H v s) : At K T' ρ' H v s := by
  cases s with
  | o c =>
    obtain ⟨a, o, h1, h2, h3⟩ := h
    exact ⟨a, o, h1, h2, by rw [← e]; exact h3⟩
  | d x => exact (show SV K (hid T' ρ' H) v (.d x) by rw [← e]; exact h)
  | t x => exact (show SV K (hid T' ρ' H) v (.t x) by rw [← e]; exact h)
  | z x => exact (show SV K (hid T' ρ' H) v (.z x) by rw [← e]; exact h)
  | p x => exact (show SV K (hid T' ρ' H) v (.p x) by rw [← e]; exact h)
theorem Sim.start {K : PySem.W.Frag} {T : List Addr} {as : List (Option Addr)} {ss : List S} {vs : List V} {H : Hp} (h : Sim K T as (ss.map some) (vs.map some) H) (n : Nat) : Sim K T (as ++ List.replicate n none) (ss.map some ++ List.replicate n none) (vs.map some ++ List.replicate n none) H where
  len := by simpa using h.len
  slen := by simpa using h.slen
  slot := fun i s hi => let ⟨v, a, b⟩ := h.slot i s (get_app hi); ⟨v, get_app' a, at_hid hid_app.symm b⟩
  own := fun i c hi => let ⟨a, x, y⟩ := h.own i c (get_app hi); ⟨a, get_app' x, get_app' y⟩
  own' := fun i a hi => let ⟨c, x⟩ := h.own' i a (get_app hi); ⟨c, get_app' x⟩
  inj := fun i j a hi hj => h.inj i j a (get_app hi) (get_app hj)
  nt := fun i a hi => h.nt i a (get_app hi)
  tmp := h.tmp
  tabT := h.tabT
  tabs := h.tabs
/-! ### a def's promise where no guard stands -/
structure FnG (Pr : Program) (w : World) (K : PySem.W.Frag) (mg : Str → Option Value) (base : Heap) (k : Nat) (f : Addr) (fd : FuncData) (ps : List Str) (sp : Sp) : Prop where
  len : ∀ vs H Q E, sp vs H Q E → vs.length = ps.length
  run : ∀ (A : Around) (outer : List Env) (s : Shared) (H : Hp) (args : Args) (us : List Value) (vs : List V) (Q : VK) (E : XK), A.guards = some [] → Room k A → Env0 Pr w K mg base A outer s H →
    BindsTo s fd args (ps.zip us) → Vals vs us → sp vs H Q E → codeAny (model Pr w) A (.call (.ref f) args) (CR CX0 outer Pr w H s Q E) s
theorem FnG.mono {Pr : Program} {w : World} {K : PySem.W.Frag} {mg : Str → Option Value} {base : Heap} {j k : Nat} {f : Addr} {fd : FuncData} {ps : List Str} {sp : Sp} (F : FnG Pr w K mg base j f fd ps sp) (h : j ≤ k) :
    FnG Pr w K mg base k f fd ps sp :=
  ⟨F.len, fun A outer s H args us vs Q E hG hr =>
    F.run A outer s H args us vs Q E hG (hr.mono h)⟩
theorem gfn_of {Pr : Program} {w : World} {K : PySem.W.Frag} {mg : Str → Option Value} {base : Heap} {x qual : Str} {st : Stmt} {f : Addr} {fd : FuncData} {N ps : List Str} {k : Nat} {sp : Sp} (F : Fun K x qual st f fd) (Sc : FnScope N ps (defScope st))
    (hlen : ∀ vs H Q E, sp vs H Q E → vs.length = ps.length)
    (hbody : ∀ (cdv : Value) (A : Around) (outer : List Env) (s : Shared) (H : Hp) (vs : List V) (Q : VK) (E : XK), A.guards = some [] → Room k (A.deeper (envOfC qual (defScope st) s.heap.objs.size f cdv)) → sp vs H Q E →
      ∃ t, PSs (cxOf CX0 Pr w K mg base N qual (defScope st) f cdv A outer s H E).nox (defBody st) t ∧ t { nx := fun _ H' => Q .non H', rt := Q } (L2.start N vs) H) :
    FnG Pr w K mg base (k + 1) f fd ps sp := by
  obtain ⟨oc, od, kV, doc, pm, an, cdv, ct, osl, efd, lk, hcd⟩ := F.ex
  subst efd
  constructor
  · exact hlen
  intro A outer s H args us vs Q E hG hr e0 hb r hsp
  have vl := hlen _ _ _ _ hsp
  have kept : ∀ b o, base.get? b = some o → s.heap.get? b = some o := fun b o e => (e0.bs b o e).1
  have KX : K.In s.heap := e0.mod.kin.keeps kept
  have nl : s.heap.NoLimit := e0.mod.nolimit.keeps kept
  have kinds : ∀ y ∈ ps.zip us, (defScope st).names.lookup y.1 = some .local ∨
      ((defScope st).names.lookup y.1 = some .cell ∧
        ((cellsFrom (s.heap.objs.size + 1) (defScope st).names []).lookup y.1).isSome = true) := by
    intro y hy
    have hm : y.1 ∈ ps := (List.of_mem_zip (a := y.1) (b := y.2) hy).1
    rcases Sc.par y.1 hm with q | q
    · exact .inl q
    · refine .inr ⟨q, ?_⟩
      exact PySem.W.cellsFrom_some _ _ _ (.inl q)
  refine codeAny_call_function hr.depth (KX _ _ lk) rfl Sc.co Sc.gen rfl ?_ (hb _ _ _ _ ?_)
  · exact PySem.W.codeRec_of KX hcd
  refine wpAny_newFunctionEnv_cells Sc.kind kinds ?_
  intro env henv s1 x1
  subst henv
  refine ⟨nl.keeps x1.toInCall.keep, ?_⟩
  apply codeAny_func
  obtain ⟨t, ht, hq⟩ := hbody cdv A outer s H vs Q E hG (hr.deeper _) hsp
  have I0 := inv_start (CX := CX0) (E := E) Sc hr.hd e0 vl r x1
  have W := ht.nox.run [] s1 (L2.start N vs) H _ I0 hq
  refine wpAny_mono W ?_ (fun _ _ z => z)
  intro fl s' hs
  cases fl with
  | ret u =>
    obtain ⟨v, σ', H', J, rv, q⟩ := hs
    exact ⟨v, H', J.os, J.bare, J.base, J.hok, rv, q⟩
  | next =>
    obtain ⟨σ', H', J, q⟩ := hs
    exact ⟨V.non, H', J.os, J.bare, J.base, J.hok, rfl, q⟩
  | brk => exact hs.elim fun _ z => z.elim fun _ z => z.2.elim
  | cont => exact hs.elim fun _ z => z.elim fun _ z => z.2.elim
theorem pe_callG {X : Cx} {x : Str} {p pos : Pos} {e : Expr} {es : List Expr} {t : TA} {k : Nat} {f : Addr} {fd : FuncData} {ps : List Str} {sp : Sp} (F : FnG X.prog X.w X.K X.mg X.base k f fd ps sp) (hG : X.A.guards = some []) (hr : Room k X.A) (hg : Gl X x) (hm : X.mg x = some (.ref f)) (hk : PySem.W.keepIn X.K (.ref f) = true) (hb : Binds X.K fd ps [])
    (ha : PA X (e :: es) t) (hdb : (x == ("__debug__" : Str)) = false := by decide) (he : starEach (e :: es) X.env = (false, eval e X.env) :: starEach es X.env := by rfl) (hpl : (backTo pos (starEach es X.env)).any (·.1) = false := by rfl) :
    PE X (.Call (.Name x p) (e :: es) [] pos) (tCall sp [] E0 t) := by
  constructor
  intro pins s σ H Q I h
  apply wpAny_Call_Name_kw
  apply ld_glob I hg hm _ hdb
  refine PySem.W.callWith_K (h₀ := X.base) I.ok.mod.kin hk (thn (ha.run pos pins s σ H _ I h) ?_) he hpl
  rintro us s1 ⟨vs, H1, I1, r, q⟩
  refine ⟨I1.kIn, ?_⟩
  have q' : sp vs H1 Q E0 := by
    have := q
    rw [List.append_nil] at this
    exact this
  have hl : us.length = ps.length := r.length.symm.trans (F.len _ _ _ _ q')
  have bt := hb s1 us I1.kIn (by rw [List.append_nil]; exact hl)
  rw [List.append_nil] at bt
  refine wpAny_call (codeAny_mono (F.run X.A X.stack s1 H1 ⟨us, []⟩ us vs Q E0 hG hr I1.env0 bt r q') ?_)
  intro rs s2 hq
  cases rs with
  | error e => exact hq.elim
  | ok fl =>
    cases fl with
    | ret u => exact I1.after hq
    | next => exact hq.elim
    | brk => exact hq.elim
    | cont => exact hq.elim
/-- THE RULE of a def -/
theorem fn_ok {Pr : Program} {w : World} {K : PySem.W.Frag} {mg : Str → Option Value} {base : Heap} {x qual : Str} {st : Stmt} {f : Addr} {fd : FuncData} {N ps : List Str} {k : Nat} {P : List Nat} {body : SEV} (F : Fun K x qual st f fd) (Sc : FnScope N ps (defScope st))
    (hbody : ∀ (cdv : Value) (A : Around) (outer : List Env) (s : Shared) (H : Hp) (E : XK), A.guards = some [] → Room k (A.deeper (envOfC qual (defScope st) s.heap.objs.size f cdv)) → DSs (cxOf CX0 Pr w K mg base N qual (defScope st) f cdv A outer s H E).nox P (defBody st) body) :
    FnG Pr w K mg base (k + 1) f fd ps (spF K ps.length (runF P N.length body)) := by
  refine gfn_of F Sc (fun vs H Q E h => ?_) (fun cdv A outer s H vs Q E hG hr h => ?_)
  · obtain ⟨T, as, ss, r, cs, hs, hl, _⟩ := h
    have := hs.slen
    simp at this
    omega
  · obtain ⟨T, as, ss, r, cs, hs, hl, hF, hq⟩ := h
    refine ⟨_, hbody cdv A outer s H E hG hr, ?_⟩
    have hvl : vs.length = ss.length := by have := hs.slen; simpa using this
    have hst := hs.start (N.length - ss.length)
    unfold runF at hF
    cases eb : body (ss.map some ++ List.replicate (N.length - ss.length) none) with
    | none => rw [eb] at hF; cases hF
    | some o =>
      rw [eb] at hF
      have hst' : Sim K T (as ++ List.replicate (N.length - ss.length) none) (ss.map some ++ List.replicate (N.length - ss.length) none) (L2.start N vs) H := by
        unfold L2.start
        rw [hvl]
        exact hst
      refine ⟨T, _, _, o, hst', eb, ?_⟩
      -- what stands at the end
      have fin : ∀ (δ : Ds), ownC P 0 ss δ = some cs → ∀ (ρ' : List (Option Addr)) (σ' : L2.St) (H' : Hp), Sim K T ρ' δ σ' H' → Ext T (as ++ List.replicate (N.length - ss.length) none) H ρ' H' → Keep P (L2.start N vs) σ' →
          Same (hid T ρ' H') (hid T as H') ∧ Own K T as H' cs ∧ Ext T as H as H' := by
        intro δ hc ρ' σ' H' s1 x1 k1
        have each : ∀ (j : Nat) (a : Addr), as[j]? = some (some a) → ∃ c, ρ'[j]? = some (some a) ∧ δ[j]? = some (some (.o c)) ∧ cs[j]? = some (some c) := by
          intro j a hj
          obtain ⟨c0, hc0⟩ := hs.own' j a hj
          have hc1 : ss[j]? = some (.o c0) := by
            rw [List.getElem?_map] at hc0
            cases e : ss[j]? with
            | none => rw [e] at hc0; cases hc0
            | some z => rw [e] at hc0; cases hc0; rfl
          obtain ⟨hP, c, e1, e2⟩ := ownC_spec hc j c0 hc1
          obtain ⟨b, f1, f2⟩ := s1.own j c e1
          obtain ⟨a', g1, g2⟩ := hst'.own j c0 (get_app' hc0)
          rw [get_app' hj] at g1
          cases g1
          have := k1 j (by simpa using hP)
          rw [f2, g2] at this
          cases this
          exact ⟨c, f1, e1, e2⟩
        have hl : Same (hid T ρ' H') (hid T as H') := hid_less fun b hb => hb.elim .inl fun z => .inr (by
          obtain ⟨j, hj⟩ := mem_ix z
          obtain ⟨c, h1, _⟩ := each j b hj
          exact ix_mem h1)
        refine ⟨hl, fun j a hj => ?_, ?_, x1.tmp, x1.tabs⟩
        · obtain ⟨c, h1, h2, h3⟩ := each j a hj
          obtain ⟨v, e1, e2⟩ := s1.slot j _ h2
          obtain ⟨b, f1, f2⟩ := s1.own j c h2
          rw [h1] at f1
          cases f1
          rw [f2] at e1
          cases e1
          obtain ⟨b, o, z, z1, z2⟩ := e2
          cases z
          exact ⟨c, o, h3, z1, coM hl z2⟩
        · have := x1.same
          rw [hid_app] at this
          exact this.trans hl
      cases o with
      | bk δ => cases hF
      | ct δ => cases hF
      | nx δ =>
        have hF' : (ownC P 0 ss δ).map (fun cs => (S.d .none, cs)) = some (r, cs) := hF
        cases e : ownC P 0 ss δ with
        | none => rw [e] at hF'; cases hF'
        | some cs' =>
          rw [e] at hF'
          cases hF'
          intro ρ' σ' H' s1 x1 k1
          obtain ⟨a, b, c⟩ := fin δ e ρ' σ' H' s1 x1 k1
          exact hq _ H' b c .non
      | rt u δ =>
        have hF' : (ownC P 0 ss δ).map (fun cs => (u, cs)) = some (r, cs) := hF
        cases e : ownC P 0 ss δ with
        | none => rw [e] at hF'; cases hF'
        | some cs' =>
          rw [e] at hF'
          cases u with
          | o z =>
            cases hF'
            intro ρ' σ' p H0 o s1 x1 k1 hp hc
            obtain ⟨a, b, c⟩ := fin δ e ρ' σ' H0 s1 x1 k1
            exact hq p H0 o b c hp (coM a hc)
          | d z =>
            cases hF'
            intro ρ' σ' v H' s1 x1 k1 hv
            obtain ⟨a, b, c⟩ := fin δ e ρ' σ' H' s1 x1 k1
            exact hq v H' b c (svM (s := .d z) a hv)
          | t z =>
            cases hF'
            intro ρ' σ' v H' s1 x1 k1 hv
            obtain ⟨a, b, c⟩ := fin δ e ρ' σ' H' s1 x1 k1
            exact hq v H' b c (svM (s := .t z) a hv)
          | z z =>
            cases hF'
            intro ρ' σ' v H' s1 x1 k1 hv
            obtain ⟨a, b, c⟩ := fin δ e ρ' σ' H' s1 x1 k1
            exact hq v H' b c (svM (s := .z z) a hv)
          | p z =>
            cases hF'
            intro ρ' σ' v H' s1 x1 k1 hv
            obtain ⟨a, b, c⟩ := fin δ e ρ' σ' H' s1 x1 k1
            exact hq v H' b c (svM (s := .p z) a hv)

/-! ### the call -/
def PV.ix : PV → Option Nat
  | .own i => some i
  | .v _ => none
def wb : Ds → List PV → List (Option C) → Option Ds
  | δ, [], _ => some δ
  | δ, .own i :: ps, some c :: cs => match slot δ i with
    | some (.o _) => wb (δ.set i (some (.o c))) ps cs
    | _ => none
  | δ, .own _ :: ps, none :: cs => wb δ ps cs
  | δ, .v _ :: ps, _ :: cs => wb δ ps cs
  | _, _ :: _, [] => none
def callE (F : FN) (m : Nat) (fa : AEV) : EV := fun δ => (fa δ).bind fun x => (resA x.2 x.1).bind fun ss => if (x.1.filterMap PV.ix).Nodup ∧ ss.length = m then (F ss).bind fun r => (wb x.2 x.1 r.2).map fun δ' => (r.1, δ') else none
theorem wb_spec : ∀ {ps : List PV} {δ δ' : Ds} {cs : List (Option C)}, (ps.filterMap PV.ix).Nodup → wb δ ps cs = some δ' → δ'.length = δ.length ∧
    (∀ (k j : Nat) (c : C), ps[k]? = some (.own j) → cs[k]? = some (some c) → δ'[j]? = some (some (.o c)) ∧ ∃ c0, δ[j]? = some (some (.o c0))) ∧
    (∀ j : Nat, (∀ (k : Nat) (c : C), ps[k]? = some (.own j) → cs[k]? = some (some c) → False) → δ'[j]? = δ[j]?)
  | [], δ, δ', cs, _, h => by
    cases h
    exact ⟨rfl, fun k j c e => by simp at e, fun j _ => rfl⟩
  | .own i :: ps, δ, δ', [], nd, h => by cases h
  | .v s :: ps, δ, δ', [], nd, h => by cases h
  | .v s :: ps, δ, δ', x :: cs, nd, h => by
    obtain ⟨h1, h2, h3⟩ := wb_spec (ps := ps) (δ := δ) (δ' := δ') (cs := cs) (show (ps.filterMap PV.ix).Nodup from nd) (by simpa [wb] using h)
    refine ⟨h1, fun k j c e1 e2 => ?_, fun j hj => h3 j fun k c e1 e2 => hj (k + 1) c (by simpa using e1) (by simpa using e2)⟩
    cases k with
    | zero => simp at e1
    | succ k => exact h2 k j c (by simpa using e1) (by simpa using e2)
  | .own i :: ps, δ, δ', none :: cs, nd, h => by
    have nd' : (i :: ps.filterMap PV.ix).Nodup := nd
    obtain ⟨h1, h2, h3⟩ := wb_spec (ps := ps) (δ := δ) (δ' := δ') (cs := cs) (List.nodup_cons.mp nd').2 (by simpa [wb] using h)
    refine ⟨h1, fun k j c e1 e2 => ?_, fun j hj => h3 j fun k c e1 e2 => hj (k + 1) c (by simpa using e1) (by simpa using e2)⟩
    cases k with
    | zero => simp at e2
    | succ k => exact h2 k j c (by simpa using e1) (by simpa using e2)
  | .own i :: ps, δ, δ', some c :: cs, nd, h => by
    have nd' : (i :: ps.filterMap PV.ix).Nodup := nd
    unfold wb at h
    split at h
    · rename_i c0 hc0
      have hc1 := slot_some hc0
      have hil : i < δ.length := (List.getElem?_eq_some_iff.mp hc1).1
      obtain ⟨h1, h2, h3⟩ := wb_spec (ps := ps) (δ := δ.set i (some (.o c))) (δ' := δ') (cs := cs) (List.nodup_cons.mp nd').2 h
      have hni : ∀ (k : Nat), ps[k]? = some (.own i) → False := fun k e => (List.nodup_cons.mp nd').1 (List.mem_filterMap.mpr ⟨.own i, ix_mem e, rfl⟩)
      refine ⟨by rw [h1, List.length_set], fun k j c' e1 e2 => ?_, fun j hj => ?_⟩
      · cases k with
        | zero =>
          simp at e1 e2
          subst e1 e2
          refine ⟨?_, c0, hc1⟩
          rw [h3 i fun k c e _ => hni k e, List.getElem?_set_self hil]
        | succ k =>
          obtain ⟨a, c1, b⟩ := h2 k j c' (by simpa using e1) (by simpa using e2)
          refine ⟨a, ?_⟩
          by_cases hij : i = j
          · subst hij
            exact ⟨c0, hc1⟩
          · rw [List.getElem?_set_ne hij] at b
            exact ⟨c1, b⟩
      · have hij : i ≠ j := fun z => hj 0 c (by rw [z]; rfl) rfl
        rw [h3 j fun k c e1 e2 => hj (k + 1) c (by simpa using e1) (by simpa using e2), List.getElem?_set_ne hij]
    · cases h
def asOf (ρ : List (Option Addr)) : PV → Option Addr
  | .own i => (ρ[i]?).join
  | .v _ => none
def tmps (T : List Addr) (ρ as : List (Option Addr)) : List Addr := T ++ (ρ.filterMap id).filter fun a => decide (some a ∉ as)
theorem join_some {α : Type} {x : Option (Option α)} {a : α} (h : x.join = some a) : x = some (some a) := by
  cases x with
  | none => cases h
  | some y => cases y with
    | none => cases h
    | some z => cases h; rfl
theorem tmps_iff {T : List Addr} {ρ : List (Option Addr)} {ps : List PV} {b : Addr} : (b ∈ tmps T ρ (ps.map (asOf ρ)) ∨ some b ∈ ps.map (asOf ρ)) ↔ (b ∈ T ∨ some b ∈ ρ) := by
  have back : some b ∈ ps.map (asOf ρ) → some b ∈ ρ := fun h => by
    obtain ⟨p, hp, e⟩ := List.mem_map.mp h
    cases p with
    | v s => cases e
    | own i => exact ix_mem (join_some e)
  unfold tmps
  constructor
  · rintro (h | h)
    · rcases List.mem_append.mp h with h | h
      · exact .inl h
      · obtain ⟨x, hx, e⟩ := List.mem_filterMap.mp (List.mem_filter.mp h).1
        cases x with
        | none => cases e
        | some y => cases e; exact .inr hx
    · exact .inr (back h)
  · rintro (h | h)
    · exact .inl (List.mem_append_left _ h)
    · by_cases hb : some b ∈ ps.map (asOf ρ)
      · exact .inr hb
      · exact .inl (List.mem_append_right _ (List.mem_filter.mpr ⟨List.mem_filterMap.mpr ⟨some b, h, rfl⟩, decide_eq_true hb⟩))
theorem hid_tmps {T : List Addr} {ρ : List (Option Addr)} {ps : List PV} {H : Hp} : hid (tmps T ρ (ps.map (asOf ρ))) (ps.map (asOf ρ)) H = hid T ρ H := by
  funext b
  unfold hid
  simp only [tmps_iff]
theorem resA_get {δ : Ds} : ∀ {ps : List PV} {ss : List S}, resA δ ps = some ss → ss.length = ps.length ∧ ∀ k : Nat, (ps[k]?).bind (res δ) = ss[k]?
  | [], ss, h => by cases h; exact ⟨rfl, fun k => by simp⟩
  | p :: ps, ss, h => by
    unfold resA at h
    cases e1 : res δ p with
    | none => rw [e1] at h; cases h
    | some s =>
      rw [e1] at h
      cases e2 : resA δ ps with
      | none => rw [e2] at h; cases h
      | some r =>
        rw [e2] at h
        cases h
        obtain ⟨a, b⟩ := resA_get e2
        refine ⟨by simp [a], fun k => ?_⟩
        cases k with
        | zero => simpa using e1
        | succ k => simpa using b k
theorem paired_get {α β : Type} {R : α → β → Prop} : ∀ {xs : List α} {ys : List β}, Paired R xs ys → ∀ (k : Nat) (y : β), ys[k]? = some y → ∃ x, xs[k]? = some x ∧ R x y
  | _, _, .nil, k, y, e => by simp at e
  | _, _, .cons r t, 0, y, e => by simp at e; subst e; exact ⟨_, rfl, r⟩
  | _, _, .cons r t, k + 1, y, e => by
    obtain ⟨x, a, b⟩ := paired_get t k y (by simpa using e)
    exact ⟨x, by simpa using a, b⟩
theorem call_ok {K : PySem.W.Frag} {F : FN} {m : Nat} {fa : AEV} (σ : L2.St) (H : Hp) (Q : VK) (h : lift K (callE F m fa) σ H Q) : tCall (spF K m F) [] E0 (liftA K fa) σ H Q := by
  obtain ⟨T, ρ, δ, s, δ', hs, hf, hq⟩ := h
  unfold callE at hf
  cases ea : fa δ with
  | none => rw [ea] at hf; cases hf
  | some x =>
    rw [ea] at hf
    simp only [Option.bind_some] at hf
    obtain ⟨ps, δ1⟩ := x
    simp only at hf
    cases eb : resA δ1 ps with
    | none => rw [eb] at hf; cases hf
    | some ss =>
      rw [eb] at hf
      simp only [Option.bind_some] at hf
      split at hf
      case isFalse => cases hf
      rename_i hnd
      cases e3 : F ss with
      | none => rw [e3] at hf; cases hf
      | some z =>
        obtain ⟨r, cs⟩ := z
        rw [e3] at hf
        simp only [Option.bind_some] at hf
        cases e4 : wb δ1 ps cs with
        | none => rw [e4] at hf; cases hf
        | some δ2 =>
          rw [e4] at hf
          cases hf
          refine ⟨T, ρ, δ, ps, δ1, hs, ea, fun ρ1 vs H1 s1 x1 p1 => ?_⟩
          obtain ⟨hlen, hget⟩ := resA_get eb
          have hat := pats_at s1 .refl p1 eb
          have hvl : vs.length = ps.length := Paired.length p1
          obtain ⟨w1, w2, w3⟩ := wb_spec hnd.1 e4
          -- the k-th argument is lent
          have lent : ∀ (k : Nat) (a : Addr), (ps.map (asOf ρ1))[k]? = some (some a) → ∃ i c, ps[k]? = some (.own i) ∧ ρ1[i]? = some (some a) ∧ δ1[i]? = some (some (.o c)) ∧ ss[k]? = some (.o c) := by
            intro k a hk
            rw [List.getElem?_map] at hk
            cases e : ps[k]? with
            | none => rw [e] at hk; cases hk
            | some p =>
              rw [e] at hk
              have hk' : asOf ρ1 p = some a := Option.some.inj hk
              cases p with
              | v s => cases hk'
              | own i =>
                have hi := join_some hk'
                obtain ⟨c, hc⟩ := s1.own' i a hi
                refine ⟨i, c, rfl, hi, hc, ?_⟩
                rw [← hget k, e]
                show slot δ1 i = _
                unfold slot
                rw [hc]
                rfl
          rw [List.append_nil]
          refine ⟨tmps T ρ1 (ps.map (asOf ρ1)), ps.map (asOf ρ1), ss, _, cs, ⟨?_, ?_, ?_, ?_, ?_, ?_, ?_, ?_, fun p hp => List.mem_append_left _ (s1.tabT p hp), s1.tabs⟩, hnd.2, e3, ?_⟩
          · simp [hlen]
          · simp [hlen, hvl]
          · intro k s hk
            rw [List.getElem?_map] at hk
            cases e : ss[k]? with
            | none => rw [e] at hk; cases hk
            | some s' =>
              rw [e] at hk
              cases hk
              obtain ⟨v, a, b⟩ := paired_get hat k _ e
              exact ⟨v, by rw [List.getElem?_map, a]; rfl, at_hid hid_tmps.symm b⟩
          · intro k c hk
            rw [List.getElem?_map] at hk
            cases e : ss[k]? with
            | none => rw [e] at hk; cases hk
            | some s' =>
              rw [e] at hk
              cases hk
              have hg := hget k
              rw [e] at hg
              cases ep : ps[k]? with
              | none => rw [ep] at hg; cases hg
              | some p =>
                rw [ep] at hg
                have hg' : res δ1 p = some (.o c) := hg
                obtain ⟨v, b1, b2⟩ := paired_get p1 k p ep
                cases p with
                | v s =>
                  cases hg'
                  exact b2.elim
                | own i =>
                  obtain ⟨a, c1, c2⟩ := s1.own i c (slot_some hg')
                  refine ⟨a, ?_, ?_⟩
                  · rw [List.getElem?_map, ep]
                    show some ((ρ1[i]?).join) = _
                    rw [c1]
                    rfl
                  · have b2' : σ[i]? = some (some v) := b2
                    rw [c2] at b2'
                    cases b2'
                    rw [List.getElem?_map, b1]
                    rfl
          · intro k a hk
            obtain ⟨i, c, _, _, _, h4⟩ := lent k a hk
            exact ⟨c, by rw [List.getElem?_map, h4]; rfl⟩
          · intro k l a hk hl
            obtain ⟨i, c, h1, h2, _, _⟩ := lent k a hk
            obtain ⟨j, c', g1, g2, _, _⟩ := lent l a hl
            have hij := s1.inj i j a h2 g2
            subst hij
            exact nodup_fm hnd.1 h1 g1
          · intro k a hk hm
            obtain ⟨i, c, h1, h2, _, _⟩ := lent k a hk
            rcases List.mem_append.mp hm with hm | hm
            · exact s1.nt i a h2 hm
            · have := of_decide_eq_true (List.mem_filter.mp hm).2
              exact this (ix_mem hk)
          · intro a hm
            rcases tmps_iff.mp (.inl hm) with h | h
            · exact s1.tmp a h
            · exact s1.trk.own a h
          · -- behind the call
            have back : ∀ H', Own K (tmps T ρ1 (ps.map (asOf ρ1))) (ps.map (asOf ρ1)) H' cs → Ext (tmps T ρ1 (ps.map (asOf ρ1))) (ps.map (asOf ρ1)) H1 (ps.map (asOf ρ1)) H' → Sim K T ρ1 δ' σ H' ∧ Ext T ρ1 H1 ρ1 H' := by
              intro H' hown hext
              have hl : Same (hid T ρ1 H1) (hid T ρ1 H') := by
                have := hext.same
                rw [hid_tmps, hid_tmps] at this
                exact this
              have slots : ∀ (j : Nat), δ'[j]? = δ1[j]? ∧ (∀ c, δ1[j]? = some (some (.o c)) → ∃ a o, ρ1[j]? = some (some a) ∧ H' a = some o ∧ CO K (hid T ρ1 H') o c) ∨ ∃ a c c0 o, ρ1[j]? = some (some a) ∧ δ1[j]? = some (some (.o c0)) ∧ δ'[j]? = some (some (.o c)) ∧ H' a = some o ∧ CO K (hid T ρ1 H') o c := by
                intro j
                by_cases hj : ∃ (k : Nat) (c : C), ps[k]? = some (PV.own j) ∧ cs[k]? = some (some c)
                · obtain ⟨k, c, k1, k2⟩ := hj
                  obtain ⟨a1, c0, a2⟩ := w2 k j c k1 k2
                  obtain ⟨a, b1, b2⟩ := s1.own j c0 a2
                  have hk : (ps.map (asOf ρ1))[k]? = some (some a) := by
                    rw [List.getElem?_map, k1]
                    show some ((ρ1[j]?).join) = _
                    rw [b1]
                    rfl
                  obtain ⟨c', o, d1, d2, d3⟩ := hown k a hk
                  rw [k2] at d1
                  cases d1
                  rw [hid_tmps] at d3
                  exact .inr ⟨a, c, c0, o, b1, a2, a1, d2, d3⟩
                · refine .inl ⟨w3 j fun k c e1 e2 => hj ⟨k, c, e1, e2⟩, fun c hc => ?_⟩
                  obtain ⟨a, b1, b2⟩ := s1.own j c hc
                  obtain ⟨v, e1, e2⟩ := s1.slot j _ hc
                  rw [b2] at e1
                  cases e1
                  obtain ⟨a', o, z, z1, z2⟩ := e2
                  cases z
                  by_cases hk : some a ∈ ps.map (asOf ρ1)
                  · obtain ⟨k, hk⟩ := mem_ix hk
                    obtain ⟨i, c', h1, h2, h3, h4⟩ := lent k a hk
                    have := s1.inj i j a h2 b1
                    subst this
                    obtain ⟨c2, o2, d1, d2, d3⟩ := hown k a hk
                    exact absurd ⟨k, c2, h1, d1⟩ hj
                  · have hm : a ∈ tmps T ρ1 (ps.map (asOf ρ1)) := (tmps_iff.mpr (.inr (ix_mem b1))).resolve_right hk
                    exact ⟨a, o, b1, hext.at hm z1 (co_nb z2).1, coM hl z2⟩
              refine ⟨⟨by rw [w1]; exact s1.len, by rw [w1]; exact s1.slen, ?_, ?_, ?_, s1.inj, s1.nt, ?_, s1.tabT, hext.tabs s1.tabs⟩, hl, fun a ha => hext.tmp a (List.mem_append_left _ ha), hext.tabs⟩
              · intro j s hj
                rcases slots j with ⟨e1, e2⟩ | ⟨a, c, c0, o, f1, f2, f3, f4, f5⟩
                · rw [e1] at hj
                  obtain ⟨v, g1, g2⟩ := s1.slot j s hj
                  refine ⟨v, g1, ?_⟩
                  cases s with
                  | o c =>
                    obtain ⟨a, o, d1, d2, d3⟩ := e2 c hj
                    obtain ⟨a', b1, b2⟩ := s1.own j c hj
                    rw [d1] at b1
                    cases b1
                    rw [b2] at g1
                    cases g1
                    exact ⟨a, o, rfl, d2, d3⟩
                  | d y => exact svM (s := .d y) hl g2
                  | t y => exact svM (s := .t y) hl g2
                  | z y => exact svM (s := .z y) hl g2
                  | p y => exact svM (s := .p y) hl g2
                · rw [f3] at hj
                  cases hj
                  obtain ⟨a', b1, b2⟩ := s1.own j c0 f2
                  rw [f1] at b1
                  cases b1
                  exact ⟨.ref a, b2, a, o, rfl, f4, f5⟩
              · intro j c hj
                rcases slots j with ⟨e1, e2⟩ | ⟨a, c', c0, o, f1, f2, f3, f4, f5⟩
                · rw [e1] at hj
                  exact s1.own j c hj
                · exact s1.own j c0 f2
              · intro j a hj
                rcases slots j with ⟨e1, e2⟩ | ⟨a, c', c0, o, f1, f2, f3, f4, f5⟩
                · rw [e1]
                  exact s1.own' j a hj
                · exact ⟨c', f3⟩
              · intro a ha
                exact (hext.tmp a (List.mem_append_left _ ha)).nt (s1.tmp a ha)
            cases s with
            | o c =>
              intro p H0 o ho hx hp hc
              obtain ⟨a, b⟩ := back H0 ho hx
              exact hq ρ1 p H0 o a (x1.trans b) hp (by rw [hid_tmps] at hc; exact hc)
            | d c =>
              intro v H' ho hx hv
              obtain ⟨a, b⟩ := back H' ho hx
              exact hq ρ1 v H' a (x1.trans b) (by rw [hid_tmps] at hv; exact hv)
            | t c =>
              intro v H' ho hx hv
              obtain ⟨a, b⟩ := back H' ho hx
              exact hq ρ1 v H' a (x1.trans b) (by rw [hid_tmps] at hv; exact hv)
            | z c =>
              intro v H' ho hx hv
              obtain ⟨a, b⟩ := back H' ho hx
              exact hq ρ1 v H' a (x1.trans b) (by rw [hid_tmps] at hv; exact hv)
            | p c =>
              intro v H' ho hx hv
              obtain ⟨a, b⟩ := back H' ho hx
              exact hq ρ1 v H' a (x1.trans b) (by rw [hid_tmps] at hv; exact hv)
where
  nodup_fm {ps : List PV} {k l i : Nat} (nd : (ps.filterMap PV.ix).Nodup) (h1 : ps[k]? = some (.own i)) (h2 : ps[l]? = some (.own i)) : k = l := by
    induction ps generalizing k l with
    | nil => simp at h1
    | cons p ps ih =>
      have tail : (ps.filterMap PV.ix).Nodup := by
        cases p with
        | v s => exact nd
        | own j =>
          have nd' : (j :: ps.filterMap PV.ix).Nodup := nd
          exact (List.nodup_cons.mp nd').2
      have hd : ∀ m : Nat, p = .own i → ps[m]? = some (.own i) → False := fun m e1 e2 => by
        subst e1
        have nd' : (i :: ps.filterMap PV.ix).Nodup := nd
        exact (List.nodup_cons.mp nd').1 (List.mem_filterMap.mpr ⟨.own i, ix_mem e2, rfl⟩)
      cases k with
      | zero =>
        cases l with
        | zero => rfl
        | succ l => exact (hd l (by simpa using h1) (by simpa using h2)).elim
      | succ k =>
        cases l with
        | zero => exact (hd k (by simpa using h2) (by simpa using h1)).elim
        | succ l => exact congrArg (· + 1) (ih (k := k) (l := l) tail (by simpa using h1) (by simpa using h2))
section
variable {X : Cx} {pos p : Pos} {e : Expr} {es : List Expr} {x : Str}
theorem de_call {k : Nat} {f : Addr} {fd : FuncData} {ps : List Str} {F : FN} {m : Nat} {fa : AEV} (G : FnG X.prog X.w X.K X.mg X.base k f fd ps (spF X.K m F)) (hG : X.A.guards = some []) (hr : Room k X.A) (hg : Gl X x) (hm : X.mg x = some (.ref f)) (hk : PySem.W.keepIn X.K (.ref f) = true) (hb : Binds X.K fd ps [])
    (ha : DA X (e :: es) fa) (hdb : (x == ("__debug__" : Str)) = false := by decide) (he : starEach (e :: es) X.env = (false, eval e X.env) :: starEach es X.env := by rfl) (hpl : (backTo pos (starEach es X.env)).any (·.1) = false := by rfl) :
    DE X (.Call (.Name x p) (e :: es) [] pos) (callE F m fa) := pe_imp (pe_callG G hG hr hg hm hk hb ha hdb he hpl) call_ok
end
end DL

namespace DL
open PySem PySem.Spec PyProof.Rows L2
variable [TB]

/-! ### what is owned is changed -/
def mutE (i : Nat) (g : C → List PyData → Option (S × C)) (fa : AEV) : EV := fun δ => match slot δ i with
  | some (.o _) => (fa δ).bind fun x => (dataA x.1).bind fun ds => match slot x.2 i with
    | some (.o c) => (g c ds).map fun r => (r.1, x.2.set i (some (.o r.2)))
    | _ => none
  | _ => none
def isL : C → Bool
  | .l _ => true
  | .t _ => false
def mutL (i : Nat) (g : List PyData → List PyData → Option (S × List PyData)) (fa : AEV) : EV := fun δ => match slot δ i with
  | some (.o (.l _)) => (fa δ).bind fun x => (dataA x.1).bind fun ds => match slot x.2 i with
    | some (.o (.l ys)) => (g ys ds).map fun r => (r.1, x.2.set i (some (.o (.l r.2))))
    | _ => none
  | _ => none
def MutD (K : PySem.W.Frag) (r : V → List V → Hp → VK → Prop) (g : List PyData → List PyData → Option (S × List PyData)) : Prop :=
  ∀ (T : List Addr) (ρ : List (Option Addr)) (H : Hp) (a : Addr) (ys : List V) (xs ds : List PyData) (vs : List V) (s : S) (zs : List PyData) (Q : VK), H a = some (.lst ys) → DqAll K (hid T ρ H) ys xs → DqAll K (hid T ρ H) vs ds → g xs ds = some (s, zs) →
    (∀ ws v, DqAll K (hid T ρ H) ws zs → SV K (hid T ρ H) v s → Q v (upd H a (.lst ws))) → r (.ref a) vs H Q
theorem sim_owned {K : PySem.W.Frag} {T : List Addr} {ρ : List (Option Addr)} {δ : Ds} {σ : L2.St} {H : Hp} {i : Nat} {c : C} (h : Sim K T ρ δ σ H) (hi : slot δ i = some (.o c)) : ∃ a o, σ[i]? = some (some (.ref a)) ∧ ρ[i]? = some (some a) ∧ H a = some o ∧ CO K (hid T ρ H) o c := by
  obtain ⟨a, h1, h2⟩ := h.own i c (slot_some hi)
  obtain ⟨v, e1, e2⟩ := h.slot i _ (slot_some hi)
  rw [h2] at e1
  cases e1
  obtain ⟨b, o, z, z1, z2⟩ := e2
  cases z
  exact ⟨a, o, h2, h1, z1, z2⟩
section
variable {X : Cx} {P : List Nat} {pos : Pos} {e : Expr} {es : List Expr}
theorem mutL_ok {r : V → List V → Hp → VK → Prop} {g : List PyData → List PyData → Option (S × List PyData)} {fa : AEV} {i : Nat} (hd : MutD X.K r g) (σ : L2.St) (H : Hp) (Q : VK) (h : lift X.K (mutL i g fa) σ H Q) : tBM X.K "list" r (tVar i) (liftA X.K fa) σ H Q := by
  obtain ⟨T, ρ, δ, s, δ', hs, hf, hq⟩ := h
  unfold mutL at hf
  split at hf
  case h_2 => cases hf
  rename_i ys0 hi0
  cases ea : fa δ with
  | none => rw [ea] at hf; cases hf
  | some x =>
    rw [ea] at hf
    simp only [Option.bind_some] at hf
    cases eb : dataA x.1 with
    | none => rw [eb] at hf; cases hf
    | some ds =>
      rw [eb] at hf
      simp only [Option.bind_some] at hf
      split at hf
      case h_2 => cases hf
      rename_i ys1 hi1
      cases e3 : g ys1 ds with
      | none => rw [e3] at hf; cases hf
      | some z =>
        obtain ⟨u, zs⟩ := z
        rw [e3] at hf
        obtain ⟨a, o, a1, a2, a3, a4⟩ := sim_owned hs hi0
        obtain ⟨vs0, rfl, a5⟩ := a4
        refine ⟨.ref a, a1, .inl ⟨rfl, _, SqL.of a3⟩, ?_⟩
        refine ⟨T, ρ, δ, x.1, x.2, hs, by rw [ea], fun ρ1 vs H1 s1 x1 p1 => ?_⟩
        obtain ⟨b, o, b1, b2, b3, b4⟩ := sim_owned s1 hi1
        obtain ⟨vs1, rfl, b5⟩ := b4
        rw [a1] at b1
        cases b1
        have hsome := Option.some.inj hf
        cases hsome
        refine hd T ρ1 H1 a vs1 ys1 ds vs _ _ Q b3 b5 (data_dp p1 eb) e3 fun ws v hw hv => ?_
        obtain ⟨c1, c2⟩ := s1.write (slot_some hi1) b2 (o := .lst ws) (c := .l zs) ⟨ws, rfl, hw⟩
        have hv' := hv
        rw [← hid_write (T := T) (o := .lst ws) (ix_mem b2)] at hv'
        cases u with
        | o c => exact hv.elim
        | d c => exact hq ρ1 v _ c1 (x1.trans c2) hv'
        | t c => exact hq ρ1 v _ c1 (x1.trans c2) hv'
        | z c => exact hq ρ1 v _ c1 (x1.trans c2) hv'
        | p c => exact hq ρ1 v _ c1 (x1.trans c2) hv'
theorem de_mut {name : Str} {apos cpos opos : Pos} {x : Str} {id : String} {r : V → List V → Hp → VK → Prop} {g : List PyData → List PyData → Option (S × List PyData)} {fa : AEV} {i : Nat} (pa : PlainAttrs "list") (sl : Slot "list" name id) (hty : typeOf (.builtin id) = pure (.type "method_descriptor")) (hm : MtR X id r) (hd : MutD X.K r g) (p : PE X (.Name x opos) (tVar i)) (ha : DA X (e :: es) fa)
    (hbase : attributeBase (.Name x opos) name X.env (eval (.Name x opos) X.env) = eval (.Name x opos) X.env := by rfl)
    (hfew : ((backTo cpos (starEach (e :: es) X.env)).all (fun x => !x.1) && (backToKw cpos (keywordEach [] X.env)).all (fun x => x.1.isSome)
      && decide ((e :: es).length + ([] : List Keyword).length + (if ([] : List Keyword).isEmpty then 0 else 1) < 30)) = true := by rfl)
    (hline : (apos.endLine == cpos.line) = true := by rfl) (hs : starEach (e :: es) X.env = (false, eval e X.env) :: starEach es X.env := by rfl) (hplain : (backTo cpos (starEach es X.env)).any (·.1) = false := by rfl) :
    DE X (.Call (.Attribute (.Name x opos) name apos) (e :: es) [] cpos) (mutL i g fa) := pe_imp (pe_bm pa sl hty hm p ha hbase hfew hline hs hplain) (mutL_ok hd)
def gApp (xs ds : List PyData) : Option (S × List PyData) := match ds with
  | [d] => if xs.length < sizeLine then some (.d .none, xs ++ [d]) else none
  | _ => none
def gExt (xs ds : List PyData) : Option (S × List PyData) := match ds with
  | [.list ys] => if xs.length + ys.length ≤ sizeLine then some (.d .none, xs ++ ys) else none
  | _ => none
theorem md_append {K : PySem.W.Frag} : MutD K rAppend gApp := fun T ρ H a ys xs ds vs s zs Q h1 h2 h3 h4 h5 => by
  unfold gApp at h4
  split at h4
  · rename_i d
    split at h4
    · rename_i hl
      cases h4
      cases h3 with
      | cons q1 q2 =>
        cases q2
        exact ⟨a, ys, _, rfl, rfl, h1, by rw [dpAll_len h2]; exact hl, h5 _ _ (dpAll_app h2 (.cons q1 .nil)) .non⟩
    · cases h4
  · cases h4
theorem sqL_of_hid {K : PySem.W.Frag} {T : List Addr} {ρ : List (Option Addr)} {H : Hp} {a : Addr} {xs : List V} (h : SqL K (hid T ρ H) a xs) : SqL K H a xs := hid_same.seq h
theorem sqT_of_hid {K : PySem.W.Frag} {T : List Addr} {ρ : List (Option Addr)} {H : Hp} {a : Addr} {xs : List V} (h : SqT K (hid T ρ H) a xs) : SqT K H a xs := seqT hid_same h

/-! ### o[i] = e, o owned -/
def setI (i : Nat) (fe fi : PEV) : SEV := fun δ => (fe δ).bind fun x => match x.1, slot x.2 i with
  | .v (.d d), some (.o _) => (fi x.2).bind fun y => match y.1, slot y.2 i with
    | .v (.d (.int k)), some (.o (.l xs)) => (ixN xs.length k).map fun j => .nx (y.2.set i (some (.o (.l (xs.set j d)))))
    | _, _ => none
  | _, _ => none
theorem ds_setI {i : Nat} {ix : Expr} {x : Str} {opos : Pos} {fe fi : PEV} {spos : Pos} (he : DP X e fe) (p : PE X (.Name x opos) (tVar i)) (hi : DP X ix fi)
    (ha : ∀ v, assign (.Subscript (.Name x opos) ix spos) X.env v = (do
      let ov ← holding [v] (eval (.Name x opos) X.env)
      let iv ← holding [v, ov] (eval ix X.env)
      standAt spos
      holding [v, ov, iv] (setItem ov iv v)
      release [v, ov, iv] []) := by intro _; rfl)
    (hs : swapsWithSole [.Subscript (.Name x opos) ix spos] e pos.line X.env = pure false := by rfl) (hw : swappedStores [.Subscript (.Name x opos) ix spos] e X.env = pure none := by rfl)
    (h1 : (assignEach [.Subscript (.Name x opos) ix spos] X.env).map (·.2) = [assign (.Subscript (.Name x opos) ix spos) X.env] := by rfl) :
    DS X P (.Assign [.Subscript (.Name x opos) ix spos] e pos) (setI i fe fi) := ps_imp (ps_asg he (pg_sub p hi set_list ha) hs hw h1) fun D σ H ⟨T, ρ, δ, o, hs, hf, hq⟩ => by
  unfold setI at hf
  cases ea : fe δ with
  | none => rw [ea] at hf; cases hf
  | some z =>
    obtain ⟨pv, δ1⟩ := z
    rw [ea] at hf
    simp only [Option.bind_some] at hf
    split at hf
    case h_2 => cases hf
    rename_i d c0 hi1
    cases eb : fi δ1 with
    | none => rw [eb] at hf; cases hf
    | some y =>
      obtain ⟨pw, δ2⟩ := y
      rw [eb] at hf
      simp only [Option.bind_some] at hf
      split at hf
      case h_2 => cases hf
      rename_i k xs hsl
      cases ec : ixN xs.length k with
      | none => rw [ec] at hf; cases hf
      | some j =>
        rw [ec] at hf
        cases hf
        refine ⟨T, ρ, δ, _, δ1, hs, ea, fun ρ1 v1 H1 s1 x1 p1 => ?_⟩
        obtain ⟨a, ob, a1, a2, a3, a4⟩ := sim_owned s1 hi1
        refine ⟨.ref a, a1, T, ρ1, δ1, _, δ2, s1, eb, fun ρ2 v2 H2 s2 x2 p2 => ?_⟩
        obtain ⟨b, ob2, b1, b2, b3, b4⟩ := sim_owned s2 hsl
        rw [a1] at b1
        cases b1
        obtain ⟨ws, rfl, b5⟩ := b4
        have p1' : Dq X.K (hid T ρ2 H2) v1 d := dpM x2.same _ p1
        have e2 : v2 = .int k := by
          have p2' : Dq X.K (hid T ρ2 H2) v2 (.int k) := p2
          cases p2'
          rfl
        refine ⟨a, ws, k, j, rfl, e2, b3, by rw [dpAll_len b5]; exact ec, ?_⟩
        obtain ⟨c1, c2⟩ := s2.write (slot_some hsl) b2 (o := .lst (ws.set j v1)) (c := .l (xs.set j d)) ⟨_, rfl, dpAll_set p1' j b5⟩
        exact hq ρ2 σ _ c1 ((x1.trans x2).trans c2) .refl
end

/-! ### what is walked -/
def Serves (K : PySem.W.Frag) (T : List Addr) (ρ : List (Option Addr)) (H : Hp) (J : It) (xs : List PyData) : Prop := ∀ (i : Nat) (T2 : List Addr) (ρ2 : List (Option Addr)) (H2 : Hp), Same (hid T ρ H) (hid T2 ρ2 H2) → Trk T2 ρ2 H2 →
  (∀ d, xs[i]? = some d → J.go i H2 ∧ ∀ x H3, J.yld i H2 x H3 → Same H2 H3 ∧ Dq K (hid T2 ρ2 H3) x d) ∧ (xs.length ≤ i → J.stop i H2)
abbrev IEV := Ds → Option (List PyData × Ds)
def liftI (K : PySem.W.Frag) (f : IEV) : TI := fun σ H R => ∃ T ρ δ xs δ', Sim K T ρ δ σ H ∧ f δ = some (xs, δ') ∧ ∀ ρ' H' J, Sim K T ρ' δ' σ H' → Ext T ρ H ρ' H' → Serves K T ρ' H' J xs → R J H'
abbrev DI (X : Cx) (tg e : Expr) (f : IEV) : Prop := PI X tg e (liftI X.K f)
theorem pi_imp {X : Cx} {tg e : Expr} {t t' : TI} (p : PI X tg e t) (m : ∀ σ H R, t' σ H R → t σ H R) : PI X tg e t' := ⟨fun pins s σ H R I h => p.run pins s σ H R I (m σ H R h)⟩
section
variable {X : Cx} {tg : Expr}
/-- a list or a tuple -/
def iSeq (K : PySem.W.Frag) (tl : TE) : TI := fun σ H R => tl σ H fun x H1 => ∃ a, x = .ref a ∧ (((∃ xs, SqL K H1 a xs) ∧ R (Itl K a) H1) ∨ ((∃ xs, SqT K H1 a xs) ∧ R (Itt K a) H1))
theorem walkL {pins : List (Addr × Obj)} {σ : L2.St} {H : Hp} {s : Shared} {a : Addr} {ws : List V} {R : It → Hp → Prop} {E : Value → Shared → Prop} (I : Inv X pins σ H s) (hq : SqL X.K H a ws) (q : R (Itl X.K a) H) :
    wpAny (model X.prog X.w) X.A (pyIter (.ref a)) (PIE X pins σ tg R) E s := by
  obtain ⟨us, _, pl, _⟩ := I.list hq
  refine wpAny_pyIter_list pl.isList ?_
  have nw : ∀ b ∈ [s.heap.objs.size], FpOk X pins H b := fun b hb => by
    rw [List.mem_singleton.mp hb]
    exact I.fpOk (Nat.le_refl _) (I.hok.fresh (Nat.le_refl _))
  refine ⟨_, _, _, Itl X.K a, H, rfl, ?i, turn_list a _, ?z, nw, q⟩
  case i => exact I.kept (t' := s.toks) (fun b u hb => Heap.get?_push_of_some _ hb)
  case z => exact ⟨_, Heap.get?_push_size _ rfl, rfl, rfl⟩
theorem walkT {pins : List (Addr × Obj)} {σ : L2.St} {H : Hp} {s : Shared} {a : Addr} {ws : List V} {R : It → Hp → Prop} {E : Value → Shared → Prop} (I : Inv X pins σ H s) (hq : SqT X.K H a ws) (q : R (Itt X.K a) H) :
    wpAny (model X.prog X.w) X.A (pyIter (.ref a)) (PIE X pins σ tg R) E s := by
  obtain ⟨us, _, pl, _⟩ := I.tuple hq
  have pt : s.heap.IsTuple a us.toArray := pl
  refine wpAny_pyIter_tuple pt ?_
  have nw : ∀ b ∈ [s.heap.objs.size], FpOk X pins H b := fun b hb => by
    rw [List.mem_singleton.mp hb]
    exact I.fpOk (Nat.le_refl _) (I.hok.fresh (Nat.le_refl _))
  refine ⟨_, _, _, Itt X.K a, H, rfl, ?i, turn_tuple a _, ?z, nw, q⟩
  case i => exact I.kept (t' := s.toks) (fun b u hb => Heap.get?_push_of_some _ hb)
  case z => exact ⟨_, Heap.get?_push_size _ rfl, rfl, rfl⟩
theorem pi_seq {l : Expr} {tl : TE} (hl : PE X l tl) : PI X tg l (iSeq X.K tl) := ⟨fun pins s σ H R I h => by
  refine thn (hl.run pins s σ H _ I h) fun v s1 ⟨x, H1, I1, r1, a, e, q⟩ => ?_
  subst e
  cases r1
  rcases q with ⟨⟨ws, hq⟩, q⟩ | ⟨⟨ws, hq⟩, q⟩
  · exact walkL I1 hq q
  · exact walkT I1 hq q⟩
def seqI (f : EV) : IEV := fun δ => (f δ).bind fun r => match frz r.1 with
  | .d (.list xs) => some (xs, r.2)
  | .d (.tuple xs) => some (xs, r.2)
  | _ => none
theorem serves_L {K : PySem.W.Frag} {T : List Addr} {ρ : List (Option Addr)} {H : Hp} {a : Addr} {ws : List V} {xs : List PyData} (h0 : hid T ρ H a = some (.lst ws)) (hd : DqAll K (hid T ρ H) ws xs) : Serves K T ρ H (Itl K a) xs := fun i T2 ρ2 H2 sm tr => by
  have h2 : SqL K H2 a ws := SqL.of (hid_same _ _ (sm _ _ h0))
  refine ⟨fun d hi => ?_, fun hi => ⟨ws, h2, by rw [dpAll_len hd]; exact hi⟩⟩
  obtain ⟨v, e1, e2⟩ := dpAll_get hd hi
  refine ⟨⟨ws, v, h2, e1⟩, fun x H3 hy => ?_⟩
  obtain ⟨rfl, fv⟩ := hy
  have := fv ws h2
  rw [e1] at this
  cases this
  exact ⟨Same.refl _, dpM sm _ e2⟩
theorem serves_T {K : PySem.W.Frag} {T : List Addr} {ρ : List (Option Addr)} {H : Hp} {a : Addr} {ws : List V} {xs : List PyData} (h0 : hid T ρ H a = some (.tup ws)) (hd : DqAll K (hid T ρ H) ws xs) : Serves K T ρ H (Itt K a) xs := fun i T2 ρ2 H2 sm tr => by
  have h2 : SqT K H2 a ws := SqT.of (hid_same _ _ (sm _ _ h0))
  refine ⟨fun d hi => ?_, fun hi => ⟨ws, h2, by rw [dpAll_len hd]; exact hi⟩⟩
  obtain ⟨v, e1, e2⟩ := dpAll_get hd hi
  refine ⟨⟨ws, v, h2, e1⟩, fun x H3 hy => ?_⟩
  obtain ⟨rfl, fv⟩ := hy
  have := fv ws h2
  rw [e1] at this
  cases this
  exact ⟨Same.refl _, dpM sm _ e2⟩
theorem di_seq {l : Expr} {f : EV} (hl : DE X l f) : DI X tg l (seqI f) := pi_imp (pi_seq (dp_of hl)) fun σ H R ⟨T, ρ, δ, xs, δ', hs, hf, hq⟩ => by
  unfold seqI at hf
  cases ea : f δ with
  | none => rw [ea] at hf; cases hf
  | some z =>
    obtain ⟨s, δ1⟩ := z
    rw [ea] at hf
    simp only [Option.bind_some] at hf
    refine ⟨T, ρ, δ, .v (frz s), δ1, hs, by unfold frzP; rw [ea]; rfl, fun ρ1 v H1 s1 x1 p1 => ?_⟩
    have p1' : SV X.K (hid T ρ1 H1) v (frz s) := p1
    split at hf
    · rename_i ys hy
      cases hf
      rw [hy] at p1'
      cases p1' with
      | lst h1 h2 => exact ⟨_, rfl, .inl ⟨⟨_, SqL.of (hid_same _ _ h1)⟩, hq ρ1 H1 _ s1 x1 (serves_L h1 h2)⟩⟩
    · rename_i ys hy
      cases hf
      rw [hy] at p1'
      cases p1' with
      | tup h1 h2 => exact ⟨_, rfl, .inr ⟨⟨_, SqT.of (hid_same _ _ h1)⟩, hq ρ1 H1 _ s1 x1 (serves_T h1 h2)⟩⟩
    · cases hf
/-- range -/
def rng (a : Int) (n : Nat) : List PyData := (List.range n).map fun k => .int (a + (k : Nat))
def rngI1 (fa : AEV) : IEV := fun δ => (fa δ).bind fun x => match x.1 with
  | [.v (.d (.int n))] => if -(2 ^ 62) ≤ n ∧ n < 2 ^ 62 then some (rng 0 n.toNat, x.2) else none
  | _ => none
def rngI2 (fa : AEV) : IEV := fun δ => (fa δ).bind fun x => match x.1 with
  | [.v (.d (.int m)), .v (.d (.int n))] => if -(2 ^ 62) ≤ m ∧ m < 2 ^ 62 ∧ -(2 ^ 62) ≤ n ∧ n < 2 ^ 62 then some (rng m (n - m).toNat, x.2) else none
  | _ => none
theorem serves_R {K : PySem.W.Frag} {T : List Addr} {ρ : List (Option Addr)} {H : Hp} {lo : Int} {n : Nat} : Serves K T ρ H (Itr lo n) (rng lo n) := fun i T2 ρ2 H2 sm tr => by
  unfold rng
  refine ⟨fun d hi => ?_, fun hi => (show n ≤ i by simpa using hi)⟩
  rw [List.getElem?_map] at hi
  cases e : (List.range n)[i]? with
  | none => rw [e] at hi; cases hi
  | some k =>
    rw [e] at hi
    obtain ⟨h1, h2⟩ := List.getElem?_eq_some_iff.mp e
    rw [List.getElem_range] at h2
    subst h2
    cases hi
    refine ⟨(show i < n by simpa using h1), fun x H3 hy => ?_⟩
    obtain ⟨rfl, rfl⟩ := hy
    exact ⟨Same.refl _, .int _⟩
theorem di_range1 {a : Expr} {fa : AEV} {p pos : Pos} (hg : Gl X "range") (hm : X.mg "range" = none) (ha : DA X [a] fa) (hs : starEach [a] X.env = [(false, eval a X.env)] := by rfl) : DI X tg (.Call (.Name "range" p) [a] [] pos) (rngI1 fa) := pi_imp (pi_range1 hg hm ha hs) fun σ H R ⟨T, ρ, δ, xs, δ', hs, hf, hq⟩ => by
  unfold rngI1 at hf
  cases ea : fa δ with
  | none => rw [ea] at hf; cases hf
  | some z =>
    obtain ⟨ps, δ1⟩ := z
    rw [ea] at hf
    simp only [Option.bind_some] at hf
    refine ⟨T, ρ, δ, ps, δ1, hs, ea, fun ρ1 vs H1 s1 x1 p1 => ?_⟩
    split at hf
    · rename_i n
      split at hf
      · rename_i hn
        cases hf
        cases p1 with
        | cons q1 q2 =>
          cases q2
          have q1' : Dq X.K (hid T ρ1 H1) _ (.int n) := q1
          cases q1'
          exact ⟨n, rfl, hn.1, hn.2, hq ρ1 H1 _ s1 x1 serves_R⟩
      · cases hf
    · cases hf
theorem di_range2 {a b : Expr} {fa : AEV} {p pos : Pos} (hg : Gl X "range") (hm : X.mg "range" = none) (ha : DA X [a, b] fa) (hs : starEach [a, b] X.env = [(false, eval a X.env), (false, eval b X.env)] := by rfl) (hs2 : starEach [b] X.env = [(false, eval b X.env)] := by rfl) : DI X tg (.Call (.Name "range" p) [a, b] [] pos) (rngI2 fa) := pi_imp (pi_range2 hg hm ha hs hs2) fun σ H R ⟨T, ρ, δ, xs, δ', hs, hf, hq⟩ => by
  unfold rngI2 at hf
  cases ea : fa δ with
  | none => rw [ea] at hf; cases hf
  | some z =>
    obtain ⟨ps, δ1⟩ := z
    rw [ea] at hf
    simp only [Option.bind_some] at hf
    refine ⟨T, ρ, δ, ps, δ1, hs, ea, fun ρ1 vs H1 s1 x1 p1 => ?_⟩
    split at hf
    · rename_i m n
      split at hf
      · rename_i hn
        cases hf
        cases p1 with
        | cons q1 q2 =>
          cases q2 with
          | cons q2 q3 =>
            cases q3
            have q1' : Dq X.K (hid T ρ1 H1) _ (.int m) := q1
            have q2' : Dq X.K (hid T ρ1 H1) _ (.int n) := q2
            cases q1'
            cases q2'
            exact ⟨m, n, rfl, hn, hq ρ1 H1 _ s1 x1 serves_R⟩
      · cases hf
    · cases hf
end
/-! ### targets -/
def Only (vs : List Nat) (σ σ' : L2.St) : Prop := σ'.length = σ.length ∧ ∀ j : Nat, j ∉ vs → σ'[j]? = σ[j]?
abbrev GEV := PyData → Ds → Option Ds
def liftG (K : PySem.W.Frag) (vs : List Nat) (g : GEV) : TG := fun v σ H Q => ∃ T ρ δ x δ', Sim K T ρ δ σ H ∧ Dq K (hid T ρ H) v x ∧ g x δ = some δ' ∧ ∀ ρ' σ' H', Sim K T ρ' δ' σ' H' → Ext T ρ H ρ' H' → Only vs σ σ' → Q σ' H'
abbrev DG (X : Cx) (vs : List Nat) (tg : Expr) (g : GEV) : Prop := PG X tg (liftG X.K vs g)
theorem pg_imp {X : Cx} {tg : Expr} {t t' : TG} (p : PG X tg t) (m : ∀ v σ H Q, t' v σ H Q → t v σ H Q) : PG X tg t' := ⟨fun pins s σ H v u Q I r h => p.run pins s σ H v u Q I r (m v σ H Q h)⟩
def nameG (i : Nat) : GEV := fun x δ => some (δ.set i (some (.d x)))
section
variable {X : Cx} {pos : Pos}
theorem only_set {i : Nat} {σ : L2.St} {v : Option V} : Only [i] σ (σ.set i v) := ⟨List.length_set, fun j hj => List.getElem?_set_ne fun z => hj (by rw [z]; exact List.mem_singleton_self _)⟩
theorem dg_name {i : Nat} {x : Str} (hN : X.N.Nodup) (hi : X.N[i]? = some x) (hx : Loc X.env.scope x) (hf : X.fn x = true ∨ X.env.scope.names.lookup x = some .local := by first | exact .inl rfl | exact .inr rfl | assumption) : DG X [i] (.Name x pos) (nameG i) :=
  pg_imp (pg_name hN hi hx hf) fun v σ H Q ⟨T, ρ, δ, d, δ', hs, hd, hg, hq⟩ => by
    cases hg
    obtain ⟨a, b⟩ := hs.setD (i := i) (v := v) (s := .d d) hd
    exact hq _ _ H a b only_set
abbrev GsEV := List PyData → Ds → Option Ds
def liftGs (K : PySem.W.Frag) (vs : List Nat) (g : GsEV) : TGs := fun ws σ H Q => ∃ T ρ δ ds δ', Sim K T ρ δ σ H ∧ DqAll K (hid T ρ H) ws ds ∧ g ds δ = some δ' ∧ ∀ ρ' σ' H', Sim K T ρ' δ' σ' H' → Ext T ρ H ρ' H' → Only vs σ σ' → Q σ' H'
abbrev DGs (X : Cx) (vs : List Nat) (tg : List Expr) (g : GsEV) : Prop := PGs X tg (liftGs X.K vs g)
def nilG : GsEV := fun ds δ => match ds with
  | [] => some δ
  | _ => none
def consG (g : GEV) (gs : GsEV) : GsEV := fun ds δ => match ds with
  | d :: ds => (g d δ).bind (gs ds)
  | [] => none
def tupG (n : Nat) (gs : GsEV) : GEV := fun x δ => match x with
  | .tuple ds => if ds.length = n then gs ds δ else none
  | _ => none
theorem Only.refl {vs : List Nat} {σ : L2.St} : Only vs σ σ := ⟨rfl, fun _ _ => rfl⟩
theorem Only.trans {vs ws : List Nat} {σ σ1 σ2 : L2.St} (a : Only vs σ σ1) (b : Only ws σ1 σ2) : Only (vs ++ ws) σ σ2 := ⟨b.1.trans a.1, fun j hj => (b.2 j fun z => hj (List.mem_append_right _ z)).trans (a.2 j fun z => hj (List.mem_append_left _ z))⟩
theorem pgs_imp {X : Cx} {tg : List Expr} {t t' : TGs} (p : PGs X tg t) (m : ∀ v σ H Q, t' v σ H Q → t v σ H Q) : PGs X tg t' := ⟨fun pins s σ H v u Q I r h => p.run pins s σ H v u Q I r (m v σ H Q h)⟩
theorem dgs_nil : DGs X [] [] nilG := pgs_imp pgs_nil fun ws σ H Q ⟨T, ρ, δ, ds, δ', hs, hd, hg, hq⟩ => by
  unfold nilG at hg
  split at hg
  · cases hg
    cases hd
    exact ⟨rfl, hq ρ σ H hs .refl .refl⟩
  · cases hg
theorem dgs_cons {vs ws : List Nat} {e : Expr} {es : List Expr} {g : GEV} {gs : GsEV} (h1 : DG X vs e g) (h2 : DGs X ws es gs) (h3 : (assignEach (e :: es) X.env).map (·.2) = assign e X.env :: (assignEach es X.env).map (·.2) := by rfl) : DGs X (vs ++ ws) (e :: es) (consG g gs) := pgs_imp (pgs_cons h1 h2 h3) fun us σ H Q ⟨T, ρ, δ, ds, δ', hs, hd, hg, hq⟩ => by
  unfold consG at hg
  split at hg
  · rename_i d ds
    cases e : g d δ with
    | none => rw [e] at hg; cases hg
    | some δ1 =>
      rw [e] at hg
      cases hd with
      | cons q1 q2 =>
        refine ⟨_, _, rfl, T, ρ, δ, d, δ1, hs, q1, e, fun ρ1 σ1 H1 s1 x1 o1 => ?_⟩
        exact ⟨T, ρ1, δ1, ds, δ', s1, dpAllM x1.same _ q2, hg, fun ρ2 σ2 H2 s2 x2 o2 => hq ρ2 σ2 H2 s2 (x1.trans x2) (o1.trans o2)⟩
  · cases hg
theorem dg_tup {vs : List Nat} {es : List Expr} {k : Nat} {gs : GsEV} {n : Nat} (hc : X.calm = true) (h : DGs X vs es gs) (hn : (assignEach es X.env).length = n := by rfl) (hst : (assignEach es X.env).findIdx? (·.1) = none := by rfl) : DG X vs (.Tuple es k pos) (tupG n gs) := pg_imp (pg_tup hc h hn hst) fun v σ H Q ⟨T, ρ, δ, x, δ', hs, hd, hg, hq⟩ => by
  unfold tupG at hg
  split at hg
  · rename_i ds
    split at hg
    · rename_i hl
      cases hd with
      | tup h1 h2 => exact ⟨_, _, rfl, SqT.of (hid_same _ _ h1), by rw [dpAll_len h2]; exact hl, T, ρ, δ, ds, δ', hs, h2, hg, hq⟩
    · cases hg
  · cases hg
end

/-! ### for -/
def forD (tg : GEV) (body : SEV) : List PyData → Ds → Option Out
  | [], δ => some (.nx δ)
  | x :: xs, δ => (tg x δ).bind fun δ1 => (body δ1).bind fun
    | .nx δ2 => forD tg body xs δ2
    | .ct δ2 => forD tg body xs δ2
    | .bk δ2 => some (.nx δ2)
    | .rt s δ2 => some (.rt s δ2)
def forS (fi : IEV) (tg : GEV) (body : SEV) : SEV := fun δ => (fi δ).bind fun x => forD tg body x.1 x.2
theorem serves_step {K : PySem.W.Frag} {T : List Addr} {ρ ρ1 : List (Option Addr)} {H H1 : Hp} {J : It} {xs : List PyData} (h : Serves K T ρ H J xs) (e : Same (hid T ρ H) (hid T ρ1 H1)) : Serves K T ρ1 H1 J xs := fun i T2 ρ2 H2 s t => h i T2 ρ2 H2 (e.trans s) t
section
variable {X : Cx} {P : List Nat} {pos : Pos}
theorem ds_for {tg iter : Expr} {body : List Stmt} {fi : IEV} {vs : List Nat} {g : GEV} {f : SEV} (hp : PassesOwn (model X.prog X.w) X.A X.env X.xe) (hc : X.calm = true) (hP : ∀ i ∈ P, i ∉ vs) (hi : DI X tg iter fi) (hg : DG X vs tg g) (hb : DSs X P body f)
    (hs : ∀ x, foldedSetIterable iter X.env x = pure x := by intro _; rfl) : DS X P (.For tg iter body [] pos) (forS fi g f) := ps_imp (ps_for hp hc hi hg hb hs) fun D σ H ⟨T, ρ, δ, o, hs, hf, hq⟩ => by
  unfold forS at hf
  cases ea : fi δ with
  | none => rw [ea] at hf; cases hf
  | some z =>
    obtain ⟨xs, δ0⟩ := z
    rw [ea] at hf
    simp only [Option.bind_some] at hf
    refine ⟨T, ρ, δ, xs, δ0, hs, ea, fun ρ0 H0 J s0 x0 sv => ?_⟩
    refine ⟨fun i m σ' H' => ∃ ρ' δ', i + m = xs.length ∧ Sim X.K T ρ' δ' σ' H' ∧ Ext T ρ H ρ' H' ∧ Keep P σ σ' ∧ Serves X.K T ρ' H' J xs ∧ forD g f (xs.drop i) δ' = some o, ⟨xs.length, ρ0, δ0, by omega, s0, x0, .refl, sv, hf⟩, ?_⟩
    rintro i m σ1 H1 ⟨ρ1, δ1, him, s1, x1, k1, sv1, hf1⟩
    by_cases hi : i < xs.length
    · have hd : xs.drop i = xs[i] :: xs.drop (i + 1) := by rw [List.drop_eq_getElem_cons hi]
      rw [hd] at hf1
      unfold forD at hf1
      cases eg : g xs[i] δ1 with
      | none => rw [eg] at hf1; cases hf1
      | some δ2 =>
        rw [eg] at hf1
        simp only [Option.bind_some] at hf1
        cases eb : f δ2 with
        | none => rw [eb] at hf1; cases hf1
        | some o2 =>
          rw [eb] at hf1
          simp only [Option.bind_some] at hf1
          obtain ⟨go, yl⟩ := (sv1 i T ρ1 H1 (Same.refl _) s1.trk).1 _ (List.getElem?_eq_getElem hi)
          refine .inr ⟨go, fun σ' H' => ∃ ρ' δ', Sim X.K T ρ' δ' σ' H' ∧ Ext T ρ H ρ' H' ∧ Keep P σ σ' ∧ Serves X.K T ρ' H' J xs ∧ forD g f (xs.drop (i + 1)) δ' = some o, ?_, fun x H2 hy => ?_⟩
          · rintro σ' H' ⟨ρ', δ', a, b, c, d, e⟩
            exact ⟨m - 1, by omega, ρ', δ', by omega, a, b, c, d, e⟩
          · obtain ⟨y1, y2⟩ := yl x H2 hy
            have e2 := s1.trk.extT y1
            refine ⟨T, ρ1, δ1, xs[i], δ2, s1.mono y1, y2, eg, fun ρ3 σ3 H3 s3 x3 o3 => ?_⟩
            have x3' : Ext T ρ H ρ3 H3 := x1.trans (e2.trans x3)
            have sv3 : Serves X.K T ρ3 H3 J xs := serves_step sv1 (e2.trans x3).same
            have k3 : Keep P σ σ3 := k1.trans fun j hj => o3.2 j (hP j hj)
            refine ⟨T, ρ3, δ2, o2, s3, eb, ?_⟩
            cases o2 with
            | nx δ3 => exact fun ρ4 σ4 H4 s4 x4 k4 => ⟨ρ4, δ3, s4, x3'.trans x4, k3.trans k4, serves_step sv3 x4.same, hf1⟩
            | ct δ3 => exact fun ρ4 σ4 H4 s4 x4 k4 => ⟨ρ4, δ3, s4, x3'.trans x4, k3.trans k4, serves_step sv3 x4.same, hf1⟩
            | bk δ3 =>
              cases hf1
              exact fun ρ4 σ4 H4 s4 x4 k4 => hq ρ4 σ4 H4 s4 (x3'.trans x4) (k3.trans k4)
            | rt s δ3 =>
              cases hf1
              exact postR_step x3' k3 hq
    · have hd : xs.drop i = [] := List.drop_eq_nil_of_le (by omega)
      rw [hd] at hf1
      cases hf1
      exact .inl ⟨(sv1 i T ρ1 H1 (Same.refl _) s1.trk).2 (by omega), hq ρ1 σ1 H1 s1 x1 k1⟩
end

/-! ### while -/
def whD (t : TEV) (body : SEV) : Nat → Ds → Option Out
  | 0, _ => none
  | n + 1, δ => (t δ).bind fun r => if r.1 then (body r.2).bind fun
      | .nx δ2 => whD t body n δ2
      | .ct δ2 => whD t body n δ2
      | .bk δ2 => some (.nx δ2)
      | .rt s δ2 => some (.rt s δ2)
    else some (.nx r.2)
section
variable {X : Cx} {P : List Nat} {pos : Pos}
theorem ds_while {c : Expr} {body : List Stmt} {t : TEV} {f : SEV} (n : Nat) (hp : PassesOwn (model X.prog X.w) X.A X.env X.xe) (hc : DT X c t) (hb : DSs X P body f) : DS X P (.While c body [] pos) (whD t f n) := ps_imp (ps_while hp hc hb) fun D σ H ⟨T, ρ, δ, o, hs, hf, hq⟩ => by
  refine ⟨fun m σ' H' => ∃ ρ' δ', Sim X.K T ρ' δ' σ' H' ∧ Ext T ρ H ρ' H' ∧ Keep P σ σ' ∧ whD t f m δ' = some o, ⟨n, ρ, δ, hs, .refl, .refl, hf⟩, ?_⟩
  rintro m σ1 H1 ⟨ρ1, δ1, s1, x1, k1, hf1⟩
  cases m with
  | zero => cases hf1
  | succ m =>
    unfold whD at hf1
    cases ea : t δ1 with
    | none => rw [ea] at hf1; cases hf1
    | some z =>
      obtain ⟨b, δ2⟩ := z
      rw [ea] at hf1
      simp only [Option.bind_some] at hf1
      refine ⟨T, ρ1, δ1, b, δ2, s1, ea, fun ρ2 H2 s2 x2 => ?_⟩
      have x2' := x1.trans x2
      cases b with
      | false =>
        rw [if_neg Bool.false_ne_true] at hf1
        cases hf1
        exact L2.iteF (hq ρ2 σ1 H2 s2 x2' k1)
      | true =>
        rw [if_pos rfl] at hf1
        cases eb : f δ2 with
        | none => rw [eb] at hf1; cases hf1
        | some o2 =>
          rw [eb] at hf1
          simp only [Option.bind_some] at hf1
          refine L2.iteT ⟨fun σ' H' => ∃ ρ' δ', Sim X.K T ρ' δ' σ' H' ∧ Ext T ρ H ρ' H' ∧ Keep P σ σ' ∧ whD t f m δ' = some o, fun σ' H' h => ⟨m, Nat.lt_succ_self _, h⟩, T, ρ2, δ2, o2, s2, eb, ?_⟩
          cases o2 with
          | nx δ3 => exact fun ρ4 σ4 H4 s4 x4 k4 => ⟨ρ4, δ3, s4, x2'.trans x4, k1.trans k4, hf1⟩
          | ct δ3 => exact fun ρ4 σ4 H4 s4 x4 k4 => ⟨ρ4, δ3, s4, x2'.trans x4, k1.trans k4, hf1⟩
          | bk δ3 =>
            cases hf1
            exact fun ρ4 σ4 H4 s4 x4 k4 => hq ρ4 σ4 H4 s4 (x2'.trans x4) (k1.trans k4)
          | rt s δ3 =>
            cases hf1
            exact postR_step x2' k1 hq
end
end DL

namespace DL
open PySem PySem.Spec PyProof.Rows L2
variable [TB]

/-! ### comprehensions -/
def notOwn : Option S → Bool
  | some (.o _) => false
  | _ => true
def noOwn (vs : List Nat) (δ : Ds) : Bool := vs.all fun v => notOwn (slot δ v)
def wipeD (δ : Ds) : List Nat → Ds
  | [] => δ
  | v :: vs => (wipeD δ vs).set v none
def restD (δ0 δe : Ds) : List Nat → Ds
  | [] => δe
  | v :: vs => (restD δ0 δe vs).set v (slot δ0 v)
def lcD (vs : List Nat) (g : GEV) (tt : TEV) (te : EV) : List PyData → Ds → Option (List PyData × Ds)
  | [], δ => some ([], δ)
  | x :: xs, δ => (g x δ).bind fun δ1 => (tt δ1).bind fun b =>
    if b.1 then (te b.2).bind fun y => match frz y.1 with
      | .d d => if noOwn vs y.2 then (lcD vs g tt te xs (wipeD y.2 vs)).map fun r => (d :: r.1, r.2) else none
      | _ => none
    else if noOwn vs b.2 then lcD vs g tt te xs (wipeD b.2 vs) else none
def lcE (vs : List Nat) (fi : IEV) (g : GEV) (tt : TEV) (te : EV) : EV := fun δ => (fi δ).bind fun x =>
  if noOwn vs x.2 then (lcD vs g tt te x.1 (wipeD x.2 vs)).bind fun r => if r.1.length ≤ sizeLine then some (.o (.l r.1), restD x.2 r.2 vs) else none else none
def rm (H : Hp) (D : Addr) : Hp := fun b => if b = D then none else H b
section
variable {K : PySem.W.Frag} {T : List Addr} {ρ ρ1 : List (Option Addr)} {δ δ1 : Ds} {σ σ1 : L2.St} {H H1 : Hp} {D : Addr}
theorem rm_self : rm H D D = none := if_pos rfl
theorem rm_ne {b : Addr} (h : b ≠ D) : rm H D b = H b := if_neg h
theorem rm_upd {o : HO} (h : H D = some o) : upd (rm H D) D o = H := by
  funext b
  by_cases hb : b = D
  · subst hb
    rw [upd_same, h]
  · rw [upd_ne hb, rm_ne hb]
theorem hid_rm : hid T ρ (rm H D) = hid (D :: T) ρ H := by
  funext b
  unfold hid
  by_cases hb : b = D
  · subst hb
    rw [if_pos (c := b ∈ b :: T ∨ some b ∈ ρ) (.inl List.mem_cons_self)]
    split
    · rfl
    · exact rm_self
  · rw [rm_ne hb]
    by_cases hc : b ∈ T ∨ some b ∈ ρ
    · rw [if_pos hc, if_pos (hc.elim (fun z => .inl (List.mem_cons_of_mem _ z)) .inr)]
    · rw [if_neg hc, if_neg fun z => z.elim (fun z => (List.mem_cons.mp z).elim hb fun y => hc (.inl y)) fun y => hc (.inr y)]
theorem hid_new {o : HO} (h : H D = none) : hid (D :: T) ρ (upd H D o) = hid T ρ H := by
  rw [← hid_rm]
  congr 1
  funext b
  by_cases hb : b = D
  · subst hb
    rw [rm_self, h]
  · rw [rm_ne hb, upd_ne hb]
theorem notOwn_no {i : Nat} {c : C} (h : notOwn (slot δ i) = true) (e : δ[i]? = some (some (.o c))) : False := by
  unfold slot at h
  rw [e] at h
  cases h
/-- a slot is forgotten -/
theorem Sim.unset {i : Nat} {w : Option V} (h : Sim K T ρ δ σ H) (hn : notOwn (DL.slot δ i) = true) : Sim K T ρ (δ.set i none) (σ.set i w) H := by
  have sub : ∀ (j : Nat) (s : S), (δ.set i none)[j]? = some (some s) → i ≠ j ∧ δ[j]? = some (some s) := fun j s hj => by
    by_cases hij : i = j
    · subst hij
      by_cases hl : i < δ.length
      · rw [List.getElem?_set_self hl] at hj
        cases hj
      · rw [List.getElem?_eq_none (by rw [List.length_set]; omega)] at hj
        cases hj
    · rw [List.getElem?_set_ne hij] at hj
      exact ⟨hij, hj⟩
  refine ⟨by rw [List.length_set]; exact h.len, by rw [List.length_set, List.length_set]; exact h.slen, fun j s hj => ?_, fun j c hj => ?_, fun j a hj => ?_, h.inj, h.nt, h.tmp, h.tabT, h.tabs⟩
  · obtain ⟨h1, h2⟩ := sub j s hj
    rw [List.getElem?_set_ne h1]
    exact h.slot j s h2
  · obtain ⟨h1, h2⟩ := sub j _ hj
    rw [List.getElem?_set_ne h1]
    exact h.own j c h2
  · obtain ⟨c, hc⟩ := h.own' j a hj
    have hij : i ≠ j := fun z => by
      subst z
      exact notOwn_no hn hc
    exact ⟨c, by rw [List.getElem?_set_ne hij]; exact hc⟩
theorem slot_set_ne {i j : Nat} {x : Option S} (h : i ≠ j) : slot (δ.set i x) j = slot δ j := by
  unfold slot
  rw [List.getElem?_set_ne h]
theorem notOwn_wipe {i : Nat} (h : notOwn (slot δ i) = true) : ∀ vs : List Nat, notOwn (slot (wipeD δ vs) i) = true
  | [] => h
  | v :: vs => by
    unfold wipeD
    by_cases hv : v = i
    · subst hv
      unfold slot
      by_cases hl : v < (wipeD δ vs).length
      · rw [List.getElem?_set_self hl]
        rfl
      · rw [List.getElem?_eq_none (by rw [List.length_set]; omega)]
        rfl
    · rw [slot_set_ne hv]
      exact notOwn_wipe h vs
theorem Sim.wipe (h : Sim K T ρ δ σ H) : ∀ {vs : List Nat}, noOwn vs δ = true → Sim K T ρ (wipeD δ vs) (L2.wipe σ vs) H
  | [], _ => h
  | v :: vs, hn => by
    unfold noOwn at hn
    rw [List.all_cons, Bool.and_eq_true] at hn
    exact (Sim.wipe h hn.2).unset (notOwn_wipe hn.1 vs)
theorem wipe_ne {j : Nat} : ∀ {vs : List Nat}, j ∉ vs → (L2.wipe σ vs)[j]? = σ[j]?
  | [], _ => rfl
  | v :: vs, h => by
    unfold L2.wipe
    rw [List.getElem?_set_ne (fun z => h (by rw [z]; exact List.mem_cons_self))]
    exact wipe_ne fun z => h (List.mem_cons_of_mem _ z)
theorem wipe_in {j : Nat} : ∀ {vs : List Nat}, j ∈ vs → j < σ.length → (L2.wipe σ vs)[j]? = some none
  | v :: vs, h, hl => by
    unfold L2.wipe
    by_cases hv : v = j
    · subst hv
      rw [List.getElem?_set_self (by rw [wipe_length]; exact hl)]
    · rw [List.getElem?_set_ne hv]
      exact wipe_in ((List.mem_cons.mp h).resolve_left fun z => hv z.symm) hl
theorem wipe_only {vs ws : List Nat} (h : Only ws σ σ1) (hw : ∀ j ∈ ws, j ∈ vs) : L2.wipe σ1 vs = L2.wipe σ vs := by
  apply List.ext_getElem?
  intro j
  by_cases hj : j ∈ vs
  · by_cases hl : j < σ.length
    · rw [wipe_in hj hl, wipe_in hj (by rw [h.1]; exact hl)]
    · rw [List.getElem?_eq_none (by rw [wipe_length, h.1]; omega), List.getElem?_eq_none (by rw [wipe_length]; omega)]
  · rw [wipe_ne hj, wipe_ne hj, h.2 j fun z => hj (hw j z)]
theorem wipe_idem {vs : List Nat} : L2.wipe (L2.wipe σ vs) vs = L2.wipe σ vs := by
  apply List.ext_getElem?
  intro j
  by_cases hj : j ∈ vs
  · by_cases hl : j < σ.length
    · rw [wipe_in hj hl, wipe_in hj (by rw [wipe_length]; exact hl)]
    · rw [List.getElem?_eq_none (by rw [wipe_length, wipe_length]; omega), List.getElem?_eq_none (by rw [wipe_length]; omega)]
  · rw [wipe_ne hj]
theorem restD_len {δ0 δe : Ds} : ∀ vs : List Nat, (restD δ0 δe vs).length = δe.length
  | [] => rfl
  | v :: vs => by unfold restD; rw [List.length_set, restD_len vs]
theorem restD_ne {δ0 δe : Ds} {j : Nat} : ∀ {vs : List Nat}, j ∉ vs → (restD δ0 δe vs)[j]? = δe[j]?
  | [], _ => rfl
  | v :: vs, h => by
    unfold restD
    rw [List.getElem?_set_ne (fun z => h (by rw [z]; exact List.mem_cons_self))]
    exact restD_ne fun z => h (List.mem_cons_of_mem _ z)
theorem restD_in {δ0 δe : Ds} {j : Nat} : ∀ {vs : List Nat}, j ∈ vs → j < δe.length → (restD δ0 δe vs)[j]? = some (slot δ0 j)
  | v :: vs, h, hl => by
    unfold restD
    by_cases hv : v = j
    · subst hv
      rw [List.getElem?_set_self (by rw [restD_len]; exact hl)]
    · rw [List.getElem?_set_ne hv]
      exact restD_in ((List.mem_cons.mp h).resolve_left fun z => hv z.symm) hl
theorem noOwn_mem {vs : List Nat} {j : Nat} (h : noOwn vs δ = true) (hj : j ∈ vs) : notOwn (slot δ j) = true := List.all_eq_true.mp h j hj
theorem Sim.addTmp {o : HO} (h : Sim K T ρ δ σ H) (hD : H D = none) (hn : NT o := by trivial) : Sim K (D :: T) ρ δ σ (upd H D o) := by
  have hh : hid (D :: T) ρ (upd H D o) = hid T ρ H := hid_new hD
  obtain ⟨nT, nρ⟩ := h.trk.fresh hD
  refine ⟨h.len, h.slen, fun j s hj => ?_, h.own, h.own', h.inj, fun j a hj hm => ?_, fun a ha => ?_, fun p hp => List.mem_cons_of_mem _ (h.tabT p hp), tabs_upd h.tabs fun x e => by rw [hD] at e; cases e⟩
  · obtain ⟨v, e1, e2⟩ := h.slot j s hj
    refine ⟨v, e1, ?_⟩
    cases s with
    | o c =>
      obtain ⟨a, x, z1, z2, z3⟩ := e2
      exact ⟨a, x, z1, by rw [upd_ne (ne_of_none z2 hD)]; exact z2, by rw [hh]; exact z3⟩
    | d x => exact (show SV K (hid (D :: T) ρ (upd H D o)) v (.d x) by rw [hh]; exact e2)
    | t x => exact (show SV K (hid (D :: T) ρ (upd H D o)) v (.t x) by rw [hh]; exact e2)
    | z x => exact (show SV K (hid (D :: T) ρ (upd H D o)) v (.z x) by rw [hh]; exact e2)
    | p x => exact (show SV K (hid (D :: T) ρ (upd H D o)) v (.p x) by rw [hh]; exact e2)
  · rcases List.mem_cons.mp hm with e | hm
    · subst e
      exact nρ (ix_mem hj)
    · exact h.nt j a hj hm
  · rcases List.mem_cons.mp ha with e | ha
    · subst e
      exact ⟨o, upd_same, hn⟩
    · obtain ⟨x, hx, hy⟩ := h.tmp a ha
      exact ⟨x, by rw [upd_ne (ne_of_none hx hD)]; exact hx, hy⟩
theorem hid_tmp {o : HO} (hT : D ∈ T) : hid T ρ (upd H D o) = hid T ρ H := by
  funext b
  unfold hid
  by_cases hb : b = D
  · subst hb
    rw [if_pos (.inl hT), if_pos (.inl hT)]
  · rw [upd_ne hb]
/-- what is being made is written -/
theorem Sim.tmpW {o : HO} (h : Sim K T ρ δ σ H) (hT : D ∈ T) (hb : ∀ x, H D = some x → (∀ ps, x ≠ .tbl ps) ∧ NT x) (hn : NT o := by trivial) : Sim K T ρ δ σ (upd H D o) := by
  have hh : hid T ρ (upd H D o) = hid T ρ H := hid_tmp hT
  refine ⟨h.len, h.slen, fun j s hj => ?_, h.own, h.own', h.inj, h.nt, fun a ha => ?_, h.tabT, tabs_upd h.tabs hb⟩
  · obtain ⟨v, e1, e2⟩ := h.slot j s hj
    refine ⟨v, e1, ?_⟩
    cases s with
    | o c =>
      obtain ⟨b, f1, f2⟩ := h.own j c hj
      obtain ⟨a, x, z1, z2, z3⟩ := e2
      subst z1
      rw [e1] at f2
      cases f2
      have ne : b ≠ D := fun z => by
        subst z
        exact h.nt j b f1 hT
      exact ⟨b, x, rfl, by rw [upd_ne ne]; exact z2, by rw [hh]; exact z3⟩
    | d x => exact (show SV K (hid T ρ (upd H D o)) v (.d x) by rw [hh]; exact e2)
    | t x => exact (show SV K (hid T ρ (upd H D o)) v (.t x) by rw [hh]; exact e2)
    | z x => exact (show SV K (hid T ρ (upd H D o)) v (.z x) by rw [hh]; exact e2)
    | p x => exact (show SV K (hid T ρ (upd H D o)) v (.p x) by rw [hh]; exact e2)
  · by_cases hb : a = D
    · exact ⟨o, by rw [hb, upd_same], hn⟩
    · obtain ⟨x, hx, hy⟩ := h.tmp a ha
      exact ⟨x, by rw [upd_ne hb]; exact hx, hy⟩
theorem tabs_rm {T : List (Addr × Str)} {H : Hp} {D : Addr} (h : LamX.Tabs T H) (n : ∀ x, H D = some x → (∀ ps, x ≠ .tbl ps) ∧ NT x) : LamX.Tabs T (rm H D) := fun p hp => by
  obtain ⟨ps, h1, h2, h3⟩ := h p hp
  refine ⟨ps, by rw [rm_ne (fun z => (n _ (by rw [← z]; exact h1)).1 ps rfl)]; exact h1, h2, fun pos cv hc => ?_⟩
  obtain ⟨c, e1, e2⟩ := h3 pos cv hc
  exact ⟨c, e1, by rw [rm_ne (fun z => (n (LamX.CodeO c p.2) (by rw [← z]; exact e2)).2)]; exact e2⟩
theorem ext_tmp {o : HO} (hT : D ∈ T) : Same (hid T ρ H) (hid T ρ (upd H D o)) := by
  rw [hid_tmp hT]
  exact Same.refl _
end
section
variable {X : Cx}
theorem lc_ok {K : PySem.W.Frag} {vs ws : List Nat} {fi : IEV} {g : GEV} {tt : TEV} {te : EV} (hw : ∀ j ∈ ws, j ∈ vs) (σ : L2.St) (H : Hp) (Q : VK) (h : lift K (lcE vs fi g tt te) σ H Q) : tLc (liftI K fi) (liftG K ws g) (liftT K tt) (lift K te) vs σ H Q := by
  obtain ⟨T, ρ, δ, s, δ', hs, hf, hq⟩ := h
  unfold lcE at hf
  cases ea : fi δ with
  | none => rw [ea] at hf; cases hf
  | some z =>
    obtain ⟨xs, δ1⟩ := z
    rw [ea] at hf
    simp only [Option.bind_some] at hf
    split at hf
    case isFalse => cases hf
    rename_i hno
    cases el : lcD vs g tt te xs (wipeD δ1 vs) with
    | none => rw [el] at hf; cases hf
    | some r =>
      obtain ⟨out, δe⟩ := r
      rw [el] at hf
      simp only [Option.bind_some] at hf
      split at hf
      case isFalse => cases hf
      rename_i hsz
      cases hf
      refine ⟨T, ρ, δ, xs, δ1, hs, ea, fun ρ1 H1 J s1 x1 sv => ?_⟩
      intro D hD
      refine ⟨fun i m H' => ∃ ρ' δ2 acc dn rs, i + m = xs.length ∧ Sim K (D :: T) ρ' δ2 (L2.wipe σ vs) H' ∧ Same (hid T ρ1 H1) (hid (D :: T) ρ' H') ∧ (∀ a, a ∈ T → Kp (H1 a) (H' a)) ∧ H' D = some (.lst acc) ∧ DqAll K (hid (D :: T) ρ' H') acc dn ∧
        lcD vs g tt te (xs.drop i) δ2 = some (rs, δe) ∧ dn ++ rs = out, ⟨xs.length, ρ1, wipeD δ1 vs, [], [], out, by omega, (s1.wipe hno).addTmp hD, ?_, ?_, upd_same, .nil, el, rfl⟩, ?_⟩
      · rw [hid_new hD]
        exact Same.refl _
      · intro a ha
        obtain ⟨o, ho, _⟩ := s1.tmp a ha
        rw [upd_ne (ne_of_none ho hD)]
        exact .refl
      rintro i m H2 ⟨ρ2, δ2, acc, dn, rs, him, s2, sm, tm, hacc, hdn, hl, hout⟩
      have alen : acc.length = dn.length := dpAll_len hdn
      by_cases hi : i < xs.length
      · have hd : xs.drop i = xs[i] :: xs.drop (i + 1) := by rw [List.drop_eq_getElem_cons hi]
        rw [hd] at hl
        unfold lcD at hl
        cases eg : g xs[i] δ2 with
        | none => rw [eg] at hl; cases hl
        | some δ3 =>
          rw [eg] at hl
          simp only [Option.bind_some] at hl
          cases et : tt δ3 with
          | none => rw [et] at hl; cases hl
          | some b =>
            obtain ⟨b, δ4⟩ := b
            rw [et] at hl
            simp only [Option.bind_some] at hl
            obtain ⟨go, yl⟩ := (sv i (D :: T) ρ2 H2 sm s2.trk).1 _ (List.getElem?_eq_getElem hi)
            refine .inr ⟨go, fun H' => ∃ ρ' δ2 acc dn rs, Sim K (D :: T) ρ' δ2 (L2.wipe σ vs) H' ∧ Same (hid T ρ1 H1) (hid (D :: T) ρ' H') ∧ (∀ a, a ∈ T → Kp (H1 a) (H' a)) ∧ H' D = some (.lst acc) ∧ DqAll K (hid (D :: T) ρ' H') acc dn ∧
              lcD vs g tt te (xs.drop (i + 1)) δ2 = some (rs, δe) ∧ dn ++ rs = out, ?_, fun x H3 hy => ?_⟩
            · rintro H' ⟨ρ', δ5, acc', dn', rs', q1, q2, q3, q4, q5, q6, q7⟩
              exact ⟨m - 1, by omega, ρ', δ5, acc', dn', rs', by omega, q1, q2, q3, q4, q5, q6, q7⟩
            obtain ⟨y1, y2⟩ := yl x H3 hy
            have e2 := s2.trk.extT y1
            refine ⟨D :: T, ρ2, δ2, xs[i], δ3, s2.mono y1, y2, eg, fun ρ4 σ4 H4 s4 x4 o4 => ?_⟩
            have hwp : L2.wipe σ4 vs = L2.wipe σ vs := by rw [wipe_only o4 hw, wipe_idem]
            refine ⟨hwp, D :: T, ρ4, δ3, b, δ4, s4, et, fun ρ5 H5 s5 x5 => ?_⟩
            have xx : Ext (D :: T) ρ2 H2 ρ5 H5 := e2.trans (x4.trans x5)
            -- a turn's end
            have fin : ∀ (ρ6 : List (Option Addr)) (δ6 : Ds) (H6 : Hp), Sim K (D :: T) ρ6 δ6 σ4 H6 → Ext (D :: T) ρ2 H2 ρ6 H6 → noOwn vs δ6 = true →
                Sim K (D :: T) ρ6 (wipeD δ6 vs) (L2.wipe σ vs) H6 ∧ Same (hid T ρ1 H1) (hid (D :: T) ρ6 H6) ∧ (∀ a, a ∈ T → Kp (H1 a) (H6 a)) ∧ H6 D = some (.lst acc) ∧ DqAll K (hid (D :: T) ρ6 H6) acc dn := by
              intro ρ6 δ6 H6 s6 x6 n6
              have q := s6.wipe n6
              rw [hwp] at q
              exact ⟨q, sm.trans x6.same, fun a ha => (tm a ha).trans (x6.tmp a (List.mem_cons_of_mem _ ha)), x6.at List.mem_cons_self hacc, dpAllM x6.same _ hdn⟩
            cases b with
            | false =>
              refine L2.iteF ?_
              rw [if_neg Bool.false_ne_true] at hl
              split at hl
              case isFalse => cases hl
              rename_i n5
              obtain ⟨q1, q2, q3, q4, q5⟩ := fin ρ5 δ4 H5 s5 xx n5
              exact ⟨ρ5, _, acc, dn, rs, q1, q2, q3, q4, q5, hl, hout⟩
            | true =>
              refine L2.iteT ?_
              rw [if_pos rfl] at hl
              cases ey : te δ4 with
              | none => rw [ey] at hl; cases hl
              | some y =>
                obtain ⟨u, δ6⟩ := y
                rw [ey] at hl
                simp only [Option.bind_some] at hl
                split at hl
                case h_2 => cases hl
                rename_i d hd'
                split at hl
                case isFalse => cases hl
                rename_i n6
                cases er : lcD vs g tt te (xs.drop (i + 1)) (wipeD δ6 vs) with
                | none => rw [er] at hl; cases hl
                | some r =>
                  obtain ⟨rs', δz⟩ := r
                  rw [er] at hl
                  cases hl
                  have hlen : acc.length < sizeLine := by
                    rw [alen]
                    have : dn.length + (rs'.length + 1) ≤ sizeLine := by
                      have := hsz
                      rw [← hout, List.length_append, List.length_cons] at this
                      exact this
                    omega
                  -- the element
                  have each : ∀ (ρ7 : List (Option Addr)) (v : V) (H7 : Hp), Sim K (D :: T) ρ7 δ6 σ4 H7 → Ext (D :: T) ρ5 H5 ρ7 H7 → Dq K (hid (D :: T) ρ7 H7) v d →
                      ∃ acc, H7 D = some (.lst acc) ∧ acc.length < sizeLine ∧ (∃ ρ' δ2 acc' dn rs, Sim K (D :: T) ρ' δ2 (L2.wipe σ vs) (upd H7 D (.lst (acc ++ [v]))) ∧ Same (hid T ρ1 H1) (hid (D :: T) ρ' (upd H7 D (.lst (acc ++ [v])))) ∧ (∀ a, a ∈ T → Kp (H1 a) ((upd H7 D (.lst (acc ++ [v]))) a)) ∧ (upd H7 D (.lst (acc ++ [v]))) D = some (.lst acc') ∧ DqAll K (hid (D :: T) ρ' (upd H7 D (.lst (acc ++ [v])))) acc' dn ∧
                        lcD vs g tt te (xs.drop (i + 1)) δ2 = some (rs, δz) ∧ dn ++ rs = out) := by
                    intro ρ7 v H7 s7 x7 hv
                    obtain ⟨q1, q2, q3, q4, q5⟩ := fin ρ7 δ6 H7 s7 (xx.trans x7) n6
                    refine ⟨acc, q4, hlen, ρ7, _, acc ++ [v], dn ++ [d], rs', q1.tmpW List.mem_cons_self (nb_of q4), ?_, ?_, upd_same, ?_, er, by rw [List.append_assoc]; exact hout⟩
                    · rw [hid_tmp List.mem_cons_self]
                      exact q2
                    · intro a ha
                      have ne : a ≠ D := fun z => by
                        subst z
                        exact (s1.trk.fresh hD).1 ha
                      rw [upd_ne ne]
                      exact q3 a ha
                    · rw [hid_tmp List.mem_cons_self]
                      exact dpAll_app q5 (.cons hv .nil)
                  refine ⟨D :: T, ρ5, δ4, u, δ6, s5, ey, ?_⟩
                  cases u with
                  | o c =>
                    intro ρ7 p H7 o s7 x7 hp hc
                    have hn := frz_new s7.trk hp hc
                    rw [hd'] at hn
                    exact each ρ7 (.ref p) _ (s7.mono (same_new hp)) (x7.trans (s7.trk.extT (same_new hp))) hn
                  | d c =>
                    cases hd'
                    exact fun ρ7 v H7 s7 x7 hv => each ρ7 v H7 s7 x7 hv
                  | t c => cases hd'
                  | z c => cases hd'
                  | p c => cases hd'
      · have hd : xs.drop i = [] := List.drop_eq_nil_of_le (by omega)
        rw [hd] at hl
        cases hl
        rw [List.append_nil] at hout
        subst hout
        refine .inl ⟨(sv i (D :: T) ρ2 H2 sm s2.trk).2 (by omega), ?_⟩
        have hh : hid T ρ2 (rm H2 D) = hid (D :: T) ρ2 H2 := hid_rm
        rw [← rm_upd hacc]
        refine hq ρ2 D (rm H2 D) (.lst acc) ?_ (x1.trans ⟨by rw [hh]; exact sm, fun a ha => ?_, fun _ => tabs_rm s2.tabs (nb_of hacc)⟩) rm_self ⟨acc, rfl, by rw [hh]; exact hdn⟩
        · have lenE : δe.length = σ.length := by
            have := s2.slen
            rw [wipe_length] at this
            exact this.symm
          refine ⟨by rw [restD_len]; exact s2.len, by rw [restD_len]; exact lenE.symm, fun j u hj => ?_, fun j c hj => ?_, fun j a hj => ?_, s2.inj, fun j a hj hm => s2.nt j a hj (List.mem_cons_of_mem _ hm), fun a ha => ?_, s1.tabT, tabs_rm s2.tabs (nb_of hacc)⟩
          · by_cases hjv : j ∈ vs
            · have hjl : j < δe.length := by
                have := (List.getElem?_eq_some_iff.mp hj).1
                rw [restD_len] at this
                exact this
              rw [restD_in hjv hjl] at hj
              have hj' := slot_some (Option.some.inj hj)
              obtain ⟨v, e1, e2⟩ := s1.slot j u hj'
              refine ⟨v, e1, ?_⟩
              cases u with
              | o c => exact (notOwn_no (noOwn_mem hno hjv) hj').elim
              | d x => exact (show SV K (hid T ρ2 (rm H2 D)) v (.d x) by rw [hh]; exact svM (s := .d x) sm e2)
              | t x => exact (show SV K (hid T ρ2 (rm H2 D)) v (.t x) by rw [hh]; exact svM (s := .t x) sm e2)
              | z x => exact (show SV K (hid T ρ2 (rm H2 D)) v (.z x) by rw [hh]; exact svM (s := .z x) sm e2)
              | p x => exact (show SV K (hid T ρ2 (rm H2 D)) v (.p x) by rw [hh]; exact svM (s := .p x) sm e2)
            · rw [restD_ne hjv] at hj
              obtain ⟨v, e1, e2⟩ := s2.slot j u hj
              rw [wipe_ne hjv] at e1
              refine ⟨v, e1, ?_⟩
              cases u with
              | o c =>
                obtain ⟨b, f1, f2⟩ := s2.own j c hj
                rw [wipe_ne hjv, e1] at f2
                cases f2
                obtain ⟨a, x, z1, z2, z3⟩ := e2
                cases z1
                have ne : b ≠ D := fun z => by
                  subst z
                  exact s2.nt j b f1 List.mem_cons_self
                exact ⟨b, x, rfl, by rw [rm_ne ne]; exact z2, by rw [hh]; exact z3⟩
              | d x => exact (show SV K (hid T ρ2 (rm H2 D)) v (.d x) by rw [hh]; exact e2)
              | t x => exact (show SV K (hid T ρ2 (rm H2 D)) v (.t x) by rw [hh]; exact e2)
              | z x => exact (show SV K (hid T ρ2 (rm H2 D)) v (.z x) by rw [hh]; exact e2)
              | p x => exact (show SV K (hid T ρ2 (rm H2 D)) v (.p x) by rw [hh]; exact e2)
          · by_cases hjv : j ∈ vs
            · have hjl : j < δe.length := by
                have := (List.getElem?_eq_some_iff.mp hj).1
                rw [restD_len] at this
                exact this
              rw [restD_in hjv hjl] at hj
              exact (notOwn_no (noOwn_mem hno hjv) (slot_some (Option.some.inj hj))).elim
            · rw [restD_ne hjv] at hj
              obtain ⟨a, f1, f2⟩ := s2.own j c hj
              rw [wipe_ne hjv] at f2
              exact ⟨a, f1, f2⟩
          · obtain ⟨c, hc⟩ := s2.own' j a hj
            by_cases hjv : j ∈ vs
            · obtain ⟨b, f1, f2⟩ := s2.own j c hc
              have hjl : j < σ.length := by
                have := (List.getElem?_eq_some_iff.mp hc).1
                omega
              rw [wipe_in hjv hjl] at f2
              cases f2
            · exact ⟨c, by rw [restD_ne hjv]; exact hc⟩
          · have ne : a ≠ D := fun z => by
              subst z
              exact (s1.trk.fresh hD).1 ha
            rw [rm_ne ne]
            exact (tm a ha).nt (s1.tmp a ha)
        · have ne : a ≠ D := fun z => by
            subst z
            exact (s1.trk.fresh hD).1 ha
          rw [rm_ne ne]
          exact tm a ha
def yesT : TEV := fun δ => some (true, δ)
abbrev DTs (X : Cx) (ifs : List Expr) (f : TEV) : Prop := PTs X ifs (liftT X.K f)
theorem dts_nil : DTs X [] yesT := ⟨fun pins s σ H Q I ⟨T, ρ, δ, b, δ', hs, hf, hq⟩ => by
  cases hf
  exact pts_nil.run pins s σ H Q I (hq ρ H hs .refl)⟩
theorem dts_one {c : Expr} {f : TEV} (h : DT X c f) : DTs X [c] f := pts_one h
theorem de_lc {elt tg iter : Expr} {ifs : List Expr} {scope : Scope} {own : List (Str × Nat)} {pos : Pos} {ws : List Nat} {fi : IEV} {g : GEV} {tt : TEV} {te : EV} (hc : X.calm = true) (hN : X.N.Nodup) (hi : DI X tg iter fi) (ok : BlkOk X.N X.env.scope scope own) (hw : ∀ j ∈ ws, j ∈ own.map (·.2))
    (hg : ∀ (s : Shared) (H : Hp) (C : Addr) (cl : List (Str × Addr)) (fp : List Addr), DG (X.blk s H scope (compEnvC scope cl C X.env) fp) ws tg g)
    (ht : ∀ (s : Shared) (H : Hp) (C : Addr) (cl : List (Str × Addr)) (fp : List Addr), DTs (X.blk s H scope (compEnvC scope cl C X.env) fp) ifs tt)
    (he : ∀ (s : Shared) (H : Hp) (C : Addr) (cl : List (Str × Addr)) (fp : List Addr), DE (X.blk s H scope (compEnvC scope cl C X.env) fp) elt te) (hs : ∀ x, foldedSetIterable iter X.env x = pure x := by intro _; rfl) :
    DE X (.ListComp elt [⟨tg, iter, ifs, 0⟩] scope pos) (lcE (own.map (·.2)) fi g tt te) := pe_imp (pe_lc hc hN hi ok hg ht he hs) (lc_ok hw)
theorem ds_setLc {P : List Nat} {i : Nat} {y : Str} {py : Pos} {elt tg iter : Expr} {ifs : List Expr} {scope : Scope} {own : List (Str × Nat)} {pos spos : Pos} {ws : List Nat} {fi : IEV} {g : GEV} {tt : TEV} {te : EV} (hc : X.calm = true) (hN : X.N.Nodup) (hy : X.N[i]? = some y) (hyl : X.env.scope.names.lookup y = some .local) (hP : i ∉ P)
    (hsw : swapsWith (.ListComp elt [⟨tg, iter, ifs, 0⟩] scope pos) (some (.Name y py)) spos.line X.env = pure true) (hi : DI X tg iter fi) (ok : BlkOk X.N X.env.scope scope own) (hw : ∀ j ∈ ws, j ∈ own.map (·.2))
    (hg : ∀ (s : Shared) (H : Hp) (C : Addr) (cl : List (Str × Addr)) (fp : List Addr), DG (X.blk s H scope (compEnvC scope cl C X.env) fp) ws tg g)
    (ht : ∀ (s : Shared) (H : Hp) (C : Addr) (cl : List (Str × Addr)) (fp : List Addr), DTs (X.blk s H scope (compEnvC scope cl C X.env) fp) ifs tt)
    (he : ∀ (s : Shared) (H : Hp) (C : Addr) (cl : List (Str × Addr)) (fp : List Addr), DE (X.blk s H scope (compEnvC scope cl C X.env) fp) elt te) (hs : ∀ x, foldedSetIterable iter X.env x = pure x := by intro _; rfl) :
    DS X P (.Assign [.Name y py] (.ListComp elt [⟨tg, iter, ifs, 0⟩] scope pos) spos) (setS i (lcE (own.map (·.2)) fi g tt te)) := ps_imp (ps_setLc hc hN hy hyl hsw hi ok hg ht he hs) fun D σ H ⟨T, ρ, δ, o, hs, hf, hq⟩ => lc_ok hw σ H _ (set_ok hP ⟨T, ρ, δ, o, hs, hf, hq⟩)
end
end DL

namespace DL
open PySem PySem.Spec PyProof.Rows L2
variable [TB]

/-! ### the law's end -/
section
variable {P : Program} {w : World} {K : PySem.W.Frag} {mg mb : Str → Option Value} {k : Nat} {fa a : Addr} {fd : FuncData} {x : Str} {sp : Sp} {s₁ : Shared} {vs : List Value} {ns : List Int}
theorem end_core (H : Hp) (KX : K.In s₁.heap) (hns : s₁.heap.Ns mainGlobals mg) (hb : s₁.heap.Ns builtinsNs mb) (hbb : ∀ x : Str, x ≠ "__name__" → mb x = bootBuiltins x) (hlim : s₁.heap.NoLimit) (hg : s₁.gens = #[])
    (ha : s₁.heap.get? a = some { cls := .type "list", data := .seq vs.toArray }) (hr : Room k callerA)
    (F : ∀ base : Heap, K.In base → base.Ns mainGlobals mg → FnG P w K mg base k fa fd [x] sp) (hbind : ∀ (s : Shared) (u : Value), BindsTo s fd ⟨[u], []⟩ [(x, u)])
    (hO : L2.Only H) (hS : sp [.ref a] H (fun v _ => v = .bl true) fun _ _ _ => False) (hok : HOk P w H s₁.heap) (hA : ∀ b, H b ≠ none → b = a) (hK : H a ≠ none → K.lookup a = none) :
    codeAny (model P w) callerA (.call (.ref fa) ⟨[.ref a], []⟩) (fun r s' => r = .ok (.ret (.bool true)) ∧ OldK s₁.heap s'.heap ∧ s'.os = s₁.os ∧ AllBare s'.gens) s₁ := by
  have isA : ∀ {b : Addr} {u : HO}, H b = some u → b = a := fun {b u} q => hA b (by
    rw [q]
    exact Option.some_ne_none u)
  have dic : ∀ {b : Addr} {o : Obj} {es : Array DictEntry} {ep : Nat}, s₁.heap.get? b = some o → o.data = .dict es ep → H b = none := by
    intro b o es ep e d
    cases q : H b with
    | none => rfl
    | some u =>
      have e2 := isA q
      subst e2
      rw [ha] at e
      cases e
      cases (show Data.seq vs.toArray _ = Data.dict es ep from d)
  have nsK : ∀ {b : Addr} {m : Str → Option Value}, s₁.heap.Ns b m → (hidT s₁.heap H).Ns b m := by
    rintro b m ⟨o, es, ep, e, d, r⟩
    exact ⟨o, es, ep, hidT_get e (dic e d), d, r⟩
  have hKb : K.In (hidT s₁.heap H) := by
    intro b o e
    refine hidT_get (KX b o e) ?_
    cases q : H b with
    | none => rfl
    | some u =>
      have e2 := isA q
      subst e2
      rw [hK (by rw [q]; exact Option.some_ne_none u)] at e
      cases e
  obtain ⟨mc, l1, l2⟩ := hlim
  have hM : Mod K mg (hidT s₁.heap H) := ⟨hKb, nsK hns, ⟨mb, nsK hb, hbb⟩, mc, nsK l1, l2⟩
  have none0 : ∀ (b : Addr), b ∉ ([] : List Addr) := fun b => by simp
  have e0 : Env0 P w K mg (hidT s₁.heap H) callerA [] s₁ H :=
    ⟨rfl, hM, fun b o e => of_hidT e, Nat.le_of_eq (hidT_size _ _), trivial,
      fun b z => (none0 b z).elim, hok, .of_eq hg⟩
  have R := (F _ hKb (nsK hns)).run callerA [] s₁ H ⟨[.ref a], []⟩ [.ref a] [.ref a] _ _ rfl hr e0
    (hbind s₁ (.ref a)) (.cons rfl .nil) hS
  refine codeAny_mono R ?_
  intro r s' h
  cases r with
  | error e => exact h.elim
  | ok fl =>
    cases fl with
    | next => exact h.elim
    | brk => exact h.elim
    | cont => exact h.elim
    | ret u =>
      obtain ⟨v, H', os, bare, un, hok', rv, q⟩ := h
      cases (show v = .bl true from q)
      cases (show u = Value.bool true from rv)
      refine ⟨rfl, OldK.of_keep ?_, os, bare⟩
      intro b o e
      cases q : H b with
      | none => exact un.keep b o e q (fun z => none0 b z) (none0 b)
      | some u =>
        rcases hO b with z | ⟨ob, xs, z⟩
        · rw [q] at z
          cases z
        · have e1 := (hok b _ z).1
          have e2 := (hok' b _ (un.frzs b ob _ z)).1
          rw [e] at e1
          cases e1
          exact e2
theorem end_call (KX : K.In s₁.heap) (hns : s₁.heap.Ns mainGlobals mg) (hb : s₁.heap.Ns builtinsNs mb) (hbb : ∀ x : Str, x ≠ "__name__" → mb x = bootBuiltins x) (hlim : s₁.heap.NoLimit) (hg : s₁.gens = #[])
    (ha : s₁.heap.get? a = some { cls := .type "list", data := .seq vs.toArray }) (hi : IntsAre vs ns) (hl : ns.length ≤ sizeLine) (hr : Room k callerA)
    (F : ∀ base : Heap, K.In base → base.Ns mainGlobals mg → FnG P w K mg base k fa fd [x] sp) (hbind : ∀ (s : Shared) (u : Value), BindsTo s fd ⟨[u], []⟩ [(x, u)])
    (hsp : ∀ H : Hp, L2.Only H → SqL K H a (ns.map V.int) → sp [.ref a] H (fun v _ => v = .bl true) fun _ _ _ => False) :
    codeAny (model P w) callerA (.call (.ref fa) ⟨[.ref a], []⟩) (fun r s' => r = .ok (.ret (.bool true)) ∧ OldK s₁.heap s'.heap ∧ s'.os = s₁.os ∧ AllBare s'.gens) s₁ := by
  have rv := vals_ints hi
  have lenV := hi.length
  cases hk : K.lookup a with
  | some o =>
    have e := KX a o hk
    rw [ha] at e
    cases e
    have hO : L2.Only fun _ => none := fun _ => .inl rfl
    have hS : SqL K (fun _ => none) a (ns.map V.int) := .inr ⟨_, vs.toArray, _, hk, rfl, rfl, rfl, by rw [List.size_toArray, lenV]; exact hl, by simpa using rv⟩
    refine end_core (fun _ => none) KX hns hb hbb hlim hg ha hr F hbind hO (hsp _ hO hS) ?_ (fun b z => absurd rfl z) (fun z => absurd rfl z)
    intro b u z
    cases (show (none : Option HO) = some u from z)
  | none =>
    have at1 : ∀ b, b = a → (fun b => if b = a then some (HO.frz { cls := .type "list", data := .seq vs.toArray } (.lst (ns.map V.int))) else none) b = some (HO.frz { cls := .type "list", data := .seq vs.toArray } (.lst (ns.map V.int))) := fun b e => if_pos e
    have at0 : ∀ b, b ≠ a → (fun b => if b = a then some (HO.frz { cls := .type "list", data := .seq vs.toArray } (.lst (ns.map V.int))) else none) b = none := fun b e => if_neg e
    generalize hH : (fun b => if b = a then some (HO.frz { cls := .type "list", data := .seq vs.toArray } (.lst (ns.map V.int))) else none : Hp) = H at at1 at0
    have hO : L2.Only H := fun b => by
      by_cases e : b = a
      · exact .inr ⟨_, _, at1 b e⟩
      · exact .inl (at0 b e)
    refine end_core H KX hns hb hbb hlim hg ha hr F hbind hO (hsp H hO (.inl (.inr ⟨_, at1 a rfl⟩))) ?_ ?_ fun _ => hk
    · intro b u z
      by_cases e : b = a
      · rw [at1 b e] at z
        cases z
        subst e
        refine ⟨ha, ?_, vs, _, rv, ha⟩
        rw [List.length_map]
        exact hl
      · rw [at0 b e] at z
        cases z
    · intro b z
      by_cases e : b = a
      · exact e
      · exact absurd (at0 b e) z
end
omit [TB] in
/-- the goal that the head leaves, from the law's meaning: it is True of every script -/
theorem walkG {l : PySem.W.OpenLaw} {n k : Nat} {q : Program} {loose : List Str} {XP : (Str → Option Value) → Heap → Prop} {YP : World → Heap → Prop} {d : DefRec} {K : Params → PySem.W.Frag} {x : Str} {G : FN}
    (hn : l.most = some n) (hn2 : n ≤ sizeLine) (hdf : d.params.defaults = []) (hr : Room k callerA) (hY : ∀ (w : World) (h : Heap), YP w h → (K w.params).In h)
    (F : ∀ (w : World) (mg : Str → Option Value) (fa : Addr) (h : Heap), (K w.params).In h → h.Ns mainGlobals mg → mg d.name = some (.ref fa) →
      ∃ fd : FuncData, (∀ (s : Shared) (u : Value), BindsTo s fd ⟨[u], []⟩ [(x, u)]) ∧
        ∀ base : Heap, (K w.params).In base → base.Ns mainGlobals mg → FnG l.prog w (K w.params) mg base k fa fd [x] (@spF defTB (K w.params) 1 G))
    (hG : ∀ ns : List Int, ns.length ≤ n → ∃ cs, G [.z ns] = some (.d (.bool true), cs)) :
    PySem.W.WalkO q loose XP YP l.row.toRowW d [] (fun f vs => PySem.call f vs) := by
  refine Att.attach_call hn hdf fun w s₀ s₁ mg mb fa o pm cd doc a vs ns G' Y ho hd hcd hmg hobj hints hlen hg => ?_
  have KX := hY w _ Y
  obtain ⟨fd, hb, hF⟩ := F w mg fa _ KX G'.T.g hmg
  refine end_call KX G'.T.g G'.T.b G'.T.builtins G'.T.nolimit hg hobj hints (Nat.le_trans hlen hn2) hr hF hb ?_
  intro H hO hS
  obtain ⟨cs, hcs⟩ := hG ns hlen
  have he : hid [] [none] H = H := by
    funext b
    unfold hid
    rw [if_neg]
    rintro (z | z)
    · cases z
    · cases List.mem_singleton.mp z
  refine ⟨[], [none], [.z ns], _, cs, ⟨rfl, rfl, ?_, ?_, ?_, ?_, ?_, ?_, (fun p hp => by cases (show p ∈ ([] : List (Addr × Str)) from hp)), (fun p hp => by cases (show p ∈ ([] : List (Addr × Str)) from hp))⟩, rfl, hcs, ?_⟩
  · intro i s hi
    cases i with
    | zero =>
      cases (show some (some (S.z ns)) = some (some s) from hi)
      exact ⟨.ref a, rfl, a, rfl, by rw [he]; exact hS⟩
    | succ i => cases (show (none : Option (Option S)) = some (some s) from hi)
  · intro i c hi
    cases i with
    | zero => cases (show some (some (S.z ns)) = some (some (S.o c)) from hi)
    | succ i => cases (show (none : Option (Option S)) = some (some (S.o c)) from hi)
  · intro i b hi
    cases i with
    | zero => cases (show some (none : Option Addr) = some (some b) from hi)
    | succ i => cases (show (none : Option (Option Addr)) = some (some b) from hi)
  · intro i j b hi
    cases i with
    | zero => cases (show some (none : Option Addr) = some (some b) from hi)
    | succ i => cases (show (none : Option (Option Addr)) = some (some b) from hi)
  · intro i b hi
    cases i with
    | zero => cases (show some (none : Option Addr) = some (some b) from hi)
    | succ i => cases (show (none : Option (Option Addr)) = some (some b) from hi)
  · intro b hb
    cases hb
  · intro v H' _ _ hv
    cases (show Dq _ _ v (.bool true) from hv)
    rfl
end DL

namespace DL
open PySem PySem.Spec PyProof.Rows L2
variable [TB]

/-! ### operations by data -/
def asI : S → Option Int
  | .d (.int i) => some i
  | _ => none
def asL : S → Option (List PyData)
  | .d (.list xs) => some xs
  | .o (.l xs) => some xs
  | _ => none
def asT : S → Option (List PyData)
  | .d (.tuple xs) => some xs
  | _ => none
def asD : S → Option PyData
  | .d x => some x
  | .o (.l xs) => some (.list xs)
  | _ => none
def asB : S → Option Bool
  | .d (.bool b) => some b
  | _ => none
section
variable {K : PySem.W.Frag} {T : List Addr} {ρ : List (Option Addr)} {H : Hp} {v : V} {s : S}
theorem at_I {i : Int} (h : At K T ρ H v s) (e : asI s = some i) : v = .int i := by
  unfold asI at e
  split at e
  · cases e
    cases (show Dq K _ v (.int i) from h)
    rfl
  · cases e
theorem at_B {b : Bool} (h : At K T ρ H v s) (e : asB s = some b) : v = .bl b := by
  unfold asB at e
  split at e
  · cases e
    cases (show Dq K _ v (.bool b) from h)
    rfl
  · cases e
theorem at_L {xs : List PyData} (h : At K T ρ H v s) (e : asL s = some xs) : ∃ a vs, v = .ref a ∧ H a = some (.lst vs) ∧ DqAll K (hid T ρ H) vs xs := by
  unfold asL at e
  split at e
  · cases e
    cases (show Dq K (hid T ρ H) v (.list xs) from h) with
    | lst h1 h2 => exact ⟨_, _, rfl, hid_same _ _ h1, h2⟩
  · cases e
    obtain ⟨a, o, rfl, h1, vs, rfl, h2⟩ := h
    exact ⟨a, vs, rfl, h1, h2⟩
  · cases e
theorem at_T {xs : List PyData} (h : At K T ρ H v s) (e : asT s = some xs) : ∃ a vs, v = .ref a ∧ hid T ρ H a = some (.tup vs) ∧ DqAll K (hid T ρ H) vs xs := by
  unfold asT at e
  split at e
  · cases e
    cases (show Dq K (hid T ρ H) v (.tuple xs) from h) with
    | tup h1 h2 => exact ⟨_, _, rfl, h1, h2⟩
  · cases e
theorem at_D {x : PyData} (h : At K T ρ H v s) (e : asD s = some x) (cl : x.canLay0 = true) : L2.Dp K H v x := by
  unfold asD at e
  split at e
  · cases e
    exact dq_dp x cl (dpM hid_same _ h)
  · cases e
    obtain ⟨a, o, rfl, h1, vs, rfl, h2⟩ := h
    exact .lst (SqL.of h1) (dq_dpA _ cl (dpAllM hid_same _ h2))
  · cases e
end
theorem opr_or {X : Cx} {f : Value → Value → Sem Value} {r r' : R2} (h : OpR X f r) (h' : OpR X f r') : OpR X f (fun x y H Q => r x y H Q ∨ r' x y H Q) := fun pins s σ H x y v u Q I rx ry hh =>
  hh.elim (h pins s σ H x y v u Q I rx ry) (h' pins s σ H x y v u Q I rx ry)
theorem callr_or {X : Cx} {f : Value} {r r' : List V → Hp → VK → Prop} (h : CallR X f r) (h' : CallR X f r') : CallR X f (fun vs H Q => r vs H Q ∨ r' vs H Q) := fun pins s σ H xs us Q I rv hh =>
  hh.elim (h pins s σ H xs us Q I rv) (h' pins s σ H xs us Q I rv)
theorem postO_same {K : PySem.W.Frag} {T : List Addr} {ρ : List (Option Addr)} {H : Hp} {Q : VK} {x : PyData} {v : V} (h : PostO K T ρ H Q (.d x)) (hv : Dq K (hid T ρ H) v x) : Q v H := h v H (Same.refl _) hv
theorem postO_tup {K : PySem.W.Frag} {T : List Addr} {ρ : List (Option Addr)} {H : Hp} {Q : VK} {xs : List PyData} {vs : List V} (k : Trk T ρ H) (h : PostO K T ρ H Q (.d (.tuple xs))) (hv : DqAll K (hid T ρ H) vs xs) {p : Addr} (hp : H p = none) : Q (.ref p) (upd H p (.tup vs)) :=
  h _ _ (same_new hp) (Dq.tup (k.hidNew hp) (dpAllM (hid_mono (same_new hp)) _ hv))

/-! ints -/
def opI2 (f : Int → Int → Option Int) (a b : S) : Option S := (asI a).bind fun i => (asI b).bind fun j => (f i j).map fun z => .d (.int z)
theorem od_I {K : PySem.W.Frag} {C : Int → Int → Prop} {g : Int → Int → Int} {f : Int → Int → Option Int} (h : ∀ i j z, f i j = some z → C i j ∧ g i j = z) : OpD K (rI C fun i j => .int (g i j)) (opI2 f) := fun T ρ H x y a b s Q k ha hb hg hq => by
  unfold opI2 at hg
  cases e1 : asI a with
  | none => rw [e1] at hg; cases hg
  | some i =>
    rw [e1] at hg
    simp only [Option.bind_some] at hg
    cases e2 : asI b with
    | none => rw [e2] at hg; cases hg
    | some j =>
      rw [e2] at hg
      simp only [Option.bind_some] at hg
      cases e3 : f i j with
      | none => rw [e3] at hg; cases hg
      | some z =>
        rw [e3] at hg
        cases hg
        obtain ⟨c, ez⟩ := h i j z e3
        subst ez
        exact ⟨i, j, at_I ha e1, at_I hb e2, c, postO_same hq (.int _)⟩
def iSub (i j : Int) : Option Int := some (i - j)
def iMul (i j : Int) : Option Int := if i.natAbs.log2 + j.natAbs.log2 < 1000000 then some (i * j) else none
def iDiv (i j : Int) : Option Int := if 0 < j ∧ j.natAbs.log2 < 9000 then some (i / j) else none
def iMod (i j : Int) : Option Int := if 0 < j then some (i % j) else none
def iPow (i j : Int) : Option Int := if 0 ≤ j ∧ (Builtin.Int.intBits i : Int) * j ≤ 2 ^ 27 then some (i ^ j.toNat) else none
section
variable {X : Cx} {a b : Expr} {pos : Pos} {fa fb : PEV}
theorem or_powW : OpR X (binaryOp .Pow) (rI (fun i j => 0 ≤ j ∧ (Builtin.Int.intBits i : Int) * j ≤ 2 ^ 27) fun i j => .int (i ^ j.toNat)) := opI fun _ _ _ _ _ _ _ hc q => pow_int hc.1 hc.2 q
theorem or_sub : OpR X (binaryOp .Sub) (rI (fun _ _ => True) fun i j => .int (i - j)) := opI fun _ _ _ _ _ _ _ _ q => sub_int q
theorem or_add : OpR X (binaryOp .Add) (rI (fun _ _ => True) fun i j => .int (i + j)) := opI fun _ _ _ _ _ _ _ _ q => add_int q
theorem de_sub (ha : DP X a fa) (hb : DP X b fb) : DE X (.BinOp a .Sub b pos) (bin (opI2 iSub) fa fb) := de_op or_sub (od_I fun i j z h => ⟨trivial, Option.some.inj h⟩) ha hb
theorem de_div (ha : DP X a fa) (hb : DP X b fb) : DE X (.BinOp a .FloorDiv b pos) (bin (opI2 iDiv) fa fb) := de_op op_fdivW (od_I fun i j z h => by
  unfold iDiv at h
  split at h
  · rename_i hc
    exact ⟨hc, Option.some.inj h⟩
  · cases h) ha hb
theorem de_mod (ha : DP X a fa) (hb : DP X b fb) : DE X (.BinOp a .Mod b pos) (bin (opI2 iMod) fa fb) := de_op op_mod (od_I fun i j z h => by
  unfold iMod at h
  split at h
  · rename_i hc
    exact ⟨hc, Option.some.inj h⟩
  · cases h) ha hb
theorem de_pow (ha : DP X a fa) (hb : DP X b fb) : DE X (.BinOp a .Pow b pos) (bin (opI2 iPow) fa fb) := de_op or_powW (od_I fun i j z h => by
  unfold iPow at h
  split at h
  · rename_i hc
    exact ⟨hc, Option.some.inj h⟩
  · cases h) ha hb

/-! + -/
def opAdd (a b : S) : Option S := match asI a, asI b with
  | some i, some j => some (.d (.int (i + j)))
  | _, _ => match asL a, asL b with
    | some xs, some ys => if xs.length + ys.length ≤ sizeLine then some (.o (.l (xs ++ ys))) else none
    | _, _ => match asT a, asT b with
      | some xs, some ys => if xs.length + ys.length ≤ sizeLine then some (.d (.tuple (xs ++ ys))) else none
      | _, _ => none
theorem od_add {K : PySem.W.Frag} : OpD K (fun x y H Q => rI (fun _ _ => True) (fun i j => .int (i + j)) x y H Q ∨ (rCat x y H Q ∨ rCatA K x y H Q)) opAdd := fun T ρ H x y a b s Q k ha hb hg hq => by
  unfold opAdd at hg
  split at hg
  · rename_i i j e1 e2
    cases hg
    exact .inl ⟨i, j, at_I ha e1, at_I hb e2, trivial, postO_same hq (.int _)⟩
  · split at hg
    · rename_i xs ys e1 e2
      split at hg
      · rename_i hl
        cases hg
        obtain ⟨p, vs, rfl, h1, h2⟩ := at_L ha e1
        obtain ⟨r, ws, rfl, h3, h4⟩ := at_L hb e2
        refine .inr (.inl ⟨p, r, vs, ws, rfl, rfl, h1, h3, by rw [dpAll_len h2, dpAll_len h4]; exact hl, fun n hn => ?_⟩)
        exact hq n _ hn ⟨_, rfl, dpAll_app h2 h4⟩
      · cases hg
    · split at hg
      · rename_i xs ys e1 e2
        split at hg
        · rename_i hl
          cases hg
          obtain ⟨p, vs, rfl, h1, h2⟩ := at_T ha e1
          obtain ⟨r, ws, rfl, h3, h4⟩ := at_T hb e2
          have l1 := dpAll_len h2
          have l2 := dpAll_len h4
          refine .inr (.inr ⟨p, r, vs, ws, rfl, rfl, SqT.of (hid_same _ _ h1), SqT.of (hid_same _ _ h3), by rw [l1, l2]; exact hl, fun e => ?_, fun _ e => ?_, fun _ _ n hn => ?_⟩)
          · subst e
            have : xs = [] := List.length_eq_zero_iff.mp l1.symm
            subst this
            exact postO_same hq (.tup h3 h4)
          · subst e
            have : ys = [] := List.length_eq_zero_iff.mp l2.symm
            subst this
            rw [List.append_nil] at hq
            exact postO_same hq (.tup h1 h2)
          · exact postO_tup k hq (dpAll_app h2 h4) hn
        · cases hg
      · cases hg
theorem de_add (ha : DP X a fa) (hb : DP X b fb) : DE X (.BinOp a .Add b pos) (bin opAdd fa fb) := de_op (opr_or or_add (opr_or op_cat op_catA)) od_add ha hb
/-! * -/
def opMul (a b : S) : Option S := match asI b with
  | some j => match asI a with
    | some i => (iMul i j).map fun z => .d (.int z)
    | none => match asL a with
      | some xs => if -(2 ^ 63) ≤ j ∧ j < 2 ^ 63 ∧ xs.length * j.toNat ≤ sizeLine then some (.o (.l (List.replicate j.toNat xs).flatten)) else none
      | none => none
  | none => none
theorem od_mul {K : PySem.W.Frag} : OpD K (fun x y H Q => rI CMulW (fun i j => .int (i * j)) x y H Q ∨ rRep x y H Q) opMul := fun T ρ H x y a b s Q k ha hb hg hq => by
  unfold opMul at hg
  split at hg
  · rename_i j e2
    split at hg
    · rename_i i e1
      unfold iMul at hg
      split at hg
      · rename_i hc
        cases hg
        exact .inl ⟨i, j, at_I ha e1, at_I hb e2, hc, postO_same hq (.int _)⟩
      · cases hg
    · split at hg
      · rename_i xs e1
        split at hg
        · rename_i hc
          cases hg
          obtain ⟨p, vs, rfl, h1, h2⟩ := at_L ha e1
          refine .inr ⟨p, j, vs, rfl, at_I hb e2, h1, hc.1, hc.2.1, by rw [dpAll_len h2]; exact hc.2.2, fun n hn => ?_⟩
          exact hq n _ hn ⟨_, rfl, dpAll_rep h2 _⟩
        · cases hg
      · cases hg
  · cases hg
theorem de_mul (ha : DP X a fa) (hb : DP X b fb) : DE X (.BinOp a .Mult b pos) (bin opMul fa fb) := de_op (opr_or op_mulW op_rep) od_mul ha hb
/-! - a -/
def unI (f : PEV) (g : Int → Int) : EV := fun δ => (f δ).bind fun x => (res x.2 x.1).bind fun s => (asI s).map fun i => (.d (.int (g i)), x.2)
theorem de_neg (ha : DP X a fa) : DE X (.UnaryOp .USub a pos) (unI fa fun i => -i) := pe_imp (pe_un un_neg ha) fun σ H Q ⟨T, ρ, δ, s, δ', hs, hf, hq⟩ => by
  unfold unI at hf
  cases e1 : fa δ with
  | none => rw [e1] at hf; cases hf
  | some x =>
    rw [e1] at hf
    simp only [Option.bind_some] at hf
    cases e2 : res x.2 x.1 with
    | none => rw [e2] at hf; cases hf
    | some u =>
      rw [e2] at hf
      simp only [Option.bind_some] at hf
      cases e3 : asI u with
      | none => rw [e3] at hf; cases hf
      | some i =>
        rw [e3] at hf
        cases hf
        refine ⟨T, ρ, δ, x.1, x.2, hs, by rw [e1], fun ρ1 v H1 s1 x1 p1 => ?_⟩
        exact ⟨i, at_I (pat_at s1 .refl p1 e2) e3, hq ρ1 _ H1 s1 x1 (.int _)⟩

/-! comparisons -/
def cmpI (p : Int → Int → Bool) (a b : S) : Option S := (asI a).bind fun i => (asI b).map fun j => .d (.bool (p i j))
def rCmp (p : Int → Int → Bool) : R2 := fun x y H Q => ∃ i j, x = .int i ∧ y = .int j ∧ Q (.bl (p i j)) H
theorem od_cmp {K : PySem.W.Frag} {p : Int → Int → Bool} : OpD K (rCmp p) (cmpI p) := fun T ρ H x y a b s Q k ha hb hg hq => by
  unfold cmpI at hg
  cases e1 : asI a with
  | none => rw [e1] at hg; cases hg
  | some i =>
    rw [e1] at hg
    simp only [Option.bind_some] at hg
    cases e2 : asI b with
    | none => rw [e2] at hg; cases hg
    | some j =>
      rw [e2] at hg
      cases hg
      exact ⟨i, j, at_I ha e1, at_I hb e2, postO_same hq (.bl _)⟩
theorem or_cmp {op : CmpOp} {p : Int → Int → Bool} (rule : ∀ (i j : Int) (t u : Tok) (Q : Value → Shared → Prop) (s : Shared), Q (.bool (p i j)) s → wpAny (model X.prog X.w) X.A (compareOp op (.int i t) (.int j u)) Q X.xe s) : OpR X (compareOp op) (rCmp p) := fun pins s σ H x y v u Q I rx ry h => by
  obtain ⟨i, j, rfl, rfl, q⟩ := h
  obtain ⟨t, rfl⟩ := rx
  obtain ⟨t', rfl⟩ := ry
  exact rule i j t t' _ s ⟨.bl _, H, I, rfl, q⟩
abbrev pLt (i j : Int) : Bool := decide (i < j)
abbrev pLe (i j : Int) : Bool := decide (i ≤ j)
abbrev pGt (i j : Int) : Bool := decide (j < i)
abbrev pGe (i j : Int) : Bool := decide (j ≤ i)
theorem or_lt : OpR X (compareOp .Lt) (rCmp pLt) := or_cmp fun _ _ _ _ _ _ h => lt_int h
theorem or_le : OpR X (compareOp .LtE) (rCmp pLe) := or_cmp fun _ _ _ _ _ _ h => le_int h
theorem or_gt : OpR X (compareOp .Gt) (rCmp pGt) := or_cmp fun _ _ _ _ _ _ h => gt_int h
theorem or_ge : OpR X (compareOp .GtE) (rCmp pGe) := or_cmp fun _ _ _ _ _ _ h => ge_int h
/-- == at any depth -/
def opEq (a b : S) : Option S := match a, b with
  | .d (.str x), .d (.str y) => some (.d (.bool (decide (x = y))))
  | _, _ => (asD a).bind fun x => (asD b).bind fun y => if SeqAt.shaped x && SeqAt.shaped y then some (.d (.bool (PyData.eqv x y))) else none
def opNe (a b : S) : Option S := match a, b with
  | .d (.str x), .d (.str y) => some (.d (.bool (!decide (x = y))))
  | _, _ => (asD a).bind fun x => (asD b).bind fun y => if SeqAt.shaped x && SeqAt.shaped y then some (.d (.bool (!PyData.eqv x y))) else none
theorem str_dec (x y : Str) : decide (V.str x = V.str y) = decide (x = y) := by
  by_cases h : x = y
  · rw [decide_eq_true h, decide_eq_true (by rw [h])]
  · rw [decide_eq_false h, decide_eq_false fun z => h (V.str.inj z)]
theorem od_eq {K : PySem.W.Frag} : OpD K (fun x y H Q => L2.rEq x y H Q ∨ rEqD K x y H Q) opEq := fun T ρ H x y a b s Q k ha hb hg hq => by
  unfold opEq at hg
  split at hg
  · rename_i u w
    cases hg
    cases (show Dq K _ x (.str u) from ha)
    cases (show Dq K _ y (.str w) from hb)
    refine .inl ⟨rfl, ?_⟩
    rw [str_dec]
    exact postO_same hq (.bl _)
  · cases e1 : asD a with
    | none => rw [e1] at hg; cases hg
    | some d =>
      rw [e1] at hg
      simp only [Option.bind_some] at hg
      cases e2 : asD b with
      | none => rw [e2] at hg; cases hg
      | some e =>
        rw [e2] at hg
        simp only [Option.bind_some] at hg
        split at hg
        · rename_i hc
          cases hg
          rw [Bool.and_eq_true] at hc
          exact .inr ⟨d, e, at_D ha e1 (SeqAt.canLay_of_shaped hc.1), at_D hb e2 (SeqAt.canLay_of_shaped hc.2), hc.1, hc.2, postO_same hq (.bl _)⟩
        · cases hg
theorem od_ne {K : PySem.W.Frag} : OpD K (fun x y H Q => L2.rNe x y H Q ∨ rNeD K x y H Q) opNe := fun T ρ H x y a b s Q k ha hb hg hq => by
  unfold opNe at hg
  split at hg
  · rename_i u w
    cases hg
    cases (show Dq K _ x (.str u) from ha)
    cases (show Dq K _ y (.str w) from hb)
    refine .inl ⟨rfl, ?_⟩
    rw [str_dec]
    exact postO_same hq (.bl _)
  · cases e1 : asD a with
    | none => rw [e1] at hg; cases hg
    | some d =>
      rw [e1] at hg
      simp only [Option.bind_some] at hg
      cases e2 : asD b with
      | none => rw [e2] at hg; cases hg
      | some e =>
        rw [e2] at hg
        simp only [Option.bind_some] at hg
        split at hg
        · rename_i hc
          cases hg
          rw [Bool.and_eq_true] at hc
          exact .inr ⟨d, e, at_D ha e1 (SeqAt.canLay_of_shaped hc.1), at_D hb e2 (SeqAt.canLay_of_shaped hc.2), hc.1, hc.2, postO_same hq (.bl _)⟩
        · cases hg
/-- in, at any depth -/
def rInS (K : PySem.W.Frag) (neg : Bool) : R2 := fun x y H Q => ∃ d ds, L2.Dp K H x d ∧ (L2.Dp K H y (.list ds) ∨ L2.Dp K H y (.tuple ds)) ∧ SeqAt.shaped d = true ∧ PyData.canLayAll0 ds = true ∧ Q (.bl (neg ^^ ds.any fun z => PyData.eqv z d)) H
def asS (s : S) : Option (List PyData) := match asL s with
  | some xs => some xs
  | none => asT s
def opIn (neg : Bool) (a b : S) : Option S := (asD a).bind fun x => (asS b).bind fun ys => if SeqAt.shaped x && PyData.canLayAll0 ys then some (.d (.bool (neg ^^ ys.any fun z => PyData.eqv z x))) else none
theorem room_in {A : Around} {xs : List PyData} {d : PyData} (h : SeqAt.shaped d = true) (hu : A.units + 65 < cLine) : A.units + 1 + min (PyData.depthAll xs) d.depth < cLine := by
  have h1 := SeqAt.depth_of_shaped h
  have h2 : min (PyData.depthAll xs) d.depth ≤ d.depth := Nat.min_le_right _ _
  omega
theorem or_in (hu : X.A.units + 65 < cLine) : OpR X (compareOp .In) (rInS X.K false) := by
  intro pins s σ H x y v u Q I rx ry h
  obtain ⟨d, ds, hd, he, sd, se, q⟩ := h
  rw [Bool.false_xor] at q
  obtain ⟨as, r1⟩ := L2.Dp.reads I d x v hd rx
  rcases he with he | he
  · obtain ⟨bs, r2⟩ := L2.Dp.reads I _ y u he ry
    exact SeqAt.in_list_reads r2 r1 se (SeqAt.canLay_of_shaped sd) (room_in sd hu) ⟨.bl _, H, I, rfl, q⟩
  · obtain ⟨bs, r2⟩ := L2.Dp.reads I _ y u he ry
    exact SeqAt.in_tuple_reads r2 r1 se (SeqAt.canLay_of_shaped sd) (room_in sd hu) ⟨.bl _, H, I, rfl, q⟩
theorem or_notIn (hu : X.A.units + 65 < cLine) : OpR X (compareOp .NotIn) (rInS X.K true) := by
  intro pins s σ H x y v u Q I rx ry h
  obtain ⟨d, ds, hd, he, sd, se, q⟩ := h
  rw [Bool.true_xor] at q
  obtain ⟨as, r1⟩ := L2.Dp.reads I d x v hd rx
  rcases he with he | he
  · obtain ⟨bs, r2⟩ := L2.Dp.reads I _ y u he ry
    exact SeqAt.notIn_list_reads r2 r1 se (SeqAt.canLay_of_shaped sd) (room_in sd hu) ⟨.bl _, H, I, rfl, q⟩
  · obtain ⟨bs, r2⟩ := L2.Dp.reads I _ y u he ry
    exact SeqAt.notIn_tuple_reads r2 r1 se (SeqAt.canLay_of_shaped sd) (room_in sd hu) ⟨.bl _, H, I, rfl, q⟩
theorem at_S {K : PySem.W.Frag} {T : List Addr} {ρ : List (Option Addr)} {H : Hp} {v : V} {s : S} {ys : List PyData} (h : At K T ρ H v s) (e : asS s = some ys) (cl : PyData.canLayAll0 ys = true) : L2.Dp K H v (.list ys) ∨ L2.Dp K H v (.tuple ys) := by
  unfold asS at e
  split at e
  · rename_i xs e1
    cases e
    obtain ⟨a, vs, rfl, h1, h2⟩ := at_L h e1
    exact .inl (.lst (SqL.of h1) (dq_dpA _ cl (dpAllM hid_same _ h2)))
  · obtain ⟨a, vs, rfl, h1, h2⟩ := at_T h e
    exact .inr (.tup (SqT.of (hid_same _ _ h1)) (dq_dpA _ cl (dpAllM hid_same _ h2)))
theorem od_in {K : PySem.W.Frag} {neg : Bool} : OpD K (rInS K neg) (opIn neg) := fun T ρ H x y a b s Q k ha hb hg hq => by
  unfold opIn at hg
  cases e1 : asD a with
  | none => rw [e1] at hg; cases hg
  | some d =>
    rw [e1] at hg
    simp only [Option.bind_some] at hg
    cases e2 : asS b with
    | none => rw [e2] at hg; cases hg
    | some e =>
      rw [e2] at hg
      simp only [Option.bind_some] at hg
      split at hg
      · rename_i hc
        cases hg
        rw [Bool.and_eq_true] at hc
        exact ⟨d, e, at_D ha e1 (SeqAt.canLay_of_shaped hc.1), at_S hb e2 hc.2, hc.1, hc.2, postO_same hq (.bl _)⟩
      · cases hg

/-! ### subscripts -/
def opIx (a b : S) : Option S := (asI b).bind fun i => match a with
  | .z ns => (atI ns i).map fun n => .d (.int n)
  | _ => (asS a).bind fun xs => (atI xs i).map fun x => .d x
theorem atI_get {α : Type} {xs : List α} {i : Int} {x : α} (h : atI xs i = some x) : ∃ j, ixN xs.length i = some j ∧ xs[j]? = some x := by
  unfold atI at h
  cases e : ixN xs.length i with
  | none => rw [e] at h; cases h
  | some j => rw [e] at h; exact ⟨j, rfl, h⟩
theorem atI_of {α : Type} {xs : List α} {i : Int} {x : α} {j : Nat} (h : ixN xs.length i = some j) (e : xs[j]? = some x) : atI xs i = some x := by
  unfold atI
  rw [h]
  exact e
theorem od_ix {K : PySem.W.Frag} : OpD K (fun x y H Q => rIxL K x y H Q ∨ rIxT K x y H Q) opIx := fun T ρ H x y a b s Q k ha hb hg hq => by
  unfold opIx at hg
  cases e1 : asI b with
  | none => rw [e1] at hg; cases hg
  | some i =>
    rw [e1] at hg
    simp only [Option.bind_some] at hg
    have hy := at_I hb e1
    split at hg
    · rename_i ns
      obtain ⟨p, rfl, hp⟩ := ha
      cases e2 : atI ns i with
      | none => rw [e2] at hg; cases hg
      | some n =>
        rw [e2] at hg
        cases hg
        obtain ⟨j, g1, g2⟩ := atI_get e2
        refine .inl ⟨p, _, i, .int n, rfl, hy, hid_same.seq hp, atI_of (j := j) (by rw [List.length_map]; exact g1) (by rw [List.getElem?_map, g2]; rfl), postO_same hq (.int n)⟩
    · cases e2 : asS a with
      | none => rw [e2] at hg; cases hg
      | some xs =>
        rw [e2] at hg
        simp only [Option.bind_some] at hg
        cases e3 : atI xs i with
        | none => rw [e3] at hg; cases hg
        | some d =>
          rw [e3] at hg
          cases hg
          obtain ⟨j, g1, g2⟩ := atI_get e3
          unfold asS at e2
          split at e2
          · rename_i ys el
            cases e2
            obtain ⟨p, vs, rfl, h1, h2⟩ := at_L ha el
            obtain ⟨v, f1, f2⟩ := dpAll_get h2 g2
            exact .inl ⟨p, vs, i, v, rfl, hy, SqL.of h1, atI_of (j := j) (by rw [dpAll_len h2]; exact g1) f1, postO_same hq f2⟩
          · obtain ⟨p, vs, rfl, h1, h2⟩ := at_T ha e2
            obtain ⟨v, f1, f2⟩ := dpAll_get h2 g2
            exact .inr ⟨p, vs, i, v, rfl, hy, SqT.of (hid_same _ _ h1), atI_of (j := j) (by rw [dpAll_len h2]; exact g1) f1, postO_same hq f2⟩
theorem de_item (ha : DP X a fa) (hb : DP X b fb) (hs : PlainIx b) : DE X (.Subscript a b pos) (bin opIx fa fb) := de_ix (ix_list.or ix_tup) od_ix ha hb hs
end
end DL

namespace DL
open PySem PySem.Spec PyProof.Rows L2
variable [TB]

section
variable {K : PySem.W.Frag}
/-! ### built-in functions by data -/
def fLen : List S → Option S
  | [.z ns] => some (.d (.int ns.length))
  | [s] => (asS s).map fun xs => .d (.int xs.length)
  | _ => none
theorem paired1 {α β : Type} {R : α → β → Prop} {xs : List α} {y : β} (h : Paired R xs [y]) : ∃ x, xs = [x] ∧ R x y := by
  cases h with
  | cons a b =>
    cases b
    exact ⟨_, rfl, a⟩
theorem paired2 {α β : Type} {R : α → β → Prop} {xs : List α} {y z : β} (h : Paired R xs [y, z]) : ∃ x w, xs = [x, w] ∧ R x y ∧ R w z := by
  cases h with
  | cons a b =>
    cases b with
    | cons b c =>
      cases c
      exact ⟨_, _, rfl, a, b⟩
theorem at_seq {T : List Addr} {ρ : List (Option Addr)} {H : Hp} {v : V} {s : S} {ys : List PyData} (h : At K T ρ H v s) (e : asS s = some ys) : ∃ a vs, v = .ref a ∧ (SqL K H a vs ∨ SqT K H a vs) ∧ DqAll K (hid T ρ H) vs ys := by
  unfold asS at e
  split at e
  · rename_i xs e1
    cases e
    obtain ⟨a, vs, rfl, h1, h2⟩ := at_L h e1
    exact ⟨a, vs, rfl, .inl (SqL.of h1), h2⟩
  · obtain ⟨a, vs, rfl, h1, h2⟩ := at_T h e
    exact ⟨a, vs, rfl, .inr (SqT.of (hid_same _ _ h1)), h2⟩
theorem cd_len : CallD K (fun xs H Q => ∃ p ys, xs = [.ref p] ∧ (SqL K H p ys ∨ SqT K H p ys) ∧ Q (.int ys.length) H) fLen := fun T ρ H vs ss s Q k hp hg hq => by
  unfold fLen at hg
  split at hg
  · rename_i ns
    cases hg
    obtain ⟨v, rfl, a, rfl, h⟩ := paired1 hp
    refine ⟨a, _, rfl, .inl (hid_same.seq h), ?_⟩
    rw [List.length_map]
    exact postO_same hq (.int _)
  · obtain ⟨v, rfl, h⟩ := paired1 hp
    rename_i u _
    cases e : asS u with
    | none => rw [e] at hg; cases hg
    | some xs =>
      rw [e] at hg
      cases hg
      obtain ⟨a, ws, rfl, h1, h2⟩ := at_seq h e
      refine ⟨a, ws, rfl, h1, ?_⟩
      rw [dpAll_len h2]
      exact postO_same hq (.int _)
  · cases hg
def fAbs : List S → Option S
  | [s] => (asI s).map fun i => .d (.int (if i < 0 then -i else i))
  | _ => none
theorem cd_abs : CallD K (fun xs H Q => ∃ i, xs = [.int i] ∧ Q (.int (if i < 0 then -i else i)) H) fAbs := fun T ρ H vs ss s Q k hp hg hq => by
  unfold fAbs at hg
  split at hg
  · rename_i u
    obtain ⟨v, rfl, h⟩ := paired1 hp
    cases e : asI u with
    | none => rw [e] at hg; cases hg
    | some i =>
      rw [e] at hg
      cases hg
      exact ⟨i, by rw [at_I h e], postO_same hq (.int _)⟩
  · cases hg
def fInt : List S → Option S
  | [s] => match asI s with
    | some i => some (.d (.int i))
    | none => (asB s).map fun b => .d (.int (if b then 1 else 0))
  | _ => none
theorem cd_int : CallD K (fun xs H Q => (∃ i, xs = [.int i] ∧ Q (.int i) H) ∨ ∃ k, xs = [.bl k] ∧ Q (.int (if k then 1 else 0)) H) fInt := fun T ρ H vs ss s Q k hp hg hq => by
  unfold fInt at hg
  split at hg
  · rename_i u
    obtain ⟨v, rfl, h⟩ := paired1 hp
    split at hg
    · rename_i i e
      cases hg
      exact .inl ⟨i, by rw [at_I h e], postO_same hq (.int _)⟩
    · cases e : asB u with
      | none => rw [e] at hg; cases hg
      | some b =>
        rw [e] at hg
        cases hg
        exact .inr ⟨b, by rw [at_B h e], postO_same hq (.int _)⟩
  · cases hg
def fMax : List S → Option S
  | [s, u] => (asI s).bind fun i => (asI u).map fun j => .d (.int (if j > i then j else i))
  | _ => none
def fMin : List S → Option S
  | [s, u] => (asI s).bind fun i => (asI u).map fun j => .d (.int (if j < i then j else i))
  | _ => none
theorem cd_max : CallD K (fun xs H Q => ∃ i j, xs = [.int i, .int j] ∧ Q (.int (if j > i then j else i)) H) fMax := fun T ρ H vs ss s Q k hp hg hq => by
  unfold fMax at hg
  split at hg
  · rename_i u w
    obtain ⟨v, v', rfl, h, h'⟩ := paired2 hp
    cases e : asI u with
    | none => rw [e] at hg; cases hg
    | some i =>
      rw [e] at hg
      simp only [Option.bind_some] at hg
      cases e' : asI w with
      | none => rw [e'] at hg; cases hg
      | some j =>
        rw [e'] at hg
        cases hg
        exact ⟨i, j, by rw [at_I h e, at_I h' e'], postO_same hq (.int _)⟩
  · cases hg
theorem cd_min : CallD K (fun xs H Q => ∃ i j, xs = [.int i, .int j] ∧ Q (.int (if j < i then j else i)) H) fMin := fun T ρ H vs ss s Q k hp hg hq => by
  unfold fMin at hg
  split at hg
  · rename_i u w
    obtain ⟨v, v', rfl, h, h'⟩ := paired2 hp
    cases e : asI u with
    | none => rw [e] at hg; cases hg
    | some i =>
      rw [e] at hg
      simp only [Option.bind_some] at hg
      cases e' : asI w with
      | none => rw [e'] at hg; cases hg
      | some j =>
        rw [e'] at hg
        cases hg
        exact ⟨i, j, by rw [at_I h e, at_I h' e'], postO_same hq (.int _)⟩
  · cases hg
def bools : List PyData → Option (List Bool)
  | [] => some []
  | .bool b :: r => (bools r).map (b :: ·)
  | _ => none
theorem bools_V {G : Hp} : ∀ {vs : List V} {xs : List PyData} {bs : List Bool}, DqAll K G vs xs → bools xs = some bs → vs = bs.map V.bl
  | _, [], _, h, e => by cases h; cases e; rfl
  | _, .bool b :: r, bs, h, e => by
    have e' : (bools r).map (b :: ·) = some bs := e
    cases h with
    | cons h1 h2 =>
      cases er : bools r with
      | none => rw [er] at e'; cases e'
      | some cs =>
        rw [er] at e'
        cases e'
        cases h1
        rw [bools_V h2 er]
        rfl
  | _, .none :: r, bs, h, e => by cases e
  | _, .int _ :: r, bs, h, e => by cases e
  | _, .str _ :: r, bs, h, e => by cases e
  | _, .list _ :: r, bs, h, e => by cases e
  | _, .tuple _ :: r, bs, h, e => by cases e
  | _, .dict _ :: r, bs, h, e => by cases e
def fAll : List S → Option S
  | [s] => (asL s).bind fun xs => (bools xs).map fun bs => .d (.bool (bs.all id))
  | _ => none
def fAny : List S → Option S
  | [s] => (asL s).bind fun xs => (bools xs).map fun bs => .d (.bool (bs.any id))
  | _ => none
theorem cd_all : CallD K (rAll K) fAll := fun T ρ H vs ss s Q k hp hg hq => by
  unfold fAll at hg
  split at hg
  · rename_i u
    obtain ⟨v, rfl, h⟩ := paired1 hp
    cases e : asL u with
    | none => rw [e] at hg; cases hg
    | some xs =>
      rw [e] at hg
      simp only [Option.bind_some] at hg
      cases eb : bools xs with
      | none => rw [eb] at hg; cases hg
      | some bs =>
        rw [eb] at hg
        cases hg
        obtain ⟨a, ws, rfl, h1, h2⟩ := at_L h e
        have := bools_V h2 eb
        subst this
        exact ⟨a, bs, rfl, SqL.of h1, postO_same hq (.bl _)⟩
  · cases hg
theorem cd_any : CallD K (rAny K) fAny := fun T ρ H vs ss s Q k hp hg hq => by
  unfold fAny at hg
  split at hg
  · rename_i u
    obtain ⟨v, rfl, h⟩ := paired1 hp
    cases e : asL u with
    | none => rw [e] at hg; cases hg
    | some xs =>
      rw [e] at hg
      simp only [Option.bind_some] at hg
      cases eb : bools xs with
      | none => rw [eb] at hg; cases hg
      | some bs =>
        rw [eb] at hg
        cases hg
        obtain ⟨a, ws, rfl, h1, h2⟩ := at_L h e
        have := bools_V h2 eb
        subst this
        exact ⟨a, bs, rfl, SqL.of h1, postO_same hq (.bl _)⟩
  · cases hg
/-- tuple(x), list(x) -/
def fTuple : List S → Option S
  | [s] => (asS s).map fun xs => .d (.tuple xs)
  | _ => none
theorem cd_tuple : CallD K (fun xs H Q => ∃ p ys, xs = [.ref p] ∧ ((SqL K H p ys ∧ ∀ l, H l = none → Q (.ref l) (upd H l (.tup ys))) ∨ (SqT K H p ys ∧ Q (.ref p) H))) fTuple := fun T ρ H vs ss s Q k hp hg hq => by
  unfold fTuple at hg
  split at hg
  · rename_i u
    obtain ⟨v, rfl, h⟩ := paired1 hp
    cases e : asS u with
    | none => rw [e] at hg; cases hg
    | some xs =>
      rw [e] at hg
      cases hg
      unfold asS at e
      split at e
      · rename_i ys el
        cases e
        obtain ⟨a, ws, rfl, h1, h2⟩ := at_L h el
        exact ⟨a, ws, rfl, .inl ⟨SqL.of h1, fun l hl => postO_tup k hq h2 hl⟩⟩
      · obtain ⟨a, ws, rfl, h1, h2⟩ := at_T h e
        exact ⟨a, ws, rfl, .inr ⟨SqT.of (hid_same _ _ h1), postO_same hq (.tup h1 h2)⟩⟩
  · cases hg
def fList : List S → Option S
  | [s] => (asS s).map fun xs => .o (.l xs)
  | _ => none
theorem cd_list : CallD K (fun xs H Q => ∃ p ys, xs = [.ref p] ∧ (SqL K H p ys ∨ SqT K H p ys) ∧ ∀ l, H l = none → Q (.ref l) (upd H l (.lst ys))) fList := fun T ρ H vs ss s Q k hp hg hq => by
  unfold fList at hg
  split at hg
  · rename_i u
    obtain ⟨v, rfl, h⟩ := paired1 hp
    cases e : asS u with
    | none => rw [e] at hg; cases hg
    | some xs =>
      rw [e] at hg
      cases hg
      obtain ⟨a, ws, rfl, h1, h2⟩ := at_seq h e
      exact ⟨a, ws, rfl, h1, fun l hl => hq l _ hl ⟨_, rfl, h2⟩⟩
  · cases hg
/-! data that is laid out with dicts in it -/
mutual
/-- no list in it -/
def lstFree : PyData → Bool
  | .list _ => false
  | .tuple xs => lstFreeA xs
  | .dict kvs => lstFreeK kvs
  | _ => true
def lstFreeA : List PyData → Bool
  | [] => true
  | x :: xs => lstFree x && lstFreeA xs
def lstFreeK : List (PyData × PyData) → Bool
  | [] => true
  | (_, x) :: xs => lstFree x && lstFreeK xs
end
theorem dict_parts {P : Program} {w : World} {h : Heap} {a : Addr} {ps : List (Key × Value)} (m : h.DictOf (mixKind P w) a ps) : ∃ o es ep, h.get? a = some o ∧ o.cls = .type "dict" ∧ o.data = .dict es ep ∧ Pairs (mixKind P w) es.toList ps := by
  obtain ⟨o, es, ep, h1, x, h2, _, h3, _⟩ := m
  exact ⟨o, es, ep, h1, x.1, h2, h3⟩
mutual
theorem dq_reads {X : Cx} {pins : List (Addr × Obj)} {σ : L2.St} {H : Hp} {s : Shared} (I : Inv X pins σ H s) : ∀ (d : PyData) (v : V) (u : Value), Dq X.K H v d → RelV v u → ∃ as, Reads s.heap u d as ∧ (lstFree d = true → sysModules ∉ as)
  | .none, _, _, h, r => by
    cases h; cases r
    exact ⟨_, Reads.none, fun _ => by simp⟩
  | .bool b, _, _, h, r => by
    cases h; cases r
    exact ⟨_, Reads.bool b, fun _ => by simp⟩
  | .int i, _, _, h, r => by
    cases h
    obtain ⟨t, rfl⟩ := r
    exact ⟨_, Reads.int i t, fun _ => by simp⟩
  | .str x, _, _, h, r => by
    cases h
    obtain ⟨t, rfl⟩ := r
    exact ⟨_, Reads.str x t, fun _ => by simp⟩
  | .list ds, _, _, h, r => by
    cases h with
    | lst hs ha =>
      cases r
      obtain ⟨its, rv, ⟨o, n, ho, hc, _, hd⟩, _⟩ := I.list (SqL.of hs)
      obtain ⟨as, hr, _⟩ := dq_readsA I ds _ its ha rv
      exact ⟨_, Reads.list ho hc hd hr, fun z => by cases z⟩
  | .tuple ds, _, _, h, r => by
    cases h with
    | tup hs ha =>
      cases r
      obtain ⟨its, rv, ⟨o, ho, hc, n, hd⟩, _⟩ := I.tuple (SqT.of hs)
      obtain ⟨as, hr, hn⟩ := dq_readsA I ds _ its ha rv
      exact ⟨_, Reads.tuple ho hc hd hr, hn⟩
  | .dict [], _, _, h, r => by
    cases h with
    | @dctE a hs =>
      cases r
      obtain ⟨_, ya, vs, rk, m⟩ := (show ObjOk X.prog X.w H s.heap a (.dK []) from I.hok a _ hs)
      cases rk
      obtain ⟨o, es, ep, h1, h2, h3, h4⟩ := dict_parts m
      cases he : es.toList with
      | cons e r => rw [he] at h4; cases h4
      | nil =>
        refine ⟨_, Reads.dict (as := []) (bs := []) h1 h2 h3 (by rw [he]; exact .nil) (by rw [he]; exact .nil), fun _ z => ?_⟩
        have hz : sysModules = a := by simpa using z
        rw [hz] at ya
        simp at ya
  | .dict [(k, x)], _, _, h, r => by
    cases h with
    | @dct1 a k v _ hs hx =>
      cases r
      obtain ⟨_, ya, vs, rk, m⟩ := (show ObjOk X.prog X.w H s.heap a (.dK [(.inr k, v)]) from I.hok a _ hs)
      cases rk with
      | @cons p q _ _ r0 rt =>
        cases rt
        obtain ⟨o, es, ep, h1, h2, h3, h4⟩ := dict_parts m
        obtain ⟨q1, q2⟩ := q
        obtain ⟨rk1, rv1⟩ := r0
        cases (show Sum.inr k = q1 from rk1)
        have rv2 : RelV v q2 := rv1
        cases he : es.toList with
        | nil => rw [he] at h4; cases h4
        | cons e r =>
          rw [he] at h4
          cases h4 with
          | cons k1 k2 k3 =>
            cases r with
            | cons _ _ => cases k3
            | nil =>
              have k1' : keyIs (.inr k) e.key = true := k1
              rcases keyIs_shape k1' with ⟨i, t, e2, e1⟩ | ⟨z, t, e2, e1⟩
              · cases e2
              · cases e2
                obtain ⟨as, hr, hn⟩ := dq_reads I x v q2 hx rv2
                refine ⟨_, Reads.dict (as := [] ++ []) (bs := as ++ []) h1 h2 h3 (by rw [he]; show ReadsAll _ [e.key] [PyData.str k] _; rw [e1]; exact .cons (Reads.str k t) .nil) (by rw [he]; show ReadsAll _ [e.val] [x] _; rw [k2]; exact .cons hr .nil), fun l z => ?_⟩
                have hl : lstFree x = true := (Bool.and_eq_true_iff.mp (show (lstFree x && true) = true from l)).1
                have hz : sysModules = a ∨ sysModules ∈ as := by simpa using z
                rcases hz with hz | hz
                · rw [hz] at ya
                  simp at ya
                · exact hn hl hz
  | .dict (_ :: _ :: _), _, _, h, r => by cases h
theorem dq_readsA {X : Cx} {pins : List (Addr × Obj)} {σ : L2.St} {H : Hp} {s : Shared} (I : Inv X pins σ H s) : ∀ (ds : List PyData) (vs : List V) (us : List Value), DqAll X.K H vs ds → Vals vs us → ∃ as, ReadsAll s.heap us ds as ∧ (lstFreeA ds = true → sysModules ∉ as)
  | [], _, _, h, r => by
    cases h; cases r
    exact ⟨_, ReadsAll.nil, fun _ => by simp⟩
  | d :: ds, _, _, h, r => by
    cases h with
    | cons h1 h2 =>
      cases r with
      | cons r1 r2 =>
        obtain ⟨as, q1, n1⟩ := dq_reads I d _ _ h1 r1
        obtain ⟨bs, q2, n2⟩ := dq_readsA I ds _ _ h2 r2
        refine ⟨_, ReadsAll.cons q1 q2, fun l z => ?_⟩
        have l' := Bool.and_eq_true_iff.mp (show (lstFree d && lstFreeA ds) = true from l)
        rcases List.mem_append.mp z with z | z
        · exact n1 l'.1 z
        · exact n2 l'.2 z
end
theorem at_Dq {K : PySem.W.Frag} {T : List Addr} {ρ : List (Option Addr)} {H : Hp} {v : V} {s : S} {x : PyData} (h : At K T ρ H v s) (e : asD s = some x) : Dq K H v x := by
  unfold asD at e
  split at e
  · cases e
    exact dpM hid_same _ h
  · cases e
    obtain ⟨a, o, rfl, h1, vs, rfl, h2⟩ := h
    exact .lst h1 (dpAllM hid_same _ h2)
  · cases e
/-- repr -/
def reprOk (x : PyData) : Bool := x.showable && (!x.hasDict || lstFree x) && decide (x.depth ≤ 60) && decide (x.shown.length ≤ sizeLine)
def fRepr : List S → Option S
  | [s] => (asS s).bind fun _ => (asD s).bind fun x => if reprOk x then some (.d (.str x.shown)) else none
  | _ => none
def rRepr (K : PySem.W.Frag) : List V → Hp → VK → Prop := fun vs H Q => ∃ a x, vs = [.ref a] ∧ Dq K H (.ref a) x ∧ reprOk x = true ∧ Q (.str x.shown) H
theorem cr_repr {X : Cx} (hG : X.A.guards = some []) (hu : X.A.units + 64 < cLine) : CallR X (.builtin "repr") (rRepr X.K) := by
  intro pins s σ H vs us Q I r h
  obtain ⟨a, x, rfl, hx, ok, q⟩ := h
  obtain ⟨u, rfl, hu'⟩ := Vals.one r
  cases hu'
  obtain ⟨as, rd, rn⟩ := dq_reads I x _ _ hx rfl
  unfold reprOk at ok
  simp only [Bool.and_eq_true, Bool.or_eq_true, Bool.not_eq_true', decide_eq_true_eq] at ok
  obtain ⟨⟨⟨o1, o2⟩, o3⟩, o4⟩ := ok
  refine repr_of_reads' rd o1 (fun z => o2.elim (fun q => by rw [q] at z; cases z) rn) hG (by omega) (fun b o e => e) (fun h' t tk hk => ?_) o4
  exact ⟨.str x.shown, H, I.kept hk, ⟨_, rfl⟩, q⟩
theorem cd_repr : CallD K (rRepr K) fRepr := fun T ρ H vs ss s Q k hp hg hq => by
  unfold fRepr at hg
  split at hg
  · rename_i u
    obtain ⟨v, rfl, h⟩ := paired1 hp
    cases e : asS u with
    | none => rw [e] at hg; cases hg
    | some xs =>
      rw [e] at hg
      simp only [Option.bind_some] at hg
      cases ed : asD u with
      | none => rw [ed] at hg; cases hg
      | some x =>
        rw [ed] at hg
        simp only [Option.bind_some] at hg
        split at hg
        · rename_i ok
          cases hg
          obtain ⟨a, ws, rfl, h1, h2⟩ := at_seq h e
          exact ⟨a, x, rfl, at_Dq h ed, ok, postO_same hq (.str _)⟩
        · cases hg
  · cases hg
end
/-! ### tuple(range(n)), list(range(n)) -/
section
variable {X : Cx} {e : Expr} {p pos rp rpos : Pos}
def rgOk (m n : Int) : Prop := -(2 ^ 62) ≤ m ∧ m < 2 ^ 62 ∧ -(2 ^ 62) ≤ n ∧ n < 2 ^ 62 ∧ (n - m).toNat ≤ 2 ^ 24
instance (m n : Int) : Decidable (rgOk m n) := by unfold rgOk; infer_instance
theorem dq_rng {K : PySem.W.Frag} {G : Hp} (m n : Int) : DqAll K G (rgV m n) (rng m (n - m).toNat) := by
  unfold rgV rng
  induction (List.range (n - m).toNat) with
  | nil => exact .nil
  | cons x r ih => exact .cons (.int _) ih
end
end DL

namespace DL
open PySem PySem.Spec PyProof.Rows L2
variable [TB]

section
variable {X : Cx} {e : Expr} {p pos rp rpos : Pos}
/-! ### tuple(range(..)), list(range(..)) -/
def rgE1 (mk : List PyData → S) (f : PEV) : EV := fun δ => (f δ).bind fun x => (res x.2 x.1).bind fun s => (asI s).bind fun n => if rgOk 0 n then some (mk (rng 0 (n - 0).toNat), x.2) else none
theorem rg1_ok {f : PEV} {mk : List PyData → S} {Y : Int → Int → Hp → VK → Prop} (hY : ∀ (T : List Addr) (ρ : List (Option Addr)) (H : Hp) (n : Int) (Q : VK), Trk T ρ H → rgOk 0 n → PostO X.K T ρ H Q (mk (rng 0 (n - 0).toNat)) → Y 0 n H Q) (σ : L2.St) (H : Hp) (Q : VK) (h : lift X.K (rgE1 mk f) σ H Q) :
    tRg1 (liftP X.K f) σ H fun a b H1 => Y a b H1 Q := by
  obtain ⟨T, ρ, δ, s, δ', hs, hf, hq⟩ := h
  unfold rgE1 at hf
  cases e1 : f δ with
  | none => rw [e1] at hf; cases hf
  | some x =>
    rw [e1] at hf
    simp only [Option.bind_some] at hf
    cases e2 : res x.2 x.1 with
    | none => rw [e2] at hf; cases hf
    | some u =>
      rw [e2] at hf
      simp only [Option.bind_some] at hf
      cases e3 : asI u with
      | none => rw [e3] at hf; cases hf
      | some n =>
        rw [e3] at hf
        simp only [Option.bind_some] at hf
        split at hf
        · rename_i hr
          cases hf
          refine ⟨T, ρ, δ, x.1, x.2, hs, by rw [e1], fun ρ1 v H1 s1 x1 p1 => ?_⟩
          exact ⟨n, at_I (pat_at s1 .refl p1 e2) e3, hY T ρ1 H1 n Q s1.trk hr (post_o s1 x1 hq)⟩
        · cases hf
theorem de_tupRg1 {f : PEV} (hc : X.calm = true) (hg : Gl X "tuple") (hm : X.mg "tuple" = none) (hgr : Gl X "range") (hmr : X.mg "range" = none) (he : DP X e f) (na : starEach [e] X.env = (false, eval e X.env) :: starEach [] X.env := by rfl)
    (nb : starEach [.Call (.Name "range" rp) [e] [] rpos] X.env = (false, eval (.Call (.Name "range" rp) [e] [] rpos) X.env) :: starEach [] X.env := by rfl) :
    DE X (.Call (.Name "tuple" p) [.Call (.Name "range" rp) [e] [] rpos] [] pos) (rgE1 (fun xs => .d (.tuple xs)) f) :=
  pe_imp (pe_tupRg hc hg hm (prg_1 hgr hmr he na) nb) fun σ H Q h => rg1_ok (Y := fun a b H1 Q => RgOk a b ∧ ∀ q, H1 q = none → Q (.ref q) (upd H1 q (.tup (rgV a b)))) (fun T ρ H n Q k hr hq => ⟨hr, fun q hq' => postO_tup k hq (dq_rng 0 n) hq'⟩) σ H Q h
theorem de_lstRg1 {f : PEV} (hc : X.calm = true) (hg : Gl X "list") (hm : X.mg "list" = none) (hgr : Gl X "range") (hmr : X.mg "range" = none) (he : DP X e f) (na : starEach [e] X.env = (false, eval e X.env) :: starEach [] X.env := by rfl)
    (nb : starEach [.Call (.Name "range" rp) [e] [] rpos] X.env = (false, eval (.Call (.Name "range" rp) [e] [] rpos) X.env) :: starEach [] X.env := by rfl) :
    DE X (.Call (.Name "list" p) [.Call (.Name "range" rp) [e] [] rpos] [] pos) (rgE1 (fun xs => .o (.l xs)) f) :=
  pe_imp (pe_listRg hc hg hm (prg_1 hgr hmr he na) nb) fun σ H Q h => rg1_ok (X := X) (mk := fun xs => S.o (C.l xs)) (Y := fun a b H1 Q => RgOk a b ∧ ∀ q, H1 q = none → Q (.ref q) (upd H1 q (.lst (rgV a b)))) (fun T ρ H n Q k hr hq => ⟨hr, fun q hq' => hq q _ hq' ⟨_, rfl, dq_rng 0 n⟩⟩) σ H Q h
/-! ### slices -/
def cutD (xs : List PyData) (lo hi : Option Int) : List PyData := (xs.drop (HT.sIx xs.length 0 lo)).take (HT.sIx xs.length xs.length hi - HT.sIx xs.length 0 lo)
def noP : Ds → Option (Option Int × Ds) := fun δ => some (none, δ)
def someP (f : PEV) : Ds → Option (Option Int × Ds) := fun δ => (f δ).bind fun x => match x.1 with
  | .v (.d (.int i)) => some (some i, x.2)
  | _ => none
def slE (f : PEV) (fl fh : Ds → Option (Option Int × Ds)) : EV := fun δ => (f δ).bind fun x => (fl x.2).bind fun l => (fh l.2).bind fun h => (res h.2 x.1).bind fun s => match asL s with
  | some xs => some (.o (.l (cutD xs l.1 h.1)), h.2)
  | none => (asT s).map fun xs => (.d (.tuple (cutD xs l.1 h.1)), h.2)
def liftO (K : PySem.W.Frag) (f : Ds → Option (Option Int × Ds)) : TO := fun σ H Q => ∃ T ρ δ i δ', Sim K T ρ δ σ H ∧ f δ = some (i, δ') ∧ ∀ ρ' H', Sim K T ρ' δ' σ H' → Ext T ρ H ρ' H' → Q i H'
theorem po_imp {oe : Option Expr} {t t' : TO} (p : PO X oe t) (m : ∀ σ H Q, t' σ H Q → t σ H Q) : PO X oe t' := ⟨fun pins s σ H Q I h => p.run pins s σ H Q I (m σ H Q h)⟩
theorem do_none : PO X none (liftO X.K noP) := po_imp po_none fun σ H Q ⟨T, ρ, δ, i, δ', hs, hf, hq⟩ => by
  cases hf
  exact hq ρ H hs .refl
theorem do_some {f : PEV} (he : DP X e f) : PO X (some e) (liftO X.K (someP f)) := po_imp (po_some he) fun σ H Q ⟨T, ρ, δ, i, δ', hs, hf, hq⟩ => by
  unfold someP at hf
  cases e1 : f δ with
  | none => rw [e1] at hf; cases hf
  | some x =>
    obtain ⟨pv, δ1⟩ := x
    rw [e1] at hf
    simp only [Option.bind_some] at hf
    split at hf
    · rename_i n
      cases hf
      refine ⟨T, ρ, δ, _, _, hs, e1, fun ρ1 v H1 s1 x1 p1 => ?_⟩
      have p1' : Dq X.K (hid T ρ1 H1) v (.int n) := p1
      cases p1'
      exact ⟨n, rfl, hq ρ1 H1 s1 x1⟩
    · cases hf
theorem cut_dq {K : PySem.W.Frag} {G : Hp} {vs : List V} {xs : List PyData} (h : DqAll K G vs xs) (lo hi : Option Int) : DqAll K G (cutV vs lo hi) (cutD xs lo hi) := by
  unfold cutV cutD
  rw [dpAll_len h]
  exact dpAll_take _ (dpAll_drop _ h)
theorem sIx_le' (n d : Nat) (o : Option Int) (hd : d ≤ n) : HT.sIx n d o ≤ n := HT.sIx_le n d hd o
theorem cut_all {xs : List PyData} {lo hi : Option Int} (h : HT.sIx xs.length 0 lo = 0 ∧ HT.sIx xs.length xs.length hi = xs.length) : cutD xs lo hi = xs := by
  unfold cutD
  rw [h.1, h.2]
  simp
theorem slr_or {r r' : V → Option Int → Option Int → Hp → VK → Prop} (h : SlR X r) (h' : SlR X r') : SlR X (fun x l u H Q => r x l u H Q ∨ r' x l u H Q) := by
  intro pins s σ H x v vl vu lo hi sl Q I rx hs pl pu hh
  exact hh.elim (h pins s σ H x v vl vu lo hi sl Q I rx hs pl pu) (h' pins s σ H x v vl vu lo hi sl Q I rx hs pl pu)
theorem de_slice {lo hi : Option Expr} {f : PEV} {fl fh : Ds → Option (Option Int × Ds)} {p2 : Pos} (he : DP X e f) (hl : PO X lo (liftO X.K fl)) (hh : PO X hi (liftO X.K fh)) : DE X (.Subscript e (.Slice lo hi none p2) pos) (slE f fl fh) :=
  pe_imp (pe_slice (slr_or sl_list sl_tupA) he hl hh) fun σ H Q ⟨T, ρ, δ, s, δ', hs, hf, hq⟩ => by
    unfold slE at hf
    cases e1 : f δ with
    | none => rw [e1] at hf; cases hf
    | some x =>
      rw [e1] at hf
      simp only [Option.bind_some] at hf
      cases e2 : fl x.2 with
      | none => rw [e2] at hf; cases hf
      | some l =>
        rw [e2] at hf
        simp only [Option.bind_some] at hf
        cases e3 : fh l.2 with
        | none => rw [e3] at hf; cases hf
        | some h =>
          rw [e3] at hf
          simp only [Option.bind_some] at hf
          cases e4 : res h.2 x.1 with
          | none => rw [e4] at hf; cases hf
          | some u =>
            rw [e4] at hf
            simp only [Option.bind_some] at hf
            refine ⟨T, ρ, δ, x.1, x.2, hs, by rw [e1], fun ρ1 v H1 s1 x1 p1 => ?_⟩
            refine ⟨T, ρ1, x.2, l.1, l.2, s1, by rw [e2], fun ρ2 H2 s2 x2 => ?_⟩
            refine ⟨T, ρ2, l.2, h.1, h.2, s2, by rw [e3], fun ρ3 H3 s3 x3 => ?_⟩
            have ha := pat_at s3 (x2.trans x3) p1 e4
            have xx := x1.trans (x2.trans x3)
            split at hf
            · rename_i xs el
              cases hf
              obtain ⟨a, vs, rfl, h1, h2⟩ := at_L ha el
              exact .inl ⟨a, vs, rfl, SqL.of h1, fun n hn => (post_o s3 xx hq) n _ hn ⟨_, rfl, cut_dq h2 _ _⟩⟩
            · cases et : asT u with
              | none => rw [et] at hf; cases hf
              | some xs =>
                rw [et] at hf
                cases hf
                obtain ⟨a, vs, rfl, h1, h2⟩ := at_T ha et
                have hp := post_o s3 xx hq
                refine .inr ⟨a, vs, rfl, SqT.of (hid_same _ _ h1), fun hw => ?_, fun hw n hn => postO_tup s3.trk hp (cut_dq h2 _ _) hn⟩
                rw [dpAll_len h2] at hw
                have hw' := cut_all hw
                simp only [hw'] at hp
                exact postO_same hp (.tup h1 h2)
/-! ### extend -/
theorem md_extend {K : PySem.W.Frag} : MutD K rExtend gExt := fun T ρ H a ys xs ds vs s zs Q h1 h2 h3 h4 h5 => by
  unfold gExt at h4
  split at h4
  · rename_i es
    split at h4
    · rename_i hl
      cases h4
      cases h3 with
      | cons q1 q2 =>
        cases q2
        cases q1 with
        | lst g1 g2 => exact ⟨a, _, ys, _, rfl, rfl, h1, hid_same _ _ g1, by rw [dpAll_len h2, dpAll_len g2]; exact hl, h5 _ _ (dpAll_app h2 g2) .non⟩
    · cases h4
  · cases h4
end

/-! ### several targets at once: what is new may be owned -/
section
variable {K : PySem.W.Frag} {T T' : List Addr} {ρ : List (Option Addr)} {δ : Ds} {σ : L2.St} {H : Hp}
theorem hid_tEq (h : ∀ b, b ∈ T ↔ b ∈ T') : hid T ρ H = hid T' ρ H := by
  funext b
  unfold hid
  simp only [h]
theorem Sim.tEq (s : Sim K T ρ δ σ H) (h : ∀ b, b ∈ T ↔ b ∈ T') : Sim K T' ρ δ σ H :=
  ⟨s.len, s.slen, fun i u hi => let ⟨v, a, b⟩ := s.slot i u hi; ⟨v, a, at_hid (hid_tEq h) b⟩, s.own, s.own', s.inj, fun i a hi hm => s.nt i a hi ((h a).mpr hm), fun a ha => s.tmp a ((h a).mpr ha), fun p hp => (h _).mp (s.tabT p hp), s.tabs⟩
/-- what was being made becomes a slot's -/
theorem Sim.adopt {i : Nat} {a : Addr} {o : HO} {c : C} (s : Sim K (a :: T) ρ δ σ H) (ha : a ∉ T) (ho : H a = some o) (hc : CO K (hid (a :: T) ρ H) o c) : ∃ ρ', Sim K T ρ' (δ.set i (some (.o c))) (σ.set i (some (.ref a))) H ∧ Same (hid (a :: T) ρ H) (hid T ρ' H) := by
  have less : Same (hid (a :: T) ρ H) (hid T ρ H) := hid_less fun b hb => hb.elim (fun z => .inl (List.mem_cons_of_mem _ z)) .inr
  have hr := hid_rm (T := T) (ρ := ρ) (H := H) (D := a)
  have hn : rm H a a = none := rm_self
  have sm : Sim K T ρ δ σ (rm H a) := by
    refine ⟨s.len, s.slen, fun j u hj => ?_, s.own, s.own', s.inj, fun j b hj hm => s.nt j b hj (List.mem_cons_of_mem _ hm), fun b hb => ?_, fun p hp => ?_, tabs_rm s.tabs (nb_of ho (co_nb hc).1 (co_nb hc).2)⟩
    · obtain ⟨v, e1, e2⟩ := s.slot j u hj
      refine ⟨v, e1, ?_⟩
      cases u with
      | o c' =>
        obtain ⟨b, f1, f2⟩ := s.own j c' hj
        rw [e1] at f2
        cases f2
        obtain ⟨b', x, z1, z2, z3⟩ := e2
        cases z1
        have ne : b ≠ a := fun z => by
          subst z
          exact s.nt j b f1 List.mem_cons_self
        exact ⟨b, x, rfl, by rw [rm_ne ne]; exact z2, by rw [hr]; exact z3⟩
      | d x => exact (show SV K (hid T ρ (rm H a)) v (.d x) by rw [hr]; exact e2)
      | t x => exact (show SV K (hid T ρ (rm H a)) v (.t x) by rw [hr]; exact e2)
      | z x => exact (show SV K (hid T ρ (rm H a)) v (.z x) by rw [hr]; exact e2)
      | p x => exact (show SV K (hid T ρ (rm H a)) v (.p x) by rw [hr]; exact e2)
    · obtain ⟨x, hx, hy⟩ := s.tmp b (List.mem_cons_of_mem _ hb)
      have ne : b ≠ a := fun z => by
        subst z
        exact ha hb
      exact ⟨x, by rw [rm_ne ne]; exact hx, hy⟩
    · rcases List.mem_cons.mp (s.tabT p hp) with z | z
      · obtain ⟨ps, h1, _⟩ := s.tabs p hp
        rw [z, ho] at h1
        exact absurd (Option.some.inj h1) ((co_nb hc).1 ps)
      · exact z
  obtain ⟨ρ', q1, q2⟩ := sm.setO (i := i) (o := o) (c := c) hn (by rw [hr]; exact hc)
  rw [rm_upd ho] at q1 q2
  refine ⟨ρ', q1, ?_⟩
  have := q2.same
  rw [hr] at this
  exact this
inductive FrAts (K : PySem.W.Frag) (G : Hp) (H : Hp) : List Addr → List V → List S → Prop
  | nil : FrAts K G H [] [] []
  | dat {F : List Addr} {v : V} {s : S} {vs : List V} {ss : List S} : SV K G v s → FrAts K G H F vs ss → FrAts K G H F (v :: vs) (s :: ss)
  | fr {F : List Addr} {a : Addr} {o : HO} {c : C} {vs : List V} {ss : List S} : H a = some o → CO K G o c → FrAts K G H F vs ss → FrAts K G H (a :: F) (.ref a :: vs) (.o c :: ss)
def setsD : List Nat → List S → Ds → Ds
  | i :: is, s :: ss, δ => setsD is ss (δ.set i (some s))
  | _, _, δ => δ
def setsV : List Nat → List V → L2.St → L2.St
  | i :: is, v :: vs, σ => setsV is vs (σ.set i (some v))
  | _, _, σ => σ
theorem fr_sets {G : Hp} : ∀ {F : List Addr} {vs : List V} {ss : List S}, FrAts K G H F vs ss → ∀ (is : List Nat) (ρ : List (Option Addr)) (δ : Ds) (σ : L2.St), is.length = ss.length → F.Nodup → (∀ a ∈ F, a ∉ T) → Sim K (F ++ T) ρ δ σ H → Same G (hid (F ++ T) ρ H) →
    ∃ ρ', Sim K T ρ' (setsD is ss δ) (setsV is vs σ) H ∧ Same G (hid T ρ' H)
  | _, _, _, .nil, is, ρ, δ, σ, hl, nd, hT, s, sm => by
    cases is with
    | nil => exact ⟨ρ, s, sm⟩
    | cons i is => cases hl
  | F, _, _, .dat (v := v) (s := u) hv r, is, ρ, δ, σ, hl, nd, hT, s, sm => by
    cases is with
    | nil => cases hl
    | cons i is =>
      obtain ⟨a, b⟩ := s.setD (i := i) (svM (s := u) sm hv)
      exact fr_sets r is _ _ _ (by simpa using hl) nd hT a (sm.trans b.same)
  | _, _, _, .fr (F := F) (a := a) ho hc r, is, ρ, δ, σ, hl, nd, hT, s, sm => by
    cases is with
    | nil => cases hl
    | cons i is =>
      obtain ⟨n1, n2⟩ := List.nodup_cons.mp nd
      obtain ⟨ρ', q1, q2⟩ := Sim.adopt (i := i) (T := F ++ T) s (fun z => (List.mem_append.mp z).elim n1 (hT a List.mem_cons_self)) ho (coM sm hc)
      exact fr_sets r is ρ' _ _ (by simpa using hl) n2 (fun b hb => hT b (List.mem_cons_of_mem _ hb)) q1 (sm.trans q2)
end
abbrev FEV := Ds → Option (List S × Ds)
def liftF (K : PySem.W.Frag) (f : FEV) : TA := fun σ H Q => ∃ T ρ δ ss δ', Sim K T ρ δ σ H ∧ f δ = some (ss, δ') ∧ ∀ F ρ' vs H', Sim K (F ++ T) ρ' δ' σ H' → Same (hid T ρ H) (hid (F ++ T) ρ' H') → (∀ a, a ∈ T → Kp (H a) (H' a)) → F.Nodup → (∀ a ∈ F, a ∉ T) → FrAts K (hid (F ++ T) ρ' H') H' F vs ss → Q vs H'
abbrev DF (X : Cx) (es : List Expr) (f : FEV) : Prop := PA X es (liftF X.K f)
def nilF : FEV := fun δ => some ([], δ)
def consF (f : EV) (g : FEV) : FEV := fun δ => (f δ).bind fun x => (g x.2).map fun y => (x.1 :: y.1, y.2)
theorem frM {K : PySem.W.Frag} {G G' H : Hp} (e : Same G G') : ∀ {F : List Addr} {vs : List V} {ss : List S}, FrAts K G H F vs ss → FrAts K G' H F vs ss
  | _, _, _, .nil => .nil
  | _, _, _, .dat (s := u) h r => .dat (svM (s := u) e h) (frM e r)
  | _, _, _, .fr h1 h2 r => .fr h1 (coM e h2) (frM e r)
section
variable {X : Cx} {e : Expr} {pos : Pos} {P : List Nat}
theorem df_nil : DF X [] nilF := pa_imp pa_nil fun σ H Q ⟨T, ρ, δ, ss, δ', hs, hf, hq⟩ => by
  cases hf
  exact hq [] ρ [] H hs (Same.refl _) (fun _ _ => .refl) List.nodup_nil (fun a ha => nomatch ha) .nil
theorem df_cons {es : List Expr} {f : EV} {g : FEV} (h1 : DE X e f) (h2 : DF X es g) (hstar : starEach (e :: es) X.env = (false, eval e X.env) :: starEach es X.env := by rfl) : DF X (e :: es) (consF f g) := pa_imp (pa_cons h1 h2 hstar) fun σ H Q ⟨T, ρ, δ, ss, δ', hs, hf, hq⟩ => by
  unfold consF at hf
  cases ea : f δ with
  | none => rw [ea] at hf; cases hf
  | some x =>
    obtain ⟨s, δ1⟩ := x
    rw [ea] at hf
    simp only [Option.bind_some] at hf
    cases eb : g δ1 with
    | none => rw [eb] at hf; cases hf
    | some y =>
      rw [eb] at hf
      have hf' := Option.some.inj hf
      obtain ⟨us, δ2⟩ := y
      cases hf'
      refine ⟨T, ρ, δ, s, δ1, hs, ea, ?_⟩
      have data : (∀ ρ1 v H1, Sim X.K T ρ1 δ1 σ H1 → Ext T ρ H ρ1 H1 → SV X.K (hid T ρ1 H1) v s → liftF X.K g σ H1 fun xs H2 => Q (v :: xs) H2) := by
        intro ρ1 v H1 s1 x1 hv
        refine ⟨T, ρ1, δ1, us, δ2, s1, eb, fun F ρ2 vs H2 s2 sm tm nd hT fr => ?_⟩
        exact hq F ρ2 (v :: vs) H2 s2 (x1.same.trans sm) (fun a ha => (x1.tmp a ha).trans (tm a ha)) nd hT (.dat (svM (s := s) sm hv) fr)
      cases s with
      | d c => exact data
      | t c => exact data
      | z c => exact data
      | p c => exact data
      | o c =>
        intro ρ1 p H0 o s1 x1 hp hc
        obtain ⟨npT, npρ⟩ := s1.trk.fresh hp
        have h0 : hid (p :: T) ρ1 (upd H0 p o) = hid T ρ1 H0 := hid_new hp
        refine ⟨p :: T, ρ1, δ1, us, δ2, s1.addTmp hp (co_nt hc), eb, fun F ρ2 vs H2 s2 sm tm nd hT fr => ?_⟩
        have mem : ∀ b, b ∈ F ++ p :: T ↔ b ∈ (p :: F) ++ T := fun b => by
          simp only [List.mem_append, List.mem_cons]
          constructor
          · rintro (h | h | h)
            · exact .inl (.inr h)
            · exact .inl (.inl h)
            · exact .inr h
          · rintro ((h | h) | h)
            · exact .inr (.inl h)
            · exact .inl h
            · exact .inr (.inr h)
        have hh := hid_tEq (ρ := ρ2) (H := H2) mem
        have pF : p ∉ F := fun z => hT p z List.mem_cons_self
        have hp2 : H2 p = some o := (tm p List.mem_cons_self).eq upd_same (co_nb hc).1
        refine hq (p :: F) ρ2 (.ref p :: vs) H2 (s2.tEq mem) ?_ ?_ (List.nodup_cons.mpr ⟨pF, nd⟩) ?_ ?_
        · rw [← hh]
          rw [h0] at sm
          exact x1.same.trans sm
        · intro a ha
          have ne : a ≠ p := fun z => npT (z ▸ ha)
          have q := tm a (List.mem_cons_of_mem _ ha)
          rw [upd_ne ne] at q
          exact (x1.tmp a ha).trans q
        · intro a ha
          rcases List.mem_cons.mp ha with z | z
          · rw [z]; exact npT
          · exact fun y => hT a z (List.mem_cons_of_mem _ y)
        · refine .fr hp2 ?_ (hh ▸ fr)
          rw [← hh]
          rw [h0] at sm
          exact coM sm hc
def parS (is : List Nat) (f : FEV) : SEV := fun δ => (f δ).bind fun x => if x.1.length = is.length then some (.nx (setsD is x.1 x.2)) else none
theorem setsV_keep : ∀ {is : List Nat} {vs : List V} {σ : L2.St} {j : Nat}, j ∉ is → (setsV is vs σ)[j]? = σ[j]?
  | [], _, _, _, _ => rfl
  | _ :: _, [], _, _, _ => rfl
  | i :: is, v :: vs, σ, j, h => by
    unfold setsV
    rw [setsV_keep fun z => h (List.mem_cons_of_mem _ z), List.getElem?_set_ne fun z => h (by rw [z]; exact List.mem_cons_self)]
theorem fr_len {K : PySem.W.Frag} {G H : Hp} : ∀ {F : List Addr} {vs : List V} {ss : List S}, FrAts K G H F vs ss → vs.length = ss.length
  | _, _, _, .nil => rfl
  | _, _, _, .dat _ r => by simp [fr_len r]
  | _, _, _, .fr _ _ r => by simp [fr_len r]
theorem par_ok {K : PySem.W.Frag} {is : List Nat} {f : FEV} (hP : ∀ i ∈ P, i ∉ is) {D : Ends} {σ : L2.St} {H : Hp} (h : liftS K P (parS is f) D σ H) : liftF K f σ H fun vs H1 => vs.length = is.length ∧ D.nx (setsV is vs σ) H1 ∧ ∀ p o, H1 p = none → D.nx (setsV is vs σ) (upd H1 p o) := by
  obtain ⟨T, ρ, δ, o, hs, hf, hq⟩ := h
  unfold parS at hf
  cases ea : f δ with
  | none => rw [ea] at hf; cases hf
  | some x =>
    obtain ⟨ss, δ1⟩ := x
    rw [ea] at hf
    simp only [Option.bind_some] at hf
    split at hf
    · rename_i hl
      cases hf
      refine ⟨T, ρ, δ, ss, δ1, hs, ea, fun F ρ1 vs H1 s1 sm tm nd hT fr => ?_⟩
      obtain ⟨ρ2, q1, q2⟩ := fr_sets fr is ρ1 δ1 σ hl.symm nd hT s1 (Same.refl _)
      have kp : Keep P σ (setsV is vs σ) := fun j hj => setsV_keep (hP j hj)
      have ex : Ext T ρ H ρ2 H1 := ⟨sm.trans q2, tm, fun _ => q1.tabs⟩
      refine ⟨by rw [fr_len fr]; exact hl, hq ρ2 _ H1 q1 ex kp, fun p u hp => ?_⟩
      exact hq ρ2 _ _ (q1.mono (same_new hp)) (ex.trans (q1.trk.extT (same_new hp))) kp
    · cases hf
theorem ds_par2 {i j : Nat} {x y : Str} {a b : Expr} {f : FEV} {px py pt : Pos} {kt k2 pt2} (hc : X.calm = true) (hN : X.N.Nodup) (hi : X.N[i]? = some x) (hj : X.N[j]? = some y) (hij : i ≠ j)
    (hx : X.env.scope.names.lookup x = some .local) (hy : X.env.scope.names.lookup y = some .local) (hP : ∀ m ∈ P, m ∉ [i, j]) (ha : DF X [a, b] f)
    (hw : swappedStores [.Tuple [.Name x px, .Name y py] kt pt] (.Tuple [a, b] k2 pt2) X.env = pure (some [x, y]))
    (hs : swapsWithSole [.Tuple [.Name x px, .Name y py] kt pt] (.Tuple [a, b] k2 pt2) pos.line X.env = pure false := by rfl) :
    DS X P (.Assign [.Tuple [.Name x px, .Name y py] kt pt] (.Tuple [a, b] k2 pt2) pos) (parS [i, j] f) := ps_imp (ps_par hc hN hi hj hij hx hy ha hw hs) fun D σ H h => by
  obtain ⟨T, ρ, δ, ss, δ', q1, q2, q3⟩ := par_ok hP h
  refine ⟨T, ρ, δ, ss, δ', q1, q2, fun F ρ' vs H' a1 a2 a3 a4 a5 a6 => ?_⟩
  obtain ⟨l, n, _⟩ := q3 F ρ' vs H' a1 a2 a3 a4 a5 a6
  match vs, l, n with
  | [v, w], _, n => exact ⟨v, w, rfl, n⟩
theorem ds_par3 {i j l : Nat} {x y z : Str} {a b c : Expr} {f : FEV} {px py pz pt : Pos} {kt k2 pt2} (hc : X.calm = true) (hN : X.N.Nodup) (hi : X.N[i]? = some x) (hj : X.N[j]? = some y) (hl : X.N[l]? = some z) (hij : i ≠ j) (hil : i ≠ l) (hjl : j ≠ l)
    (hx : X.env.scope.names.lookup x = some .local) (hy : X.env.scope.names.lookup y = some .local) (hz : X.env.scope.names.lookup z = some .local) (hP : ∀ m ∈ P, m ∉ [i, j, l]) (ha : DF X [a, b, c] f)
    (hw : swappedStores [.Tuple [.Name x px, .Name y py, .Name z pz] kt pt] (.Tuple [a, b, c] k2 pt2) X.env = pure (some [x, y, z]))
    (hs : swapsWithSole [.Tuple [.Name x px, .Name y py, .Name z pz] kt pt] (.Tuple [a, b, c] k2 pt2) pos.line X.env = pure false := by rfl) :
    DS X P (.Assign [.Tuple [.Name x px, .Name y py, .Name z pz] kt pt] (.Tuple [a, b, c] k2 pt2) pos) (parS [i, j, l] f) := ps_imp (ps_par3 hc hN hi hj hl hij hil hjl hx hy hz ha hw hs) fun D σ H h => by
  obtain ⟨T, ρ, δ, ss, δ', q1, q2, q3⟩ := par_ok hP h
  refine ⟨T, ρ, δ, ss, δ', q1, q2, fun F ρ' vs H' a1 a2 a3 a4 a5 a6 => ?_⟩
  obtain ⟨l, n, _⟩ := q3 F ρ' vs H' a1 a2 a3 a4 a5 a6
  match vs, l, n with
  | [v, w, u], _, n => exact ⟨v, w, u, rfl, n⟩
/-- .. by a tuple that is made and taken apart -/
def gNames : List Nat → TGs
  | [] => gNil
  | i :: is => gCons (gName i) (gNames is)
theorem gNames_ok : ∀ {is : List Nat} {vs : List V} {σ : L2.St} {H : Hp} {Q : L2.St → Hp → Prop}, vs.length = is.length → Q (setsV is vs σ) H → gNames is vs σ H Q
  | [], [], _, _, _, _, q => ⟨rfl, q⟩
  | [], _ :: _, _, _, _, h, _ => by cases h
  | _ :: _, [], _, _, _, h, _ => by cases h
  | i :: is, v :: vs, σ, H, Q, h, q => ⟨v, vs, rfl, gNames_ok (is := is) (by simpa using h) q⟩
theorem ds_parT {is : List Nat} {tgs es : List Expr} {f : FEV} {pt pt2 : Pos} {kt k2 : Nat} (hP : ∀ m ∈ P, m ∉ is) (hg : PG X (.Tuple tgs kt pt) (gTup X.K is.length (gNames is))) (ha : DF X es f) (hz : is.length ≤ sizeLine := by decide)
    (hs : swapsWithSole [.Tuple tgs kt pt] (.Tuple es k2 pt2) pos.line X.env = pure false := by rfl) (hw : swappedStores [.Tuple tgs kt pt] (.Tuple es k2 pt2) X.env = pure none := by rfl)
    (h1 : (assignEach [.Tuple tgs kt pt] X.env).map (·.2) = [assign (.Tuple tgs kt pt) X.env] := by rfl) :
    DS X P (.Assign [.Tuple tgs kt pt] (.Tuple es k2 pt2) pos) (parS is f) := ps_imp (ps_asg (pe_tup ha) hg hs hw h1) fun D σ H h => by
  obtain ⟨T, ρ, δ, ss, δ', q1, q2, q3⟩ := par_ok hP h
  refine ⟨T, ρ, δ, ss, δ', q1, q2, fun F ρ' vs H' a1 a2 a3 a4 a5 a6 => ?_⟩
  obtain ⟨l, _, n⟩ := q3 F ρ' vs H' a1 a2 a3 a4 a5 a6
  refine ⟨by rw [l]; exact hz, fun p hp => ⟨p, vs, rfl, SqT.of upd_same, l, gNames_ok l (n p _ hp)⟩⟩
end
end DL

namespace DL
open PySem PySem.Spec PyProof.Rows L2
variable [TB]

/-! ### sorted -/
section
variable {α : Type}
def ins (lt : α → α → Bool) (x : α) : List α → List α
  | [] => [x]
  | y :: r => if lt y x then y :: ins lt x r else x :: y :: r
def isort (lt : α → α → Bool) : List α → List α
  | [] => []
  | x :: r => ins lt x (isort lt r)
variable {lt : α → α → Bool}
theorem ins_perm (x : α) : ∀ l : List α, (ins lt x l).Perm (x :: l)
  | [] => .refl _
  | y :: r => by
    unfold ins
    split
    · exact ((ins_perm x r).cons y).trans (.swap x y r)
    · exact .refl _
theorem isort_perm : ∀ l : List α, (isort lt l).Perm l
  | [] => .refl _
  | x :: r => (ins_perm x _).trans ((isort_perm r).cons x)
theorem ins_sorted (as : ∀ a b, lt a b = true → lt b a = false) (tr : ∀ a b c, lt b a = false → lt c b = false → lt c a = false) (x : α) : ∀ l : List α, l.Pairwise (fun a b => lt b a = false) → (ins lt x l).Pairwise (fun a b => lt b a = false)
  | [], _ => List.pairwise_singleton _ _
  | y :: r, h => by
    obtain ⟨h1, h2⟩ := List.pairwise_cons.mp h
    unfold ins
    split
    · rename_i hy
      refine List.pairwise_cons.mpr ⟨fun z hz => ?_, ins_sorted as tr x r h2⟩
      rcases List.mem_cons.mp ((ins_perm x r).mem_iff.mp hz) with e | e
      · subst e
        exact as _ _ hy
      · exact h1 z e
    · rename_i hy
      have hy' : lt y x = false := by simpa using hy
      refine List.pairwise_cons.mpr ⟨fun z hz => ?_, h⟩
      rcases List.mem_cons.mp hz with e | e
      · subst e
        exact hy'
      · exact tr _ _ _ hy' (h1 z e)
theorem isort_sorted (as : ∀ a b, lt a b = true → lt b a = false) (tr : ∀ a b c, lt b a = false → lt c b = false → lt c a = false) : ∀ l : List α, (isort lt l).Pairwise (fun a b => lt b a = false)
  | [] => .nil
  | x :: r => ins_sorted as tr x _ (isort_sorted as tr r)
theorem perm_uniq {R : α → α → Prop} (an : ∀ a b, R a b → R b a → a = b) : ∀ {l m : List α}, l.Perm m → l.Pairwise R → m.Pairwise R → l = m
  | [], m, p, _, _ => (List.nil_perm.mp p).symm
  | a :: l, [], p, _, _ => by cases List.perm_nil.mp p
  | a :: l, b :: m, p, h, k => by
    obtain ⟨h1, h2⟩ := List.pairwise_cons.mp h
    obtain ⟨k1, k2⟩ := List.pairwise_cons.mp k
    have e : a = b := by
      rcases List.mem_cons.mp (p.mem_iff.mp List.mem_cons_self) with e | e
      · exact e
      · rcases List.mem_cons.mp (p.mem_iff.mpr List.mem_cons_self) with e' | e'
        · exact e'.symm
        · exact an _ _ (h1 b e') (k1 a e)
    subst e
    rw [perm_uniq an p.cons_inv h2 k2]
end
def pr (p : Int × Int) : PyData := .tuple [.int p.1, .int p.2]
def prs : List PyData → Option (List (Int × Int))
  | [] => some []
  | .tuple [.int i, .int j] :: r => (prs r).map ((i, j) :: ·)
  | _ => none
theorem prs_eq : ∀ {xs : List PyData} {ps : List (Int × Int)}, prs xs = some ps → xs = ps.map pr
  | [], _, h => by cases h; rfl
  | x :: r, ps, h => by
    unfold prs at h
    split at h
    · rename_i heq
      cases heq
    · rename_i i j r' heq
      cases heq
      cases e : prs r with
      | none => rw [e] at h; cases h
      | some qs =>
        rw [e] at h
        cases h
        rw [prs_eq e]
        rfl
    · cases h
theorem prs_map : ∀ ps : List (Int × Int), prs (ps.map pr) = some ps
  | [] => rfl
  | p :: ps => by
    show (prs (ps.map pr)).map (p :: ·) = _
    rw [prs_map ps]
    rfl
abbrev sortP : List (Int × Int) → List (Int × Int) := isort SrtO.lexB
theorem lexB_as (a b : Int × Int) (h : SrtO.lexB a b = true) : SrtO.lexB b a = false := by
  have := SrtO.lexB_iff.mp h
  refine SrtO.lexB_no.mpr ?_
  omega
theorem lexB_tr (a b c : Int × Int) (h : SrtO.lexB b a = false) (k : SrtO.lexB c b = false) : SrtO.lexB c a = false := by
  have h := SrtO.lexB_no.mp h
  have k := SrtO.lexB_no.mp k
  refine SrtO.lexB_no.mpr ?_
  omega
theorem lexB_an (a b : Int × Int) (h : SrtO.lexB b a = false) (k : SrtO.lexB a b = false) : a = b := by
  have h := SrtO.lexB_no.mp h
  have k := SrtO.lexB_no.mp k
  apply Prod.ext <;> omega
def fSorted : List S → Option S
  | [s] => (asL s).bind fun xs => (prs xs).map fun ps => .o (.l ((sortP ps).map pr))
  | _ => none
def keyV (H : Hp) : V → Int × Int
  | .ref t => match H t with
    | some (.tup [.int i, .int j]) => (i, j)
    | _ => (0, 0)
  | _ => (0, 0)
theorem dq_pr {K : PySem.W.Frag} {G H : Hp} (e : Same G H) {v : V} {p : Int × Int} (h : Dq K G v (pr p)) : (∃ t, v = .ref t ∧ H t = some (.tup [.int (keyV H v).1, .int (keyV H v).2])) ∧ keyV H v = p := by
  cases h with
  | @tup t vs _ h1 h2 =>
    cases h2 with
    | cons a b =>
      cases b with
      | cons b c =>
        cases c
        cases a
        cases b
        have h3 := e _ _ h1
        have hk : keyV H (.ref t) = p := by
          unfold keyV
          simp only [h3]
        refine ⟨⟨t, rfl, ?_⟩, hk⟩
        rw [hk]
        exact h3
theorem dqAll_mem {K : PySem.W.Frag} {G : Hp} {vs : List V} {xs : List PyData} (h : DqAll K G vs xs) {v : V} (hv : v ∈ vs) : ∃ d, d ∈ xs ∧ Dq K G v d := by
  obtain ⟨i, hi⟩ := mem_ix hv
  obtain ⟨d, e, q⟩ := dpAll_getV h hi
  exact ⟨d, ix_mem e, q⟩
theorem dqAll_of {K : PySem.W.Frag} {G : Hp} {f : V → PyData} : ∀ {vs : List V}, (∀ v ∈ vs, Dq K G v (f v)) → DqAll K G vs (vs.map f)
  | [], _ => .nil
  | v :: vs, h => .cons (h v List.mem_cons_self) (dqAll_of fun w hw => h w (List.mem_cons_of_mem _ hw))
theorem cd_sorted {K : PySem.W.Frag} : CallD K (rSortedPO K) fSorted := fun T ρ H vs ss s Q k hp hg hq => by
  unfold fSorted at hg
  split at hg
  · rename_i u
    obtain ⟨v, rfl, h⟩ := paired1 hp
    cases e : asL u with
    | none => rw [e] at hg; cases hg
    | some xs =>
      rw [e] at hg
      simp only [Option.bind_some] at hg
      cases ep : prs xs with
      | none => rw [ep] at hg; cases hg
      | some ps =>
        rw [ep] at hg
        cases hg
        obtain ⟨a, ws, rfl, h1, h2⟩ := at_L h e
        have ex := prs_eq ep
        subst ex
        have each : ∀ v ∈ ws, (∃ t, v = .ref t ∧ H t = some (.tup [.int (keyV H v).1, .int (keyV H v).2])) ∧ Dq K (hid T ρ H) v (pr (keyV H v)) := fun v hv => by
          obtain ⟨d, hd, q⟩ := dqAll_mem h2 hv
          obtain ⟨p, _, rfl⟩ := List.mem_map.mp hd
          obtain ⟨q1, q2⟩ := dq_pr hid_same q
          exact ⟨q1, by rw [q2]; exact q⟩
        have kws : ws.map (keyV H) = ps := by
          apply List.ext_getElem?
          intro i
          rw [List.getElem?_map]
          cases ei : ws[i]? with
          | none =>
            have : ws.length = (ps.map pr).length := dpAll_len h2
            rw [List.length_map] at this
            have hl := List.getElem?_eq_none_iff.mp ei
            rw [List.getElem?_eq_none (by omega)]
            rfl
          | some v =>
            obtain ⟨d, e1, q⟩ := dpAll_getV h2 ei
            rw [List.getElem?_map] at e1
            cases e2 : ps[i]? with
            | none => rw [e2] at e1; cases e1
            | some p =>
              rw [e2] at e1
              cases e1
              exact congrArg some (dq_pr hid_same q).2
        refine ⟨a, ws, keyV H, rfl, SqL.of h1, fun v hv => (each v hv).1, fun ys n h3 h4 hn => ?_⟩
        have ey : ys.map (keyV H) = sortP ps := by
          refine perm_uniq (R := fun a b => SrtO.lexB b a = false) (fun a b => lexB_an a b) ?_ ?_ (isort_sorted lexB_as lexB_tr _)
          · have := h4.perm.map (keyV H)
            rw [kws] at this
            exact this.trans (isort_perm ps).symm
          · exact List.pairwise_map.mpr h3
        refine hq n _ hn ⟨ys, rfl, ?_⟩
        rw [← ey, List.map_map]
        exact dqAll_of fun v hv => (each v (h4.perm.mem_iff.mp hv)).2
  · cases hg

/-! ### zip of two lists -/
def zipD (xs ys : List PyData) : List PyData := (xs.zip ys).map fun p => .tuple [p.1, p.2]
def zipI (fa : AEV) : IEV := fun δ => (fa δ).bind fun x => match x.1 with
  | [.v (.d (.list xs)), .v (.d (.list ys))] => some (zipD xs ys, x.2)
  | _ => none
theorem serves_Z {K : PySem.W.Frag} {T : List Addr} {ρ : List (Option Addr)} {H : Hp} {a b : Addr} {us ws : List V} {xs ys : List PyData} (h1 : hid T ρ H a = some (.lst us)) (d1 : DqAll K (hid T ρ H) us xs) (h2 : hid T ρ H b = some (.lst ws)) (d2 : DqAll K (hid T ρ H) ws ys) : Serves K T ρ H (Itz K a b) (zipD xs ys) := fun i T2 ρ2 H2 sm tr => by
  have g1 : SqL K H2 a us := SqL.of (hid_same _ _ (sm _ _ h1))
  have g2 : SqL K H2 b ws := SqL.of (hid_same _ _ (sm _ _ h2))
  have l1 := dpAll_len d1
  have l2 := dpAll_len d2
  refine ⟨fun d hi => ?_, fun hi => ⟨us, ws, g1, g2, ?_⟩⟩
  · unfold zipD at hi
    rw [List.getElem?_map] at hi
    cases e : (xs.zip ys)[i]? with
    | none => rw [e] at hi; cases hi
    | some p =>
      rw [e] at hi
      cases hi
      obtain ⟨e1, e2⟩ := List.getElem?_zip_eq_some.mp e
      obtain ⟨v, f1, f2⟩ := dpAll_get d1 e1
      obtain ⟨w, f3, f4⟩ := dpAll_get d2 e2
      refine ⟨⟨us, ws, v, w, g1, g2, f1, f3⟩, fun x H3 hy => ?_⟩
      obtain ⟨t, x1, x2, rfl, nt, rfl, q1, q2⟩ := hy
      have r1 := q1 us g1
      have r2 := q2 ws g2
      rw [f1] at r1
      rw [f3] at r2
      cases r1
      cases r2
      have sn := same_new (o := .tup [v, w]) nt
      exact ⟨sn, .tup (tr.hidNew nt) (.cons (dpM (sm.trans (hid_mono sn)) _ f2) (.cons (dpM (sm.trans (hid_mono sn)) _ f4) .nil))⟩
  · unfold zipD at hi
    rw [List.length_map, List.length_zip] at hi
    rw [l1, l2]
    omega
section
variable {X : Cx}
theorem di_zip {e e2 : Expr} {elts : List Expr} {kk : Nat} {tpos p pos : Pos} {fa : AEV} (hg : Gl X "zip") (hm : X.mg "zip" = none) (ha : DA X [e, e2] fa) (hs : starEach [e, e2] X.env = (false, eval e X.env) :: starEach [e2] X.env := by rfl) (hpl : (backTo pos (starEach [e2] X.env)).any (·.1) = false := by rfl) :
    DI X (.Tuple elts kk tpos) (.Call (.Name "zip" p) [e, e2] [] pos) (zipI fa) := pi_imp (pi_zip hg hm ha hs hpl) fun σ H R ⟨T, ρ, δ, xs, δ', hs, hf, hq⟩ => by
  unfold zipI at hf
  cases ea : fa δ with
  | none => rw [ea] at hf; cases hf
  | some z =>
    obtain ⟨ps, δ1⟩ := z
    rw [ea] at hf
    simp only [Option.bind_some] at hf
    refine ⟨T, ρ, δ, ps, δ1, hs, ea, fun ρ1 vs H1 s1 x1 p1 => ?_⟩
    split at hf
    · rename_i xs1 ys1
      cases hf
      obtain ⟨v, w, rfl, q1, q2⟩ := paired2 p1
      have q1' : Dq X.K (hid T ρ1 H1) v (.list xs1) := q1
      have q2' : Dq X.K (hid T ρ1 H1) w (.list ys1) := q2
      cases q1' with
      | lst a1 a2 =>
        cases q2' with
        | lst b1 b2 => exact ⟨_, _, _, _, rfl, SqL.of (hid_same _ _ a1), SqL.of (hid_same _ _ b1), hq ρ1 H1 _ s1 x1 (serves_Z a1 a2 b1 b2)⟩
    · cases hf
end
/-! ### t[::-1] -/
section
open HT
variable {prog : Program} {w : World} {A : Around} {E : Value → Shared → Prop} {s : Shared}
theorem adjust_back (n : Nat) : Builtin.Slice.sliceAdjust none none (-1) (n : Int) = ((n : Int) - 1, -1) := by
  unfold Builtin.Slice.sliceAdjust
  have h : ((-1 : Int) < 0) := by decide
  simp only [h, if_true]
theorem places_back (n : Nat) : Builtin.Slice.slicePlaces ((n : Int) - 1) (-1) (-1) = n := by
  unfold Builtin.Slice.slicePlaces
  have h : ¬ ((-1 : Int) > 0) := by decide
  simp only [h, if_false, Int.neg_neg, Int.ediv_one]
  split <;> omega
theorem fm_congr {α β : Type} {f g : α → Option β} : ∀ {l : List α}, (∀ x ∈ l, f x = g x) → l.filterMap f = l.filterMap g
  | [], _ => rfl
  | x :: l, h => by
    rw [List.filterMap_cons, List.filterMap_cons, h x List.mem_cons_self, fm_congr fun y hy => h y (List.mem_cons_of_mem _ hy)]
theorem fm_all {β : Type} : ∀ l : List β, (List.range l.length).filterMap (fun m => l[m]?) = l
  | [] => rfl
  | x :: l => by
    rw [List.length_cons, List.range_succ_eq_map, List.filterMap_cons, List.filterMap_map]
    show x :: _ = _
    congr 1
    exact fm_all l
theorem pick_back (xs : List Value) : ((List.range xs.length).filterMap fun (m : Nat) => xs.toArray[(((xs.length : Nat) : Int) - 1 + (m : Int) * -1).toNat]?) = xs.reverse := by
  have e : ∀ m, m ∈ List.range xs.length → xs.toArray[(((xs.length : Nat) : Int) - 1 + (m : Int) * -1).toNat]? = xs.reverse[m]? := fun m hm => by
    have hm' := List.mem_range.mp hm
    have e2 : (((xs.length : Nat) : Int) - 1 + (m : Int) * -1).toNat = xs.length - 1 - m := by omega
    rw [e2, List.getElem?_reverse hm']
    simp
  rw [fm_congr e, ← List.length_reverse]
  exact fm_all xs.reverse
theorem applied_back {sl : Addr} {u : Tok} {n : Nat} {Q : Int × Int × Nat → Shared → Prop} (hs : s.heap.IsSliceOf sl .none .none (.int (-1) u)) (h : Q ((n : Int) - 1, -1, n) s) :
    wpAny (model prog w) A (Builtin.Slice.sliceApplied (.ref sl) (pure (n : Int))) Q E s := by
  obtain ⟨os, hos, hcs, hds⟩ := id hs
  unfold Builtin.Slice.sliceApplied Builtin.Slice.sliceFields
  refine wpAny_bind (wpAny_bind (wpAny_field hos hds (x := .none) rfl ?_))
  refine wpAny_bind (wpAny_field hos hds (x := .none) rfl ?_)
  refine wpAny_bind (wpAny_field hos hds (x := .int (-1) u) rfl (wpAny_pure ?_))
  refine wpAny_bind (slicePart_int ?_)
  show wpAny _ _ (if ((-1 : Int) == 0) = true then _ else _) _ _ s
  rw [if_neg (by decide)]
  refine wpAny_bind (slicePart_none ?_)
  refine wpAny_bind (slicePart_none (wpAny_bind (wpAny_pure ?_)))
  show wpAny _ _ (match Builtin.Slice.sliceAdjust none none (-1) (n : Int) with | (lo, hi) => pure (lo, (-1 : Int), Builtin.Slice.slicePlaces lo hi (-1))) _ _ s
  rw [adjust_back n]
  show wpAny _ _ (pure ((n : Int) - 1, (-1 : Int), Builtin.Slice.slicePlaces ((n : Int) - 1) (-1) (-1))) _ _ s
  rw [places_back]
  exact wpAny_pure h
theorem item_back {t sl : Addr} {xs : List Value} {u : Tok} {Q : Value → Shared → Prop} (ht : IsTup s.heap t xs.toArray) (hs : s.heap.IsSliceOf sl .none .none (.int (-1) u)) (hsz : xs.length ≤ sizeLine)
    (h : Q (.ref s.heap.objs.size) { s with heap := s.heap.push { cls := .type "tuple", data := .seq xs.reverse.toArray } }) : wpAny (model prog w) A (getItem (.ref t) (.ref sl)) Q E s := by
  have hok : sizeOk (.seq xs.reverse.toArray) := by
    show xs.reverse.toArray.size ≤ sizeLine
    rw [List.size_toArray, List.length_reverse]
    exact hsz
  obtain ⟨os, hos, hcs, hds⟩ := id hs
  have hTs : s.TypeIs (.ref sl) "slice" := ⟨os, hos, hcs⟩
  unfold getItem
  (try with_reducible refine wpAny_holding ?_)
  (first
    | refine wpAny_bind (wpAny_pure ?_)
    | skip)
  refine wpAny_bind (wpAny_sequenceKey ht.typeIs (by decide) ?_)
  refine wpAny_bind (wpAny_callSpecial?_slot (name := Str.ofString "__getitem__") ht.typeIs PyProof.Rows.slot_tuple_getitem (wpAny_call_entry PyProof.Rows.slot_tuple_getitem ht.typeIs entry_tuple_getitem ?_ (args_tuple_getitem _ _)))
  show wpAny _ _ (Builtin.Tuple.tupleItemsOf (.ref t) >>= _) _ _ s
  refine wpAny_bind (tupleItemsOf_ ht (wpAny_bind (wpAny_typeOf hTs ?_)))
  rw [if_pos (by decide)]
  have n1 : (xs.toArray.size : Int) = (xs.length : Int) := by rw [List.size_toArray]
  refine wpAny_bind ?_
  rw [show (xs.toArray.size : Nat) = xs.length from List.size_toArray]
  refine applied_back hs ?_
  show wpAny _ _ (if ((((xs.length : Nat) : Int) - 1) == 0 && (-1 : Int) == 1 && xs.length == xs.length) = true then _ else _) _ _ s
  rw [if_neg (by simp)]
  rw [pick_back]
  (first
    | exact wpAny_bind (m := Builtin.Tuple.tupleExact _)
        (wpAny_newObj_type (wpAny_pure ⟨_, rfl, wpAny_pure h⟩) hok)
    | exact wpAny_bind (m := Builtin.Tuple.tupleExact _)
        (wpAny_newObj_type (wpAny_bind (wpAny_pure (wpAny_pure ⟨_, rfl, wpAny_pure h⟩))) hok)
    | exact wpAny_bind (wpAny_bind (m := Builtin.Tuple.tupleExact _)
        (wpAny_newObj_type (wpAny_pure (wpAny_pure ⟨_, rfl, wpAny_pure h⟩)) hok))
    | exact wpAny_bind (wpAny_bind (m := Builtin.Tuple.tupleExact _)
        (wpAny_newObj_type (wpAny_pure ⟨_, rfl, wpAny_pure h⟩) hok)))
end
section
variable {X : Cx} {e : Expr}
/-- x[::-1] of a list or a tuple -/
def tRevS (K : PySem.W.Frag) (te : TE) : TE := fun σ H Q => te σ H fun x H1 => ∃ a xs, x = .ref a ∧ ((SqL K H1 a xs ∧ ∀ p, H1 p = none → Q (.ref p) (upd H1 p (.lst xs.reverse))) ∨ (SqT K H1 a xs ∧ ∀ p, H1 p = none → Q (.ref p) (upd H1 p (.tup xs.reverse))))
theorem pe_revS {te : TE} {k : Nat} {p1 p2 p3 pos : Pos} (he : PE X e te) : PE X (.Subscript e (.Slice none none (some (.UnaryOp .USub (.Constant (.int 1) k p1) p2)) p3) pos) (tRevS X.K te) := by
  constructor
  intro pins s σ H Q I h
  refine Subscript_ (thn (he.run pins s σ H _ I h) ?_)
  rintro v s1 ⟨x, H1, I1, r1, a, xs, ex, q⟩
  subst ex
  cases r1
  have hst := po_some (X := X) (pe_un (a := .Constant (.int 1) k p1) (pos := p2) un_neg pe_int)
  have N := po_none (X := X)
  refine wpAny_Slice (thn (N.run pins s1 σ H1 (fun o G => o = none ∧ G = H1) I1 ⟨rfl, rfl⟩) ?_)
  rintro vl s2 ⟨l, H2, I2, pl, el, e2⟩
  subst el e2
  refine thn (N.run pins s2 σ H2 (fun o G => o = none ∧ G = H2) I2 ⟨rfl, rfl⟩) ?_
  rintro vu s3 ⟨u, H3, I3, pu, eu, e3⟩
  subst eu e3
  refine thn (hst.run pins s3 σ H3 (fun o G => o = some (-1) ∧ G = H3) I3 ⟨1, rfl, -1, rfl, rfl, rfl⟩) ?_
  rintro vs s4 ⟨o, H4, I4, ps, eo, e4⟩
  subst eo e4
  generalize hs5 : ({ s4 with heap := s4.heap.push { cls := .type "slice", data := .fields #[vl, vu, vs] } } : Shared) = s5
  have I5 : Inv X pins σ H4 s5 := by
    rw [← hs5]
    exact I4.kept (t' := s4.toks) fun b ob q => Heap.get?_push_of_some _ q
  have hsl : s5.heap.IsSliceOf s4.heap.objs.size vl vu vs := by
    rw [← hs5]
    exact Heap.IsSliceOf.new _ vl vu vs
  show wpAny (model X.prog X.w) X.A (subscriptTail e (.Slice none none (some (.UnaryOp .USub (.Constant (.int 1) k p1) p2)) p3) (.ref a) (.ref s4.heap.objs.size)) (EP X pins σ Q) X.xe s5
  rcases q with ⟨hx, q⟩ | ⟨hx, q⟩
  · obtain ⟨its, r, ht, hz⟩ := I5.list hx
    have hlen := r.length
    refine tail_any (ops := [.ref a, .ref s4.heap.objs.size]) ht.isList.typeIs (PySem.slot_list_getitem.lookup) ?_ (by with_unfolding_all rfl)
    refine wpAny_getItem_list_slice ht.isList hsl pl pu ps (by decide) ?_ (by rw [List.size_toArray]; omega)
    rw [PySem.W.krv_pick]
    refine ⟨.ref _, _, I5.laid (t' := s5.toks) (o := .lst xs.reverse) (fun b ob q => Heap.get?_push_of_some _ q) (Nat.le_refl _) ?_, rfl, q _ (I5.hok.fresh (Nat.le_refl _))⟩
    refine ⟨?_, _, 0, r.reverse, Heap.get?_push_size _ rfl⟩
    rw [List.length_reverse]
    exact hz
  · obtain ⟨its, r, ht, hz⟩ := I5.tuple hx
    have hlen := r.length
    cases pl
    cases pu
    cases ps with
    | int i t =>
      refine tail_any (ops := [.ref a, .ref s4.heap.objs.size]) ht.typeIs (PyProof.Rows.slot_tuple_getitem.lookup) ?_ (by with_unfolding_all rfl)
      refine item_back ht hsl (by omega) ?_
      refine ⟨.ref _, _, I5.laid (t' := s5.toks) (o := .tup xs.reverse) (fun b ob q => Heap.get?_push_of_some _ q) (Nat.le_refl _) ?_, rfl, q _ (I5.hok.fresh (Nat.le_refl _))⟩
      refine ⟨?_, _, r.reverse, IsTup.new _ _⟩
      rw [List.length_reverse]
      exact hz
def revE (f : PEV) : EV := fun δ => (f δ).bind fun x => (res x.2 x.1).bind fun s => match asL s with
  | some xs => some (.o (.l xs.reverse), x.2)
  | none => (asT s).map fun xs => (.d (.tuple xs.reverse), x.2)
theorem de_rev {f : PEV} {k : Nat} {p1 p2 p3 pos : Pos} (he : DP X e f) : DE X (.Subscript e (.Slice none none (some (.UnaryOp .USub (.Constant (.int 1) k p1) p2)) p3) pos) (revE f) := pe_imp (pe_revS he) fun σ H Q ⟨T, ρ, δ, s, δ', hs, hf, hq⟩ => by
  unfold revE at hf
  cases e1 : f δ with
  | none => rw [e1] at hf; cases hf
  | some x =>
    rw [e1] at hf
    simp only [Option.bind_some] at hf
    cases e2 : res x.2 x.1 with
    | none => rw [e2] at hf; cases hf
    | some u =>
      rw [e2] at hf
      simp only [Option.bind_some] at hf
      refine ⟨T, ρ, δ, x.1, x.2, hs, by rw [e1], fun ρ1 v H1 s1 x1 p1 => ?_⟩
      have ha := pat_at s1 .refl p1 e2
      split at hf
      · rename_i xs el
        cases hf
        obtain ⟨a, vs, rfl, h1, h2⟩ := at_L ha el
        exact ⟨a, vs, rfl, .inl ⟨SqL.of h1, fun n hn => (post_o s1 x1 hq) n _ hn ⟨_, rfl, dpAll_rev h2⟩⟩⟩
      · cases et : asT u with
        | none => rw [et] at hf; cases hf
        | some xs =>
          rw [et] at hf
          cases hf
          obtain ⟨a, vs, rfl, h1, h2⟩ := at_T ha et
          exact ⟨a, vs, rfl, .inr ⟨SqT.of (hid_same _ _ h1), fun n hn => postO_tup s1.trk (post_o s1 x1 hq) (dpAll_rev h2) hn⟩⟩
end
end DL

namespace DL
open PySem PySem.Spec PyProof.Rows L2
variable [TB]

/-- a def of the program that keeps its meaning F -/
def Def (Pr : Program) (w : World) (K : PySem.W.Frag) (mg : Str → Option Value) (base : Heap) (k : Nat) (name : Str) (ps : List Str) (F : FN) : Prop :=
  ∃ a fd, mg name = some (.ref a) ∧ PySem.W.keepIn K (.ref a) = true ∧ Binds K fd ps [] ∧ FnG Pr w K mg base k a fd ps (spF K ps.length F)
theorem def_mk {Pr : Program} {w : World} {K : PySem.W.Frag} {mg : Str → Option Value} {base : Heap} {x : Str} {st : Stmt} {f : Addr} {fd : FuncData} {N ps : List Str} {k : Nat} {P : List Nat} {body : SEV} (F : Fun K x x st f fd) (gm : mg x = some (.ref f)) (b : Binds K fd ps []) (Sc : FnScope N ps (defScope st))
    (hbody : ∀ (cdv : Value) (A : Around) (outer : List Env) (s : Shared) (H : Hp) (E : XK), A.guards = some [] → Room k (A.deeper (envOfC x (defScope st) s.heap.objs.size f cdv)) → DSs (cxOf CX0 Pr w K mg base N x (defScope st) f cdv A outer s H E).nox P (defBody st) body) :
    Def Pr w K mg base (k + 1) x ps (runF P N.length body) := ⟨f, fd, gm, F.kp, b, fn_ok F Sc hbody⟩
section
variable {X : Cx} {pos p : Pos} {e : Expr} {es : List Expr} {x : Str}
theorem de_own {k j m : Nat} {ps : List Str} {F : FN} {fa : AEV} (D : Def X.prog X.w X.K X.mg X.base k x ps F) (hm : ps.length = m) (hG : X.A.guards = some []) (hr : Room j X.A) (hk : k ≤ j) (hg : Gl X x) (ha : DA X (e :: es) fa) (hdb : (x == ("__debug__" : Str)) = false := by decide) (he : starEach (e :: es) X.env = (false, eval e X.env) :: starEach es X.env := by rfl) (hpl : (backTo pos (starEach es X.env)).any (·.1) = false := by rfl) :
    DE X (.Call (.Name x p) (e :: es) [] pos) (callE F m fa) := by
  subst hm
  obtain ⟨a, fd, h1, h2, h3, h4⟩ := D
  exact de_call h4 hG (hr.mono hk) hg h1 h2 h3 ha hdb he hpl
variable {fa : AEV}
theorem de_len (hm : X.mg "len" = none) (hg : Gl X "len") (ha : DA X (e :: es) fa) (he : starEach (e :: es) X.env = (false, eval e X.env) :: starEach es X.env := by rfl) (hpl : (backTo pos (starEach es X.env)).any (·.1) = false := by rfl) : DE X (.Call (.Name "len" p) (e :: es) [] pos) (callB fLen fa) :=
  de_callB call_len_seq cd_len hg hm PySem.boot_len ha (by decide) (by decide) he hpl
theorem de_abs (hm : X.mg "abs" = none) (hg : Gl X "abs") (ha : DA X (e :: es) fa) (he : starEach (e :: es) X.env = (false, eval e X.env) :: starEach es X.env := by rfl) (hpl : (backTo pos (starEach es X.env)).any (·.1) = false := by rfl) : DE X (.Call (.Name "abs" p) (e :: es) [] pos) (callB fAbs fa) :=
  de_callB call_abs cd_abs hg hm (by decide +kernel) ha (by decide) (by decide) he hpl
theorem de_int1 (hm : X.mg "int" = none) (hg : Gl X "int") (ha : DA X (e :: es) fa) (he : starEach (e :: es) X.env = (false, eval e X.env) :: starEach es X.env := by rfl) (hpl : (backTo pos (starEach es X.env)).any (·.1) = false := by rfl) : DE X (.Call (.Name "int" p) (e :: es) [] pos) (callB fInt fa) :=
  de_callTy call_int1 cd_int hg hm (by decide +kernel) ha (by decide) (by decide) he hpl
theorem de_max (hc : X.calm = true) (hm : X.mg "max" = none) (hg : Gl X "max") (ha : DA X (e :: es) fa) (he : starEach (e :: es) X.env = (false, eval e X.env) :: starEach es X.env := by rfl) (hpl : (backTo pos (starEach es X.env)).any (·.1) = false := by rfl) : DE X (.Call (.Name "max" p) (e :: es) [] pos) (callB fMax fa) :=
  de_callB (call_max2 hc) cd_max hg hm (by decide +kernel) ha (by decide) (by decide) he hpl
theorem de_min (hc : X.calm = true) (hm : X.mg "min" = none) (hg : Gl X "min") (ha : DA X (e :: es) fa) (he : starEach (e :: es) X.env = (false, eval e X.env) :: starEach es X.env := by rfl) (hpl : (backTo pos (starEach es X.env)).any (·.1) = false := by rfl) : DE X (.Call (.Name "min" p) (e :: es) [] pos) (callB fMin fa) :=
  de_callB (call_min2 hc) cd_min hg hm (by decide +kernel) ha (by decide) (by decide) he hpl
theorem de_all (hc : X.calm = true) (hm : X.mg "all" = none) (hg : Gl X "all") (ha : DA X (e :: es) fa) (he : starEach (e :: es) X.env = (false, eval e X.env) :: starEach es X.env := by rfl) (hpl : (backTo pos (starEach es X.env)).any (·.1) = false := by rfl) : DE X (.Call (.Name "all" p) (e :: es) [] pos) (callB fAll fa) :=
  de_callB (cr_all hc) cd_all hg hm (by decide +kernel) ha (by decide) (by decide) he hpl
theorem de_any (hc : X.calm = true) (hm : X.mg "any" = none) (hg : Gl X "any") (ha : DA X (e :: es) fa) (he : starEach (e :: es) X.env = (false, eval e X.env) :: starEach es X.env := by rfl) (hpl : (backTo pos (starEach es X.env)).any (·.1) = false := by rfl) : DE X (.Call (.Name "any" p) (e :: es) [] pos) (callB fAny fa) :=
  de_callB (cr_any hc) cd_any hg hm (by decide +kernel) ha (by decide) (by decide) he hpl
theorem de_tuple (hm : X.mg "tuple" = none) (hg : Gl X "tuple") (ha : DA X (e :: es) fa) (he : starEach (e :: es) X.env = (false, eval e X.env) :: starEach es X.env := by rfl) (hpl : (backTo pos (starEach es X.env)).any (·.1) = false := by rfl) : DE X (.Call (.Name "tuple" p) (e :: es) [] pos) (callB fTuple fa) :=
  de_callTy call_tuple_of cd_tuple hg hm (by decide +kernel) ha (by decide) (by decide) he hpl
theorem de_list (hm : X.mg "list" = none) (hg : Gl X "list") (ha : DA X (e :: es) fa) (he : starEach (e :: es) X.env = (false, eval e X.env) :: starEach es X.env := by rfl) (hpl : (backTo pos (starEach es X.env)).any (·.1) = false := by rfl) : DE X (.Call (.Name "list" p) (e :: es) [] pos) (callB fList fa) :=
  de_callTy call_list_of cd_list hg hm (by decide +kernel) ha (by decide) (by decide) he hpl
theorem de_sorted (hm : X.mg "sorted" = none) (hg : Gl X "sorted") (ha : DA X (e :: es) fa) (he : starEach (e :: es) X.env = (false, eval e X.env) :: starEach es X.env := by rfl) (hpl : (backTo pos (starEach es X.env)).any (·.1) = false := by rfl) : DE X (.Call (.Name "sorted" p) (e :: es) [] pos) (callB fSorted fa) :=
  de_callB cr_sortedPO cd_sorted hg hm (by decide +kernel) ha (by decide) (by decide) he hpl
theorem de_repr {k : Nat} (hG : X.A.guards = some []) (hr : Room k X.A) (hm : X.mg "repr" = none) (hg : Gl X "repr") (ha : DA X (e :: es) fa) (he : starEach (e :: es) X.env = (false, eval e X.env) :: starEach es X.env := by rfl) (hpl : (backTo pos (starEach es X.env)).any (·.1) = false := by rfl) : DE X (.Call (.Name "repr" p) (e :: es) [] pos) (callB fRepr fa) :=
  de_callB (cr_repr hG hr.units) cd_repr hg hm (by decide +kernel) ha (by decide) (by decide) he hpl
variable {a b : Expr} {fp fq : PEV} {k : Nat}
theorem de_lt (ha : DP X a fp) (hb : DP X b fq) : DE X (.Compare a [.Lt] [b] pos) (bin (cmpI pLt) fp fq) := de_cmp or_lt od_cmp ha hb (nomark _)
theorem de_le (ha : DP X a fp) (hb : DP X b fq) : DE X (.Compare a [.LtE] [b] pos) (bin (cmpI pLe) fp fq) := de_cmp or_le od_cmp ha hb (nomark _)
theorem de_gt (ha : DP X a fp) (hb : DP X b fq) : DE X (.Compare a [.Gt] [b] pos) (bin (cmpI pGt) fp fq) := de_cmp or_gt od_cmp ha hb (nomark _)
theorem de_ge (ha : DP X a fp) (hb : DP X b fq) : DE X (.Compare a [.GtE] [b] pos) (bin (cmpI pGe) fp fq) := de_cmp or_ge od_cmp ha hb (nomark _)
theorem de_eq (hr : Room k X.A) (ha : DP X a fp) (hb : DP X b fq) : DE X (.Compare a [.Eq] [b] pos) (bin opEq fp fq) := de_cmp (opr_or op_eq (op_eqD hr.units)) od_eq ha hb (nomark _)
theorem de_ne (hr : Room k X.A) (ha : DP X a fp) (hb : DP X b fq) : DE X (.Compare a [.NotEq] [b] pos) (bin opNe fp fq) := de_cmp (opr_or op_ne (op_neD hr.units)) od_ne ha hb (nomark _)
theorem de_in (hr : Room k X.A) (ha : DP X a fp) (hb : DP X b fq) (hm : behindInMarks .In b = false := by rfl) : DE X (.Compare a [.In] [b] pos) (bin (opIn false) fp fq) := de_cmp (or_in (by have := hr.un; omega)) od_in ha hb hm
theorem de_notIn (hr : Room k X.A) (ha : DP X a fp) (hb : DP X b fq) (hm : behindInMarks .NotIn b = false := by rfl) : DE X (.Compare a [.NotIn] [b] pos) (bin (opIn true) fp fq) := de_cmp (or_notIn (by have := hr.un; omega)) od_in ha hb hm
theorem dt_lt (ha : DP X a fp) (hb : DP X b fq) : DT X (.Compare a [.Lt] [b] pos) (bl (bin (cmpI pLt) fp fq)) := dt_cmp or_lt od_cmp ha hb (nomark _)
theorem dt_le (ha : DP X a fp) (hb : DP X b fq) : DT X (.Compare a [.LtE] [b] pos) (bl (bin (cmpI pLe) fp fq)) := dt_cmp or_le od_cmp ha hb (nomark _)
theorem dt_gt (ha : DP X a fp) (hb : DP X b fq) : DT X (.Compare a [.Gt] [b] pos) (bl (bin (cmpI pGt) fp fq)) := dt_cmp or_gt od_cmp ha hb (nomark _)
theorem dt_ge (ha : DP X a fp) (hb : DP X b fq) : DT X (.Compare a [.GtE] [b] pos) (bl (bin (cmpI pGe) fp fq)) := dt_cmp or_ge od_cmp ha hb (nomark _)
theorem dt_eq (hr : Room k X.A) (ha : DP X a fp) (hb : DP X b fq) : DT X (.Compare a [.Eq] [b] pos) (bl (bin opEq fp fq)) := dt_cmp (opr_or op_eq (op_eqD hr.units)) od_eq ha hb (nomark _)
theorem dt_ne (hr : Room k X.A) (ha : DP X a fp) (hb : DP X b fq) : DT X (.Compare a [.NotEq] [b] pos) (bl (bin opNe fp fq)) := dt_cmp (opr_or op_ne (op_neD hr.units)) od_ne ha hb (nomark _)
theorem dt_in (hr : Room k X.A) (ha : DP X a fp) (hb : DP X b fq) (hm : behindInMarks .In b = false := by rfl) : DT X (.Compare a [.In] [b] pos) (bl (bin (opIn false) fp fq)) := dt_cmp (or_in (by have := hr.un; omega)) od_in ha hb hm
theorem dt_notIn (hr : Room k X.A) (ha : DP X a fp) (hb : DP X b fq) (hm : behindInMarks .NotIn b = false := by rfl) : DT X (.Compare a [.NotIn] [b] pos) (bl (bin (opIn true) fp fq)) := dt_cmp (or_notIn (by have := hr.un; omega)) od_in ha hb hm
theorem de_append {x : Str} {opos apos cpos : Pos} {i : Nat} (q : PE X (.Name x opos) (tVar i)) (ha : DA X (e :: es) fa)
    (hbase : attributeBase (.Name x opos) "append" X.env (eval (.Name x opos) X.env) = eval (.Name x opos) X.env := by rfl)
    (hfew : ((backTo cpos (starEach (e :: es) X.env)).all (fun x => !x.1) && (backToKw cpos (keywordEach [] X.env)).all (fun x => x.1.isSome)
      && decide ((e :: es).length + ([] : List Keyword).length + (if ([] : List Keyword).isEmpty then 0 else 1) < 30)) = true := by rfl)
    (hline : (apos.endLine == cpos.line) = true := by rfl) (hs : starEach (e :: es) X.env = (false, eval e X.env) :: starEach es X.env := by rfl) (hplain : (backTo cpos (starEach es X.env)).any (·.1) = false := by rfl) :
    DE X (.Call (.Attribute (.Name x opos) "append" apos) (e :: es) [] cpos) (mutL i gApp fa) := de_mut PySem.F.plainAttrs_list PySem.F.slot_list_append PySem.F.type_list_append mt_append md_append q ha hbase hfew hline hs hplain
theorem de_extend {x : Str} {opos apos cpos : Pos} {i : Nat} (q : PE X (.Name x opos) (tVar i)) (ha : DA X (e :: es) fa)
    (hbase : attributeBase (.Name x opos) "extend" X.env (eval (.Name x opos) X.env) = eval (.Name x opos) X.env := by rfl)
    (hfew : ((backTo cpos (starEach (e :: es) X.env)).all (fun x => !x.1) && (backToKw cpos (keywordEach [] X.env)).all (fun x => x.1.isSome)
      && decide ((e :: es).length + ([] : List Keyword).length + (if ([] : List Keyword).isEmpty then 0 else 1) < 30)) = true := by rfl)
    (hline : (apos.endLine == cpos.line) = true := by rfl) (hs : starEach (e :: es) X.env = (false, eval e X.env) :: starEach es X.env := by rfl) (hplain : (backTo cpos (starEach es X.env)).any (·.1) = false := by rfl) :
    DE X (.Call (.Attribute (.Name x opos) "extend" apos) (e :: es) [] cpos) (mutL i gExt fa) := de_mut PySem.F.plainAttrs_list PySem.F.slot_list_extend PySem.F.type_list_extend mt_extend md_extend q ha hbase hfew hline hs hplain
end
end DL

namespace DL
open PySem PySem.Spec PyProof.Rows L2
variable [TB]

/-! ### comprehensions and loops, seen from the data -/
theorem set_none_self {δ : Ds} {i : Nat} (h : δ[i]? = some none) : δ.set i none = δ := by
  apply List.ext_getElem?
  intro j
  by_cases hj : i = j
  · subst hj
    rw [List.getElem?_set_self (List.getElem?_eq_some_iff.mp h).1, h]
  · rw [List.getElem?_set_ne hj]
theorem slot_none {δ : Ds} {i : Nat} (h : δ[i]? = some none) : slot δ i = none := by
  unfold slot
  rw [h]
  rfl
theorem lcD_pure {i : Nat} {tt : TEV} {te : EV} {δ : Ds} {p : PyData → Bool} {h : PyData → PyData} (hi : δ[i]? = some none) : ∀ {xs : List PyData}, (∀ x ∈ xs, tt (δ.set i (some (.d x))) = some (p x, δ.set i (some (.d x)))) → (∀ x ∈ xs, p x = true → te (δ.set i (some (.d x))) = some (.d (h x), δ.set i (some (.d x)))) →
    lcD [i] (nameG i) tt te xs δ = some ((xs.filter p).map h, δ)
  | [], _, _ => rfl
  | x :: xs, h1, h2 => by
    have hil : i < δ.length := (List.getElem?_eq_some_iff.mp hi).1
    have w : wipeD (δ.set i (some (.d x))) [i] = δ := by
      show (δ.set i (some (.d x))).set i none = δ
      rw [List.set_set, set_none_self hi]
    have no : noOwn [i] (δ.set i (some (.d x))) = true := by
      show (notOwn (slot (δ.set i (some (S.d x))) i) && true) = true
      unfold slot
      rw [List.getElem?_set_self hil]
      rfl
    have ih := lcD_pure (tt := tt) (te := te) (p := p) (h := h) hi (xs := xs) (fun y hy => h1 y (List.mem_cons_of_mem _ hy)) (fun y hy => h2 y (List.mem_cons_of_mem _ hy))
    unfold lcD
    show ((tt (δ.set i (some (.d x)))).bind _) = _
    rw [h1 x List.mem_cons_self]
    simp only [Option.bind_some]
    cases hp : p x with
    | true =>
      rw [if_pos rfl, h2 x List.mem_cons_self hp]
      simp only [Option.bind_some, frz]
      rw [if_pos no, w, ih, List.filter_cons_of_pos hp]
      rfl
    | false =>
      rw [if_neg Bool.false_ne_true, if_pos no, w, ih, List.filter_cons_of_neg (by rw [hp]; exact Bool.false_ne_true)]
theorem lcE_pure {i : Nat} {fi : IEV} {tt : TEV} {te : EV} {δ : Ds} {xs : List PyData} (p : PyData → Bool) (h : PyData → PyData) (hi : δ[i]? = some none) (hf : fi δ = some (xs, δ)) (h1 : ∀ x ∈ xs, tt (δ.set i (some (.d x))) = some (p x, δ.set i (some (.d x)))) (h2 : ∀ x ∈ xs, p x = true → te (δ.set i (some (.d x))) = some (.d (h x), δ.set i (some (.d x)))) (hl : xs.length ≤ sizeLine) :
    lcE [i] fi (nameG i) tt te δ = some (.o (.l ((xs.filter p).map h)), δ) := by
  unfold lcE
  rw [hf]
  simp only [Option.bind_some]
  have no : noOwn [i] δ = true := by
    show (notOwn (slot δ i) && true) = true
    rw [slot_none hi]
    rfl
  have w : wipeD δ [i] = δ := set_none_self hi
  rw [if_pos no, w, lcD_pure hi h1 h2]
  simp only [Option.bind_some]
  have hl2 : ((xs.filter p).map h).length ≤ sizeLine := by
    rw [List.length_map]
    exact Nat.le_trans (List.length_filter_le _ _) hl
  rw [if_pos hl2]
  show some (_, δ.set i (slot δ i)) = _
  rw [slot_none hi, set_none_self hi]
theorem lcE_map {i : Nat} {fi : IEV} {te : EV} {δ : Ds} {xs : List PyData} (h : PyData → PyData) (hi : δ[i]? = some none) (hf : fi δ = some (xs, δ)) (h2 : ∀ x ∈ xs, te (δ.set i (some (.d x))) = some (.d (h x), δ.set i (some (.d x)))) (hl : xs.length ≤ sizeLine) :
    lcE [i] fi (nameG i) yesT te δ = some (.o (.l (xs.map h)), δ) := by
  have := lcE_pure (tt := yesT) (fun _ => true) h hi hf (fun _ _ => rfl) (fun x hx _ => h2 x hx) hl
  rw [this, List.filter_eq_self.mpr (fun _ _ => rfl)]
/-- a comprehension whose turns change the state: an invariant over what is made and the state (own slot free) -/
theorem lcD_inv {i N : Nat} {te : EV} {I : Nat → List PyData → Ds → Prop} : ∀ {xs : List PyData} {δ : Ds} (n : Nat) (acc : List PyData), n + xs.length ≤ N → I n acc δ →
    (∀ (k : Nat) (x : PyData) (acc : List PyData) (δ : Ds), k < N → x ∈ xs → I k acc δ → δ[i]? = some none ∧ ∃ d δ2, te (δ.set i (some (.d x))) = some (.d d, δ2.set i (some (.d x))) ∧ δ2[i]? = some none ∧ I (k + 1) (acc ++ [d]) δ2) →
    ∃ rs δ', lcD [i] (nameG i) yesT te xs δ = some (rs, δ') ∧ I (n + xs.length) (acc ++ rs) δ' ∧ rs.length = xs.length
  | [], δ, n, acc, _, h, _ => ⟨[], δ, rfl, by rw [List.append_nil]; exact h, rfl⟩
  | x :: xs, δ, n, acc, hN, h, st => by
    have hN2 : n + (xs.length + 1) ≤ N := hN
    obtain ⟨hi, d, δ2, e, hi2, h2⟩ := st n x acc δ (by omega) List.mem_cons_self h
    have hil : i < δ2.length := (List.getElem?_eq_some_iff.mp hi2).1
    have w : wipeD (δ2.set i (some (.d x))) [i] = δ2 := by
      show (δ2.set i (some (.d x))).set i none = δ2
      rw [List.set_set, set_none_self hi2]
    have no : noOwn [i] (δ2.set i (some (.d x))) = true := by
      show (notOwn (slot (δ2.set i (some (S.d x))) i) && true) = true
      unfold slot
      rw [List.getElem?_set_self hil]
      rfl
    obtain ⟨rs, δ', e2, h3, hl⟩ := lcD_inv (N := N) (te := te) (I := I) (xs := xs) (n + 1) (acc ++ [d]) (by omega) h2 (fun k y acc δ hk hy => st k y acc δ hk (List.mem_cons_of_mem _ hy))
    refine ⟨d :: rs, δ', ?_, ?_, by rw [List.length_cons, List.length_cons, hl]⟩
    · unfold lcD
      show ((te (δ.set i (some (.d x)))).bind _) = _
      rw [e]
      simp only [Option.bind_some, frz]
      rw [if_pos no, w, e2]
      rfl
    · rw [List.append_assoc] at h3
      rw [List.length_cons, show n + (xs.length + 1) = n + 1 + xs.length by omega]
      exact h3
theorem forD_inv {tg : GEV} {body : SEV} {I : Nat → Ds → Prop} : ∀ {xs : List PyData} {δ : Ds} (n : Nat), I n δ →
    (∀ (k : Nat) (x : PyData) (δ : Ds), xs[k]? = some x → I (n + k) δ → ∃ δ1 δ2, tg x δ = some δ1 ∧ body δ1 = some (.nx δ2) ∧ I (n + k + 1) δ2) → ∃ δ', forD tg body xs δ = some (.nx δ') ∧ I (n + xs.length) δ'
  | [], δ, n, h, _ => ⟨δ, rfl, h⟩
  | x :: xs, δ, n, h, st => by
    obtain ⟨δ1, δ2, e1, e2, h2⟩ := st 0 x δ rfl h
    obtain ⟨δ', e3, h3⟩ := forD_inv (tg := tg) (body := body) (I := I) (xs := xs) (δ := δ2) (n + 1) h2 (fun k y δ hy hI => by
      have := st (k + 1) y δ (by simpa using hy) (by rw [show n + (k + 1) = n + 1 + k by omega]; exact hI)
      rw [show n + (k + 1) + 1 = n + 1 + k + 1 by omega] at this
      exact this)
    refine ⟨δ', ?_, ?_⟩
    · unfold forD
      rw [e1]
      simp only [Option.bind_some]
      rw [e2]
      exact e3
    · rw [List.length_cons, show n + (xs.length + 1) = n + 1 + xs.length by omega]
      exact h3
/-! numbers of known size -/
theorem log_lt {x : Int} {a b : Nat} (h : x.natAbs < 2 ^ a) (h0 : 0 < a) (hab : a ≤ b) : x.natAbs.log2 < b := Nat.lt_of_lt_of_le (PySem.Flt.log2_lt_of h0 h) hab
theorem bits_le {x : Int} {a : Nat} (h : x.natAbs < 2 ^ a) (h0 : 0 < a) : Builtin.Int.intBits x ≤ a := by
  have := PySem.Flt.log2_lt_of h0 h
  unfold Builtin.Int.intBits
  split <;> omega
theorem iMul_ok {i j : Int} {a b : Nat} (ha : i.natAbs < 2 ^ a) (hb : j.natAbs < 2 ^ b) (h0 : 0 < a) (h1 : 0 < b) (h : a + b ≤ 100000) : iMul i j = some (i * j) := by
  unfold iMul
  have x := log_lt ha h0 (Nat.le_refl _)
  have y := log_lt hb h1 (Nat.le_refl _)
  rw [if_pos (by omega)]
theorem iDiv_ok {i j : Int} {b : Nat} (h : 0 < j) (hb : j.natAbs < 2 ^ b) (h1 : 0 < b) (h9 : b ≤ 9000) : iDiv i j = some (i / j) := by
  unfold iDiv
  rw [if_pos ⟨h, log_lt hb h1 h9⟩]
theorem iMod_ok {i j : Int} (h : 0 < j) : iMod i j = some (i % j) := by
  unfold iMod
  rw [if_pos h]
theorem iPow_ok {i j : Int} {a : Nat} (ha : i.natAbs < 2 ^ a) (h0 : 0 < a) (hj : 0 ≤ j) (hs : (a : Int) * j ≤ 2 ^ 27) : iPow i j = some (i ^ j.toNat) := by
  unfold iPow
  refine if_pos ⟨hj, ?_⟩
  have h1 : ((Builtin.Int.intBits i : Nat) : Int) ≤ (a : Int) := by
    have := bits_le ha h0
    omega
  have h2 := Int.mul_le_mul_of_nonneg_right h1 hj
  omega
theorem lt_pow_of {x : Int} {n : Nat} (h0 : 0 ≤ x) (h : x < (2 : Int) ^ n) : x.natAbs < 2 ^ n := by
  have e : ((2 ^ n : Nat) : Int) = (2 : Int) ^ n := by simp
  omega
/-! calls, seen from the data -/
theorem resA_v (δ : Ds) : ∀ ss : List S, resA δ (ss.map PV.v) = some ss
  | [] => rfl
  | s :: ss => by
    show ((some s).bind fun s => (resA δ (ss.map PV.v)).map (s :: ·)) = _
    rw [resA_v δ ss]
    rfl
theorem ix_v : ∀ ss : List S, (ss.map PV.v).filterMap PV.ix = []
  | [] => rfl
  | s :: ss => ix_v ss
theorem wb_v (δ : Ds) : ∀ (ss : List S) (cs : List (Option C)), ss.length ≤ cs.length → wb δ (ss.map PV.v) cs = some δ
  | [], cs, _ => by cases cs <;> rfl
  | s :: ss, [], h => by simp at h
  | s :: ss, c :: cs, h => by
    have := wb_v δ ss cs (by simpa using h)
    cases c <;> exact this
theorem callE_data {F : FN} {m : Nat} {fa : AEV} {δ δ' : Ds} {r : S} {cs : List (Option C)} (ss : List S) (ha : fa δ = some (ss.map PV.v, δ')) (hl : ss.length = m) (hF : F ss = some (r, cs)) (hc : ss.length ≤ cs.length) : callE F m fa δ = some (r, δ') := by
  unfold callE
  rw [ha]
  simp only [Option.bind_some]
  rw [resA_v]
  simp only [Option.bind_some]
  rw [if_pos ⟨by rw [ix_v]; exact List.nodup_nil, hl⟩, hF]
  simp only [Option.bind_some]
  rw [wb_v δ' ss cs hc]
  rfl
theorem callE_own {F : FN} {m i : Nat} {fa : AEV} {δ δ' : Ds} {r : S} {c c' : C} {cs : List (Option C)} (ss : List S) (ha : fa δ = some (.own i :: ss.map PV.v, δ')) (hi : slot δ' i = some (.o c)) (hl : ss.length + 1 = m) (hF : F (.o c :: ss) = some (r, some c' :: cs)) (hc : ss.length ≤ cs.length) : callE F m fa δ = some (r, δ'.set i (some (.o c'))) := by
  unfold callE
  rw [ha]
  simp only [Option.bind_some]
  have hr : resA δ' (.own i :: ss.map PV.v) = some (.o c :: ss) := by
    show ((slot δ' i).bind fun s => (resA δ' (ss.map PV.v)).map (s :: ·)) = _
    rw [hi, resA_v]
    rfl
  rw [hr]
  simp only [Option.bind_some]
  have hn : ((PV.own i :: ss.map PV.v).filterMap PV.ix).Nodup := by
    show (i :: (ss.map PV.v).filterMap PV.ix).Nodup
    rw [ix_v]
    exact List.nodup_cons.mpr ⟨List.not_mem_nil, List.nodup_nil⟩
  rw [if_pos ⟨hn, by rw [List.length_cons]; exact hl⟩, hF]
  simp only [Option.bind_some]
  have hw : wb δ' (.own i :: ss.map PV.v) (some c' :: cs) = some (δ'.set i (some (.o c'))) := by
    unfold wb
    rw [hi]
    exact wb_v _ ss cs hc
  rw [hw]
  rfl
theorem bools_map {α : Type} (f : α → Bool) : ∀ xs : List α, bools (xs.map fun x => .bool (f x)) = some (xs.map f)
  | [] => rfl
  | x :: xs => by
    show (bools (xs.map fun x => .bool (f x))).map (f x :: ·) = _
    rw [bools_map f xs]
    rfl
/-! one step at a time -/
section
variable {δ δ1 δ2 δ3 : Ds}
theorem retS_of {f : EV} {s : S} (h : f δ = some (s, δ1)) : retS f δ = some (.rt s δ1) := by unfold retS; rw [h]; rfl
theorem setS_of {i : Nat} {f : EV} {s : S} (h : f δ = some (s, δ1)) : setS i f δ = some (.nx (δ1.set i (some s))) := by unfold setS; rw [h]; rfl
theorem exprS_of {f : EV} {s : S} (h : f δ = some (s, δ1)) : exprS f δ = some (.nx δ1) := by unfold exprS; rw [h]; rfl
theorem seqS_of {f g : SEV} {o : Out} (h : f δ = some (.nx δ1)) (k : g δ1 = some o) : seqS f g δ = some o := by unfold seqS; rw [h]; exact k
theorem seqS_rt {f g : SEV} {s : S} (h : f δ = some (.rt s δ1)) : seqS f g δ = some (.rt s δ1) := by unfold seqS; rw [h]; rfl
theorem ifS_t {t : TEV} {f g : SEV} {o : Out} (h : t δ = some (true, δ1)) (k : f δ1 = some o) : ifS t f g δ = some o := by unfold ifS; rw [h]; exact k
theorem ifS_f {t : TEV} {f g : SEV} {o : Out} (h : t δ = some (false, δ1)) (k : g δ1 = some o) : ifS t f g δ = some o := by unfold ifS; rw [h]; exact k
theorem ifE_t {t : TEV} {f g : EV} {o : S × Ds} (h : t δ = some (true, δ1)) (k : f δ1 = some o) : ifE t f g δ = some o := by unfold ifE; rw [h]; exact k
theorem ifE_f {t : TEV} {f g : EV} {o : S × Ds} (h : t δ = some (false, δ1)) (k : g δ1 = some o) : ifE t f g δ = some o := by unfold ifE; rw [h]; exact k
theorem bl_of {f : EV} {b : Bool} (h : f δ = some (.d (.bool b), δ1)) : bl f δ = some (b, δ1) := by unfold bl; rw [h]; rfl
theorem notT_of {f : TEV} {b : Bool} (h : f δ = some (b, δ1)) : notT f δ = some (!b, δ1) := by unfold notT; rw [h]; rfl
theorem andT_t {f g : TEV} {o : Bool × Ds} (h : f δ = some (true, δ1)) (k : g δ1 = some o) : andT f g δ = some o := by unfold andT; rw [h]; exact k
theorem orT_f {f g : TEV} {o : Bool × Ds} (h : f δ = some (false, δ1)) (k : g δ1 = some o) : orT f g δ = some o := by unfold orT; rw [h]; exact k
theorem andV_t {f g : EV} {o : S × Ds} (h : f δ = some (.d (.bool true), δ1)) (k : g δ1 = some o) : andV f g δ = some o := by unfold andV; rw [h]; exact k
theorem notV_of {f : EV} {b : Bool} (h : f δ = some (.d (.bool b), δ1)) : notV f δ = some (.d (.bool (!b)), δ1) := by unfold notV; rw [h]; rfl
theorem frzP_of {f : EV} {s : S} (h : f δ = some (s, δ1)) : frzP f δ = some (.v (frz s), δ1) := by unfold frzP; rw [h]; rfl
theorem frzP_d {f : EV} {x : PyData} (h : f δ = some (.d x, δ1)) : frzP f δ = some (.v (.d x), δ1) := by unfold frzP; rw [h]; rfl
theorem frzP_l {f : EV} {xs : List PyData} (h : f δ = some (.o (.l xs), δ1)) : frzP f δ = some (.v (.d (.list xs)), δ1) := by unfold frzP; rw [h]; rfl
theorem consA_of {f : PEV} {g : AEV} {p : PV} {ps : List PV} (h : f δ = some (p, δ1)) (k : g δ1 = some (ps, δ2)) : consA f g δ = some (p :: ps, δ2) := by unfold consA; rw [h]; simp only [Option.bind_some]; rw [k]; rfl
theorem consF_of {f : EV} {g : FEV} {s : S} {ss : List S} (h : f δ = some (s, δ1)) (k : g δ1 = some (ss, δ2)) : consF f g δ = some (s :: ss, δ2) := by unfold consF; rw [h]; simp only [Option.bind_some]; rw [k]; rfl
theorem callB_of {g : List S → Option S} {fa : AEV} {ps : List PV} {ss : List S} {r : S} (h : fa δ = some (ps, δ1)) (k : resA δ1 ps = some ss) (l : g ss = some r) : callB g fa δ = some (r, δ1) := by unfold callB; rw [h]; simp only [Option.bind_some]; rw [k]; simp only [Option.bind_some]; rw [l]; rfl
theorem bin_of {g : S → S → Option S} {fa fb : PEV} {p q : PV} {a b r : S} (h : fa δ = some (p, δ1)) (k : fb δ1 = some (q, δ2)) (ha : res δ2 p = some a) (hb : res δ2 q = some b) (l : g a b = some r) : bin g fa fb δ = some (r, δ2) := by
  unfold bin; rw [h]; simp only [Option.bind_some]; rw [k]; simp only [Option.bind_some]; rw [ha]; simp only [Option.bind_some]; rw [hb]; simp only [Option.bind_some]; rw [l]; rfl
theorem bin_I {f : Int → Int → Option Int} {fa fb : PEV} {i j z : Int} (h : fa δ = some (.v (.d (.int i)), δ1)) (k : fb δ1 = some (.v (.d (.int j)), δ2)) (l : f i j = some z) : bin (opI2 f) fa fb δ = some (.d (.int z), δ2) :=
  bin_of h k rfl rfl (by show (f i j).map _ = _; rw [l]; rfl)
theorem bin_mul {fa fb : PEV} {i j z : Int} (h : fa δ = some (.v (.d (.int i)), δ1)) (k : fb δ1 = some (.v (.d (.int j)), δ2)) (l : iMul i j = some z) : bin opMul fa fb δ = some (.d (.int z), δ2) :=
  bin_of h k rfl rfl (by show (iMul i j).map _ = _; rw [l]; rfl)
theorem bin_ix {fa fb : PEV} {a : S} {j : Int} {r : S} (h : fa δ = some (.v a, δ1)) (k : fb δ1 = some (.v (.d (.int j)), δ2)) (l : opIx a (.d (.int j)) = some r) : bin opIx fa fb δ = some (r, δ2) := bin_of h k rfl rfl l
theorem bin_add {fa fb : PEV} {i j : Int} (h : fa δ = some (.v (.d (.int i)), δ1)) (k : fb δ1 = some (.v (.d (.int j)), δ2)) : bin opAdd fa fb δ = some (.d (.int (i + j)), δ2) := bin_of h k rfl rfl rfl
theorem bin_cmp {p : Int → Int → Bool} {fa fb : PEV} {i j : Int} (h : fa δ = some (.v (.d (.int i)), δ1)) (k : fb δ1 = some (.v (.d (.int j)), δ2)) : bin (cmpI p) fa fb δ = some (.d (.bool (p i j)), δ2) := bin_of h k rfl rfl rfl
theorem tupE_of {fa : AEV} {ps : List PV} {ds : List PyData} (h : fa δ = some (ps, δ1)) (k : dataA ps = some ds) (l : ds.length ≤ sizeLine) : tupE fa δ = some (.d (.tuple ds), δ1) := by unfold tupE; rw [h]; simp only [Option.bind_some]; rw [k]; simp only [Option.bind_some]; rw [if_pos l]
theorem lstE_of {fa : AEV} {ps : List PV} {ds : List PyData} (h : fa δ = some (ps, δ1)) (k : dataA ps = some ds) (l : ds.length ≤ sizeLine) : lstE fa δ = some (.o (.l ds), δ1) := by unfold lstE; rw [h]; simp only [Option.bind_some]; rw [k]; simp only [Option.bind_some]; rw [if_pos l]
theorem parS_of {is : List Nat} {f : FEV} {ss : List S} (h : f δ = some (ss, δ1)) (l : ss.length = is.length) : parS is f δ = some (.nx (setsD is ss δ1)) := by unfold parS; rw [h]; simp only [Option.bind_some]; rw [if_pos l]
theorem forS_of {fi : IEV} {g : GEV} {f : SEV} {xs : List PyData} {o : Out} (h : fi δ = some (xs, δ1)) (k : forD g f xs δ1 = some o) : forS fi g f δ = some o := by unfold forS; rw [h]; exact k
theorem seqI_of {f : EV} {s : S} {xs : List PyData} (h : f δ = some (s, δ1)) (k : frz s = .d (.list xs) ∨ frz s = .d (.tuple xs)) : seqI f δ = some (xs, δ1) := by
  unfold seqI; rw [h]; simp only [Option.bind_some]
  rcases k with k | k <;> rw [k]
theorem rngI1_of {fa : AEV} {n : Int} (h : fa δ = some ([.v (.d (.int n))], δ1)) (l : -(2 ^ 62) ≤ n ∧ n < 2 ^ 62) : rngI1 fa δ = some (rng 0 n.toNat, δ1) := by unfold rngI1; rw [h]; simp only [Option.bind_some]; rw [if_pos l]
theorem mutL_of {i : Nat} {g : List PyData → List PyData → Option (S × List PyData)} {fa : AEV} {ps : List PV} {ds ys0 ys zs : List PyData} {s : S} (h0 : slot δ i = some (.o (.l ys0))) (h : fa δ = some (ps, δ1)) (k : dataA ps = some ds) (h1 : slot δ1 i = some (.o (.l ys))) (l : g ys ds = some (s, zs)) : mutL i g fa δ = some (s, δ1.set i (some (.o (.l zs)))) := by
  unfold mutL; rw [h0]; simp only; rw [h]; simp only [Option.bind_some]; rw [k]; simp only [Option.bind_some]; rw [h1]; simp only; rw [l]; rfl
theorem setI_of {i : Nat} {fe fi : PEV} {d : PyData} {c0 : C} {k : Int} {xs : List PyData} {j : Nat} (h : fe δ = some (.v (.d d), δ1)) (h0 : slot δ1 i = some (.o c0)) (h1 : fi δ1 = some (.v (.d (.int k)), δ2)) (h2 : slot δ2 i = some (.o (.l xs))) (h3 : ixN xs.length k = some j) : setI i fe fi δ = some (.nx (δ2.set i (some (.o (.l (xs.set j d)))))) := by
  unfold setI; rw [h]; simp only [Option.bind_some]; rw [h0]; simp only; rw [h1]; simp only [Option.bind_some]; rw [h2]; simp only; rw [h3]; rfl
theorem rgE1_of {mk : List PyData → S} {f : PEV} {p : PV} {s : S} {n : Int} (h : f δ = some (p, δ1)) (k : res δ1 p = some s) (l : asI s = some n) (m : rgOk 0 n) : rgE1 mk f δ = some (mk (rng 0 (n - 0).toNat), δ1) := by
  unfold rgE1; rw [h]; simp only [Option.bind_some]; rw [k]; simp only [Option.bind_some]; rw [l]; simp only [Option.bind_some]; rw [if_pos m]
theorem runF_rt {P : List Nat} {n : Nat} {body : SEV} {ss : List S} {s : S} {cs : List (Option C)} (h : body (ss.map some ++ List.replicate (n - ss.length) none) = some (.rt s δ)) (k : ownC P 0 ss δ = some cs) : runF P n body ss = some (s, cs) := by
  unfold runF; rw [h]; show (ownC P 0 ss δ).map _ = _; rw [k]; rfl
/-- a comprehension over a changing state -/
theorem lcE_inv {i : Nat} {fi : IEV} {te : EV} {I : Nat → List PyData → Ds → Prop} {xs : List PyData} (hf : fi δ = some (xs, δ1)) (hi : δ1[i]? = some none) (h0 : I 0 [] δ1)
    (st : ∀ (k : Nat) (x : PyData) (acc : List PyData) (δ : Ds), k < xs.length → x ∈ xs → I k acc δ → δ[i]? = some none ∧ ∃ d δ2, te (δ.set i (some (.d x))) = some (.d d, δ2.set i (some (.d x))) ∧ δ2[i]? = some none ∧ I (k + 1) (acc ++ [d]) δ2) (hl : xs.length ≤ sizeLine) (he : ∀ rs δ, I xs.length rs δ → δ[i]? = some none) :
    ∃ rs δ', lcE [i] fi (nameG i) yesT te δ = some (.o (.l rs), δ') ∧ I xs.length rs δ' ∧ rs.length = xs.length := by
  obtain ⟨rs, δ', e, h, l⟩ := lcD_inv (N := xs.length) (te := te) (I := I) (xs := xs) (δ := δ1) 0 [] (by omega) h0 st
  rw [List.nil_append, Nat.zero_add] at h
  have hi' := he rs δ' h
  refine ⟨rs, δ', ?_, h, l⟩
  unfold lcE
  rw [hf]
  simp only [Option.bind_some]
  have no : noOwn [i] δ1 = true := by
    show (notOwn (slot δ1 i) && true) = true
    rw [slot_none hi]
    rfl
  have w : wipeD δ1 [i] = δ1 := set_none_self hi
  rw [if_pos no, w, e]
  simp only [Option.bind_some]
  rw [if_pos (by rw [l]; exact hl)]
  show some (_, δ'.set i (slot δ1 i)) = _
  rw [slot_none hi, set_none_self hi']
end
section
variable {δ δ1 : Ds}
theorem lcE_pure1 {i : Nat} {fi : IEV} {tt : TEV} {te : EV} {xs : List PyData} (p : PyData → Bool) (h : PyData → PyData) (hf : fi δ = some (xs, δ1)) (hi : δ1[i]? = some none) (h1 : ∀ x ∈ xs, tt (δ1.set i (some (.d x))) = some (p x, δ1.set i (some (.d x)))) (h2 : ∀ x ∈ xs, p x = true → te (δ1.set i (some (.d x))) = some (.d (h x), δ1.set i (some (.d x)))) (hl : xs.length ≤ sizeLine) :
    lcE [i] fi (nameG i) tt te δ = some (.o (.l ((xs.filter p).map h)), δ1) := by
  have := lcE_pure (fi := fun _ => some (xs, δ1)) (tt := tt) (te := te) p h hi rfl h1 h2 hl
  unfold lcE at this ⊢
  rw [hf]
  exact this
theorem lcE_map1 {i : Nat} {fi : IEV} {te : EV} {xs : List PyData} (h : PyData → PyData) (hf : fi δ = some (xs, δ1)) (hi : δ1[i]? = some none) (h2 : ∀ x ∈ xs, te (δ1.set i (some (.d x))) = some (.d (h x), δ1.set i (some (.d x)))) (hl : xs.length ≤ sizeLine) :
    lcE [i] fi (nameG i) yesT te δ = some (.o (.l (xs.map h)), δ1) := by
  have := lcE_map (fi := fun _ => some (xs, δ1)) (te := te) h hi rfl h2 hl
  unfold lcE at this ⊢
  rw [hf]
  exact this
end
end DL

namespace DL
open PySem PySem.Spec PyProof.Rows L2
variable [TB]

/-! ### two comparisons in one -/
def chn (g g' : S → S → Option S) (fa fb fc : PEV) : EV := fun δ => (fa δ).bind fun x => (fb x.2).bind fun y => (res y.2 x.1).bind fun s => (res y.2 y.1).bind fun u => (g s u).bind fun z => match z with
  | .d (.bool true) => (fc y.2).bind fun w => (res w.2 y.1).bind fun s' => (res w.2 w.1).bind fun u' => (g' s' u').map fun z' => (z', w.2)
  | .d (.bool false) => some (.d (.bool false), y.2)
  | _ => none
section
variable {X : Cx} {a b c : Expr} {pos : Pos} {fa fb fc : PEV}
theorem de_chain {op op' : CmpOp} {r r' : R2} {g g' : S → S → Option S} (ho : OpR X (compareOp op) r) (hd : OpD X.K r g) (ho' : OpR X (compareOp op') r') (hd' : OpD X.K r' g') (ha : DP X a fa) (hb : DP X b fb) (hc : DP X c fc) (hl : lastMarks [op, op'] [b, c] = false := by rfl) :
    DE X (.Compare a [op, op'] [b, c] pos) (chn g g' fa fb fc) := pe_imp (pe_chain ho ho' ha hb hc hl) fun σ H Q ⟨T, ρ, δ, s, δ', hs, hf, hq⟩ => by
  unfold chn at hf
  cases ea : fa δ with
  | none => rw [ea] at hf; cases hf
  | some x =>
    rw [ea] at hf
    simp only [Option.bind_some] at hf
    cases eb : fb x.2 with
    | none => rw [eb] at hf; cases hf
    | some y =>
      rw [eb] at hf
      simp only [Option.bind_some] at hf
      cases e1 : res y.2 x.1 with
      | none => rw [e1] at hf; cases hf
      | some u =>
        rw [e1] at hf
        simp only [Option.bind_some] at hf
        cases e2 : res y.2 y.1 with
        | none => rw [e2] at hf; cases hf
        | some w =>
          rw [e2] at hf
          simp only [Option.bind_some] at hf
          cases e3 : g u w with
          | none => rw [e3] at hf; cases hf
          | some z =>
            rw [e3] at hf
            simp only [Option.bind_some] at hf
            refine ⟨T, ρ, δ, x.1, x.2, hs, by rw [ea], fun ρ1 v1 H1 s1 x1 p1 => ?_⟩
            refine ⟨T, ρ1, x.2, y.1, y.2, s1, by rw [eb], fun ρ2 v2 H2 s2 x2 p2 => ?_⟩
            split at hf
            · refine hd T ρ2 H2 v1 v2 u w (.d (.bool true)) _ s2.trk (pat_at s2 x2 p1 e1) (pat_at s2 .refl p2 e2) e3 fun v3 H3 m3 d3 => ?_
              cases (show Dq _ _ v3 (.bool true) from d3)
              have x3 := s2.trk.extT m3
              have s3 := s2.mono m3
              refine ⟨true, rfl, ?_⟩
              rw [if_pos rfl]
              cases ec : fc y.2 with
              | none => rw [ec] at hf; cases hf
              | some q =>
                rw [ec] at hf
                simp only [Option.bind_some] at hf
                cases e4 : res q.2 y.1 with
                | none => rw [e4] at hf; cases hf
                | some u' =>
                  rw [e4] at hf
                  simp only [Option.bind_some] at hf
                  cases e5 : res q.2 q.1 with
                  | none => rw [e5] at hf; cases hf
                  | some w' =>
                    rw [e5] at hf
                    simp only [Option.bind_some] at hf
                    cases e6 : g' u' w' with
                    | none => rw [e6] at hf; cases hf
                    | some z' =>
                      rw [e6] at hf
                      cases hf
                      refine ⟨T, ρ2, y.2, q.1, q.2, s3, by rw [ec], fun ρ4 v4 H4 s4 x4 p4 => ?_⟩
                      exact hd' T ρ4 H4 v2 v4 u' w' s Q s4.trk (pat_at s4 (x3.trans x4) p2 e4) (pat_at s4 .refl p4 e5) e6 (post_o s4 (x1.trans (x2.trans (x3.trans x4))) hq)
            · cases hf
              refine hd T ρ2 H2 v1 v2 u w (.d (.bool false)) _ s2.trk (pat_at s2 x2 p1 e1) (pat_at s2 .refl p2 e2) e3 fun v3 H3 m3 d3 => ?_
              cases (show Dq _ _ v3 (.bool false) from d3)
              refine ⟨false, rfl, ?_⟩
              rw [if_neg Bool.false_ne_true]
              exact hq ρ2 _ H3 (s2.mono m3) (x1.trans (x2.trans (s2.trk.extT m3))) (Dq.bl false)
            · cases hf

/-! ### isinstance with a class of the language -/
def kdD : PyData → Option String
  | .none => some "NoneType"
  | .bool _ => some "bool"
  | .int _ => some "int"
  | .str _ => some "str"
  | .list _ => some "list"
  | .tuple _ => some "tuple"
  | .dict _ => some "dict"
def kdS : S → Option String
  | .d x => kdD x
  | .o (.l _) => some "list"
  | _ => none
def isiK (t c : String) : Bool := t == c || (t == "bool" && c == "int")
def isiE (c : String) (f : PEV) : EV := fun δ => (f δ).bind fun x => (res x.2 x.1).bind fun s => (kdS s).map fun t => (.d (.bool (isiK t c)), x.2)
theorem kd_ty {K : PySem.W.Frag} {T : List Addr} {ρ : List (Option Addr)} {H : Hp} {v : V} {s : S} {t : String} (h : At K T ρ H v s) (e : kdS s = some t) : TyX K H v (.type t) ∧ t ∈ ["NoneType", "bool", "int", "str", "list", "tuple", "dict"] := by
  cases s with
  | d x =>
    have hv : Dq K (hid T ρ H) v x := h
    cases hv with
    | non => cases e; exact ⟨.base .non, by decide⟩
    | bl b => cases e; exact ⟨.base (.bl b), by decide⟩
    | int i => cases e; exact ⟨.base (.int i), by decide⟩
    | str z => cases e; exact ⟨.base (.str z), by decide⟩
    | lst h1 h2 => cases e; exact ⟨.base (.lst (hid_same _ _ h1)), by decide⟩
    | tup h1 h2 => cases e; exact ⟨.base (.tup (hid_same _ _ h1)), by decide⟩
    | dctE h1 => cases e; exact ⟨.base (.dK (hid_same _ _ h1)), by decide⟩
    | dct1 h1 h2 => cases e; exact ⟨.base (.dK (hid_same _ _ h1)), by decide⟩
  | o c =>
    cases c with
    | l xs =>
      cases e
      obtain ⟨a, o, rfl, h1, vs, rfl, h2⟩ := h
      exact ⟨.base (.lst h1), by decide⟩
    | t kvs => cases e
  | t kvs => cases e
  | z ns => cases e
  | p ns => cases e
theorem isi_kit : ∀ t ∈ ["NoneType", "bool", "int", "str", "list", "tuple", "dict"], ∀ c ∈ ["int", "bool", "tuple", "list", "str"], kitB t c = some (isiK t c) := by decide +kernel
theorem de_isi {cn : String} {x y : Str} {p1 p2 : Pos} (hx : x = "isinstance") (hcn : cn ∈ ["int", "bool", "tuple", "list", "str"]) (hm : X.mg x = none) (hg : Gl X x) (hm2 : X.mg y = none) (hg2 : Gl X y) (hv : bootBuiltins y = some (.type cn)) (hn : y ≠ "__name__") (hdb : (y == ("__debug__" : Str)) = false) (ha : DP X a fa)
    (he : starEach [a, .Name y p2] X.env = (false, eval a X.env) :: starEach [.Name y p2] X.env := by rfl) (he2 : starEach [.Name y p2] X.env = (false, eval (.Name y p2) X.env) :: starEach [] X.env := by rfl) (hpl : (backTo pos (starEach [.Name y p2] X.env)).any (·.1) = false := by rfl) :
    DE X (.Call (.Name x p1) [a, .Name y p2] [] pos) (isiE cn fa) := by
  subst hx
  refine pe_imp (pe_callB call_isi hg hm (by decide +kernel) (pa_cons ha (pa_cons (pe_bltn (v := .ty cn) hg2 hm2 hv rfl hn hdb) pa_nil he2) he) (by decide) (by decide) he hpl) fun σ H Q ⟨T, ρ, δ, s, δ', hs, hf, hq⟩ => ?_
  unfold isiE at hf
  cases ea : fa δ with
  | none => rw [ea] at hf; cases hf
  | some q =>
    rw [ea] at hf
    simp only [Option.bind_some] at hf
    cases e1 : res q.2 q.1 with
    | none => rw [e1] at hf; cases hf
    | some u =>
      rw [e1] at hf
      simp only [Option.bind_some] at hf
      cases e2 : kdS u with
      | none => rw [e2] at hf; cases hf
      | some t =>
        rw [e2] at hf
        cases hf
        refine ⟨T, ρ, δ, q.1, q.2, hs, by rw [ea], fun ρ1 v1 H1 s1 x1 p1 => ?_⟩
        obtain ⟨ht, hk⟩ := kd_ty (pat_at s1 .refl p1 e1) e2
        exact ⟨_, _, _, _, _, rfl, .ty cn, ht, kit_ty (isi_kit t hk cn hcn), hq ρ1 _ H1 s1 x1 (Dq.bl _)⟩
end
end DL

namespace DL
open PySem PySem.Spec PyProof.Rows L2
variable [TB]

/-! ### is None, is a truth -/
def isNon : S → Bool
  | .d .none => true
  | _ => false
def opIs (neg : Bool) (a b : S) : Option S := match b with
  | .d .none => some (.d (.bool (xor neg (isNon a))))
  | .d (.bool y) => match a with
    | .d (.bool x) => some (.d (.bool (xor neg (decide (x = y)))))
    | _ => none
  | _ => none
theorem at_non {K : PySem.W.Frag} {T : List Addr} {ρ : List (Option Addr)} {H : Hp} {v : V} {s : S} (h : At K T ρ H v s) : decide (v = V.non) = isNon s := by
  cases s with
  | d x =>
    have hv : Dq K (hid T ρ H) v x := h
    cases hv <;> rfl
  | o c =>
    obtain ⟨a, o, rfl, h1, h2⟩ := h
    rfl
  | t kvs =>
    obtain ⟨a, o, rfl, h1, h2⟩ := h
    rfl
  | z ns =>
    obtain ⟨a, rfl, h1⟩ := h
    rfl
  | p ns =>
    obtain ⟨a, rfl, h1⟩ := h
    rfl
theorem od_is {K : PySem.W.Frag} : OpD K (fun x y H Q => (y = V.non ∧ Q (V.bl (decide (x = V.non))) H) ∨ rIsB x y H Q) (opIs false) := fun T ρ H x y a b s Q k ha hb hg hq => by
  unfold opIs at hg
  split at hg
  · cases hg
    cases (show Dq K _ y .none from hb)
    refine .inl ⟨rfl, ?_⟩
    rw [at_non ha]
    rw [Bool.false_xor] at hq
    exact postO_same hq (.bl _)
  · split at hg
    · cases hg
      cases (show Dq K _ x (.bool _) from ha)
      cases (show Dq K _ y (.bool _) from hb)
      refine .inr ⟨_, _, rfl, rfl, ?_⟩
      rw [Bool.false_xor] at hq
      exact postO_same hq (.bl _)
    · cases hg
  · cases hg
theorem od_isNot {K : PySem.W.Frag} : OpD K (fun x y H Q => (y = V.non ∧ Q (V.bl !decide (x = V.non)) H) ∨ rNotB x y H Q) (opIs true) := fun T ρ H x y a b s Q k ha hb hg hq => by
  unfold opIs at hg
  split at hg
  · cases hg
    cases (show Dq K _ y .none from hb)
    refine .inl ⟨rfl, ?_⟩
    rw [at_non ha]
    rw [Bool.true_xor] at hq
    exact postO_same hq (.bl _)
  · split at hg
    · cases hg
      cases (show Dq K _ x (.bool _) from ha)
      cases (show Dq K _ y (.bool _) from hb)
      refine .inr ⟨_, _, rfl, rfl, ?_⟩
      rw [Bool.true_xor] at hq
      exact postO_same hq (.bl _)
    · cases hg
  · cases hg
section
variable {X : Cx} {a b : Expr} {pos : Pos} {fa fb : PEV}
theorem de_is (ha : DP X a fa) (hb : DP X b fb) : DE X (.Compare a [.Is] [b] pos) (bin (opIs false) fa fb) := de_cmp (opr_or op_isN op_isBl) od_is ha hb (nomark _)
theorem dt_is (ha : DP X a fa) (hb : DP X b fb) : DT X (.Compare a [.Is] [b] pos) (bl (bin (opIs false) fa fb)) := dt_cmp (opr_or op_isN op_isBl) od_is ha hb (nomark _)
theorem de_isNot (ha : DP X a fa) (hb : DP X b fb) : DE X (.Compare a [.IsNot] [b] pos) (bin (opIs true) fa fb) := de_cmp (opr_or op_notN op_notBl) od_isNot ha hb (nomark _)
theorem dt_isNot (ha : DP X a fa) (hb : DP X b fb) : DT X (.Compare a [.IsNot] [b] pos) (bl (bin (opIs true) fa fb)) := dt_cmp (opr_or op_notN op_notBl) od_isNot ha hb (nomark _)
end
end DL

namespace DL
open PySem PySem.Spec PyProof.Rows L2
variable [TB]

/-! ### insert, pop -/
theorem dqAll_erase {K : PySem.W.Frag} {G : Hp} : ∀ {vs : List V} {ds : List PyData} (n : Nat), DqAll K G vs ds → DqAll K G (vs.eraseIdx n) (ds.eraseIdx n)
  | _, _, _, .nil => .nil
  | _, _, 0, .cons h t => t
  | _, _, n + 1, .cons h t => .cons h (dqAll_erase n t)
def gIns (xs ds : List PyData) : Option (S × List PyData) := match ds with
  | [.int i, d] => if xs.length < sizeLine ∧ 0 ≤ i ∧ i < 2 ^ 63 then some (.d .none, xs.take i.toNat ++ [d] ++ xs.drop i.toNat) else none
  | _ => none
def gPopAt (xs ds : List PyData) : Option (S × List PyData) := match ds with
  | [.int i] => if -(2 ^ 63) ≤ i ∧ i < 2 ^ 63 then (seqIndex? i xs.length).bind fun k => (xs[k]?).map fun y => (.d y, xs.eraseIdx k) else none
  | _ => none
theorem md_insert {K : PySem.W.Frag} : MutD K (fun x vs H Q => ∃ (l : Addr) (xs : List V) (i : Int) (y : V), x = .ref l ∧ vs = [.int i, y] ∧ H l = some (.lst xs) ∧ xs.length < sizeLine ∧ 0 ≤ i ∧ i < 2 ^ 63 ∧ Q .non (upd H l (.lst (xs.take i.toNat ++ [y] ++ xs.drop i.toNat)))) gIns := fun T ρ H a ys xs ds vs s zs Q h1 h2 h3 h4 h5 => by
  unfold gIns at h4
  split at h4
  · rename_i i d
    split at h4
    · rename_i hl
      cases h4
      cases h3 with
      | cons q1 q2 =>
        cases q1
        cases q2 with
        | cons q3 q4 =>
          cases q4
          exact ⟨a, ys, i, _, rfl, rfl, h1, by rw [dpAll_len h2]; exact hl.1, hl.2.1, hl.2.2, h5 _ _ (dpAll_app (dpAll_app (dpAll_take _ h2) (.cons q3 .nil)) (dpAll_drop _ h2)) .non⟩
    · cases h4
  · cases h4
theorem md_popAt {K : PySem.W.Frag} : MutD K rPopAt gPopAt := fun T ρ H a ys xs ds vs s zs Q h1 h2 h3 h4 h5 => by
  unfold gPopAt at h4
  split at h4
  · rename_i i
    split at h4
    · rename_i hl
      cases e : seqIndex? i xs.length with
      | none => rw [e] at h4; cases h4
      | some k =>
        rw [e] at h4
        simp only [Option.bind_some] at h4
        cases e2 : xs[k]? with
        | none => rw [e2] at h4; cases h4
        | some y =>
          rw [e2] at h4
          cases h4
          cases h3 with
          | cons q1 q2 =>
            cases q1
            cases q2
            obtain ⟨v, v1, v2⟩ := dpAll_get h2 e2
            exact ⟨a, ys, i, k, v, rfl, rfl, h1, hl.1, hl.2, by rw [dpAll_len h2]; exact e, v1, h5 _ _ (dqAll_erase _ h2) v2⟩
    · cases h4
  · cases h4
section
variable {X : Cx} {pos p : Pos} {e : Expr} {es : List Expr} {fa : AEV}
theorem de_insert {x : Str} {opos apos cpos : Pos} {i : Nat} (q : PE X (.Name x opos) (tVar i)) (ha : DA X (e :: es) fa)
    (hbase : attributeBase (.Name x opos) "insert" X.env (eval (.Name x opos) X.env) = eval (.Name x opos) X.env := by rfl)
    (hfew : ((backTo cpos (starEach (e :: es) X.env)).all (fun x => !x.1) && (backToKw cpos (keywordEach [] X.env)).all (fun x => x.1.isSome)
      && decide ((e :: es).length + ([] : List Keyword).length + (if ([] : List Keyword).isEmpty then 0 else 1) < 30)) = true := by rfl)
    (hline : (apos.endLine == cpos.line) = true := by rfl) (hs : starEach (e :: es) X.env = (false, eval e X.env) :: starEach es X.env := by rfl) (hplain : (backTo cpos (starEach es X.env)).any (·.1) = false := by rfl) :
    DE X (.Call (.Attribute (.Name x opos) "insert" apos) (e :: es) [] cpos) (mutL i gIns fa) := de_mut PySem.F.plainAttrs_list PySem.F.slot_list_insert PySem.F.type_list_insert mt_insert md_insert q ha hbase hfew hline hs hplain
theorem de_popAt {x : Str} {opos apos cpos : Pos} {i : Nat} (q : PE X (.Name x opos) (tVar i)) (ha : DA X (e :: es) fa)
    (hbase : attributeBase (.Name x opos) "pop" X.env (eval (.Name x opos) X.env) = eval (.Name x opos) X.env := by rfl)
    (hfew : ((backTo cpos (starEach (e :: es) X.env)).all (fun x => !x.1) && (backToKw cpos (keywordEach [] X.env)).all (fun x => x.1.isSome)
      && decide ((e :: es).length + ([] : List Keyword).length + (if ([] : List Keyword).isEmpty then 0 else 1) < 30)) = true := by rfl)
    (hline : (apos.endLine == cpos.line) = true := by rfl) (hs : starEach (e :: es) X.env = (false, eval e X.env) :: starEach es X.env := by rfl) (hplain : (backTo cpos (starEach es X.env)).any (·.1) = false := by rfl) :
    DE X (.Call (.Attribute (.Name x opos) "pop" apos) (e :: es) [] cpos) (mutL i gPopAt fa) := de_mut PySem.F.plainAttrs_list PySem.F.slot_list_pop PySem.F.type_list_pop mt_popAt md_popAt q ha hbase hfew hline hs hplain
end
end DL

namespace DL
open PySem PySem.Spec PyProof.Rows L2
variable [TB]

/-! ### a comprehension with two for -/
def lcD2 (vs vs1 : List Nat) (g : GEV) (tt : TEV) (fi1 : IEV) (g1 : GEV) (tt1 : TEV) (te : EV) : List PyData → Ds → Option (List PyData × Ds)
  | [], δ => some ([], δ)
  | x :: xs, δ => (g x δ).bind fun δ1 => (tt δ1).bind fun b =>
    if b.1 then (fi1 b.2).bind fun z => if noOwn vs1 z.2 then (lcD vs1 g1 tt1 te z.1 (wipeD z.2 vs1)).bind fun r =>
      if noOwn vs r.2 then (lcD2 vs vs1 g tt fi1 g1 tt1 te xs (wipeD r.2 vs)).map fun q => (r.1 ++ q.1, q.2) else none else none
    else if noOwn vs b.2 then lcD2 vs vs1 g tt fi1 g1 tt1 te xs (wipeD b.2 vs) else none
def lc2E (vs vs1 : List Nat) (fi : IEV) (g : GEV) (tt : TEV) (fi1 : IEV) (g1 : GEV) (tt1 : TEV) (te : EV) : EV := fun δ => (fi δ).bind fun x =>
  if noOwn vs x.2 then (lcD2 vs vs1 g tt fi1 g1 tt1 te x.1 (wipeD x.2 vs)).bind fun r => if r.1.length ≤ sizeLine then some (.o (.l r.1), restD x.2 r.2 vs) else none else none
theorem wipe_sub {σ : L2.St} {vs vs1 : List Nat} (h : ∀ j ∈ vs1, j ∈ vs) : L2.wipe (L2.wipe σ vs1) vs = L2.wipe σ vs := wipe_only (ws := vs1) ⟨wipe_length _ _, fun j hj => wipe_ne hj⟩ h
section
variable {K : PySem.W.Frag}
theorem lc_in {vs1 ws1 : List Nat} {fi1 : IEV} {g1 : GEV} {tt1 : TEV} {te : EV} (hw1 : ∀ j ∈ ws1, j ∈ vs1) {T : List Addr} {ρ : List (Option Addr)} {δ δ1 δe : Ds} {σ : L2.St} {H : Hp} {D : Addr} {acc : List V} {dn ys out : List PyData} (hD : D ∈ T) (s : Sim K T ρ δ σ H) (hacc : H D = some (.lst acc)) (hdn : DqAll K (hid T ρ H) acc dn)
    (ei : fi1 δ = some (ys, δ1)) (hno : noOwn vs1 δ1 = true) (el : lcD vs1 g1 tt1 te ys (wipeD δ1 vs1) = some (out, δe)) (hsz : dn.length + out.length ≤ sizeLine) {Nx : Hp → Prop}
    (fin : ∀ ρ' H' acc', Sim K T ρ' δe (L2.wipe σ vs1) H' → Same (hid T ρ H) (hid T ρ' H') → (∀ a ∈ T, a ≠ D → Kp (H a) (H' a)) → H' D = some (.lst acc') → DqAll K (hid T ρ' H') acc' (dn ++ out) → Nx H') :
    liftI K fi1 σ H fun J1 H4 => ∃ W1 : Nat → Nat → Hp → Prop, (∃ m, W1 0 m H4) ∧ ∀ (j k : Nat) (H : Hp), W1 j k H → J1.stop j H ∧ Nx H ∨ J1.go j H ∧ ∃ Nx1 : Hp → Prop, (∀ H', Nx1 H' → ∃ k', k' < k ∧ W1 (j + 1) k' H') ∧ ∀ x H', J1.yld j H x H' → liftG K ws1 g1 x (L2.wipe σ vs1) H' fun σ3 H5 => L2.wipe σ3 vs1 = L2.wipe σ vs1 ∧ liftT K tt1 σ3 H5 fun b H6 => if b = true then lift K te σ3 H6 fun y H7 => ∃ acc, H7 D = some (.lst acc) ∧ acc.length < sizeLine ∧ Nx1 (upd H7 D (.lst (acc ++ [y]))) else Nx1 H6 := by
  refine ⟨T, ρ, δ, ys, δ1, s, ei, fun ρ1 H1 J s1 x1 sv => ?_⟩
  refine ⟨fun i m H' => ∃ ρ' δ2 acc' dn' rs, i + m = ys.length ∧ Sim K T ρ' δ2 (L2.wipe σ vs1) H' ∧ Same (hid T ρ1 H1) (hid T ρ' H') ∧ (∀ a ∈ T, a ≠ D → Kp (H1 a) (H' a)) ∧ H' D = some (.lst acc') ∧ DqAll K (hid T ρ' H') acc' (dn ++ dn') ∧
    lcD vs1 g1 tt1 te (ys.drop i) δ2 = some (rs, δe) ∧ dn' ++ rs = out, ⟨ys.length, ρ1, wipeD δ1 vs1, acc, [], out, by omega, s1.wipe hno, Same.refl _, fun _ _ _ => .refl, x1.at hD hacc, by rw [List.append_nil]; exact dpAllM x1.same _ hdn, el, rfl⟩, ?_⟩
  rintro i m H2 ⟨ρ2, δ2, acc2, dn2, rs, him, s2, sm, tm, hacc2, hdn2, hl, hout⟩
  have alen : acc2.length = dn.length + dn2.length := by rw [dpAll_len hdn2, List.length_append]
  by_cases hi : i < ys.length
  · have hd : ys.drop i = ys[i] :: ys.drop (i + 1) := by rw [List.drop_eq_getElem_cons hi]
    rw [hd] at hl
    unfold lcD at hl
    cases eg : g1 ys[i] δ2 with
    | none => rw [eg] at hl; cases hl
    | some δ3 =>
      rw [eg] at hl
      simp only [Option.bind_some] at hl
      cases et : tt1 δ3 with
      | none => rw [et] at hl; cases hl
      | some b =>
        obtain ⟨b, δ4⟩ := b
        rw [et] at hl
        simp only [Option.bind_some] at hl
        obtain ⟨go, yl⟩ := (sv i T ρ2 H2 sm s2.trk).1 _ (List.getElem?_eq_getElem hi)
        refine .inr ⟨go, fun H' => ∃ ρ' δ2 acc' dn' rs, Sim K T ρ' δ2 (L2.wipe σ vs1) H' ∧ Same (hid T ρ1 H1) (hid T ρ' H') ∧ (∀ a ∈ T, a ≠ D → Kp (H1 a) (H' a)) ∧ H' D = some (.lst acc') ∧ DqAll K (hid T ρ' H') acc' (dn ++ dn') ∧
          lcD vs1 g1 tt1 te (ys.drop (i + 1)) δ2 = some (rs, δe) ∧ dn' ++ rs = out, ?_, fun x H3 hy => ?_⟩
        · rintro H' ⟨ρ', δ5, acc', dn', rs', q1, q2, q3, q4, q5, q6, q7⟩
          exact ⟨m - 1, by omega, ρ', δ5, acc', dn', rs', by omega, q1, q2, q3, q4, q5, q6, q7⟩
        obtain ⟨y1, y2⟩ := yl x H3 hy
        have e2 := s2.trk.extT y1
        refine ⟨T, ρ2, δ2, ys[i], δ3, s2.mono y1, y2, eg, fun ρ4 σ4 H4 s4 x4 o4 => ?_⟩
        have hwp : L2.wipe σ4 vs1 = L2.wipe σ vs1 := by rw [wipe_only o4 hw1, wipe_idem]
        refine ⟨hwp, T, ρ4, δ3, b, δ4, s4, et, fun ρ5 H5 s5 x5 => ?_⟩
        have xx : Ext T ρ2 H2 ρ5 H5 := e2.trans (x4.trans x5)
        have fn : ∀ (ρ6 : List (Option Addr)) (δ6 : Ds) (H6 : Hp), Sim K T ρ6 δ6 σ4 H6 → Ext T ρ2 H2 ρ6 H6 → noOwn vs1 δ6 = true →
            Sim K T ρ6 (wipeD δ6 vs1) (L2.wipe σ vs1) H6 ∧ Same (hid T ρ1 H1) (hid T ρ6 H6) ∧ (∀ a ∈ T, a ≠ D → Kp (H1 a) (H6 a)) ∧ H6 D = some (.lst acc2) ∧ DqAll K (hid T ρ6 H6) acc2 (dn ++ dn2) := by
          intro ρ6 δ6 H6 s6 x6 n6
          have q := s6.wipe n6
          rw [hwp] at q
          exact ⟨q, sm.trans x6.same, fun a ha ne => (tm a ha ne).trans (x6.tmp a ha), x6.at hD hacc2, dpAllM x6.same _ hdn2⟩
        cases b with
        | false =>
          refine L2.iteF ?_
          rw [if_neg Bool.false_ne_true] at hl
          split at hl
          case isFalse => cases hl
          rename_i n5
          obtain ⟨q1, q2, q3, q4, q5⟩ := fn ρ5 δ4 H5 s5 xx n5
          exact ⟨ρ5, _, acc2, dn2, rs, q1, q2, q3, q4, q5, hl, hout⟩
        | true =>
          refine L2.iteT ?_
          rw [if_pos rfl] at hl
          cases ey : te δ4 with
          | none => rw [ey] at hl; cases hl
          | some y =>
            obtain ⟨u, δ6⟩ := y
            rw [ey] at hl
            simp only [Option.bind_some] at hl
            split at hl
            case h_2 => cases hl
            rename_i d hd'
            split at hl
            case isFalse => cases hl
            rename_i n6
            cases er : lcD vs1 g1 tt1 te (ys.drop (i + 1)) (wipeD δ6 vs1) with
            | none => rw [er] at hl; cases hl
            | some r =>
              obtain ⟨rs', δz⟩ := r
              rw [er] at hl
              cases hl
              have hlen : acc2.length < sizeLine := by
                have := hsz
                rw [← hout, List.length_append, List.length_cons] at this
                omega
              have each : ∀ (ρ7 : List (Option Addr)) (v : V) (H7 : Hp), Sim K T ρ7 δ6 σ4 H7 → Ext T ρ5 H5 ρ7 H7 → Dq K (hid T ρ7 H7) v d →
                  ∃ acc, H7 D = some (.lst acc) ∧ acc.length < sizeLine ∧ (∃ ρ' δ2 acc' dn' rs, Sim K T ρ' δ2 (L2.wipe σ vs1) (upd H7 D (.lst (acc ++ [v]))) ∧ Same (hid T ρ1 H1) (hid T ρ' (upd H7 D (.lst (acc ++ [v])))) ∧ (∀ a ∈ T, a ≠ D → Kp (H1 a) ((upd H7 D (.lst (acc ++ [v]))) a)) ∧ (upd H7 D (.lst (acc ++ [v]))) D = some (.lst acc') ∧ DqAll K (hid T ρ' (upd H7 D (.lst (acc ++ [v])))) acc' (dn ++ dn') ∧
                    lcD vs1 g1 tt1 te (ys.drop (i + 1)) δ2 = some (rs, δz) ∧ dn' ++ rs = out) := by
                intro ρ7 v H7 s7 x7 hv
                obtain ⟨q1, q2, q3, q4, q5⟩ := fn ρ7 δ6 H7 s7 (xx.trans x7) n6
                refine ⟨acc2, q4, hlen, ρ7, _, acc2 ++ [v], dn2 ++ [d], rs', q1.tmpW hD (nb_of q4), ?_, ?_, upd_same, ?_, er, by rw [List.append_assoc]; exact hout⟩
                · rw [hid_tmp hD]
                  exact q2
                · intro a ha ne
                  rw [upd_ne ne]
                  exact q3 a ha ne
                · rw [hid_tmp hD, ← List.append_assoc]
                  exact dpAll_app q5 (.cons hv .nil)
              refine ⟨T, ρ5, δ4, u, δ6, s5, ey, ?_⟩
              cases u with
              | o c =>
                intro ρ7 p H7 o s7 x7 hp hc
                have hn := frz_new s7.trk hp hc
                rw [hd'] at hn
                exact each ρ7 (.ref p) _ (s7.mono (same_new hp)) (x7.trans (s7.trk.extT (same_new hp))) hn
              | d c =>
                cases hd'
                exact fun ρ7 v H7 s7 x7 hv => each ρ7 v H7 s7 x7 hv
              | t c => cases hd'
              | z c => cases hd'
              | p c => cases hd'
  · have hd : ys.drop i = [] := List.drop_eq_nil_of_le (by omega)
    rw [hd] at hl
    cases hl
    rw [List.append_nil] at hout
    subst hout
    exact .inl ⟨(sv i T ρ2 H2 sm s2.trk).2 (by omega), fin ρ2 H2 acc2 s2 (x1.same.trans sm) (fun a ha ne => (x1.tmp a ha).trans (tm a ha ne)) hacc2 hdn2⟩
end
theorem lc2_ok {K : PySem.W.Frag} {vs ws vs1 ws1 : List Nat} {fi fi1 : IEV} {g g1 : GEV} {tt tt1 : TEV} {te : EV} (hw : ∀ j ∈ ws, j ∈ vs) (hw1 : ∀ j ∈ ws1, j ∈ vs1) (hv1 : ∀ j ∈ vs1, j ∈ vs) (σ : L2.St) (H : Hp) (Q : VK) (h : lift K (lc2E vs vs1 fi g tt fi1 g1 tt1 te) σ H Q) : tLc2 (liftI K fi) (liftG K ws g) (liftT K tt) (liftI K fi1) (liftG K ws1 g1) (liftT K tt1) (lift K te) vs vs1 σ H Q := by
  obtain ⟨T, ρ, δ, s, δ', hs, hf, hq⟩ := h
  unfold lc2E at hf
  cases ea : fi δ with
  | none => rw [ea] at hf; cases hf
  | some z =>
    obtain ⟨xs, δ1⟩ := z
    rw [ea] at hf
    simp only [Option.bind_some] at hf
    split at hf
    case isFalse => cases hf
    rename_i hno
    cases el : lcD2 vs vs1 g tt fi1 g1 tt1 te xs (wipeD δ1 vs) with
    | none => rw [el] at hf; cases hf
    | some r =>
      obtain ⟨out, δe⟩ := r
      rw [el] at hf
      simp only [Option.bind_some] at hf
      split at hf
      case isFalse => cases hf
      rename_i hsz
      cases hf
      refine ⟨T, ρ, δ, xs, δ1, hs, ea, fun ρ1 H1 J s1 x1 sv => ?_⟩
      intro D hD
      refine ⟨fun i m H' => ∃ ρ' δ2 acc dn rs, i + m = xs.length ∧ Sim K (D :: T) ρ' δ2 (L2.wipe σ vs) H' ∧ Same (hid T ρ1 H1) (hid (D :: T) ρ' H') ∧ (∀ a, a ∈ T → Kp (H1 a) (H' a)) ∧ H' D = some (.lst acc) ∧ DqAll K (hid (D :: T) ρ' H') acc dn ∧
        lcD2 vs vs1 g tt fi1 g1 tt1 te (xs.drop i) δ2 = some (rs, δe) ∧ dn ++ rs = out, ⟨xs.length, ρ1, wipeD δ1 vs, [], [], out, by omega, (s1.wipe hno).addTmp hD, ?_, ?_, upd_same, .nil, el, rfl⟩, ?_⟩
      · rw [hid_new hD]
        exact Same.refl _
      · intro a ha
        obtain ⟨o, ho, _⟩ := s1.tmp a ha
        rw [upd_ne (ne_of_none ho hD)]
        exact .refl
      rintro i m H2 ⟨ρ2, δ2, acc, dn, rs, him, s2, sm, tm, hacc, hdn, hl, hout⟩
      have alen : acc.length = dn.length := dpAll_len hdn
      by_cases hi : i < xs.length
      · have hd : xs.drop i = xs[i] :: xs.drop (i + 1) := by rw [List.drop_eq_getElem_cons hi]
        rw [hd] at hl
        unfold lcD2 at hl
        cases eg : g xs[i] δ2 with
        | none => rw [eg] at hl; cases hl
        | some δ3 =>
          rw [eg] at hl
          simp only [Option.bind_some] at hl
          cases et : tt δ3 with
          | none => rw [et] at hl; cases hl
          | some b =>
            obtain ⟨b, δ4⟩ := b
            rw [et] at hl
            simp only [Option.bind_some] at hl
            obtain ⟨go, yl⟩ := (sv i (D :: T) ρ2 H2 sm s2.trk).1 _ (List.getElem?_eq_getElem hi)
            refine .inr ⟨go, fun H' => ∃ ρ' δ2 acc dn rs, Sim K (D :: T) ρ' δ2 (L2.wipe σ vs) H' ∧ Same (hid T ρ1 H1) (hid (D :: T) ρ' H') ∧ (∀ a, a ∈ T → Kp (H1 a) (H' a)) ∧ H' D = some (.lst acc) ∧ DqAll K (hid (D :: T) ρ' H') acc dn ∧
              lcD2 vs vs1 g tt fi1 g1 tt1 te (xs.drop (i + 1)) δ2 = some (rs, δe) ∧ dn ++ rs = out, ?_, fun x H3 hy => ?_⟩
            · rintro H' ⟨ρ', δ5, acc', dn', rs', q1, q2, q3, q4, q5, q6, q7⟩
              exact ⟨m - 1, by omega, ρ', δ5, acc', dn', rs', by omega, q1, q2, q3, q4, q5, q6, q7⟩
            obtain ⟨y1, y2⟩ := yl x H3 hy
            have e2 := s2.trk.extT y1
            refine ⟨D :: T, ρ2, δ2, xs[i], δ3, s2.mono y1, y2, eg, fun ρ4 σ4 H4 s4 x4 o4 => ?_⟩
            have hwp : L2.wipe σ4 vs = L2.wipe σ vs := by rw [wipe_only o4 hw, wipe_idem]
            refine ⟨hwp, D :: T, ρ4, δ3, b, δ4, s4, et, fun ρ5 H5 s5 x5 => ?_⟩
            have xx : Ext (D :: T) ρ2 H2 ρ5 H5 := e2.trans (x4.trans x5)
            -- a turn's end
            have fin : ∀ (ρ6 : List (Option Addr)) (δ6 : Ds) (H6 : Hp), Sim K (D :: T) ρ6 δ6 σ4 H6 → Ext (D :: T) ρ2 H2 ρ6 H6 → noOwn vs δ6 = true →
                Sim K (D :: T) ρ6 (wipeD δ6 vs) (L2.wipe σ vs) H6 ∧ Same (hid T ρ1 H1) (hid (D :: T) ρ6 H6) ∧ (∀ a, a ∈ T → Kp (H1 a) (H6 a)) ∧ H6 D = some (.lst acc) ∧ DqAll K (hid (D :: T) ρ6 H6) acc dn := by
              intro ρ6 δ6 H6 s6 x6 n6
              have q := s6.wipe n6
              rw [hwp] at q
              exact ⟨q, sm.trans x6.same, fun a ha => (tm a ha).trans (x6.tmp a (List.mem_cons_of_mem _ ha)), x6.at List.mem_cons_self hacc, dpAllM x6.same _ hdn⟩
            cases b with
            | false =>
              refine L2.iteF ?_
              rw [if_neg Bool.false_ne_true] at hl
              split at hl
              case isFalse => cases hl
              rename_i n5
              obtain ⟨q1, q2, q3, q4, q5⟩ := fin ρ5 δ4 H5 s5 xx n5
              exact ⟨ρ5, _, acc, dn, rs, q1, q2, q3, q4, q5, hl, hout⟩
            | true =>
              refine L2.iteT ?_
              rw [if_pos rfl] at hl
              cases ei : fi1 δ4 with
              | none => rw [ei] at hl; cases hl
              | some y =>
                obtain ⟨ys, δ5⟩ := y
                rw [ei] at hl
                simp only [Option.bind_some] at hl
                split at hl
                case isFalse => cases hl
                rename_i n5
                cases er : lcD vs1 g1 tt1 te ys (wipeD δ5 vs1) with
                | none => rw [er] at hl; cases hl
                | some r =>
                  obtain ⟨o1, δ6⟩ := r
                  rw [er] at hl
                  simp only [Option.bind_some] at hl
                  split at hl
                  case isFalse => cases hl
                  rename_i n6
                  cases et2 : lcD2 vs vs1 g tt fi1 g1 tt1 te (xs.drop (i + 1)) (wipeD δ6 vs) with
                  | none => rw [et2] at hl; cases hl
                  | some q =>
                    obtain ⟨rs', δz⟩ := q
                    rw [et2] at hl
                    cases hl
                    have hlen : dn.length + o1.length ≤ sizeLine := by
                      have := hsz
                      rw [← hout, List.length_append, List.length_append] at this
                      omega
                    refine lc_in hw1 List.mem_cons_self s5 (xx.at List.mem_cons_self hacc) (dpAllM xx.same _ hdn) ei n5 er hlen fun ρ7 H7 acc7 s7 m7 t7 a7 d7 => ?_
                    have q := s7.wipe n6
                    rw [wipe_sub hv1, hwp] at q
                    exact ⟨ρ7, _, acc7, dn ++ o1, rs', q, sm.trans (xx.same.trans m7), fun a ha => by
                      have ne : a ≠ D := fun z => by
                        subst z
                        exact (s1.trk.fresh hD).1 ha
                      exact ((tm a ha).trans (xx.tmp a (List.mem_cons_of_mem _ ha))).trans (t7 a (List.mem_cons_of_mem _ ha) ne), a7, d7, et2, by rw [List.append_assoc]; exact hout⟩
      · have hd : xs.drop i = [] := List.drop_eq_nil_of_le (by omega)
        rw [hd] at hl
        cases hl
        rw [List.append_nil] at hout
        subst hout
        refine .inl ⟨(sv i (D :: T) ρ2 H2 sm s2.trk).2 (by omega), ?_⟩
        have hh : hid T ρ2 (rm H2 D) = hid (D :: T) ρ2 H2 := hid_rm
        rw [← rm_upd hacc]
        refine hq ρ2 D (rm H2 D) (.lst acc) ?_ (x1.trans ⟨by rw [hh]; exact sm, fun a ha => ?_, fun _ => tabs_rm s2.tabs (nb_of hacc)⟩) rm_self ⟨acc, rfl, by rw [hh]; exact hdn⟩
        · have lenE : δe.length = σ.length := by
            have := s2.slen
            rw [wipe_length] at this
            exact this.symm
          refine ⟨by rw [restD_len]; exact s2.len, by rw [restD_len]; exact lenE.symm, fun j u hj => ?_, fun j c hj => ?_, fun j a hj => ?_, s2.inj, fun j a hj hm => s2.nt j a hj (List.mem_cons_of_mem _ hm), fun a ha => ?_, s1.tabT, tabs_rm s2.tabs (nb_of hacc)⟩
          · by_cases hjv : j ∈ vs
            · have hjl : j < δe.length := by
                have := (List.getElem?_eq_some_iff.mp hj).1
                rw [restD_len] at this
                exact this
              rw [restD_in hjv hjl] at hj
              have hj' := slot_some (Option.some.inj hj)
              obtain ⟨v, e1, e2⟩ := s1.slot j u hj'
              refine ⟨v, e1, ?_⟩
              cases u with
              | o c => exact (notOwn_no (noOwn_mem hno hjv) hj').elim
              | d x => exact (show SV K (hid T ρ2 (rm H2 D)) v (.d x) by rw [hh]; exact svM (s := .d x) sm e2)
              | t x => exact (show SV K (hid T ρ2 (rm H2 D)) v (.t x) by rw [hh]; exact svM (s := .t x) sm e2)
              | z x => exact (show SV K (hid T ρ2 (rm H2 D)) v (.z x) by rw [hh]; exact svM (s := .z x) sm e2)
              | p x => exact (show SV K (hid T ρ2 (rm H2 D)) v (.p x) by rw [hh]; exact svM (s := .p x) sm e2)
            · rw [restD_ne hjv] at hj
              obtain ⟨v, e1, e2⟩ := s2.slot j u hj
              rw [wipe_ne hjv] at e1
              refine ⟨v, e1, ?_⟩
              cases u with
              | o c =>
                obtain ⟨b, f1, f2⟩ := s2.own j c hj
                rw [wipe_ne hjv, e1] at f2
                cases f2
                obtain ⟨a, x, z1, z2, z3⟩ := e2
                cases z1
                have ne : b ≠ D := fun z => by
                  subst z
                  exact s2.nt j b f1 List.mem_cons_self
                exact ⟨b, x, rfl, by rw [rm_ne ne]; exact z2, by rw [hh]; exact z3⟩
              | d x => exact (show SV K (hid T ρ2 (rm H2 D)) v (.d x) by rw [hh]; exact e2)
              | t x => exact (show SV K (hid T ρ2 (rm H2 D)) v (.t x) by rw [hh]; exact e2)
              | z x => exact (show SV K (hid T ρ2 (rm H2 D)) v (.z x) by rw [hh]; exact e2)
              | p x => exact (show SV K (hid T ρ2 (rm H2 D)) v (.p x) by rw [hh]; exact e2)
          · by_cases hjv : j ∈ vs
            · have hjl : j < δe.length := by
                have := (List.getElem?_eq_some_iff.mp hj).1
                rw [restD_len] at this
                exact this
              rw [restD_in hjv hjl] at hj
              exact (notOwn_no (noOwn_mem hno hjv) (slot_some (Option.some.inj hj))).elim
            · rw [restD_ne hjv] at hj
              obtain ⟨a, f1, f2⟩ := s2.own j c hj
              rw [wipe_ne hjv] at f2
              exact ⟨a, f1, f2⟩
          · obtain ⟨c, hc⟩ := s2.own' j a hj
            by_cases hjv : j ∈ vs
            · obtain ⟨b, f1, f2⟩ := s2.own j c hc
              have hjl : j < σ.length := by
                have := (List.getElem?_eq_some_iff.mp hc).1
                omega
              rw [wipe_in hjv hjl] at f2
              cases f2
            · exact ⟨c, by rw [restD_ne hjv]; exact hc⟩
          · have ne : a ≠ D := fun z => by
              subst z
              exact (s1.trk.fresh hD).1 ha
            rw [rm_ne ne]
            exact (tm a ha).nt (s1.tmp a ha)
        · have ne : a ≠ D := fun z => by
            subst z
            exact (s1.trk.fresh hD).1 ha
          rw [rm_ne ne]
          exact tm a ha

section
variable {X : Cx}
theorem de_lc2 {elt tg iter tg1 iter1 : Expr} {ifs ifs1 : List Expr} {scope : Scope} {own : List (Str × Nat)} {pos : Pos} {ws vs1 ws1 : List Nat} {fi fi1 : IEV} {g g1 : GEV} {tt tt1 : TEV} {te : EV} (hc : X.calm = true) (hN : X.N.Nodup) (hi : DI X tg iter fi) (ok : BlkOk X.N X.env.scope scope own) (hw : ∀ j ∈ ws, j ∈ own.map (·.2)) (hw1 : ∀ j ∈ ws1, j ∈ vs1) (hv1 : ∀ j ∈ vs1, j ∈ own.map (·.2))
    (hg : ∀ (s : Shared) (H : Hp) (C : Addr) (cl : List (Str × Addr)) (fp : List Addr), DG (X.blk s H scope (compEnvC scope cl C X.env) fp) ws tg g)
    (ht : ∀ (s : Shared) (H : Hp) (C : Addr) (cl : List (Str × Addr)) (fp : List Addr), DTs (X.blk s H scope (compEnvC scope cl C X.env) fp) ifs tt)
    (hi1 : ∀ (s : Shared) (H : Hp) (C : Addr) (cl : List (Str × Addr)) (fp : List Addr), DI (X.blk s H scope (compEnvC scope cl C X.env) fp) tg1 iter1 fi1)
    (hg1 : ∀ (s : Shared) (H : Hp) (C : Addr) (cl : List (Str × Addr)) (fp : List Addr), DG (X.blk s H scope (compEnvC scope cl C X.env) fp) ws1 tg1 g1)
    (ht1 : ∀ (s : Shared) (H : Hp) (C : Addr) (cl : List (Str × Addr)) (fp : List Addr), DTs (X.blk s H scope (compEnvC scope cl C X.env) fp) ifs1 tt1)
    (he : ∀ (s : Shared) (H : Hp) (C : Addr) (cl : List (Str × Addr)) (fp : List Addr), DE (X.blk s H scope (compEnvC scope cl C X.env) fp) elt te) (hs : ∀ x, foldedSetIterable iter X.env x = pure x := by intro _; rfl) (hs1 : ∀ (env : Env) x, foldedSetIterable iter1 env x = pure x := by intro _ _; rfl) :
    DE X (.ListComp elt [⟨tg, iter, ifs, 0⟩, ⟨tg1, iter1, ifs1, 0⟩] scope pos) (lc2E (own.map (·.2)) vs1 fi g tt fi1 g1 tt1 te) := pe_imp (pe_lc2 hc hN hi ok hv1 hg ht hi1 hg1 ht1 he hs hs1) (lc2_ok hw hw1 hv1)
end
end DL

namespace DL
open PySem PySem.Spec PyProof.Rows L2
variable [TB]

/-! ### tables -/
def key1 : PyData → Option Key
  | .int i => some (.inl i)
  | .str x => some (.inr x)
  | _ => none
def keyL : List PyData → Option (List Key)
  | [] => some []
  | d :: ds => (key1 d).bind fun k => (keyL ds).map fun ks => k :: ks
/-- whether it is flat, and the key -/
def keyS : S → Option (Bool × List Key)
  | .d (.tuple ds) => (keyL ds).map fun ks => (false, ks)
  | .d x => (key1 x).map fun k => (true, [k])
  | _ => none
def asTb : S → Option Tab
  | .t kvs => some kvs
  | .o (.t kvs) => some kvs
  | _ => none
theorem key1_v {K : PySem.W.Frag} {G : Hp} {v : V} {d : PyData} {k : Key} (h : Dq K G v d) (e : key1 d = some k) : v = kV k := by
  cases h with
  | int i => cases e; rfl
  | str x => cases e; rfl
  | non => cases e
  | bl b => cases e
  | lst a b => cases e
  | tup a b => cases e
  | dctE a => cases e
  | dct1 a b => cases e
theorem keyL_v {K : PySem.W.Frag} {G : Hp} : ∀ {vs : List V} {ds : List PyData} {ks : List Key}, DqAll K G vs ds → keyL ds = some ks → vs = ks.map kV
  | _, _, _, .nil, e => by cases e; rfl
  | _, _, _, .cons (d := d) (ds := ds) h t, e => by
    unfold keyL at e
    cases e1 : key1 d with
    | none => rw [e1] at e; cases e
    | some k =>
      rw [e1] at e
      simp only [Option.bind_some] at e
      cases e2 : keyL ds with
      | none => rw [e2] at e; cases e
      | some ks' =>
        rw [e2] at e
        cases e
        rw [key1_v h e1, keyL_v t e2]
        rfl
theorem at_key {K : PySem.W.Frag} {T : List Addr} {ρ : List (Option Addr)} {H : Hp} {v : V} {s : S} {f : Bool} {k : List Key} (h : At K T ρ H v s) (e : keyS s = some (f, k)) : (f = false ∧ ∃ b, v = .ref b ∧ hid T ρ H b = some (.tup (k.map kV))) ∨ (f = true ∧ ∃ x, k = [x] ∧ v = kV x) := by
  unfold keyS at e
  split at e
  · rename_i ds
    cases e1 : keyL ds with
    | none => rw [e1] at e; cases e
    | some ks =>
      rw [e1] at e
      cases e
      cases (show Dq K (hid T ρ H) v (.tuple _) from h) with
      | tup h1 h2 => exact .inl ⟨rfl, _, rfl, by rw [h1, keyL_v h2 e1]⟩
  · rename_i x _
    cases e1 : key1 x with
    | none => rw [e1] at e; cases e
    | some k1 =>
      rw [e1] at e
      cases e
      exact .inr ⟨rfl, k1, rfl, key1_v (show Dq K (hid T ρ H) v x from h) e1⟩
  · cases e
theorem at_tb {K : PySem.W.Frag} {T : List Addr} {ρ : List (Option Addr)} {H : Hp} {v : V} {s : S} {t : Tab} (h : At K T ρ H v s) (e : asTb s = some t) : ∃ a o, v = .ref a ∧ H a = some o ∧ TbO K (hid T ρ H) o t := by
  unfold asTb at e
  split at e
  · cases e
    obtain ⟨a, o, h1, h2, h3⟩ := h
    exact ⟨a, o, h1, hid_same _ _ h2, h3⟩
  · cases e
    obtain ⟨a, o, h1, h2, h3⟩ := h
    exact ⟨a, o, h1, h2, h3⟩
  · cases e
def valK (kvs : List (List Key × PyData)) (k : List Key) : Option PyData := (kvs.find? fun p => decide (p.1 = k)).map (·.2)
theorem tv_val {K : PySem.W.Frag} {G : Hp} : ∀ {ws : List (List Key × V)} {kvs : List (List Key × PyData)} {k : List Key}, TV K G ws kvs → (valV ws k = none ∧ valK kvs k = none) ∨ ∃ v d, valV ws k = some v ∧ valK kvs k = some d ∧ Dq K G v d
  | _, _, _, .nil => .inl ⟨rfl, rfl⟩
  | _, _, k, .cons (a := p) (b := q) h t => by
    have ih := tv_val (k := k) t
    unfold valV valK at *
    rw [List.find?_cons, List.find?_cons, h.1]
    cases decide (q.1 = k) with
    | true => exact .inr ⟨_, _, rfl, rfl, h.2⟩
    | false => exact ih
theorem valV_one : ∀ (ws : List (Key × V)) (k : Key), valV (ws.map fun p => ([p.1], p.2)) [k] = valV ws k
  | [], _ => rfl
  | p :: ws, k => by
    have ih := valV_one ws k
    unfold valV at *
    rw [List.map_cons, List.find?_cons, List.find?_cons]
    have e : decide ([p.1] = [k]) = decide (p.1 = k) := by
      by_cases h : p.1 = k
      · rw [h, decide_eq_true rfl, decide_eq_true rfl]
      · rw [decide_eq_false h, decide_eq_false (fun z => h (List.cons.inj z).1)]
    rw [e]
    cases decide (p.1 = k) with
    | true => rfl
    | false => exact ih
/-- what a table holds at a key -/
theorem tb_get {K : PySem.W.Frag} {T : List Addr} {ρ : List (Option Addr)} {H : Hp} {x y : V} {a b : S} {k : List Key} {t : Tab} (ha : At K T ρ H x a) (hb : At K T ρ H y b) (e1 : keyS a = some (t.fl, k)) (e2 : asTb b = some t) :
    ∃ c r, y = .ref c ∧ DGet H c x r ∧ ((r = none ∧ valK t.kvs k = none) ∨ ∃ v d, r = some v ∧ valK t.kvs k = some d ∧ Dq K (hid T ρ H) v d) := by
  obtain ⟨c, o, rfl, hc, to⟩ := at_tb hb e2
  rcases to with ⟨f, ws, rfl, tv⟩ | ⟨f, ws, rfl, tv⟩
  · rcases at_key ha e1 with ⟨_, p, rfl, hp⟩ | ⟨f', _⟩
    · exact ⟨c, valV ws k, rfl, .inr ⟨ws, k, p, .inl hc, rfl, hid_same _ _ hp, rfl⟩, tv_val tv⟩
    · rw [f] at f'; cases f'
  · rcases at_key ha e1 with ⟨f', _⟩ | ⟨_, k1, rfl, rfl⟩
    · rw [f] at f'; cases f'
    · refine ⟨c, valV ws k1, rfl, .inl ⟨ws, k1, .inl hc, rfl, rfl⟩, ?_⟩
      rw [← valV_one ws k1]
      exact tv_val tv
def opInT (neg : Bool) (a b : S) : Option S := (keyS a).bind fun k => (asTb b).bind fun t => if k.1 = t.fl then some (.d (.bool (xor neg (valK t.kvs k.2).isSome))) else none
def rDIn (neg : Bool) : R2 := fun y x H Q => ∃ a o, x = .ref a ∧ DGet H a y o ∧ Q (.bl (xor neg o.isSome)) H
theorem od_inT {K : PySem.W.Frag} {neg : Bool} : OpD K (rDIn neg) (opInT neg) := fun T ρ H x y a b s Q k ha hb hg hq => by
  unfold opInT at hg
  cases e1 : keyS a with
  | none => rw [e1] at hg; cases hg
  | some ks =>
    rw [e1] at hg
    simp only [Option.bind_some] at hg
    cases e2 : asTb b with
    | none => rw [e2] at hg; cases hg
    | some t =>
      rw [e2] at hg
      simp only [Option.bind_some] at hg
      split at hg
      case isFalse => cases hg
      rename_i hf
      cases hg
      obtain ⟨c, r, rfl, g, hr⟩ := tb_get ha hb (k := ks.2) (by rw [← hf]; exact e1) e2
      refine ⟨c, r, rfl, g, ?_⟩
      rcases hr with ⟨rfl, hk⟩ | ⟨v, d, rfl, hk, _⟩ <;> rw [hk] at hq <;> exact postO_same hq (.bl _)
/-! either rule of two -/
theorem pe_or2 {X : Cx} {e : Expr} {t t' : TE} (p : PE X e t) (p' : PE X e t') : PE X e (fun σ H Q => t σ H Q ∨ t' σ H Q) := ⟨fun pins s σ H Q I h => h.elim (p.run pins s σ H Q I) (p'.run pins s σ H Q I)⟩
def opInX (neg : Bool) (a b : S) : Option S := match opInT neg a b with
  | some z => some z
  | none => opIn neg a b
theorem bin_x {g g' : S → S → Option S} {fa fb : PEV} {δ : Ds} {r : S × Ds} (h : bin (fun a b => match g a b with | some z => some z | none => g' a b) fa fb δ = some r) : bin g fa fb δ = some r ∨ bin g' fa fb δ = some r := by
  unfold bin at *
  cases ea : fa δ with
  | none => rw [ea] at h; cases h
  | some x =>
    rw [ea] at h
    simp only [Option.bind_some] at *
    cases eb : fb x.2 with
    | none => rw [eb] at h; cases h
    | some y =>
      rw [eb] at h
      simp only [Option.bind_some] at *
      cases e1 : res y.2 x.1 with
      | none => rw [e1] at h; cases h
      | some u =>
        rw [e1] at h
        simp only [Option.bind_some] at *
        cases e2 : res y.2 y.1 with
        | none => rw [e2] at h; cases h
        | some w =>
          rw [e2] at h
          simp only [Option.bind_some] at *
          cases e3 : g u w with
          | none => rw [e3] at h; exact .inr h
          | some z => rw [e3] at h; exact .inl h
theorem lift_x {K : PySem.W.Frag} {g g' : S → S → Option S} {fa fb : PEV} {σ : L2.St} {H : Hp} {Q : VK} (h : lift K (bin (fun a b => match g a b with | some z => some z | none => g' a b) fa fb) σ H Q) : lift K (bin g fa fb) σ H Q ∨ lift K (bin g' fa fb) σ H Q := by
  obtain ⟨T, ρ, δ, s, δ', hs, hf, hq⟩ := h
  exact (bin_x hf).elim (fun e => .inl ⟨T, ρ, δ, s, δ', hs, e, hq⟩) fun e => .inr ⟨T, ρ, δ, s, δ', hs, e, hq⟩
section
variable {X : Cx} {a b : Expr} {pos : Pos} {fp fq : PEV} {k : Nat}
theorem de_inT (hr : Room k X.A) (ha : DP X a fp) (hb : DP X b fq) (hm : behindInMarks .In b = false := by rfl) : DE X (.Compare a [.In] [b] pos) (bin (opInT false) fp fq) :=
  pe_imp (pe_cmp (pc_din (by have := hr.un; omega) ha hb) hm) fun σ H Q h => by
    have q := bin_ok (r := rDIn false) (X := X) od_inT σ H Q h
    simp only [tOp, rDIn, Bool.false_xor] at q
    exact q
theorem de_inX (hr : Room k X.A) (ha : DP X a fp) (hb : DP X b fq) (hm : behindInMarks .In b = false := by rfl) : DE X (.Compare a [.In] [b] pos) (bin (opInX false) fp fq) :=
  pe_imp (pe_or2 (de_inT hr ha hb hm) (de_in hr ha hb hm)) fun σ H Q h => lift_x h
theorem de_notInT (hr : Room k X.A) (ha : DP X a fp) (hb : DP X b fq) (hm : behindInMarks .NotIn b = false := by rfl) : DE X (.Compare a [.NotIn] [b] pos) (bin (opInT true) fp fq) :=
  pe_imp (pe_cmp (pc_dnotin (by have := hr.un; omega) ha hb) hm) fun σ H Q h => by
    have q := bin_ok (r := rDIn true) (X := X) od_inT σ H Q h
    simp only [tOp, rDIn, Bool.true_xor] at q
    exact q
theorem de_notInX (hr : Room k X.A) (ha : DP X a fp) (hb : DP X b fq) (hm : behindInMarks .NotIn b = false := by rfl) : DE X (.Compare a [.NotIn] [b] pos) (bin (opInX true) fp fq) :=
  pe_imp (pe_or2 (de_notInT hr ha hb hm) (de_notIn hr ha hb hm)) fun σ H Q h => lift_x h
theorem pt_or2 {e : Expr} {t t' : TT} (p : PT X e t) (p' : PT X e t') : PT X e (fun σ H Q => t σ H Q ∨ t' σ H Q) := ⟨fun pins s σ H Q I h => h.elim (p.run pins s σ H Q I) (p'.run pins s σ H Q I)⟩
theorem dt_inX (hr : Room k X.A) (ha : DP X a fp) (hb : DP X b fq) (hm : behindInMarks .In b = false := by rfl) : DT X (.Compare a [.In] [b] pos) (bl (bin (opInX false) fp fq)) :=
  pt_imp (pt_or2 (pt_cmp (pc_din (by have := hr.un; omega) ha hb) hm) (pt_cmpR (or_in (by have := hr.un; omega)) ha hb hm)) fun σ H Q h => by
    have q := bl_ok σ H Q h
    rcases lift_x q with q | q
    · have q := bin_ok (r := rDIn false) (X := X) od_inT σ H _ q
      simp only [tOp, rDIn, Bool.false_xor] at q
      exact .inl q
    · exact .inr (bin_ok (X := X) od_in σ H _ q)
theorem dt_notInX (hr : Room k X.A) (ha : DP X a fp) (hb : DP X b fq) (hm : behindInMarks .NotIn b = false := by rfl) : DT X (.Compare a [.NotIn] [b] pos) (bl (bin (opInX true) fp fq)) :=
  pt_imp (pt_or2 (pt_cmp (pc_dnotin (by have := hr.un; omega) ha hb) hm) (pt_cmpR (or_notIn (by have := hr.un; omega)) ha hb hm)) fun σ H Q h => by
    have q := bl_ok σ H Q h
    rcases lift_x q with q | q
    · have q := bin_ok (r := rDIn true) (X := X) od_inT σ H _ q
      simp only [tOp, rDIn, Bool.true_xor] at q
      exact .inl q
    · exact .inr (bin_ok (X := X) od_in σ H _ q)
end
end DL

namespace DL
open PySem PySem.Spec PyProof.Rows L2
variable [TB]

section
variable {X : Cx} {a b e : Expr} {es : List Expr} {pos p : Pos} {fa fb : PEV} {fs : AEV}
/-! x.bit_length() -/
theorem de_bits {apos : Pos} (ha : DP X a fa) (hbase : attributeBase a "bit_length" X.env (eval a X.env) = eval a X.env := by rfl) (hline : (apos.endLine == pos.line) = true := by rfl) :
    DE X (.Call (.Attribute a "bit_length" apos) [] [] pos) (unI fa fun i => (Builtin.Int.intBits i : Nat)) := pe_imp (pe_bits ha hbase hline) fun σ H Q ⟨T, ρ, δ, s, δ', hs, hf, hq⟩ => by
  unfold unI at hf
  cases e1 : fa δ with
  | none => rw [e1] at hf; cases hf
  | some x =>
    rw [e1] at hf
    simp only [Option.bind_some] at hf
    cases e2 : res x.2 x.1 with
    | none => rw [e2] at hf; cases hf
    | some u =>
      rw [e2] at hf
      simp only [Option.bind_some] at hf
      cases e3 : asI u with
      | none => rw [e3] at hf; cases hf
      | some i =>
        rw [e3] at hf
        cases hf
        refine ⟨T, ρ, δ, x.1, x.2, hs, by rw [e1], fun ρ1 v H1 s1 x1 p1 => ?_⟩
        exact ⟨i, at_I (pat_at s1 .refl p1 e2) e3, hq ρ1 _ H1 s1 x1 (.int _)⟩
/-! << -/
def iShl (i j : Int) : Option Int := if 0 ≤ j ∧ (Builtin.Int.intBits i : Int) + j ≤ 2 ^ 27 then some (i * 2 ^ j.toNat) else none
theorem de_shl (ha : DP X a fa) (hb : DP X b fb) : DE X (.BinOp a .LShift b pos) (bin (opI2 iShl) fa fb) := de_op op_shlW (od_I fun i j z h => by
  unfold iShl at h
  split at h
  · rename_i hc
    exact ⟨hc, Option.some.inj h⟩
  · cases h) ha hb
/-! repr, of numbers too -/
def fReprX : List S → Option S
  | [.d (.int i)] => if i.natAbs.log2 < 1920 then some (.d (.str (toString i))) else none
  | ss => fRepr ss
theorem cd_reprX {K : PySem.W.Frag} : CallD K (fun vs H Q => (∃ i, vs = [.int i] ∧ i.natAbs.log2 < 1920 ∧ Q (.str (toString i)) H) ∨ rRepr K vs H Q) fReprX := fun T ρ H vs ss s Q k hp hg hq => by
  unfold fReprX at hg
  split at hg
  · rename_i i
    split at hg
    · rename_i hc
      cases hg
      obtain ⟨v, rfl, h⟩ := paired1 hp
      exact .inl ⟨i, by rw [at_I h rfl], hc, postO_same hq (.str _)⟩
    · cases hg
  · exact .inr (cd_repr T ρ H vs ss s Q k hp hg hq)
theorem de_reprX {k : Nat} (hG : X.A.guards = some []) (hr : Room k X.A) (hm : X.mg "repr" = none) (hg : Gl X "repr") (ha : DA X (e :: es) fs) (he : starEach (e :: es) X.env = (false, eval e X.env) :: starEach es X.env := by rfl) (hpl : (backTo pos (starEach es X.env)).any (·.1) = false := by rfl) : DE X (.Call (.Name "repr" p) (e :: es) [] pos) (callB fReprX fs) :=
  de_callB (callr_or SkE.call_repr_int (cr_repr hG hr.units)) cd_reprX hg hm (by decide +kernel) ha (by decide) (by decide) he hpl
end
/-! a while, seen from the data -/
theorem whD_t {t : TEV} {body : SEV} {n : Nat} {δ δ1 δ2 : Ds} {o : Out} (h : t δ = some (true, δ1)) (k : body δ1 = some (.nx δ2)) (l : whD t body n δ2 = some o) : whD t body (n + 1) δ = some o := by
  unfold whD; rw [h]; simp only [Option.bind_some, if_true]; rw [k]; exact l
theorem whD_f {t : TEV} {body : SEV} {n : Nat} {δ δ1 : Ds} (h : t δ = some (false, δ1)) : whD t body (n + 1) δ = some (.nx δ1) := by
  unfold whD; rw [h]; rfl
theorem iShl_ok {i j : Int} {a : Nat} (ha : i.natAbs < 2 ^ a) (h0 : 0 < a) (hj : 0 ≤ j) (hs : (a : Int) + j ≤ 2 ^ 27) : iShl i j = some (i * 2 ^ j.toNat) := by
  unfold iShl
  refine if_pos ⟨hj, ?_⟩
  have := bits_le ha h0
  omega
theorem unI_of {f : PEV} {g : Int → Int} {δ δ1 : Ds} {i : Int} (h : f δ = some (.v (.d (.int i)), δ1)) : unI f g δ = some (.d (.int (g i)), δ1) := by
  unfold unI; rw [h]; rfl
end DL

namespace DL
open PySem PySem.Spec PyProof.Rows L2
variable [TB]

/-! ### {k: v for ..}, a table of whichever kind of key -/
theorem dset_put {X : Cx} {pins : List (Addr × Obj)} {σ : L2.St} {G G' : Hp} {s : Shared} {E : Value → Shared → Prop} {D : Addr} {y v : V} {u r : Value} {Q : Unit → Shared → Prop} (hu : X.A.units + 1 < cLine) (I : Inv X pins σ G s) (p : DPut G D y v G') (ry : RelV y u) (rv : RelV v r)
    (h : ∀ s', Inv X pins σ G' s' → Q () s') : wpAny (model X.prog X.w) X.A (dictSet D u r) Q E s := by
  rcases p with ⟨kvs, k, e, rfl, l, rfl⟩ | ⟨kvs, k, b, e, rfl, eb, l, rfl⟩
  · exact d_dictSet I e l ry rv h
  · cases (show u = Value.ref b from ry)
    obtain ⟨lz, nm, xs, kt, dd⟩ := dt_of I.hok e
    have lx : xs.length ≤ sizeLine := Paired.length kt ▸ lz
    refine wpAny_dictSet_heap (hsz := lx) (show X.A.units < cLine by omega) (key_of I.hok eb) dd fun g' d' sb => h _ ?_
    obtain ⟨ob, es, ep, g1, g2, g3, g4, _, g5⟩ := d'
    have lp : (putK kvs k v).length ≤ sizeLine := Nat.le_trans (length_putK kvs k v) l
    have same : ∀ c ys, G c = some (.tup ys) → upd G D (.dT (putK kvs k v)) c = some (.tup ys) := fun c ys ec => (upd_ne (ne_of ec e (fun z => nomatch z))).trans ec
    exact d_write I (by rw [e]; trivial) sb ⟨ob, g1⟩ ⟨lp, nm, _, (kt.put k eb rv).keeps same, ob, es, ep, g1, g2, g3, g4, g5⟩
def tGd (o0 : HO) (wi : TI) (g : TG) (tt : TT) (tk tv : TE) (vs : List Nat) : TE := fun σ H Q => wi σ H fun J H1 => ∀ D, H1 D = none →
  ∃ W : Nat → Nat → Hp → Prop, (∃ m, W 0 m (upd H1 D o0)) ∧ ∀ i m G, W i m G → (J.stop i G ∧ Q (.ref D) G) ∨
    (J.go i G ∧ ∃ N : Hp → Prop, (∀ G', N G' → ∃ m', m' < m ∧ W (i + 1) m' G') ∧ ∀ x G', J.yld i G x G' → g x (L2.wipe σ vs) G' fun σ2 G2 => L2.wipe σ2 vs = L2.wipe σ vs ∧
      tt σ2 G2 fun b G3 => if b = true then tk σ2 G3 fun y G4 => tv σ2 G4 fun z G5 => ∃ G6, DPut G5 D y z G6 ∧ N G6 else N G3)
def NewOk (X : Cx) (o0 : HO) : Prop := ∀ (h : Heap) (G : Hp), sysModules < h.objs.size → ObjOk X.prog X.w G (h.push { cls := .type "dict", data := .dict #[] }) h.objs.size o0
theorem newT {X : Cx} : NewOk X (.dT []) := fun h _ hb => dt_empty h hb
theorem newK {X : Cx} : NewOk X (.dK []) := fun h _ hb => dk_empty h hb
section
variable {X : Cx} {kx vx tg iter : Expr} {ifs : List Expr} {scope : Scope} {own : List (Str × Nat)} {pos : Pos} {wi : TI} {g : TG} {tt : TT} {tk tv : TE} {o0 : HO}
/-- all turns of the block -/
theorem gd_turns {s0 : Shared} {H0 : Hp} {ce : Env} {fp : List Addr} {it D : Addr} {tn : Nat → Heap → Prop} {J : It} {W : Nat → Nat → Hp → Prop} {σ : L2.St} {vs : List Nat} {Q : Hp → Prop} {R : Result → Shared → Prop} (hu : X.A.units + 1 < cLine) (hc : X.calm = true) (T : Turn X.prog X.w X.K tg J fp it tn)
    (pg : PG (X.blk s0 H0 scope ce fp) tg g) (pt : PTs (X.blk s0 H0 scope ce fp) ifs tt) (pk : PE (X.blk s0 H0 scope ce fp) kx tk) (pe : PE (X.blk s0 H0 scope ce fp) vx tv)
    (turn : ∀ i m G, W i m G → (J.stop i G ∧ Q G) ∨ (J.go i G ∧ ∃ N : Hp → Prop, (∀ G', N G' → ∃ m', m' < m ∧ W (i + 1) m' G') ∧ ∀ x G', J.yld i G x G' → g x (L2.wipe σ vs) G' fun σ2 G2 => L2.wipe σ2 vs = L2.wipe σ vs ∧
      tt σ2 G2 fun b G3 => if b = true then tk σ2 G3 fun y G4 => tv σ2 G4 fun z G5 => ∃ G6, DPut G5 D y z G6 ∧ N G6 else N G3))
    (fin : ∀ G s', Inv (X.blk s0 H0 scope ce fp) [] (L2.wipe σ vs) G s' → Q G → R (.ok .next) s') {s : Shared} {m0 : Nat} {G0 : Hp} (I0 : Inv (X.blk s0 H0 scope ce fp) [] (L2.wipe σ vs) G0 s) (t0 : tn 0 s.heap) (n0 : ∀ b ∈ fp, G0 b = none) (w0 : W 0 m0 G0) :
    codeAny (model X.prog X.w) X.A (.compLoop (.DictComp kx vx [⟨tg, iter, ifs, 0⟩] scope pos) 0 (.ref it) (.ref D) ce) R s := by
  have hst : ∀ {σ' : L2.St} {G : Hp} {s' : Shared}, Inv (X.blk s0 H0 scope ce fp) [] σ' G s' → (∀ b ∈ fp, G b = none) → ∀ b ∈ fp, FpOk (X.blk s0 H0 scope ce fp) [] G b := fun {σ' G s'} I' hn b hb =>
    ⟨hn b hb, (I'.ok.exf b hb).1, I'.ok.exfs b hb, .inl hb, fun x c e => (I'.ok.exf b hb).2 x c e, fun p hp => by
      have hp' : p ∈ ([] : List (Addr × Obj)) ++ [] := hp
      simp at hp'⟩
  let L : Nat → Shared → Prop := fun n s' => ∃ i G, Inv (X.blk s0 H0 scope ce fp) [] (L2.wipe σ vs) G s' ∧ tn i s'.heap ∧ (∀ b ∈ fp, G b = none) ∧ W i n G
  refine compLoop_anyD L (fun n s1 hL => ?_) m0 ⟨0, G0, I0, t0, n0, w0⟩
  obtain ⟨i, G1, I1, t1, n1, w1⟩ := hL
  rcases turn i n G1 w1 with ⟨hs, q⟩ | ⟨hg, N, down, each⟩
  · refine thnF (T.done (X.blk s0 H0 scope ce fp) rfl rfl rfl hc i [] s1 _ G1 (fun _ _ => False) I1 (hst I1 n1) t1 hs) fun r s2 ⟨er, I2⟩ => ?_
    subst er
    exact fin G1 s2 I2 q
  · refine thnF (T.item (X.blk s0 H0 scope ce fp) rfl rfl rfl hc i [] s1 _ G1 (fun _ _ => False) I1 (hst I1 n1) t1 hg) fun r s2 ⟨u, er, h2⟩ => ?_
    subst er
    refine thnF h2 fun _ s3 ⟨x, G3, I3, r3, y3, t3, n3⟩ => ?_
    -- what a turn leaves
    have leave : ∀ {σ4 : L2.St} {s' : Shared} {G' : Hp}, L2.wipe σ4 vs = L2.wipe σ vs → Inv (X.blk s0 H0 scope ce fp) ([] ++ pinsAt fp s3.heap) σ4 G' s' → N G' → ∃ m, m < n ∧ L m s' := fun {σ4 s' G'} ew I' hN => by
      obtain ⟨m', lt, w'⟩ := down G' hN
      have held : ∀ b ∈ fp, ∀ o, s3.heap.get? b = some o → s'.heap.get? b = some o ∧ G' b = none := fun b hb o e => by
        have z := I'.pin (b, o) (List.mem_append_right _ (List.mem_append_right _ (mem_pinsAt hb e)))
        exact ⟨z.1, z.2.1⟩
      have len : (L2.wipe σ vs).length = σ4.length := by rw [← ew, wipe_length]
      have I5 : Inv (X.blk s0 H0 scope ce fp) [] (L2.wipe σ vs) G' s' := (I'.unpinned (pins := [])).weak len fun j v e => (wipe_some (by rw [ew]; exact e)).1
      refine ⟨m', lt, i + 1, G', I5, T.keep _ _ _ t3 fun b hb o e => (held b hb o e).1, fun b hb => ?_, w'⟩
      obtain ⟨o, e, _⟩ := T.obj _ _ t3 b hb
      exact (held b hb o e).2
    refine thnF (pg.run _ s3 _ G3 x u _ (I3.pinned (hst I3 n3) (T.obj _ _ t3)) r3 (each x G3 y3)) fun _ s4 ⟨σ4, G4, I4, ew, q4⟩ => ?_
    refine thnF (pt.run _ s4 σ4 G4 _ I4 q4) fun b s5 ⟨G5, I5, q5⟩ => ?_
    cases b with
    | false => exact leave ew I5 q5
    | true =>
      refine thnF (pk.run _ s5 σ4 G5 _ I5 q5) fun kv s6 ⟨yk, G6, I6, r6, q6⟩ => ?_
      refine thnF (pe.run _ s6 σ4 G6 _ I6 q6) fun vv s7 ⟨yv, G7, I7, r7, G8, hp, hN⟩ => ?_
      exact dset_put (X := X.blk s0 H0 scope ce fp) hu I7 hp r6 r7 fun s8 I8 => leave ew I8 hN
theorem pe_gd (hnew : NewOk X o0) (hu : X.A.units + 1 < cLine) (hc : X.calm = true) (hN : X.N.Nodup) (hi : PI X tg iter wi) (ok : BlkOk X.N X.env.scope scope own)
    (hg : ∀ (s : Shared) (G : Hp) (C : Addr) (cl : List (Str × Addr)) (fp : List Addr), PG (X.blk s G scope (compEnvC scope cl C X.env) fp) tg g) (ht : ∀ (s : Shared) (G : Hp) (C : Addr) (cl : List (Str × Addr)) (fp : List Addr), PTs (X.blk s G scope (compEnvC scope cl C X.env) fp) ifs tt)
    (hk : ∀ (s : Shared) (G : Hp) (C : Addr) (cl : List (Str × Addr)) (fp : List Addr), PE (X.blk s G scope (compEnvC scope cl C X.env) fp) kx tk)
    (he : ∀ (s : Shared) (G : Hp) (C : Addr) (cl : List (Str × Addr)) (fp : List Addr), PE (X.blk s G scope (compEnvC scope cl C X.env) fp) vx tv) (hs : ∀ x, foldedSetIterable iter X.env x = pure x := by intro _; rfl) :
    PE X (.DictComp kx vx [⟨tg, iter, ifs, 0⟩] scope pos) (tGd o0 wi g tt tk tv (own.map (·.2))) := ⟨fun pins s σ H Q I h => by
  rw [arm_eval_DictComp]
  have cells : ∀ y ∈ scope.names, y.2 = .free → ∃ c, X.env.cells.lookup y.1 = some c := fun y hy e => (ok.free y hy e).elim (fun k => I.ok.has _ (.inl k)) fun k => I.ok.has _ (.inr k)
  refine wpAny_comprehension_free (use := none) rfl hs (closure_ok cells) ok.kind (fun y hy e => (ok.uniq y hy).trans (congrArg some e)) (thn (hi.run pins s σ H _ I h) fun xv s1 hx => thn hx fun itv s2 hy => ?_)
  obtain ⟨it, fp, tn, J, G2, rfl, I2, T, t2, f2, q⟩ := hy
  obtain ⟨W, ⟨m0, w0⟩, turn⟩ := q s2.heap.objs.size (I2.hok.fresh (Nat.le_refl _))
  have I3 : Inv X pins σ (upd G2 s2.heap.objs.size o0) { s2 with heap := s2.heap.push { cls := .type "dict", data := .dict #[] } } :=
    I2.laid (t' := s2.toks) (fun b o e => Heap.get?_push_of_some _ e) (Nat.le_refl _) (hnew s2.heap _ I2.big)
  have f3 : ∀ b ∈ fp, FpOk X pins (upd G2 s2.heap.objs.size o0) b ∧ b < (s2.heap.push { cls := .type "dict", data := .dict #[] }).objs.size := fun b hb => by
    obtain ⟨o, e, _⟩ := T.obj _ _ t2 b hb
    have lt : b < s2.heap.objs.size := Heap.lt_size e
    refine ⟨⟨(upd_ne (Nat.ne_of_lt lt)).trans (f2 b hb).1, (f2 b hb).2⟩, ?_⟩
    rw [Heap.size_push]
    exact Nat.lt_succ_of_lt lt
  have t3 : tn 0 (s2.heap.push { cls := .type "dict", data := .dict #[] }) := T.keep _ _ _ t2 fun b _ o e => Heap.get?_push_of_some _ e
  have I4 := block_start I3 ok hN f3
  have t4 := T.keep _ _ (pushCells ((s2.heap.push { cls := .type "dict", data := .dict #[] }).push { cls := .type "dict", data := .dict #[] }) scope.names) t3 fun b _ o e => pushCells_keeps _ _ _ _ (Heap.get?_push_of_some _ e)
  refine wpAny_newObj_type (newEnv_comp ?_)
  have all := gd_turns (X := X) (pos := pos) (iter := iter) (R := compPost (model X.prog X.w) X.A X.xe none (fun v s' => ∃ x G', Inv X pins σ G' s' ∧ RelV x v ∧ Q x G') (.ref s2.heap.objs.size) (s2.heap.push { cls := .type "dict", data := .dict #[] }).objs.size) (Q := fun G => Q (.ref s2.heap.objs.size) G) hu hc T (hg _ _ _ _ _) (ht _ _ _ _ _) (hk _ _ _ _ _) (he _ _ _ _ _) turn (fun G s' J' hq => by
    have J1 : Inv X pins σ G s' := I3.call' (ch := fp) J'.os J'.base J'.hok J'.bare fun b hb => ⟨(f3 b hb).1.2.2.2.1, (f3 b hb).1.2.1, (f3 b hb).1.2.2.2.2.1, (f3 b hb).1.2.2.2.2.2⟩
    have free : G (s2.heap.push { cls := .type "dict", data := .dict #[] }).objs.size = none := J'.free
    obtain ⟨m, ns, _⟩ := J'.loc
    obtain ⟨a0, a1, a2, a3, a4, a5⟩ := I3.fpOk (Nat.le_refl _) free
    exact ⟨m, ns, fun h'' sb => ⟨.ref s2.heap.objs.size, G, J1.turned (t' := s'.toks) (fun b o hb e => (sb.2 b hb).trans e) a0 a1 a3 a4 a5, rfl, hq⟩⟩) I4 t4 (fun b hb => (f3 b hb).1.1) w0
  exact codeAny_compStart_dict all (T.self X.A 0 _ _ _ t4 all)⟩
end
end DL

namespace DL
open PySem PySem.Spec PyProof.Rows L2
variable [TB]

/-! ### {k: v for ..}, seen from the data -/
def putD (kvs : List (List Key × PyData)) (k : List Key) (d : PyData) : List (List Key × PyData) :=
  if (kvs.any fun p => decide (p.1 = k)) = true then kvs.map (fun p => if p.1 = k then (p.1, d) else p) else kvs ++ [(k, d)]
theorem putD_len (kvs : List (List Key × PyData)) (k : List Key) (d : PyData) : (putD kvs k d).length ≤ kvs.length + 1 := by
  unfold putD
  split
  · rw [List.length_map]; omega
  · rw [List.length_append]; exact Nat.le_refl _
section
variable {K : PySem.W.Frag} {G : Hp}
theorem tv_any : ∀ {ws : List (List Key × V)} {kvs : List (List Key × PyData)} {k : List Key}, TV K G ws kvs → (ws.any fun p => decide (p.1 = k)) = (kvs.any fun p => decide (p.1 = k))
  | _, _, _, .nil => rfl
  | _, _, k, .cons (a := p) (b := q) h t => by
    rw [List.any_cons, List.any_cons, h.1, tv_any t]
theorem tv_map {k : List Key} {v : V} {d : PyData} (hv : Dq K G v d) : ∀ {ws : List (List Key × V)} {kvs : List (List Key × PyData)}, TV K G ws kvs → TV K G (ws.map fun p => if p.1 = k then (p.1, v) else p) (kvs.map fun p => if p.1 = k then (p.1, d) else p)
  | _, _, .nil => .nil
  | _, _, .cons (a := p) (b := q) h t => by
    refine .cons ?_ (tv_map hv t)
    show (if p.1 = k then (p.1, v) else p).1 = (if q.1 = k then (q.1, d) else q).1 ∧ Dq K G (if p.1 = k then (p.1, v) else p).2 (if q.1 = k then (q.1, d) else q).2
    by_cases e : q.1 = k
    · rw [if_pos e, if_pos (h.1.trans e)]
      exact ⟨h.1, hv⟩
    · rw [if_neg e, if_neg (fun z => e (h.1.symm.trans z))]
      exact h
theorem tv_put {ws : List (List Key × V)} {kvs : List (List Key × PyData)} {k : List Key} {v : V} {d : PyData} (h : TV K G ws kvs) (hv : Dq K G v d) : TV K G (putK ws k v) (putD kvs k d) := by
  unfold putK putD
  rw [tv_any h]
  split
  · exact tv_map hv h
  · exact Paired.snoc h ⟨rfl, hv⟩
theorem put_one (ws : List (Key × V)) (k : Key) (v : V) : (putK ws k v).map (fun p => ([p.1], p.2)) = putK (ws.map fun p => ([p.1], p.2)) [k] v := by
  have e : ∀ p : Key × V, decide ([p.1] = [k]) = decide (p.1 = k) := fun p => by
    by_cases h : p.1 = k
    · rw [h, decide_eq_true rfl, decide_eq_true rfl]
    · rw [decide_eq_false h, decide_eq_false (fun z => h (List.cons.inj z).1)]
  unfold putK
  rw [List.any_map]
  have ea : (ws.any fun kv => decide (kv.1 = k)) = ws.any ((fun kv => decide (kv.1 = [k])) ∘ fun p : Key × V => ([p.1], p.2)) := by
    congr 1
    funext p
    exact (e p).symm
  rw [ea]
  split
  · rw [List.map_map, List.map_map]
    congr 1
    funext p
    show _ = if [p.1] = [k] then _ else _
    by_cases h : p.1 = k
    · rw [if_pos (show [p.1] = [k] by rw [h])]
      show ((fun q : Key × V => ([q.1], q.2)) (if p.1 = k then (p.1, v) else p)) = _
      rw [if_pos h]
    · rw [if_neg (fun z => h (List.cons.inj z).1)]
      show ((fun q : Key × V => ([q.1], q.2)) (if p.1 = k then (p.1, v) else p)) = _
      rw [if_neg h]
  · rw [List.map_append]
    rfl
theorem tbo_len {o : HO} {t : Tab} (h : TbO K G o t) : (∃ ws, o = .dT ws ∧ ws.length = t.kvs.length) ∨ ∃ ws, o = .dK ws ∧ ws.length = t.kvs.length := by
  rcases h with ⟨_, ws, rfl, tv⟩ | ⟨_, ws, rfl, tv⟩
  · exact .inl ⟨ws, rfl, Paired.length tv⟩
  · refine .inr ⟨ws, rfl, ?_⟩
    have := Paired.length tv
    rw [List.length_map] at this
    exact this
end
section
variable {K : PySem.W.Frag} {T : List Addr} {ρ : List (Option Addr)} {H : Hp}
/-- a table is written at a key: the new object -/
theorem tb_put {D : Addr} {o : HO} {t : Tab} {x v : V} {a : S} {k : List Key} {d : PyData} (hx : At K T ρ H x a) (e1 : keyS a = some (t.fl, k)) (hD : H D = some o) (ht : TbO K (hid T ρ H) o t) (hv : Dq K (hid T ρ H) v d) (hl : t.kvs.length < sizeLine) :
    ∃ o', DPut H D x v (upd H D o') ∧ TbO K (hid T ρ H) o' ⟨t.fl, putD t.kvs k d⟩ := by
  rcases ht with ⟨f, ws, rfl, tv⟩ | ⟨f, ws, rfl, tv⟩
  · rcases at_key hx e1 with ⟨_, p, rfl, hp⟩ | ⟨f', _⟩
    · exact ⟨.dT (putK ws k v), DPut.t hD (hid_same _ _ hp) (by rw [Paired.length tv]; exact hl), .inl ⟨f, _, rfl, tv_put tv hv⟩⟩
    · rw [f] at f'; cases f'
  · rcases at_key hx e1 with ⟨f', _⟩ | ⟨_, k1, rfl, rfl⟩
    · rw [f] at f'; cases f'
    · refine ⟨.dK (putK ws k1 v), DPut.k hD ?_, .inr ⟨f, _, rfl, ?_⟩⟩
      · have := Paired.length tv
        rw [List.length_map] at this
        omega
      · rw [put_one]
        exact tv_put tv hv
end
def oNew (fl : Bool) : HO := if fl then .dK [] else .dT []
theorem newOk {X : Cx} (fl : Bool) : NewOk X (oNew fl) := by
  cases fl
  · exact newT
  · exact newK
theorem tbo_new {K : PySem.W.Frag} {G : Hp} (fl : Bool) : TbO K G (oNew fl) ⟨fl, []⟩ := by
  cases fl
  · exact .inl ⟨rfl, [], rfl, .nil⟩
  · exact .inr ⟨rfl, [], rfl, .nil⟩
def dcD (fl : Bool) (vs : List Nat) (g : GEV) (tt : TEV) (tk tv : EV) : List PyData → List (List Key × PyData) → Ds → Option (List (List Key × PyData) × Ds)
  | [], acc, δ => some (acc, δ)
  | x :: xs, acc, δ => (g x δ).bind fun δ1 => (tt δ1).bind fun b =>
    if b.1 then (tk b.2).bind fun y => match y.1 with
      | .d yk => (tv y.2).bind fun z => match frz z.1, keyS (.d yk) with
        | .d d, some (f, k) => if f = fl ∧ noOwn vs z.2 = true ∧ acc.length < sizeLine then dcD fl vs g tt tk tv xs (putD acc k d) (wipeD z.2 vs) else none
        | _, _ => none
      | _ => none
    else if noOwn vs b.2 then dcD fl vs g tt tk tv xs acc (wipeD b.2 vs) else none
def dcE (fl : Bool) (vs : List Nat) (fi : IEV) (g : GEV) (tt : TEV) (tk tv : EV) : EV := fun δ => (fi δ).bind fun x =>
  if noOwn vs x.2 then (dcD fl vs g tt tk tv x.1 [] (wipeD x.2 vs)).map fun r => (.o (.t ⟨fl, r.1⟩), restD x.2 r.2 vs) else none
section
variable {K : PySem.W.Frag}
theorem comp_end {T : List Addr} {ρ1 ρ2 : List (Option Addr)} {δ1 δe : Ds} {σ : L2.St} {vs : List Nat} {H1 H2 : Hp} {D : Addr} (s1 : Sim K T ρ1 δ1 σ H1) (hno : noOwn vs δ1 = true) (s2 : Sim K (D :: T) ρ2 δe (L2.wipe σ vs) H2) (sm : Same (hid T ρ1 H1) (hid (D :: T) ρ2 H2)) (tm : ∀ a, a ∈ T → Kp (H1 a) (H2 a)) (hD : H1 D = none) (hb : ∀ x, H2 D = some x → (∀ ps, x ≠ .tbl ps) ∧ NT x) :
    Sim K T ρ2 (restD δ1 δe vs) σ (rm H2 D) ∧ Ext T ρ1 H1 ρ2 (rm H2 D) := by
  have hh : hid T ρ2 (rm H2 D) = hid (D :: T) ρ2 H2 := hid_rm
  have neT : ∀ a, a ∈ T → a ≠ D := fun a ha z => by
    subst z
    exact (s1.trk.fresh hD).1 ha
  have lenE : δe.length = σ.length := by
    have := s2.slen
    rw [wipe_length] at this
    exact this.symm
  refine ⟨⟨by rw [restD_len]; exact s2.len, by rw [restD_len]; exact lenE.symm, fun j u hj => ?_, fun j c hj => ?_, fun j a hj => ?_, s2.inj, fun j a hj hm => s2.nt j a hj (List.mem_cons_of_mem _ hm), fun a ha => ?_, s1.tabT, tabs_rm s2.tabs hb⟩, by rw [hh]; exact sm, fun a ha => ?_, fun _ => tabs_rm s2.tabs hb⟩
  · by_cases hjv : j ∈ vs
    · have hjl : j < δe.length := by
        have := (List.getElem?_eq_some_iff.mp hj).1
        rw [restD_len] at this
        exact this
      rw [restD_in hjv hjl] at hj
      have hj' := slot_some (Option.some.inj hj)
      obtain ⟨v, e1, e2⟩ := s1.slot j u hj'
      refine ⟨v, e1, ?_⟩
      cases u with
      | o c => exact (notOwn_no (noOwn_mem hno hjv) hj').elim
      | d x => exact (show SV K (hid T ρ2 (rm H2 D)) v (.d x) by rw [hh]; exact svM (s := .d x) sm e2)
      | t x => exact (show SV K (hid T ρ2 (rm H2 D)) v (.t x) by rw [hh]; exact svM (s := .t x) sm e2)
      | z x => exact (show SV K (hid T ρ2 (rm H2 D)) v (.z x) by rw [hh]; exact svM (s := .z x) sm e2)
      | p x => exact (show SV K (hid T ρ2 (rm H2 D)) v (.p x) by rw [hh]; exact svM (s := .p x) sm e2)
    · rw [restD_ne hjv] at hj
      obtain ⟨v, e1, e2⟩ := s2.slot j u hj
      rw [wipe_ne hjv] at e1
      refine ⟨v, e1, ?_⟩
      cases u with
      | o c =>
        obtain ⟨b, f1, f2⟩ := s2.own j c hj
        rw [wipe_ne hjv, e1] at f2
        cases f2
        obtain ⟨a, x, z1, z2, z3⟩ := e2
        cases z1
        have ne : b ≠ D := fun z => by
          subst z
          exact s2.nt j b f1 List.mem_cons_self
        exact ⟨b, x, rfl, by rw [rm_ne ne]; exact z2, by rw [hh]; exact z3⟩
      | d x => exact (show SV K (hid T ρ2 (rm H2 D)) v (.d x) by rw [hh]; exact e2)
      | t x => exact (show SV K (hid T ρ2 (rm H2 D)) v (.t x) by rw [hh]; exact e2)
      | z x => exact (show SV K (hid T ρ2 (rm H2 D)) v (.z x) by rw [hh]; exact e2)
      | p x => exact (show SV K (hid T ρ2 (rm H2 D)) v (.p x) by rw [hh]; exact e2)
  · by_cases hjv : j ∈ vs
    · have hjl : j < δe.length := by
        have := (List.getElem?_eq_some_iff.mp hj).1
        rw [restD_len] at this
        exact this
      rw [restD_in hjv hjl] at hj
      exact (notOwn_no (noOwn_mem hno hjv) (slot_some (Option.some.inj hj))).elim
    · rw [restD_ne hjv] at hj
      obtain ⟨a, f1, f2⟩ := s2.own j c hj
      rw [wipe_ne hjv] at f2
      exact ⟨a, f1, f2⟩
  · obtain ⟨c, hc⟩ := s2.own' j a hj
    by_cases hjv : j ∈ vs
    · obtain ⟨b, f1, f2⟩ := s2.own j c hc
      have hjl : j < σ.length := by
        have := (List.getElem?_eq_some_iff.mp hc).1
        omega
      rw [wipe_in hjv hjl] at f2
      cases f2
    · exact ⟨c, by rw [restD_ne hjv]; exact hc⟩
  · rw [rm_ne (neT a ha)]
    exact (tm a ha).nt (s1.tmp a ha)
  · rw [rm_ne (neT a ha)]
    exact tm a ha
theorem dc_ok {fl : Bool} {vs ws : List Nat} {fi : IEV} {g : GEV} {tt : TEV} {tk tv : EV} (hw : ∀ j ∈ ws, j ∈ vs) (σ : L2.St) (H : Hp) (Q : VK) (h : lift K (dcE fl vs fi g tt tk tv) σ H Q) : tGd (oNew fl) (liftI K fi) (liftG K ws g) (liftT K tt) (lift K tk) (lift K tv) vs σ H Q := by
  obtain ⟨T, ρ, δ, s, δ', hs, hf, hq⟩ := h
  unfold dcE at hf
  cases ea : fi δ with
  | none => rw [ea] at hf; cases hf
  | some z =>
    obtain ⟨xs, δ1⟩ := z
    rw [ea] at hf
    simp only [Option.bind_some] at hf
    split at hf
    case isFalse => cases hf
    rename_i hno
    cases el : dcD fl vs g tt tk tv xs [] (wipeD δ1 vs) with
    | none => rw [el] at hf; cases hf
    | some r =>
      obtain ⟨out, δe⟩ := r
      rw [el] at hf
      cases hf
      refine ⟨T, ρ, δ, xs, δ1, hs, ea, fun ρ1 H1 J s1 x1 sv => ?_⟩
      intro D hD
      let Wn : Nat → Hp → Prop := fun i H' => ∃ ρ' δ2 o kvs, Sim K (D :: T) ρ' δ2 (L2.wipe σ vs) H' ∧ Same (hid T ρ1 H1) (hid (D :: T) ρ' H') ∧ (∀ a, a ∈ T → Kp (H1 a) (H' a)) ∧ H' D = some o ∧ TbO K (hid (D :: T) ρ' H') o ⟨fl, kvs⟩ ∧ dcD fl vs g tt tk tv (xs.drop i) kvs δ2 = some (out, δe)
      refine ⟨fun i m H' => i + m = xs.length ∧ Wn i H', ⟨xs.length, by omega, ρ1, wipeD δ1 vs, oNew fl, [], (s1.wipe hno).addTmp hD (tb_nt (tbo_new (K := K) (G := H1) fl)), ?_, ?_, upd_same, tbo_new fl, el⟩, ?_⟩
      · rw [hid_new hD]
        exact Same.refl _
      · intro a ha
        obtain ⟨o, ho, _⟩ := s1.tmp a ha
        rw [upd_ne (ne_of_none ho hD)]
        exact .refl
      rintro i m H2 ⟨him, ρ2, δ2, o, kvs, s2, sm, tm, hacc, hto, hl⟩
      by_cases hi : i < xs.length
      · have hd : xs.drop i = xs[i] :: xs.drop (i + 1) := by rw [List.drop_eq_getElem_cons hi]
        rw [hd] at hl
        unfold dcD at hl
        cases eg : g xs[i] δ2 with
        | none => rw [eg] at hl; cases hl
        | some δ3 =>
          rw [eg] at hl
          simp only [Option.bind_some] at hl
          cases et : tt δ3 with
          | none => rw [et] at hl; cases hl
          | some b =>
            obtain ⟨b, δ4⟩ := b
            rw [et] at hl
            simp only [Option.bind_some] at hl
            obtain ⟨go, yl⟩ := (sv i (D :: T) ρ2 H2 sm s2.trk).1 _ (List.getElem?_eq_getElem hi)
            refine .inr ⟨go, Wn (i + 1), fun H' hW => ⟨m - 1, by omega, by omega, hW⟩, fun x H3 hy => ?_⟩
            obtain ⟨y1, y2⟩ := yl x H3 hy
            have e2 := s2.trk.extT y1
            refine ⟨D :: T, ρ2, δ2, xs[i], δ3, s2.mono y1, y2, eg, fun ρ4 σ4 H4 s4 x4 o4 => ?_⟩
            have hwp : L2.wipe σ4 vs = L2.wipe σ vs := by rw [wipe_only o4 hw, wipe_idem]
            refine ⟨hwp, D :: T, ρ4, δ3, b, δ4, s4, et, fun ρ5 H5 s5 x5 => ?_⟩
            have xx : Ext (D :: T) ρ2 H2 ρ5 H5 := e2.trans (x4.trans x5)
            -- a turn's end
            have fin : ∀ (ρ6 : List (Option Addr)) (δ6 : Ds) (H6 : Hp), Sim K (D :: T) ρ6 δ6 σ4 H6 → Ext (D :: T) ρ2 H2 ρ6 H6 → noOwn vs δ6 = true →
                Sim K (D :: T) ρ6 (wipeD δ6 vs) (L2.wipe σ vs) H6 ∧ Same (hid T ρ1 H1) (hid (D :: T) ρ6 H6) ∧ (∀ a, a ∈ T → Kp (H1 a) (H6 a)) ∧ H6 D = some o ∧ TbO K (hid (D :: T) ρ6 H6) o ⟨fl, kvs⟩ := by
              intro ρ6 δ6 H6 s6 x6 n6
              have q := s6.wipe n6
              rw [hwp] at q
              exact ⟨q, sm.trans x6.same, fun a ha => (tm a ha).trans (x6.tmp a (List.mem_cons_of_mem _ ha)), x6.at List.mem_cons_self hacc (tb_nb hto).1, tbM x6.same hto⟩
            cases b with
            | false =>
              refine L2.iteF ?_
              rw [if_neg Bool.false_ne_true] at hl
              split at hl
              case isFalse => cases hl
              rename_i n5
              obtain ⟨q1, q2, q3, q4, q5⟩ := fin ρ5 δ4 H5 s5 xx n5
              exact ⟨ρ5, _, o, kvs, q1, q2, q3, q4, q5, hl⟩
            | true =>
              refine L2.iteT ?_
              rw [if_pos rfl] at hl
              cases ey : tk δ4 with
              | none => rw [ey] at hl; cases hl
              | some y =>
                obtain ⟨u, δ6⟩ := y
                rw [ey] at hl
                simp only [Option.bind_some] at hl
                split at hl
                case h_2 => cases hl
                rename_i yk
                cases ez : tv δ6 with
                | none => rw [ez] at hl; cases hl
                | some z =>
                  obtain ⟨w, δ7⟩ := z
                  rw [ez] at hl
                  simp only [Option.bind_some] at hl
                  split at hl
                  case h_2 => cases hl
                  rename_i d f k hd' hk'
                  split at hl
                  case isFalse => cases hl
                  rename_i hc
                  obtain ⟨hf, n7, hlen⟩ := hc
                  refine ⟨D :: T, ρ5, δ4, .d yk, δ6, s5, ey, fun ρ6 v6 H6 s6 x6 hv6 => ?_⟩
                  -- the value
                  have each : ∀ (ρ7 : List (Option Addr)) (v : V) (H7 : Hp), Sim K (D :: T) ρ7 δ7 σ4 H7 → Ext (D :: T) ρ6 H6 ρ7 H7 → Dq K (hid (D :: T) ρ7 H7) v d → ∃ H8, DPut H7 D v6 v H8 ∧ Wn (i + 1) H8 := by
                    intro ρ7 v H7 s7 x7 hv
                    obtain ⟨q1, q2, q3, q4, q5⟩ := fin ρ7 δ7 H7 s7 (xx.trans (x6.trans x7)) n7
                    have hkey : At K (D :: T) ρ7 H7 v6 (.d yk) := svM (s := .d yk) x7.same hv6
                    obtain ⟨o', hp, ht'⟩ := tb_put hkey (t := ⟨fl, kvs⟩) (k := k) (by rw [hk', hf]) q4 q5 hv hlen
                    refine ⟨_, hp, ρ7, _, o', putD kvs k d, q1.tmpW List.mem_cons_self (nb_of q4 (tb_nb q5).1 (tb_nb q5).2) (tb_nt ht'), ?_, ?_, upd_same, ?_, hl⟩
                    · rw [hid_tmp List.mem_cons_self]
                      exact q2
                    · intro a ha
                      have ne : a ≠ D := fun z => by
                        subst z
                        exact (s1.trk.fresh hD).1 ha
                      rw [upd_ne ne]
                      exact q3 a ha
                    · rw [hid_tmp List.mem_cons_self]
                      exact ht'
                  refine ⟨D :: T, ρ6, δ6, w, δ7, s6, ez, ?_⟩
                  cases w with
                  | o c =>
                    intro ρ7 p H7 o s7 x7 hp hc
                    have hn := frz_new s7.trk hp hc
                    rw [hd'] at hn
                    exact each ρ7 (.ref p) _ (s7.mono (same_new hp)) (x7.trans (s7.trk.extT (same_new hp))) hn
                  | d c =>
                    cases hd'
                    exact fun ρ7 v H7 s7 x7 hv => each ρ7 v H7 s7 x7 hv
                  | t c => cases hd'
                  | z c => cases hd'
                  | p c => cases hd'
      · have hd : xs.drop i = [] := List.drop_eq_nil_of_le (by omega)
        rw [hd] at hl
        cases hl
        refine .inl ⟨(sv i (D :: T) ρ2 H2 sm s2.trk).2 (by omega), ?_⟩
        have hh : hid T ρ2 (rm H2 D) = hid (D :: T) ρ2 H2 := hid_rm
        obtain ⟨a, b⟩ := comp_end s1 hno s2 sm tm hD (nb_of hacc (tb_nb hto).1 (tb_nb hto).2)
        rw [← rm_upd hacc]
        exact hq ρ2 D (rm H2 D) o a (x1.trans b) rm_self (show TbO K (hid T ρ2 (rm H2 D)) o _ by rw [hh]; exact hto)
end
section
variable {X : Cx}
theorem de_dc (fl : Bool) {k : Nat} {kx vx tg iter : Expr} {ifs : List Expr} {scope : Scope} {own : List (Str × Nat)} {pos : Pos} {ws : List Nat} {fi : IEV} {g : GEV} {tt : TEV} {tk tv : EV} (hr : Room k X.A) (hc : X.calm = true) (hN : X.N.Nodup) (hi : DI X tg iter fi) (ok : BlkOk X.N X.env.scope scope own) (hw : ∀ j ∈ ws, j ∈ own.map (·.2))
    (hg : ∀ (s : Shared) (H : Hp) (C : Addr) (cl : List (Str × Addr)) (fp : List Addr), DG (X.blk s H scope (compEnvC scope cl C X.env) fp) ws tg g)
    (ht : ∀ (s : Shared) (H : Hp) (C : Addr) (cl : List (Str × Addr)) (fp : List Addr), DTs (X.blk s H scope (compEnvC scope cl C X.env) fp) ifs tt)
    (hk : ∀ (s : Shared) (H : Hp) (C : Addr) (cl : List (Str × Addr)) (fp : List Addr), DE (X.blk s H scope (compEnvC scope cl C X.env) fp) kx tk)
    (he : ∀ (s : Shared) (H : Hp) (C : Addr) (cl : List (Str × Addr)) (fp : List Addr), DE (X.blk s H scope (compEnvC scope cl C X.env) fp) vx tv) (hs : ∀ x, foldedSetIterable iter X.env x = pure x := by intro _; rfl) :
    DE X (.DictComp kx vx [⟨tg, iter, ifs, 0⟩] scope pos) (dcE fl (own.map (·.2)) fi g tt tk tv) := pe_imp (pe_gd (newOk fl) (by have := hr.un; omega) hc hN hi ok hg ht hk he hs) (dc_ok hw)
end
end DL

namespace DL
open PySem PySem.Spec PyProof.Rows L2
variable [TB]

section
variable {X : Cx} {P : List Nat} {a b e : Expr} {es : List Expr} {pos p : Pos} {fp fq : PEV} {k : Nat}
/-! ### table[key] -/
def opIxT (a b : S) : Option S := (asTb a).bind fun t => (keyS b).bind fun q => if q.1 = t.fl then (valK t.kvs q.2).map fun d => .d d else none
def rDGet : R2 := fun x y H Q => ∃ a v, x = .ref a ∧ DGet H a y (some v) ∧ Q v H
theorem od_ixT {K : PySem.W.Frag} : OpD K rDGet opIxT := fun T ρ H x y a b s Q k ha hb hg hq => by
  unfold opIxT at hg
  cases e2 : asTb a with
  | none => rw [e2] at hg; cases hg
  | some t =>
    rw [e2] at hg
    simp only [Option.bind_some] at hg
    cases e1 : keyS b with
    | none => rw [e1] at hg; cases hg
    | some ks =>
      rw [e1] at hg
      simp only [Option.bind_some] at hg
      split at hg
      case isFalse => cases hg
      rename_i hf
      obtain ⟨c, r, rfl, g, hr⟩ := tb_get hb ha (k := ks.2) (by rw [← hf]; exact e1) e2
      rcases hr with ⟨rfl, hk⟩ | ⟨v, d, rfl, hk, hd⟩
      · rw [hk] at hg; cases hg
      · rw [hk] at hg
        cases hg
        exact ⟨c, v, rfl, g, postO_same hq hd⟩
def opIxX (a b : S) : Option S := match opIxT a b with
  | some z => some z
  | none => opIx a b
theorem de_itemX (hr : Room k X.A) (ha : DP X a fp) (hb : DP X b fq) (hs : PlainIx b) (hn : NoSl b := by exact fun _ _ => rfl) : DE X (.Subscript a b pos) (bin opIxX fp fq) :=
  pe_imp (pe_or2 (pe_imp (pe_dget (by have := hr.un; omega) ha hb hn) fun σ H Q h => bin_ok (r := rDGet) (X := X) od_ixT σ H Q h) (de_item ha hb hs)) fun σ H Q h => lift_x h
/-! ### {} -/
def tabE (fl : Bool) : EV := fun δ => some (.o (.t ⟨fl, []⟩), δ)
theorem de_tab (fl : Bool) : DE X (.Dict [] [] pos) (tabE fl) := by
  cases fl
  · exact pe_imp pe_dnewT fun σ H Q ⟨T, ρ, δ, s, δ', hs, hf, hq⟩ => by
      cases hf
      exact fun q hn => hq ρ q H _ hs .refl hn (tbo_new false)
  · exact pe_imp pe_dnewK fun σ H Q ⟨T, ρ, δ, s, δ', hs, hf, hq⟩ => by
      cases hf
      exact fun q hn => hq ρ q H _ hs .refl hn (tbo_new true)
/-! ### table[key] = value, the table owned -/
def setT (i : Nat) (fe fi : PEV) : SEV := fun δ => (fe δ).bind fun x => match x.1, slot x.2 i with
  | .v (.d d), some (.o _) => (fi x.2).bind fun y => (res y.2 y.1).bind fun ks => match slot y.2 i, keyS ks with
    | some (.o (.t t)), some (f, k) => if f = t.fl ∧ t.kvs.length < sizeLine then some (.nx (y.2.set i (some (.o (.t ⟨t.fl, putD t.kvs k d⟩))))) else none
    | _, _ => none
  | _, _ => none
theorem ds_setT {i : Nat} {ix : Expr} {x : Str} {opos : Pos} {fe fi : PEV} {spos : Pos} (hr : Room k X.A) (he : DP X e fe) (q : PE X (.Name x opos) (tVar i)) (hi : DP X ix fi)
    (ha : ∀ v, assign (.Subscript (.Name x opos) ix spos) X.env v = (do
      let ov ← holding [v] (eval (.Name x opos) X.env)
      let iv ← holding [v, ov] (eval ix X.env)
      standAt spos
      holding [v, ov, iv] (setItem ov iv v)
      release [v, ov, iv] []) := by intro _; rfl)
    (hs : swapsWithSole [.Subscript (.Name x opos) ix spos] e pos.line X.env = pure false := by rfl) (hw : swappedStores [.Subscript (.Name x opos) ix spos] e X.env = pure none := by rfl)
    (h1 : (assignEach [.Subscript (.Name x opos) ix spos] X.env).map (·.2) = [assign (.Subscript (.Name x opos) ix spos) X.env] := by rfl) :
    DS X P (.Assign [.Subscript (.Name x opos) ix spos] e pos) (setT i fe fi) := ps_imp (ps_asg he (pg_sub q hi (set_dict (by have := hr.un; omega)) ha) hs hw h1) fun D σ H ⟨T, ρ, δ, o, hs, hf, hq⟩ => by
  unfold setT at hf
  cases ea : fe δ with
  | none => rw [ea] at hf; cases hf
  | some z =>
    obtain ⟨pv, δ1⟩ := z
    rw [ea] at hf
    simp only [Option.bind_some] at hf
    split at hf
    case h_2 => cases hf
    rename_i d c0 hi1
    cases eb : fi δ1 with
    | none => rw [eb] at hf; cases hf
    | some y =>
      obtain ⟨pw, δ2⟩ := y
      rw [eb] at hf
      simp only [Option.bind_some] at hf
      cases er : res δ2 pw with
      | none => rw [er] at hf; cases hf
      | some ks =>
        rw [er] at hf
        simp only [Option.bind_some] at hf
        split at hf
        case h_2 => cases hf
        rename_i t f kk hsl hks
        split at hf
        case isFalse => cases hf
        rename_i hc
        cases hf
        refine ⟨T, ρ, δ, _, δ1, hs, ea, fun ρ1 v1 H1 s1 x1 p1 => ?_⟩
        obtain ⟨a, ob, a1, a2, a3, a4⟩ := sim_owned s1 hi1
        refine ⟨.ref a, a1, T, ρ1, δ1, _, δ2, s1, eb, fun ρ2 v2 H2 s2 x2 p2 => ?_⟩
        obtain ⟨b, ob2, b1, b2, b3, b4⟩ := sim_owned s2 hsl
        rw [a1] at b1
        cases b1
        have p1' : Dq X.K (hid T ρ2 H2) v1 d := dpM x2.same _ p1
        obtain ⟨o', hp, ht⟩ := tb_put (pat_at s2 .refl p2 er) (t := t) (k := kk) (by rw [hks, hc.1]) b3 b4 p1' hc.2
        refine ⟨a, _, rfl, hp, ?_⟩
        obtain ⟨c1, c2⟩ := s2.write (slot_some hsl) b2 (o := o') (c := .t ⟨t.fl, putD t.kvs kk d⟩) ht
        exact hq ρ2 σ _ c1 ((x1.trans x2).trans c2) .refl
/-! ### the truth of a list or tuple -/
def truT (f : PEV) : TEV := fun δ => (f δ).bind fun x => (res x.2 x.1).bind fun s => (asS s).map fun xs => (!xs.isEmpty, x.2)
theorem dt_tru (ha : DP X a fp) (he : ∀ whole, isTrue a X.env whole = (do let v ← whole; standAt a.pos; holding [v] (truthy v)) := by intro _; rfl) : DT X a (truT fp) := pt_imp (pt_truth ha he) fun σ H Q ⟨T, ρ, δ, b, δ', hs, hf, hq⟩ => by
  unfold truT at hf
  cases e1 : fp δ with
  | none => rw [e1] at hf; cases hf
  | some x =>
    rw [e1] at hf
    simp only [Option.bind_some] at hf
    cases e2 : res x.2 x.1 with
    | none => rw [e2] at hf; cases hf
    | some u =>
      rw [e2] at hf
      simp only [Option.bind_some] at hf
      cases e3 : asS u with
      | none => rw [e3] at hf; cases hf
      | some xs =>
        rw [e3] at hf
        cases hf
        refine ⟨T, ρ, δ, x.1, x.2, hs, by rw [e1], fun ρ1 v H1 s1 x1 p1 => ?_⟩
        obtain ⟨a, vs, rfl, h1, h2⟩ := at_seq (pat_at s1 .refl p1 e2) e3
        have hl := dpAll_len h2
        have hE : (!xs.isEmpty) = !vs.isEmpty := by
          cases vs <;> cases xs <;> first | rfl | cases hl
        refine ⟨_, ?_, hq ρ1 H1 s1 x1⟩
        rcases h1 with h1 | h1
        · exact .inl ⟨vs, h1, hE⟩
        · exact .inr (.inl ⟨vs, h1, hE⟩)
/-! ### a, b = what -/
def unpS (f : PEV) (g : GEV) : SEV := fun δ => (f δ).bind fun x => match x.1 with
  | .v (.d d) => (g d x.2).map fun δ' => .nx δ'
  | _ => none
theorem ds_unp {vs : List Nat} {tg : Expr} {g : GEV} (hP : ∀ i ∈ P, i ∉ vs) (he : DP X e fp) (hg : DG X vs tg g) (hs : swapsWithSole [tg] e pos.line X.env = pure false := by rfl) (hw : swappedStores [tg] e X.env = pure none := by rfl)
    (h1 : (assignEach [tg] X.env).map (·.2) = [assign tg X.env] := by rfl) : DS X P (.Assign [tg] e pos) (unpS fp g) := ps_imp (ps_asg he hg hs hw h1) fun D σ H ⟨T, ρ, δ, o, hs, hf, hq⟩ => by
  unfold unpS at hf
  cases ea : fp δ with
  | none => rw [ea] at hf; cases hf
  | some x =>
    obtain ⟨pv, δ1⟩ := x
    rw [ea] at hf
    simp only [Option.bind_some] at hf
    split at hf
    case h_2 => cases hf
    rename_i d
    cases eg : g d δ1 with
    | none => rw [eg] at hf; cases hf
    | some δ2 =>
      rw [eg] at hf
      cases hf
      refine ⟨T, ρ, δ, _, δ1, hs, ea, fun ρ1 v H1 s1 x1 p1 => ?_⟩
      refine ⟨T, ρ1, δ1, d, δ2, s1, p1, eg, fun ρ2 σ2 H2 s2 x2 o2 => ?_⟩
      exact hq ρ2 σ2 H2 s2 (x1.trans x2) fun i hi => o2.2 i (hP i hi)
/-! ### n += e -/
def augS (i : Nat) (f : PEV) : SEV := fun δ => match slot δ i with
  | some (.d (.int m)) => (f δ).bind fun x => match x.1 with
    | .v (.d (.int n)) => some (.nx (x.2.set i (some (.d (.int (m + n))))))
    | _ => none
  | _ => none
theorem ds_aug {i : Nat} {x : Str} {pos' : Pos} (hN : X.N.Nodup) (hi : X.N[i]? = some x) (hx : Loc X.env.scope x) (hP : i ∉ P) (he : DP X e fp) (hf : X.fn x = true ∨ X.env.scope.names.lookup x = some .local := by first | exact .inl rfl | exact .inr rfl | assumption) :
    DS X P (.AugAssign (.Name x pos') .Add e pos) (augS i fp) := ps_imp (ps_aug hN hi hx he ip_add hf) fun D σ H ⟨T, ρ, δ, o, hs, hf, hq⟩ => by
  unfold augS at hf
  split at hf
  case h_2 => cases hf
  rename_i m hm
  obtain ⟨v, v1, v2⟩ := hs.slot i _ (slot_some hm)
  cases (show Dq X.K _ v (.int m) from v2)
  cases ea : fp δ with
  | none => rw [ea] at hf; cases hf
  | some z =>
    obtain ⟨pv, δ1⟩ := z
    rw [ea] at hf
    simp only [Option.bind_some] at hf
    split at hf
    case h_2 => cases hf
    rename_i n
    cases hf
    refine ⟨.int m, v1, T, ρ, δ, _, δ1, hs, ea, fun ρ1 w H1 s1 x1 p1 => ?_⟩
    cases (show Dq X.K _ w (.int n) from p1)
    obtain ⟨c1, c2⟩ := s1.setD (i := i) (v := .int (m + n)) (s := .d (.int (m + n))) (Dq.int _)
    exact ⟨m, n, rfl, rfl, hq _ _ _ c1 (x1.trans c2) fun j hj => List.getElem?_set_ne (fun z : i = j => hP (by rw [z]; exact hj))⟩
/-! ### >>, & -/
def iShr (i j : Int) : Option Int := if 0 ≤ j then some (i / 2 ^ j.toNat) else none
theorem de_shr (ha : DP X a fp) (hb : DP X b fq) : DE X (.BinOp a .RShift b pos) (bin (opI2 iShr) fp fq) := de_op op_shr (od_I fun i j z h => by
  unfold iShr at h
  split at h
  · rename_i hc
    exact ⟨hc, Option.some.inj h⟩
  · cases h) ha hb
end
end DL

namespace DL
open PySem PySem.Spec PyProof.Rows L2
variable [TB]

/-! ### list(table), list of others -/
def keyD1 : Key → PyData
  | .inl i => .int i
  | .inr x => .str x
def keyD (k : List Key) : PyData := .tuple (k.map keyD1)
def fListX : List S → Option S
  | [s] => match asTb s with
    | some t => if t.fl = false then some (.o (.l (t.kvs.map fun p => keyD p.1))) else none
    | none => fList [s]
  | _ => none
theorem dq_key {K : PySem.W.Frag} {G : Hp} : ∀ k : List Key, DqAll K G (k.map kV) (k.map keyD1)
  | [] => .nil
  | .inl i :: k => .cons (.int i) (dq_key k)
  | .inr x :: k => .cons (.str x) (dq_key k)
theorem dq_keys {K : PySem.W.Frag} {T : List Addr} {ρ : List (Option Addr)} {H : Hp} (k : Trk T ρ H) : ∀ {ws : List (List Key × V)} {kvs : List (List Key × PyData)} {bs : List Addr}, TV K (hid T ρ H) ws kvs → IsKeys H ws bs → DqAll K (hid T ρ H) (bs.map V.ref) (kvs.map fun p => keyD p.1)
  | _, _, _, .nil, h => by cases h; exact .nil
  | _, _, _, .cons (a := p) (b := q) h t, hk => by
    cases hk with
    | cons hb ht =>
      refine .cons ?_ (dq_keys k t ht)
      rw [h.1] at hb
      refine Dq.tup (hid_some.mpr ⟨hb, fun z => ?_, fun z => ?_⟩) (dq_key q.1)
      · obtain ⟨o, ho, hn⟩ := k.tmp _ z
        rw [hb] at ho
        cases ho
        exact hn
      · obtain ⟨o, ho, hn⟩ := k.own _ z
        rw [hb] at ho
        cases ho
        exact hn
theorem cd_listX {K : PySem.W.Frag} : CallD K (fun xs H Q => (∃ d kvs, xs = [V.ref d] ∧ Rd H d (.dT kvs) ∧ ∀ p bs, H p = none → IsKeys H kvs bs → Q (.ref p) (upd H p (.lst (bs.map V.ref)))) ∨ (∃ p ys, xs = [.ref p] ∧ (SqL K H p ys ∨ SqT K H p ys) ∧ ∀ l, H l = none → Q (.ref l) (upd H l (.lst ys)))) fListX := fun T ρ H vs ss s Q k hp hg hq => by
  unfold fListX at hg
  split at hg
  case h_2 => cases hg
  rename_i u
  split at hg
  · rename_i t et
    split at hg
    case isFalse => cases hg
    rename_i hfl
    cases hg
    obtain ⟨v, rfl, h⟩ := paired1 hp
    obtain ⟨a, o, rfl, ha, to⟩ := at_tb h et
    rcases to with ⟨_, ws, rfl, tv⟩ | ⟨f', _⟩
    · refine .inl ⟨a, ws, rfl, .inl ha, fun p bs hn hk => hq p _ hn ⟨_, rfl, dq_keys k tv hk⟩⟩
    · rw [hfl] at f'; cases f'
  · exact .inr (cd_list T ρ H vs [u] s Q k hp hg hq)
section
variable {X : Cx} {e : Expr} {es : List Expr} {pos p : Pos} {fa : AEV} {tg : Expr}
theorem de_listX (hc : X.calm = true) (hm : X.mg "list" = none) (hg : Gl X "list") (ha : DA X (e :: es) fa) (he : starEach (e :: es) X.env = (false, eval e X.env) :: starEach es X.env := by rfl) (hpl : (backTo pos (starEach es X.env)).any (·.1) = false := by rfl) : DE X (.Call (.Name "list" p) (e :: es) [] pos) (callB fListX fa) :=
  de_callTy (callr_or (call_list_dT hc) call_list_of) cd_listX hg hm (by decide +kernel) ha (by decide) (by decide) he hpl
/-! ### range(i, j, c) -/
def rngC (i c : Int) (n : Nat) : List PyData := (List.range n).map fun k => .int (i + (k : Nat) * c)
def rgSmall (i j c : Int) : Bool := decide (c ≠ 0) && decide (c.natAbs < 1073741824) && Builtin.Range.small i j c
def rngI3 (fa : AEV) : IEV := fun δ => (fa δ).bind fun x => match x.1 with
  | [.v (.d (.int i)), .v (.d (.int j)), .v (.d (.int c))] => if rgSmall i j c = true ∧ 0 ≤ Builtin.Range.rangeSize i j c then some (rngC i c (Builtin.Range.rangeSize i j c).toNat, x.2) else none
  | _ => none
theorem serves_C {K : PySem.W.Frag} {T : List Addr} {ρ : List (Option Addr)} {H : Hp} {lo c : Int} {n : Nat} : Serves K T ρ H (Itc lo c n) (rngC lo c n) := fun i T2 ρ2 H2 sm tr => by
  unfold rngC
  refine ⟨fun d hi => ?_, fun hi => (show n ≤ i by simpa using hi)⟩
  rw [List.getElem?_map] at hi
  cases e : (List.range n)[i]? with
  | none => rw [e] at hi; cases hi
  | some k =>
    rw [e] at hi
    obtain ⟨h1, h2⟩ := List.getElem?_eq_some_iff.mp e
    rw [List.getElem_range] at h2
    subst h2
    cases hi
    refine ⟨(show i < n by simpa using h1), fun x H3 hy => ?_⟩
    obtain ⟨rfl, rfl⟩ := hy
    exact ⟨Same.refl _, .int _⟩
theorem di_range3 {a b c : Expr} (hg : Gl X "range") (hm : X.mg "range" = none) (ha : DA X [a, b, c] fa) (hs : starEach [a, b, c] X.env = (false, eval a X.env) :: starEach [b, c] X.env := by rfl) (hpl : (backTo pos (starEach [b, c] X.env)).any (·.1) = false := by rfl) : DI X tg (.Call (.Name "range" p) [a, b, c] [] pos) (rngI3 fa) := pi_imp (pi_range3 hg hm ha hs hpl) fun σ H R ⟨T, ρ, δ, xs, δ', hs, hf, hq⟩ => by
  unfold rngI3 at hf
  cases ea : fa δ with
  | none => rw [ea] at hf; cases hf
  | some z =>
    obtain ⟨ps, δ1⟩ := z
    rw [ea] at hf
    simp only [Option.bind_some] at hf
    refine ⟨T, ρ, δ, ps, δ1, hs, ea, fun ρ1 vs H1 s1 x1 p1 => ?_⟩
    split at hf
    case h_2 => cases hf
    rename_i i j k
    split at hf
    case isFalse => cases hf
    rename_i hn
    cases hf
    unfold rgSmall at hn
    simp only [Bool.and_eq_true, decide_eq_true_eq] at hn
    cases p1 with
    | cons q1 q2 =>
      cases q2 with
      | cons q2 q3 =>
        cases q3 with
        | cons q3 q4 =>
          cases q4
          cases (show Dq X.K (hid T ρ1 H1) _ (.int i) from q1)
          cases (show Dq X.K (hid T ρ1 H1) _ (.int j) from q2)
          cases (show Dq X.K (hid T ρ1 H1) _ (.int k) from q3)
          exact ⟨i, j, k, _, rfl, ⟨hn.1.1.1, hn.1.1.2, hn.1.2, by omega⟩, hq ρ1 H1 _ s1 x1 serves_C⟩
/-! ### f() -/
theorem pe_callG0 {x : Str} {k : Nat} {f : Addr} {fd : FuncData} {ps : List Str} {sp : Sp} (F : FnG X.prog X.w X.K X.mg X.base k f fd ps sp) (hG : X.A.guards = some []) (hr : Room k X.A) (hg : Gl X x) (hm : X.mg x = some (.ref f)) (hk : PySem.W.keepIn X.K (.ref f) = true) (hb : Binds X.K fd ps [])
    (hdb : (x == ("__debug__" : Str)) = false := by decide) : PE X (.Call (.Name x p) [] [] pos) (fun σ H Q => sp [] H Q E0) := by
  constructor
  intro pins s σ H Q I h
  apply wpAny_Call_Name_kw
  apply ld_glob I hg hm _ hdb
  refine PySem.W.callWith_K0 I.kIn hk ?_
  have bt := hb s [] I.kIn (by
    have := F.len _ _ _ _ h
    simpa using this)
  refine wpAny_call (codeAny_mono (F.run X.A X.stack s H ⟨[], []⟩ [] [] Q E0 hG hr I.env0 bt .nil h) ?_)
  intro rs s2 hq
  cases rs with
  | error e => exact hq.elim
  | ok fl =>
    cases fl with
    | ret u => exact I.after hq
    | next => exact hq.elim
    | brk => exact hq.elim
    | cont => exact hq.elim
theorem de_own0 {k j : Nat} {x : Str} {F : FN} (D : Def X.prog X.w X.K X.mg X.base k x [] F) (hG : X.A.guards = some []) (hr : Room j X.A) (hk : k ≤ j) (hg : Gl X x) (hdb : (x == ("__debug__" : Str)) = false := by decide) : DE X (.Call (.Name x p) [] [] pos) (callE F 0 nilA) := by
  obtain ⟨a, fd, h1, h2, h3, h4⟩ := D
  refine pe_imp (pe_callG0 h4 hG (hr.mono hk) hg h1 h2 h3 hdb) fun σ H Q h => ?_
  obtain ⟨T, ρ, δ, ps, δ', hs, hf, hq⟩ := call_ok σ H Q h
  cases hf
  exact hq ρ [] H hs .refl .nil
end
end DL

namespace DL
open PySem PySem.Spec PyProof.Rows L2
variable [TB]

/-! ### comprehensions that change nothing, seen from the data -/
theorem lcD_gen {vs : List Nat} {g : GEV} {tt : TEV} {te : EV} {δ : Ds} {p : PyData → Bool} {h : PyData → PyData} : ∀ {xs : List PyData}, (∀ x ∈ xs, ∃ δ1, g x δ = some δ1 ∧ tt δ1 = some (p x, δ1) ∧ noOwn vs δ1 = true ∧ wipeD δ1 vs = δ ∧ (p x = true → ∃ s, te δ1 = some (s, δ1) ∧ frz s = .d (h x))) →
    lcD vs g tt te xs δ = some ((xs.filter p).map h, δ)
  | [], _ => rfl
  | x :: xs, H => by
    obtain ⟨δ1, e1, e2, e3, e4, e5⟩ := H x List.mem_cons_self
    have ih := lcD_gen (xs := xs) fun y hy => H y (List.mem_cons_of_mem _ hy)
    unfold lcD
    rw [e1]
    simp only [Option.bind_some]
    rw [e2]
    simp only [Option.bind_some]
    cases ep : p x with
    | false =>
      rw [if_neg Bool.false_ne_true, if_pos e3, e4, ih, List.filter_cons, if_neg (by rw [ep]; exact Bool.false_ne_true)]
    | true =>
      obtain ⟨s, e6, e7⟩ := e5 ep
      rw [if_pos rfl, e6]
      simp only [Option.bind_some]
      rw [e7]
      simp only
      rw [if_pos e3, e4, ih, List.filter_cons, if_pos ep]
      rfl
theorem lcE_gen {vs : List Nat} {fi : IEV} {g : GEV} {tt : TEV} {te : EV} {δ δ1 : Ds} {xs : List PyData} (p : PyData → Bool) (h : PyData → PyData) (hf : fi δ = some (xs, δ1)) (hn : noOwn vs δ1 = true) (hr : restD δ1 (wipeD δ1 vs) vs = δ1)
    (H : ∀ x ∈ xs, ∃ δ2, g x (wipeD δ1 vs) = some δ2 ∧ tt δ2 = some (p x, δ2) ∧ noOwn vs δ2 = true ∧ wipeD δ2 vs = wipeD δ1 vs ∧ (p x = true → ∃ s, te δ2 = some (s, δ2) ∧ frz s = .d (h x))) (hl : ((xs.filter p).map h).length ≤ sizeLine) :
    lcE vs fi g tt te δ = some (.o (.l ((xs.filter p).map h)), δ1) := by
  unfold lcE
  rw [hf]
  simp only [Option.bind_some]
  rw [if_pos hn, lcD_gen H]
  simp only [Option.bind_some]
  rw [if_pos hl, hr]
theorem lcE_all {vs : List Nat} {fi : IEV} {g : GEV} {te : EV} {δ δ1 : Ds} {xs : List PyData} (h : PyData → PyData) (hf : fi δ = some (xs, δ1)) (hn : noOwn vs δ1 = true) (hr : restD δ1 (wipeD δ1 vs) vs = δ1)
    (H : ∀ x ∈ xs, ∃ δ2, g x (wipeD δ1 vs) = some δ2 ∧ noOwn vs δ2 = true ∧ wipeD δ2 vs = wipeD δ1 vs ∧ ∃ s, te δ2 = some (s, δ2) ∧ frz s = .d (h x)) (hl : xs.length ≤ sizeLine) :
    lcE vs fi g yesT te δ = some (.o (.l (xs.map h)), δ1) := by
  have e : xs.filter (fun _ => true) = xs := List.filter_eq_self.mpr fun _ _ => rfl
  have := lcE_gen (tt := yesT) (fun _ => true) h hf hn hr (fun x hx => let ⟨δ2, a, b, c, d⟩ := H x hx; ⟨δ2, a, rfl, b, c, fun _ => d⟩) (by rw [e, List.length_map]; exact hl)
  rw [this, e]
theorem lcD2_gen {vs vs1 : List Nat} {g : GEV} {fi1 : IEV} {g1 : GEV} {tt1 : TEV} {te : EV} {δ : Ds} {h : PyData → List PyData} : ∀ {xs : List PyData}, (∀ x ∈ xs, ∃ δ1 ys δ2, g x δ = some δ1 ∧ fi1 δ1 = some (ys, δ1) ∧ noOwn vs1 δ1 = true ∧ lcD vs1 g1 tt1 te ys (wipeD δ1 vs1) = some (h x, δ2) ∧ noOwn vs δ2 = true ∧ wipeD δ2 vs = δ) →
    lcD2 vs vs1 g yesT fi1 g1 tt1 te xs δ = some (xs.flatMap h, δ)
  | [], _ => rfl
  | x :: xs, H => by
    obtain ⟨δ1, ys, δ2, e1, e2, e3, e4, e5, e6⟩ := H x List.mem_cons_self
    have ih := lcD2_gen (xs := xs) fun y hy => H y (List.mem_cons_of_mem _ hy)
    unfold lcD2
    rw [e1]
    simp only [Option.bind_some, yesT, if_true]
    rw [e2]
    simp only [Option.bind_some]
    rw [if_pos e3, e4]
    simp only [Option.bind_some]
    rw [if_pos e5, e6, ih]
    rfl
theorem lc2E_gen {vs vs1 : List Nat} {fi : IEV} {g : GEV} {fi1 : IEV} {g1 : GEV} {tt1 : TEV} {te : EV} {δ δ1 : Ds} {xs : List PyData} (h : PyData → List PyData) (hf : fi δ = some (xs, δ1)) (hn : noOwn vs δ1 = true) (hr : restD δ1 (wipeD δ1 vs) vs = δ1)
    (H : ∀ x ∈ xs, ∃ δ2 ys δ3, g x (wipeD δ1 vs) = some δ2 ∧ fi1 δ2 = some (ys, δ2) ∧ noOwn vs1 δ2 = true ∧ lcD vs1 g1 tt1 te ys (wipeD δ2 vs1) = some (h x, δ3) ∧ noOwn vs δ3 = true ∧ wipeD δ3 vs = wipeD δ1 vs) (hl : (xs.flatMap h).length ≤ sizeLine) :
    lc2E vs vs1 fi g yesT fi1 g1 tt1 te δ = some (.o (.l (xs.flatMap h)), δ1) := by
  unfold lc2E
  rw [hf]
  simp only [Option.bind_some]
  rw [if_pos hn, lcD2_gen H]
  simp only [Option.bind_some]
  rw [if_pos hl, hr]
/-! ### tables -/
abbrev Tb := List (List Key × PyData)
def hasK (kvs : Tb) (k : List Key) : Bool := kvs.any fun p => decide (p.1 = k)
theorem valK_some (kvs : Tb) (k : List Key) : (valK kvs k).isSome = hasK kvs k := by
  unfold valK hasK
  rw [Option.isSome_map]
  induction kvs with
  | nil => rfl
  | cons p kvs ih =>
    rw [List.find?_cons, List.any_cons]
    cases decide (p.1 = k) with
    | true => rfl
    | false => exact ih
theorem hasK_put (kvs : Tb) (k k' : List Key) (d : PyData) : hasK (putD kvs k d) k' = (decide (k = k') || hasK kvs k') := by
  unfold putD
  split
  · rename_i h
    unfold hasK
    rw [List.any_map]
    have e : (fun p : List Key × PyData => decide (p.1 = k')) ∘ (fun p => if p.1 = k then (p.1, d) else p) = fun p => decide (p.1 = k') := by
      funext p
      show decide ((if p.1 = k then (p.1, d) else p).1 = k') = _
      split <;> rfl
    rw [e]
    by_cases hk : k = k'
    · subst hk
      rw [decide_eq_true rfl, Bool.true_or]
      exact h
    · rw [decide_eq_false hk, Bool.false_or]
  · unfold hasK
    rw [List.any_append, Bool.or_comm]
    simp
theorem put_vals {W : List Key → PyData} {kvs : Tb} {k : List Key} {d : PyData} (h : ∀ p ∈ kvs, p.2 = W p.1) (hd : d = W k) : ∀ p ∈ putD kvs k d, p.2 = W p.1 := by
  unfold putD
  split
  · intro p hp
    obtain ⟨q, hq, rfl⟩ := List.mem_map.mp hp
    split
    · rename_i e
      rw [e]
      exact hd
    · exact h q hq
  · intro p hp
    rcases List.mem_append.mp hp with hp | hp
    · exact h p hp
    · rw [List.mem_singleton.mp hp]
      exact hd
theorem valK_of {W : List Key → PyData} {kvs : Tb} {k : List Key} (h : ∀ p ∈ kvs, p.2 = W p.1) (hk : hasK kvs k = true) : valK kvs k = some (W k) := by
  have := valK_some kvs k
  rw [hk] at this
  unfold valK at this ⊢
  cases e : kvs.find? fun p => decide (p.1 = k) with
  | none => rw [e] at this; cases this
  | some p =>
    have h1 := List.find?_some e
    have h2 := List.mem_of_find?_eq_some e
    have h3 : p.1 = k := of_decide_eq_true h1
    show some p.2 = _
    rw [h p h2, h3]
def putAll (Kf : PyData → List Key) (Vf : PyData → PyData) (xs : List PyData) (acc : Tb) : Tb := xs.foldl (fun a x => putD a (Kf x) (Vf x)) acc
theorem putAll_has {Kf : PyData → List Key} {Vf : PyData → PyData} {k : List Key} : ∀ (xs : List PyData) (acc : Tb), hasK (putAll Kf Vf xs acc) k = (hasK acc k || xs.any fun x => decide (Kf x = k))
  | [], acc => by simp [putAll]
  | x :: xs, acc => by
    show hasK (putAll Kf Vf xs (putD acc (Kf x) (Vf x))) k = _
    rw [putAll_has xs, hasK_put, List.any_cons]
    cases decide (Kf x = k) <;> cases hasK acc k <;> rfl
theorem putAll_vals {W : List Key → PyData} {Kf : PyData → List Key} {Vf : PyData → PyData} : ∀ (xs : List PyData) (acc : Tb), (∀ p ∈ acc, p.2 = W p.1) → (∀ x ∈ xs, Vf x = W (Kf x)) → ∀ p ∈ putAll Kf Vf xs acc, p.2 = W p.1
  | [], acc, h, _ => h
  | x :: xs, acc, h, hx => putAll_vals xs (putD acc (Kf x) (Vf x)) (put_vals h (hx x List.mem_cons_self)) fun y hy => hx y (List.mem_cons_of_mem _ hy)
theorem putAll_len {Kf : PyData → List Key} {Vf : PyData → PyData} : ∀ (xs : List PyData) (acc : Tb), (putAll Kf Vf xs acc).length ≤ acc.length + xs.length
  | [], acc => Nat.le_refl _
  | x :: xs, acc => by
    have h1 := putAll_len (Kf := Kf) (Vf := Vf) xs (putD acc (Kf x) (Vf x))
    have h2 := putD_len acc (Kf x) (Vf x)
    show (putAll Kf Vf xs (putD acc (Kf x) (Vf x))).length ≤ _
    rw [List.length_cons]
    omega
theorem dcD_gen {fl : Bool} {vs : List Nat} {g : GEV} {tk tv : EV} {δ : Ds} (Kf : PyData → List Key) (Vf : PyData → PyData) : ∀ {xs : List PyData} {acc : Tb}, (∀ x ∈ xs, ∃ δ1 yk s, g x δ = some δ1 ∧ tk δ1 = some (.d yk, δ1) ∧ tv δ1 = some (s, δ1) ∧ frz s = .d (Vf x) ∧ keyS (.d yk) = some (fl, Kf x) ∧ noOwn vs δ1 = true ∧ wipeD δ1 vs = δ) → acc.length + xs.length ≤ sizeLine →
    dcD fl vs g yesT tk tv xs acc δ = some (putAll Kf Vf xs acc, δ)
  | [], acc, _, _ => rfl
  | x :: xs, acc, H, hl => by
    obtain ⟨δ1, yk, s, e1, e2, e3, e4, e5, e6, e7⟩ := H x List.mem_cons_self
    have hl2 := putD_len acc (Kf x) (Vf x)
    rw [List.length_cons] at hl
    have ih := dcD_gen Kf Vf (xs := xs) (acc := putD acc (Kf x) (Vf x)) (fun y hy => H y (List.mem_cons_of_mem _ hy)) (by omega)
    unfold dcD
    rw [e1]
    simp only [Option.bind_some, yesT, if_true]
    rw [e2]
    simp only [Option.bind_some]
    rw [e3]
    simp only [Option.bind_some]
    rw [e4, e5]
    simp only
    rw [if_pos ⟨trivial, e6, by omega⟩, e7]
    exact ih
theorem dcE_gen {fl : Bool} {vs : List Nat} {fi : IEV} {g : GEV} {tk tv : EV} {δ δ1 : Ds} {xs : List PyData} (Kf : PyData → List Key) (Vf : PyData → PyData) (hf : fi δ = some (xs, δ1)) (hn : noOwn vs δ1 = true) (hr : restD δ1 (wipeD δ1 vs) vs = δ1)
    (H : ∀ x ∈ xs, ∃ δ2 yk s, g x (wipeD δ1 vs) = some δ2 ∧ tk δ2 = some (.d yk, δ2) ∧ tv δ2 = some (s, δ2) ∧ frz s = .d (Vf x) ∧ keyS (.d yk) = some (fl, Kf x) ∧ noOwn vs δ2 = true ∧ wipeD δ2 vs = wipeD δ1 vs) (hl : xs.length ≤ sizeLine) :
    dcE fl vs fi g yesT tk tv δ = some (.o (.t ⟨fl, putAll Kf Vf xs []⟩), δ1) := by
  unfold dcE
  rw [hf]
  simp only [Option.bind_some]
  rw [if_pos hn, dcD_gen Kf Vf H (by simpa using hl)]
  show some (_, restD δ1 (wipeD δ1 vs) vs) = _
  rw [hr]
/-! keys of whole numbers -/
def keyI (r : List Int) : List Key := r.map Sum.inl
theorem keyL_ints : ∀ r : List Int, keyL (r.map PyData.int) = some (keyI r)
  | [] => rfl
  | i :: r => by
    show ((some (Sum.inl i)).bind fun k => (keyL (r.map PyData.int)).map fun ks => k :: ks) = _
    rw [keyL_ints r]
    rfl
theorem keyS_ints (r : List Int) : keyS (.d (.tuple (r.map PyData.int))) = some (false, keyI r) := by
  show (keyL (r.map PyData.int)).map _ = _
  rw [keyL_ints]
  rfl
theorem keyI_inj {r q : List Int} (h : keyI r = keyI q) : r = q := List.map_inj_right (fun a b e => Sum.inl.inj e) |>.mp h
theorem keyD_ints (r : List Int) : keyD (keyI r) = .tuple (r.map PyData.int) := by
  unfold keyD keyI
  rw [List.map_map]
  rfl
theorem in_tab {neg : Bool} {r : List Int} {s : S} {kvs : Tb} (h : asTb s = some ⟨false, kvs⟩) : opInX neg (.d (.tuple (r.map PyData.int))) s = some (.d (.bool (neg ^^ hasK kvs (keyI r)))) := by
  have e : opInT neg (.d (.tuple (r.map PyData.int))) s = some (.d (.bool (neg ^^ hasK kvs (keyI r)))) := by
    unfold opInT
    rw [keyS_ints, h]
    simp only [Option.bind_some, if_true]
    rw [valK_some]
  unfold opInX
  rw [e]
theorem ix_tab {W : List Key → PyData} {r : List Int} {s : S} {kvs : Tb} (h : asTb s = some ⟨false, kvs⟩) (hv : ∀ p ∈ kvs, p.2 = W p.1) (hk : hasK kvs (keyI r) = true) : opIxX s (.d (.tuple (r.map PyData.int))) = some (.d (W (keyI r))) := by
  have e : opIxT s (.d (.tuple (r.map PyData.int))) = some (.d (W (keyI r))) := by
    unfold opIxT
    rw [keyS_ints, h]
    simp only [Option.bind_some, if_true]
    rw [valK_of hv hk]
    rfl
  unfold opIxX
  rw [e]
theorem setT_of {i : Nat} {fe fi : PEV} {d : PyData} {c0 : C} {δ δ1 δ2 : Ds} {pv : PV} {ks : S} {k : List Key} {t : Tab} (h : fe δ = some (.v (.d d), δ1)) (h0 : slot δ1 i = some (.o c0)) (h1 : fi δ1 = some (pv, δ2)) (h2 : res δ2 pv = some ks) (h3 : slot δ2 i = some (.o (.t t))) (h4 : keyS ks = some (t.fl, k)) (h5 : t.kvs.length < sizeLine) :
    setT i fe fi δ = some (.nx (δ2.set i (some (.o (.t ⟨t.fl, putD t.kvs k d⟩))))) := by
  unfold setT
  rw [h]
  simp only [Option.bind_some]
  rw [h0]
  simp only
  rw [h1]
  simp only [Option.bind_some]
  rw [h2]
  simp only [Option.bind_some]
  rw [h3, h4]
  simp only
  rw [if_pos ⟨trivial, h5⟩]
theorem truT_of {f : PEV} {δ δ1 : Ds} {pv : PV} {s : S} {xs : List PyData} (h : f δ = some (pv, δ1)) (h1 : res δ1 pv = some s) (h2 : asS s = some xs) : truT f δ = some (!xs.isEmpty, δ1) := by
  unfold truT
  rw [h]
  simp only [Option.bind_some]
  rw [h1]
  simp only [Option.bind_some]
  rw [h2]
  rfl
end DL

namespace DL
open PySem PySem.Spec PyProof.Rows L2
variable [TB]

/-! ### enumerate(list) -/
def enumF : Nat → List PyData → List PyData
  | _, [] => []
  | i, x :: xs => .tuple [.int (i : Nat), x] :: enumF (i + 1) xs
theorem enumF_len : ∀ (k : Nat) (xs : List PyData), (enumF k xs).length = xs.length
  | _, [] => rfl
  | k, x :: xs => congrArg (· + 1) (enumF_len (k + 1) xs)
theorem enumF_at : ∀ (k : Nat) (xs : List PyData) (i : Nat), (enumF k xs)[i]? = (xs[i]?).map fun x => .tuple [.int ((k + i : Nat) : Int), x]
  | _, [], i => by simp [enumF]
  | k, x :: xs, 0 => by simp [enumF]
  | k, x :: xs, i + 1 => by
    show (enumF (k + 1) xs)[i]? = _
    rw [enumF_at (k + 1) xs i, List.getElem?_cons_succ, show k + 1 + i = k + (i + 1) by omega]
def enumI (fa : AEV) : IEV := fun δ => (fa δ).bind fun x => match x.1 with
  | [.v (.d (.list xs))] => some (enumF 0 xs, x.2)
  | _ => none
theorem serves_E {K : PySem.W.Frag} {T : List Addr} {ρ : List (Option Addr)} {H : Hp} {a : Addr} {ws : List V} {xs : List PyData} (h0 : hid T ρ H a = some (.lst ws)) (hd : DqAll K (hid T ρ H) ws xs) : Serves K T ρ H (Ite K a) (enumF 0 xs) := fun i T2 ρ2 H2 sm tr => by
  have h2 : SqL K H2 a ws := SqL.of (hid_same _ _ (sm _ _ h0))
  refine ⟨fun d hi => ?_, fun hi => ⟨ws, h2, by rw [dpAll_len hd]; rw [enumF_len] at hi; exact hi⟩⟩
  rw [enumF_at] at hi
  obtain ⟨x, ex, rfl⟩ := Option.map_eq_some_iff.mp hi
  obtain ⟨v, e1, e2⟩ := dpAll_get hd ex
  refine ⟨⟨ws, v, h2, e1⟩, fun y H3 hy => ?_⟩
  obtain ⟨t, x', rfl, hn, rfl, fv⟩ := hy
  have := fv ws h2
  rw [e1] at this
  cases this
  refine ⟨same_new hn, Dq.tup (tr.hidNew hn) (.cons ?_ (.cons (dpM (hid_mono (same_new hn)) _ (dpM sm _ e2)) .nil))⟩
  rw [Nat.zero_add]
  exact .int _
section
variable {X : Cx} {e : Expr} {fa : AEV} {p pos tpos : Pos} {elts : List Expr} {kk : Nat}
theorem di_enum (hg : Gl X "enumerate") (hm : X.mg "enumerate" = none) (ha : DA X [e] fa) (hs : starEach [e] X.env = [(false, eval e X.env)] := by rfl) : DI X (.Tuple elts kk tpos) (.Call (.Name "enumerate" p) [e] [] pos) (enumI fa) := pi_imp (pi_enum hg hm ha hs) fun σ H R ⟨T, ρ, δ, xs, δ', hs, hf, hq⟩ => by
  unfold enumI at hf
  cases ea : fa δ with
  | none => rw [ea] at hf; cases hf
  | some z =>
    obtain ⟨ps, δ1⟩ := z
    rw [ea] at hf
    simp only [Option.bind_some] at hf
    refine ⟨T, ρ, δ, ps, δ1, hs, ea, fun ρ1 vs H1 s1 x1 p1 => ?_⟩
    split at hf
    case h_2 => cases hf
    rename_i ys
    cases hf
    cases p1 with
    | cons q1 q2 =>
      cases q2
      cases (show Dq X.K (hid T ρ1 H1) _ (.list ys) from q1) with
      | lst h1 h2 => exact ⟨_, _, rfl, SqL.of (hid_same _ _ h1), hq ρ1 H1 _ s1 x1 (serves_E h1 h2)⟩
end
end DL


/-! ### sorted(xs), xs a list of tuples of whole numbers -/
namespace DLS
open PySem PySem.Spec PyProof.Rows L2 SrtO
/-- as Python orders tuples -/
def lexL : List Int → List Int → Bool
  | [], ys => !ys.isEmpty
  | _ :: _, [] => false
  | x :: xs, y :: ys => if x = y then lexL xs ys else decide (x < y)
theorem lexL_asym : ∀ xs ys : List Int, lexL xs ys = true → lexL ys xs = false
  | [], [], h => by cases h
  | [], y :: ys, _ => rfl
  | x :: xs, [], h => by cases h
  | x :: xs, y :: ys, h => by
    unfold lexL at h ⊢
    split at h
    · rename_i e
      rw [if_pos e.symm]
      exact lexL_asym xs ys h
    · rename_i e
      rw [if_neg (fun z => e z.symm)]
      have := of_decide_eq_true h
      exact decide_eq_false (by omega)
theorem lexL_tr : ∀ xs ys zs : List Int, lexL ys xs = false → lexL zs ys = false → lexL zs xs = false
  | [], ys, zs, _, _ => by
    cases zs with
    | nil => rfl
    | cons z zs => rfl
  | x :: xs, [], zs, h, _ => by cases h
  | x :: xs, y :: ys, [], _, h => by cases h
  | x :: xs, y :: ys, z :: zs, h1, h2 => by
    unfold lexL at h1 h2 ⊢
    split at h1
    · rename_i e1
      split at h2
      · rename_i e2
        rw [if_pos (e2.trans e1)]
        exact lexL_tr xs ys zs h1 h2
      · rename_i e2
        have := of_decide_eq_false h2
        rw [if_neg (fun q => e2 (q.trans e1.symm))]
        exact decide_eq_false (by omega)
    · rename_i e1
      have h1' := of_decide_eq_false h1
      split at h2
      · rename_i e2
        rw [if_neg (fun q => e1 (e2.symm.trans q))]
        exact decide_eq_false (by omega)
      · rename_i e2
        have h2' := of_decide_eq_false h2
        rw [if_neg (by omega)]
        exact decide_eq_false (by omega)
theorem lexL_anti : ∀ xs ys : List Int, lexL xs ys = false → lexL ys xs = false → xs = ys
  | [], [], _, _ => rfl
  | [], y :: ys, h, _ => by cases h
  | x :: xs, [], _, h => by cases h
  | x :: xs, y :: ys, h1, h2 => by
    unfold lexL at h1 h2
    by_cases e : x = y
    · rw [if_pos e] at h1
      rw [if_pos e.symm] at h2
      rw [e, lexL_anti xs ys h1 h2]
    · rw [if_neg e] at h1
      rw [if_neg (fun z => e z.symm)] at h2
      have a := of_decide_eq_false h1
      have b := of_decide_eq_false h2
      omega
theorem swoL {α : Type} (k : α → List Int) : Swo fun v u => lexL (k v) (k u) := ⟨fun x y h => lexL_asym _ _ h, fun x y z h1 h2 => lexL_tr _ _ _ h1 h2⟩
section
variable {prog : Program} {w : World} {A : Around} {s : Shared} {E : Value → Shared → Prop}
def IsTupI (h : Heap) (v : Value) (k : List Int) : Prop := ∃ a o its n, v = .ref a ∧ h.get? a = some o ∧ o.cls = .type "tuple" ∧ o.data = .seq (List.toArray its) n ∧ Vals (k.map V.int) its
theorem IsTupI.keeps {h h' : Heap} {v : Value} {k : List Int} (x : IsTupI h v k) (kp : ∀ b o, h.get? b = some o → o.cls = .type "tuple" → h'.get? b = some o) : IsTupI h' v k := let ⟨a, o, its, n, e, ho, hc, hd, hv⟩ := x; ⟨a, o, its, n, e, kp a o ho hc, hc, hd, hv⟩
theorem lex_walk {Q : Bool → Shared → Prop} : ∀ (xs ys : List Int) (us vs : List Value) (i m n : Nat), Vals (xs.map V.int) us → Vals (ys.map V.int) vs → m = i + xs.length → n = i + ys.length → Q (lexL xs ys) s → PySem.W.KatLex prog w A true (decide (m < n)) Q (us.zip vs) i s
  | [], ys, us, vs, i, m, n, h1, h2, hm, hn, hq => by
    cases h1
    refine PySem.W.kat_nil ?_
    have e : decide (m < n) = lexL [] ys := by
      subst hm hn
      cases ys with
      | nil => simp [lexL]
      | cons y ys => simp [lexL]
    rw [e]
    exact hq
  | x :: xs, [], us, vs, i, m, n, h1, h2, hm, hn, hq => by
    cases h2
    rw [List.zip_nil_right]
    refine PySem.W.kat_nil ?_
    have e : decide (m < n) = false := by
      subst hm hn
      exact decide_eq_false (by simp)
    rw [e]
    exact hq
  | x :: xs, y :: ys, us, vs, i, m, n, h1, h2, hm, hn, hq => by
    cases h1 with
    | cons r1 t1 =>
      cases h2 with
      | cons r2 t2 =>
        obtain ⟨t, rfl⟩ := r1
        obtain ⟨u, rfl⟩ := r2
        rw [List.zip_cons_cons]
        refine PySem.W.kat_cons (SeqAt.EqAt.int_int x t y u prog w _ _ ?_)
        refine PySem.W.kat_go (fun e1 => ?_) (fun e1 => ?_)
        · have ex : x = y := by simpa using e1
          refine PySem.W.kat_yes (lex_walk xs ys _ _ (i + 1) m n t1 t2 (by rw [hm, List.length_cons]; omega) (by rw [hn, List.length_cons]; omega) ?_)
          unfold lexL at hq
          rw [if_pos ex] at hq
          exact hq
        · have ex : ¬ x = y := by simpa using e1
          unfold lexL at hq
          rw [if_neg ex] at hq
          refine PySem.W.kat_no ?_
          cases hi : i == 0 with
          | true => exact oneLt_int hq
          | false => exact PySem.W.kat_one _ _ (PyProof.Rows.lt_int hq)
theorem tup_cmp {vs : List Value} {k : Value → List Int} (hp : ∀ v ∈ vs, IsTupI s.heap v (k v)) : Cmp prog w A s (tuples' true) (fun p => p.1 ∈ vs) (lt2 fun v u => lexL (k v) (k u)) := by
  intro p q hm hm'
  obtain ⟨a, o, its, n, e, ho, hc, hd, hv⟩ := hp _ hm
  obtain ⟨a', o', its', n', e', ho', hc', hd', hv'⟩ := hp _ hm'
  show wpAny (model prog w) A (keyLt' (tuples' true) p.1 q.1) (fun r s' => s' = s ∧ r = lexL (k p.1) (k q.1)) (fun _ _ => False) s
  generalize k p.1 = x at hv ⊢
  generalize k q.1 = y at hv' ⊢
  rw [e, e']
  refine PySem.W.kat_lt ho hd ho' hd' ?_
  have l1 := hv.length
  have l2 := hv'.length
  rw [List.length_map] at l1 l2
  exact lex_walk x y its its' 0 _ _ hv hv' (by simpa using l1.symm) (by simpa using l2.symm) ⟨rfl, rfl⟩
theorem firsts : ∀ {vs : List Value} {k : Value → List Int}, (∀ v ∈ vs, IsTupI s.heap v (k v) ∧ k v ≠ []) → ∃ fs : List Value, PySem.W.KatTups s.heap vs fs ∧ fs.length = vs.length ∧ ∀ f ∈ fs, ∃ i t, f = Value.int i t
  | [], k, _ => ⟨[], trivial, rfl, fun f hf => nomatch hf⟩
  | v :: vs, k, h => by
    obtain ⟨fs, h1, h2, h3⟩ := firsts (vs := vs) (k := k) fun u hu => h u (List.mem_cons_of_mem _ hu)
    obtain ⟨⟨a, o, its, n, e, ho, hc, hd, hv⟩, hne⟩ := h v List.mem_cons_self
    cases hk : k v with
    | nil => exact absurd hk hne
    | cons x xs =>
      rw [hk] at hv
      cases hv with
      | cons r t =>
        obtain ⟨tk, rfl⟩ := r
        refine ⟨.int x tk :: fs, ⟨⟨a, o, _, n, e, ho, hc, hd, by simp⟩, h1⟩, by simp [h2], fun f hf => ?_⟩
        rcases List.mem_cons.mp hf with e | hf
        · exact ⟨x, tk, e⟩
        · exact h3 f hf
theorem tups_sortable {a : Addr} {vs : List Value} {k : Value → List Int} (h0 : 0 < vs.length) (hp : ∀ v ∈ vs, IsTupI s.heap v (k v) ∧ k v ≠ []) (ha : ∀ o, s.heap.get? a = some o → o.cls ≠ .type "tuple") : SortableO prog w A s a vs fun v u => lexL (k v) (k u) := by
  intro h' keep
  have hp' : ∀ v ∈ vs, IsTupI h' v (k v) ∧ k v ≠ [] := fun v hm => ⟨(hp v hm).1.keeps fun b o e c => keep b o (fun z => by subst z; exact ha o e c) e, (hp v hm).2⟩
  obtain ⟨fs, h1, h2, h3⟩ := firsts (s := { s with heap := h' }) hp'
  refine ⟨tuples' true, fun Q E hq => ?_, tup_cmp (s := { s with heap := h' }) fun v hv => (hp' v hv).1⟩
  refine PySem.W.kat_kind (T := .type "int") h1 (by omega) (fun f hm => ?_) (by rfl) ?_
  · obtain ⟨x, t, rfl⟩ := h3 f hm
    exact PySem.W.Looks.now
  · have e : (Value.type "int" != Value.type "tuple") = true := by first | decide +kernel | rfl | decide
    rw [e]
    exact hq
end
end DLS
namespace DL
open PySem PySem.Spec PyProof.Rows L2 DLS
variable [TB]
def rSortedTI (K : PySem.W.Frag) : List V → Hp → VK → Prop := fun vs H Q => ∃ (a : Addr) (xs : List V) (k : V → List Int), vs = [V.ref a] ∧ SqL K H a xs ∧ (∀ x ∈ xs, ∃ t, x = V.ref t ∧ H t = some (.tup ((k x).map V.int))) ∧ (xs.length < 2 ∨ ∀ x ∈ xs, k x ≠ []) ∧
  ∀ ys p, SrtO.Srtd (fun x y => lexL (k x) (k y)) ys → SrtO.Stb (fun x y => lexL (k x) (k y)) ys xs → H p = none → Q (.ref p) (upd H p (.lst ys))
section
variable {X : Cx}
theorem cr_sortedTI : CallR X (.builtin "sorted") (rSortedTI X.K) := by
  intro pins s σ H vs us Q I r h
  obtain ⟨a, xs, k, rfl, hs, hx, hne, q⟩ := h
  obtain ⟨its, rv, hl, hz⟩ := I.list hs
  obtain ⟨u, rfl, ru⟩ := vals1 r
  cases (show u = Value.ref a from ru)
  obtain ⟨e1, e2⟩ := refs_back rv fun x m => let ⟨t, e, _⟩ := hx x m; ⟨t, e⟩
  have each : ∀ v ∈ its, IsTupI s.heap v (k (backV v)) := fun v hv => by
    obtain ⟨t, rfl⟩ := e2 v hv
    have hm : V.ref t ∈ xs := e1 ▸ List.mem_map.mpr ⟨_, hv, rfl⟩
    obtain ⟨t', e, ht⟩ := hx _ hm
    cases e
    obtain ⟨_, its2, r2, o, ho, hc, n, hd⟩ := I.hok _ _ ht
    exact ⟨t, o, its2, n, rfl, ho, hc, hd, r2⟩
  have hlen : xs.length = its.length := rv.length
  refine SrtO.sorted_ord (swoL fun u => k (backV u)) hl.isList (by rw [← hlen]; exact hz) (fun h2 h1 b hb kp => ?_) fun out h1 h2 => ?_
  · refine tups_sortable (s := { s with heap := h1 }) (by omega) (fun v hv => ⟨(each v hv).keeps fun c o e _ => (kp c o e).2, ?_⟩) fun o e => ?_
    · rcases hne with hne | hne
      · omega
      · obtain ⟨t, rfl⟩ := e2 v hv
        exact hne _ (e1 ▸ List.mem_map.mpr ⟨_, hv, rfl⟩)
    · have e' : some o = some (seqObj "list" its.toArray 0) := e.symm.trans hb
      cases e'
      exact fun c => absurd (Value.type.inj c) (by decide)
  · have h3 : ∀ u ∈ out, ∃ a, u = Value.ref a := fun u hu => e2 u (h2.perm.mem_iff.mp hu)
    have hb : SrtO.Stb (fun x y => lexL (k x) (k y)) (out.map backV) xs := e1 ▸ SrtO.Stb.map (swoL k) backV h2
    obtain ⟨n, hn⟩ := sortedAll_at s.heap its out.toArray
    refine ⟨.ref _, upd H _ (.lst (out.map backV)), I.laid (t' := s.toks) (fun b o e => sortedAll_old e) (Nat.le_succ _) ⟨?_, out, n, vals_back h3, hn⟩, rfl, q _ _ (SrtO.srtd_map h1) hb (I.hok.fresh (Nat.le_succ _))⟩
    rw [hb.len]
    exact hz
end
end DL

namespace DL
open PySem PySem.Spec PyProof.Rows L2 DLS
variable [TB]

abbrev tupI (r : List Int) : PyData := .tuple (r.map PyData.int)
def intsP : List PyData → Option (List Int)
  | [] => some []
  | .int i :: ds => (intsP ds).map (i :: ·)
  | _ => none
theorem intsP_eq : ∀ {ds : List PyData} {r : List Int}, intsP ds = some r → ds = r.map PyData.int
  | [], r, h => by cases h; rfl
  | .int i :: ds, r, h => by
    have h' : (intsP ds).map (i :: ·) = some r := h
    cases e : intsP ds with
    | none => rw [e] at h'; cases h'
    | some q =>
      rw [e] at h'
      cases h'
      rw [intsP_eq e]
      rfl
  | .none :: _, _, h => by cases h
  | .bool _ :: _, _, h => by cases h
  | .str _ :: _, _, h => by cases h
  | .list _ :: _, _, h => by cases h
  | .tuple _ :: _, _, h => by cases h
  | .dict _ :: _, _, h => by cases h
theorem intsP_map : ∀ r : List Int, intsP (r.map PyData.int) = some r
  | [] => rfl
  | i :: r => by
    show (intsP (r.map PyData.int)).map (i :: ·) = _
    rw [intsP_map r]
    rfl
def rowsP : List PyData → Option (List (List Int))
  | [] => some []
  | .tuple ds :: xs => (intsP ds).bind fun r => (rowsP xs).map (r :: ·)
  | _ => none
theorem rowsP_eq : ∀ {xs : List PyData} {rs : List (List Int)}, rowsP xs = some rs → xs = rs.map tupI
  | [], rs, h => by cases h; rfl
  | .tuple ds :: xs, rs, h => by
    have h' : ((intsP ds).bind fun r => (rowsP xs).map (r :: ·)) = some rs := h
    cases e : intsP ds with
    | none => rw [e] at h'; cases h'
    | some r =>
      rw [e] at h'
      simp only [Option.bind_some] at h'
      cases e2 : rowsP xs with
      | none => rw [e2] at h'; cases h'
      | some q =>
        rw [e2] at h'
        cases h'
        rw [intsP_eq e, rowsP_eq e2]
        rfl
  | .none :: _, _, h => by cases h
  | .bool _ :: _, _, h => by cases h
  | .int _ :: _, _, h => by cases h
  | .str _ :: _, _, h => by cases h
  | .list _ :: _, _, h => by cases h
  | .dict _ :: _, _, h => by cases h
theorem rowsP_map : ∀ rs : List (List Int), rowsP (rs.map tupI) = some rs
  | [] => rfl
  | r :: rs => by
    show ((intsP (r.map PyData.int)).bind fun r => (rowsP (rs.map tupI)).map (r :: ·)) = _
    rw [intsP_map, rowsP_map rs]
    rfl
abbrev sortT : List (List Int) → List (List Int) := isort lexL
def fSortedT : List S → Option S
  | [s] => (asL s).bind fun xs => (rowsP xs).bind fun rs => if rs.length < 2 ∨ (rs.all fun r => !r.isEmpty) = true then some (.o (.l ((sortT rs).map tupI))) else none
  | _ => none
def intV : V → Int
  | .int i => i
  | _ => 0
def keyVT (H : Hp) : V → List Int
  | .ref t => match H t with
    | some (.tup vs) => vs.map intV
    | _ => []
  | _ => []
theorem ints_V {K : PySem.W.Frag} {G : Hp} : ∀ {vs : List V} {r : List Int}, DqAll K G vs (r.map PyData.int) → vs = r.map V.int
  | _, [], h => by cases h; rfl
  | _, i :: r, h => by
    cases h with
    | cons a b =>
      cases a
      rw [ints_V b]
      rfl
theorem dq_tupI {K : PySem.W.Frag} {G H : Hp} (e : Same G H) {v : V} {r : List Int} (h : Dq K G v (tupI r)) : keyVT H v = r ∧ ∃ t, v = .ref t ∧ H t = some (.tup (r.map V.int)) := by
  cases h with
  | @tup t xs _ h1 h2 =>
    have hv := ints_V h2
    subst hv
    have h3 := e _ _ h1
    refine ⟨?_, t, rfl, h3⟩
    show (match H t with | some (.tup vs) => vs.map intV | _ => []) = r
    rw [h3]
    show (r.map V.int).map intV = r
    rw [List.map_map]
    exact List.map_id r
theorem cd_sortedT {K : PySem.W.Frag} : CallD K (rSortedTI K) fSortedT := fun T ρ H vs ss s Q k hp hg hq => by
  unfold fSortedT at hg
  split at hg
  case h_2 => cases hg
  rename_i u
  obtain ⟨v, rfl, h⟩ := paired1 hp
  cases e : asL u with
  | none => rw [e] at hg; cases hg
  | some xs =>
    rw [e] at hg
    simp only [Option.bind_some] at hg
    cases ep : rowsP xs with
    | none => rw [ep] at hg; cases hg
    | some rs =>
      rw [ep] at hg
      simp only [Option.bind_some] at hg
      split at hg
      case isFalse => cases hg
      rename_i hc
      cases hg
      obtain ⟨a, ws, rfl, h1, h2⟩ := at_L h e
      have ex := rowsP_eq ep
      subst ex
      have each : ∀ v ∈ ws, (∃ t, v = .ref t ∧ H t = some (.tup ((keyVT H v).map V.int))) ∧ Dq K (hid T ρ H) v (tupI (keyVT H v)) ∧ keyVT H v ∈ rs := fun v hv => by
        obtain ⟨d, hd, q⟩ := dqAll_mem h2 hv
        obtain ⟨r, hr, rfl⟩ := List.mem_map.mp hd
        obtain ⟨q1, q2⟩ := dq_tupI hid_same q
        rw [q1]
        exact ⟨q2, q, hr⟩
      have hlen : ws.length = rs.length := by
        have := dpAll_len h2
        rw [List.length_map] at this
        exact this
      have kws : ws.map (keyVT H) = rs := by
        apply List.ext_getElem?
        intro i
        rw [List.getElem?_map]
        cases ei : ws[i]? with
        | none =>
          have hl := List.getElem?_eq_none_iff.mp ei
          rw [List.getElem?_eq_none (by omega)]
          rfl
        | some v =>
          obtain ⟨d, e1, q⟩ := dpAll_getV h2 ei
          rw [List.getElem?_map] at e1
          cases e2 : rs[i]? with
          | none => rw [e2] at e1; cases e1
          | some r =>
            rw [e2] at e1
            cases e1
            exact congrArg some (dq_tupI hid_same q).1
      refine ⟨a, ws, keyVT H, rfl, SqL.of h1, fun v hv => (each v hv).1, ?_, fun ys n h3 h4 hn => ?_⟩
      · rcases hc with hc | hc
        · exact .inl (by omega)
        · refine .inr fun v hv z => ?_
          have := List.all_eq_true.mp hc _ (each v hv).2.2
          rw [z] at this
          cases this
      have ey : ys.map (keyVT H) = sortT rs := by
        refine perm_uniq (R := fun a b => lexL b a = false) (fun a b h1 h2 => lexL_anti a b h2 h1) ?_ ?_ (isort_sorted (fun a b => lexL_asym a b) (fun a b c => lexL_tr a b c) _)
        · have := h4.perm.map (keyVT H)
          rw [kws] at this
          exact this.trans (isort_perm rs).symm
        · exact List.pairwise_map.mpr h3
      refine hq n _ hn ⟨ys, rfl, ?_⟩
      rw [← ey, List.map_map]
      exact dqAll_of fun v hv => (each v (h4.perm.mem_iff.mp hv)).2.1
section
variable {X : Cx} {e : Expr} {es : List Expr} {pos p : Pos} {fa : AEV}
theorem de_sortedT (hm : X.mg "sorted" = none) (hg : Gl X "sorted") (ha : DA X (e :: es) fa) (he : starEach (e :: es) X.env = (false, eval e X.env) :: starEach es X.env := by rfl) (hpl : (backTo pos (starEach es X.env)).any (·.1) = false := by rfl) : DE X (.Call (.Name "sorted" p) (e :: es) [] pos) (callB fSortedT fa) :=
  de_callB cr_sortedTI cd_sortedT hg hm (by decide +kernel) ha (by decide) (by decide) he hpl
end
end DL

namespace DL
open PySem PySem.Spec PyProof.Rows L2 DLS
variable [TB]

/-! ### f(b = .., a = ..): all arguments by their names -/
abbrev DK (X : Cx) (kws : List Keyword) (f : AEV) : Prop := PK X kws (liftA X.K f)
section
variable {X : Cx} {e : Expr} {kws : List Keyword} {kpos p pos : Pos} {nm : Option Str}
theorem pk_imp {t t' : TA} (q : PK X kws t) (m : ∀ σ H Q, t' σ H Q → t σ H Q) : PK X kws t' := ⟨fun pos pins s σ H Q I h => q.run pos pins s σ H Q I (m σ H Q h)⟩
theorem dk_nil : DK X [] nilA := pk_imp pk_nil fun σ H Q ⟨T, ρ, δ, ps, δ', hs, hf, hq⟩ => by
  cases hf
  exact hq ρ [] H hs .refl .nil
theorem dk_cons {fp : PEV} {fa : AEV} (h1 : DP X e fp) (h2 : DK X kws fa) : DK X (⟨nm, e, kpos⟩ :: kws) (consA fp fa) := pk_imp (pk_cons h1 h2) fun σ H Q ⟨T, ρ, δ, ps, δ', hs, hf, hq⟩ => by
  unfold consA at hf
  cases ea : fp δ with
  | none => rw [ea] at hf; cases hf
  | some x =>
    rw [ea] at hf
    simp only [Option.bind_some] at hf
    cases eb : fa x.2 with
    | none => rw [eb] at hf; cases hf
    | some y =>
      rw [eb] at hf
      cases hf
      refine ⟨T, ρ, δ, x.1, x.2, hs, by rw [ea], fun ρ1 v1 H1 s1 x1 p1 => ?_⟩
      refine ⟨T, ρ1, x.2, y.1, y.2, s1, by rw [eb], fun ρ2 vs H2 s2 x2 p2 => ?_⟩
      exact hq ρ2 (v1 :: vs) H2 s2 (x1.trans x2) (.cons (patM x2 p1) p2)
/-- what was said last stands first -/
def revA (fa : AEV) : AEV := fun δ => (fa δ).map fun x => (x.1.reverse, x.2)
theorem paired_rev {α β : Type} {R : α → β → Prop} : ∀ {xs : List α} {ys : List β}, Paired R xs ys → Paired R xs.reverse ys.reverse
  | _, _, .nil => .nil
  | _, _, .cons (a := a) (b := b) h t => by
    rw [List.reverse_cons, List.reverse_cons]
    exact Paired.snoc (paired_rev t) h
/-- a def of the program that may be called by its parameters' names, said from the last to the first -/
def DefK (Pr : Program) (w : World) (K : PySem.W.Frag) (mg : Str → Option Value) (base : Heap) (k : Nat) (name : Str) (ps : List Str) (F : FN) : Prop :=
  ∃ a fd, mg name = some (.ref a) ∧ PySem.W.keepIn K (.ref a) = true ∧ (∀ (s : Shared) (ws : List Value), K.In s.heap → ws.length = ps.length → BindsTo s fd ⟨[], ps.reverse.zip ws⟩ (ps.zip ws.reverse)) ∧ FnG Pr w K mg base k a fd ps (spF K ps.length F)
theorem defK_mk {Pr : Program} {w : World} {K : PySem.W.Frag} {mg : Str → Option Value} {base : Heap} {x : Str} {st : Stmt} {f : Addr} {fd : FuncData} {N ps : List Str} {k : Nat} {P : List Nat} {body : SEV} (F : Fun K x x st f fd) (gm : mg x = some (.ref f))
    (b : ∀ (s : Shared) (ws : List Value), K.In s.heap → ws.length = ps.length → BindsTo s fd ⟨[], ps.reverse.zip ws⟩ (ps.zip ws.reverse)) (Sc : FnScope N ps (defScope st))
    (hbody : ∀ (cdv : Value) (A : Around) (outer : List Env) (s : Shared) (H : Hp) (E : XK), A.guards = some [] → Room k (A.deeper (envOfC x (defScope st) s.heap.objs.size f cdv)) → DSs (cxOf CX0 Pr w K mg base N x (defScope st) f cdv A outer s H E).nox P (defBody st) body) :
    DefK Pr w K mg base (k + 1) x ps (runF P N.length body) := ⟨f, fd, gm, F.kp, b, fn_ok F Sc hbody⟩
theorem de_ownK {k j m : Nat} {x : Str} {ps : List Str} {F : FN} {fa : AEV} (D : DefK X.prog X.w X.K X.mg X.base k x ps F) (hm : ps.length = m) (hG : X.A.guards = some []) (hr : Room j X.A) (hk : k ≤ j) (hg : Gl X x) (ha : DK X kws fa)
    (hall : (backToKw pos (keywordEach kws X.env)).all (·.1.isSome) = true := by rfl) (hks : (backToKw pos (keywordEach kws X.env)).filterMap (·.1) = ps.reverse := by rfl) (hdb : (x == ("__debug__" : Str)) = false := by decide)
    (hpl : ((backTo pos (starEach [] X.env)).any (·.1) || (backToKw pos (keywordEach kws X.env)).any (·.1.isNone)) = false := by rfl) : DE X (.Call (.Name x p) [] kws pos) (callE F m (revA fa)) := by
  subst hm
  obtain ⟨f, fd, h1, h2, h3, h4⟩ := D
  refine ⟨fun pins s σ H Q I h => ?_⟩
  have h' := call_ok σ H Q h
  obtain ⟨T, ρ, δ, pv, δ', hs, hf, hq⟩ := h'
  unfold revA at hf
  cases ea : fa δ with
  | none => rw [ea] at hf; cases hf
  | some y =>
    rw [ea] at hf
    cases hf
    refine wpAny_Call_Name_kw (ld_glob I hg h1 ?_ hdb)
    refine PySem.W.callWith_KW0 (h₀ := X.base) I.ok.mod.kin h2 hall (thn (ha.run pos pins s σ H (fun zs H2 => spF X.K ps.length F (zs.reverse ++ []) H2 Q E0) I ⟨T, ρ, δ, y.1, y.2, hs, ea, fun ρ1 vs H1 s1 x1 p1 => hq ρ1 vs.reverse H1 s1 x1 (paired_rev p1)⟩) fun ws s2 ⟨zs, H2, I2, rz, q2⟩ => ⟨I2.kIn, ?_⟩) hpl
    rw [hks]
    have q2 : spF X.K ps.length F (zs.reverse ++ []) H2 Q E0 := q2
    rw [List.append_nil] at q2
    have hl : ws.length = ps.length := by
      have a := rz.length
      have b := h4.len _ _ _ _ q2
      rw [List.length_reverse] at b
      omega
    refine wpAny_call (codeAny_mono (h4.run X.A X.stack s2 H2 ⟨[], ps.reverse.zip ws⟩ ws.reverse zs.reverse Q E0 hG (hr.mono hk) I2.env0 (h3 s2 ws I2.kIn hl) (paired_rev rz) q2) ?_)
    intro rs s3 hq
    cases rs with
    | error e => exact hq.elim
    | ok fl =>
      cases fl with
      | ret u => exact I2.after hq
      | next => exact hq.elim
      | brk => exact hq.elim
      | cont => exact hq.elim
end
theorem Fun_bindsK {K : PySem.W.Frag} {x qual : Str} {st : Stmt} {f : Addr} {fd : FuncData} {ps : List Str} (F : Fun K x qual st f fd)
    (h : ∀ (kV doc pm : Value) (an : Option Addr) (cdv ct : Value) (ws : List Value), ws.length = ps.length → bindArgs (PySem.W.fnOf x qual (defArgs st) (defBody st) (defScope st) .none kV doc pm an cdv ct) ⟨[], ps.reverse.zip ws⟩ = pure (ps.zip ws.reverse)) :
    ∀ (s : Shared) (ws : List Value), K.In s.heap → ws.length = ps.length → BindsTo s fd ⟨[], ps.reverse.zip ws⟩ (ps.zip ws.reverse) := by
  obtain ⟨oc, od, kV, doc, pm, an, cdv, ct, osl, rfl, lk, hcd⟩ := F.ex
  exact fun s ws _ hl => .of_eq (h kV doc pm an cdv ct ws hl)
end DL

namespace DL
open PySem PySem.Spec PyProof.Rows L2 DLS
variable [TB]

/-! ### f(e), e a new list of its own that f may change; f tells data -/
def callN (F : FN) (fe : EV) : EV := fun δ => (fe δ).bind fun x => match x.1 with
  | .o c => (F [.o c]).bind fun r => match r.1 with
    | .d y => some (.d y, x.2)
    | _ => none
  | _ => none
section
variable {K : PySem.W.Frag} {T : List Addr} {ρ ρ' : List (Option Addr)} {δ δ' : Ds} {σ σ' : L2.St} {H H' : Hp}
theorem Sim.keep (s : Sim K T ρ δ σ H) (e : Same (hid T ρ H) (hid T ρ H')) (hT : ∀ a, a ∈ T ∨ some a ∈ ρ → Kp (H a) (H' a)) (ht : LamX.Tabs TB.tb H') : Sim K T ρ δ σ H' where
  len := s.len
  slen := s.slen
  slot := fun i x h => by
    obtain ⟨v, h1, h2⟩ := s.slot i x h
    refine ⟨v, h1, ?_⟩
    cases x with
    | o c =>
      obtain ⟨a, o, e1, e2, e3⟩ := h2
      obtain ⟨a', r1, r2⟩ := s.own i c h
      rw [r2] at h1
      cases h1
      cases e1
      exact ⟨a, o, rfl, (hT a (.inr (ix_mem r1))).eq e2 (co_nb e3).1, coM e e3⟩
    | d y => exact svM (s := .d y) e h2
    | t y => exact svM (s := .t y) e h2
    | z y => exact svM (s := .z y) e h2
    | p y => exact svM (s := .p y) e h2
  own := s.own
  own' := s.own'
  inj := s.inj
  nt := s.nt
  tmp := fun a ha => (hT a (.inl ha)).nt (s.tmp a ha)
  tabT := s.tabT
  tabs := ht
theorem co_nt' {G : Hp} {o : HO} {c : C} (h : CO K G o c) : NT o := co_nt h
theorem callN_ok {F : FN} {fe : EV} (σ : L2.St) (H : Hp) (Q : VK) (h : lift K (callN F fe) σ H Q) : tCall (spF K 1 F) [] E0 (tCons (lift K fe) tNil) σ H Q := by
  obtain ⟨T, ρ, δ, s, δ', hs, hf, hq⟩ := h
  unfold callN at hf
  cases ea : fe δ with
  | none => rw [ea] at hf; cases hf
  | some x =>
    obtain ⟨w, δ1⟩ := x
    rw [ea] at hf
    simp only [Option.bind_some] at hf
    cases w with
    | d y => cases hf
    | t y => cases hf
    | z y => cases hf
    | p y => cases hf
    | o c =>
      simp only at hf
      cases e3 : F [.o c] with
      | none => rw [e3] at hf; cases hf
      | some r =>
        obtain ⟨r1, cs⟩ := r
        rw [e3] at hf
        simp only [Option.bind_some] at hf
        cases r1 with
        | o y => cases hf
        | t y => cases hf
        | z y => cases hf
        | p y => cases hf
        | d y =>
          cases hf
          show lift K fe σ H fun v H1 => tNil σ H1 fun vs H2 => spF K 1 F ((v :: vs) ++ []) H2 Q E0
          refine ⟨T, ρ, δ, .o c, δ', hs, ea, ?_⟩
          intro ρ' p H0 o s1 x1 hp hc
          show spF K 1 F [.ref p] (upd H0 p o) Q E0
          have fr := s1.trk.fresh hp
          have inT : ∀ b, b ∈ T ++ ρ'.filterMap id ↔ (b ∈ T ∨ some b ∈ ρ') := fun b => by
            rw [List.mem_append]
            constructor
            · rintro (h | h)
              · exact .inl h
              · obtain ⟨z, hz, e⟩ := List.mem_filterMap.mp h
                have e' : z = some b := e
                rw [e'] at hz
                exact .inr hz
            · rintro (h | h)
              · exact .inl h
              · exact .inr (List.mem_filterMap.mpr ⟨some b, h, rfl⟩)
          have hpT : p ∉ T ++ ρ'.filterMap id := fun h => ((inT p).mp h).elim fr.1 fr.2
          have hold : ∀ a, (a ∈ T ∨ some a ∈ ρ') → ∃ o, H0 a = some o ∧ NT o := fun a ha => ha.elim (s1.trk.tmp a) (s1.trk.own a)
          have hne : ∀ a, (a ∈ T ∨ some a ∈ ρ') → a ≠ p := fun a ha e => by
            subst e
            exact ha.elim fr.1 fr.2
          have hh : hid (T ++ ρ'.filterMap id) [some p] (upd H0 p o) = hid T ρ' H0 := by
            funext b
            unfold hid
            by_cases hb : b = p
            · subst hb
              rw [if_pos (.inr (List.mem_singleton.mpr rfl)), hp]
              split <;> rfl
            · rw [upd_ne hb]
              by_cases hb2 : b ∈ T ∨ some b ∈ ρ'
              · rw [if_pos hb2, if_pos (.inl ((inT b).mpr hb2))]
              · rw [if_neg hb2, if_neg]
                rintro (h | h)
                · exact hb2 ((inT b).mp h)
                · exact hb (Option.some.inj (List.mem_singleton.mp h))
          refine ⟨T ++ ρ'.filterMap id, [some p], [.o c], .d y, cs, ⟨rfl, rfl, ?_, ?_, ?_, ?_, ?_, ?_, fun p hp => List.mem_append_left _ (s1.tabT p hp), tabs_upd s1.tabs fun x e => by rw [hp] at e; cases e⟩, rfl, e3, ?_⟩
          · intro i s h
            cases i with
            | zero =>
              cases h
              exact ⟨.ref p, rfl, p, o, rfl, upd_same, by rw [hh]; exact hc⟩
            | succ i => simp at h
          · intro i c' h
            cases i with
            | zero => cases h; exact ⟨p, rfl, rfl⟩
            | succ i => simp at h
          · intro i a h
            cases i with
            | zero => exact ⟨c, rfl⟩
            | succ i => simp at h
          · intro i j a hi hj
            cases i with
            | succ i => simp at hi
            | zero =>
              cases j with
              | succ j => simp at hj
              | zero => rfl
          · intro i a hi
            cases i with
            | succ i => simp at hi
            | zero => cases hi; exact hpT
          · intro a ha
            have ha' := (inT a).mp ha
            obtain ⟨o', h1, h2⟩ := hold a ha'
            exact ⟨o', by rw [upd_ne (hne a ha')]; exact h1, h2⟩
          · intro v H' hown hext hv
            have up : Same (hid (T ++ ρ'.filterMap id) [some p] H') (hid T ρ' H') := fun b u hb => by
              obtain ⟨b1, b2, b3⟩ := hid_some.mp hb
              exact hid_some.mpr ⟨b1, fun h => b2 ((inT b).mpr (.inl h)), fun h => b2 ((inT b).mpr (.inr h))⟩
            have sm : Same (hid T ρ' H0) (hid T ρ' H') := by
              have := hext.same
              rw [hh] at this
              exact this.trans up
            have same : ∀ a, (a ∈ T ∨ some a ∈ ρ') → Kp (H0 a) (H' a) := fun a ha => by
              have q := hext.tmp a ((inT a).mpr ha)
              rw [upd_ne (hne a ha)] at q
              exact q
            have ht : LamX.Tabs TB.tb H' := hext.tabs (tabs_upd s1.tabs fun x e => by rw [hp] at e; cases e)
            exact hq ρ' v H' (s1.keep sm same ht) (x1.trans ⟨sm, fun a ha => same a (.inl ha), fun _ => ht⟩) (svM (s := .d y) up hv)
end
section
variable {X : Cx} {pos p : Pos} {e : Expr} {x : Str}
theorem de_ownN {k j : Nat} {ps : List Str} {F : FN} {fe : EV} (D : Def X.prog X.w X.K X.mg X.base k x ps F) (hm : ps.length = 1) (hG : X.A.guards = some []) (hr : Room j X.A) (hk : k ≤ j) (hg : Gl X x) (ha : DE X e fe) (hdb : (x == ("__debug__" : Str)) = false := by decide) (he : starEach (e :: []) X.env = (false, eval e X.env) :: starEach [] X.env := by rfl) (hpl : (backTo pos (starEach [] X.env)).any (·.1) = false := by rfl) :
    DE X (.Call (.Name x p) [e] [] pos) (callN F fe) := by
  obtain ⟨a, fd, h1, h2, h3, h4⟩ := D
  rw [hm] at h4
  exact pe_imp (pe_callG h4 hG (hr.mono hk) hg h1 h2 h3 (pa_cons ha pa_nil he) hdb he hpl) callN_ok
end
end DL

namespace DL
open PySem PySem.Spec PyProof.Rows L2 DLS
variable [TB]

/-! ### sorted(table), its keys tuples of numbers -/
def rSortedKT (K : PySem.W.Frag) : List V → Hp → VK → Prop := fun vs H Q => ∃ (d : Addr) (kvs : List (List Key × V)), vs = [V.ref d] ∧ Rd H d (.dT kvs) ∧ (∀ bs, IsKeys H kvs bs → ∀ b ∈ bs, ∃ r : List Int, H b = some (.tup (r.map V.int)) ∧ keyVT H (.ref b) = r ∧ (kvs.length < 2 ∨ r ≠ [])) ∧
  ∀ bs ys p, IsKeys H kvs bs → SrtO.Srtd (fun x y => lexL (keyVT H x) (keyVT H y)) ys → SrtO.Stb (fun x y => lexL (keyVT H x) (keyVT H y)) ys (bs.map V.ref) → H p = none → Q (.ref p) (upd H p (.lst ys))
section
variable {X : Cx}
theorem cr_sortedKT (hc : X.calm = true) : CallR X (.builtin "sorted") (rSortedKT X.K) := by
  intro pins s σ H vs us Q I r h
  obtain ⟨d, kvs, rfl, hd, hk, q⟩ := h
  obtain ⟨u, rfl, rx⟩ := r.one
  cases rx
  obtain ⟨z, hs, ks, pr, o, es, ep, ho, hx, hdt, he, hn⟩ := (show ObjOk X.prog X.w H s.heap d (.dT kvs) from hd.ok I.hok)
  have l1 : es.size = ks.length := size_of_entries he
  have l2 : kvs.length = ks.length := Paired.length pr
  have isk := isKeys_of pr
  refine Calls.call_function_entry PyProof.Rows.kind_sorted PyProof.Rows.plain_sorted PyProof.Rows.entry_sorted (PyProof.Rows.args_sorted1 _) ?_
  unfold Builtin.«sorted»
  refine wpAny_bind (m := checkCount "sorted" 1 1 _) (wpAny_pure ?_)
  refine wpAny_bind (PySem.W.kdu_collect (A := X.A.in1) (kdl_raw hs hx hdt) (I.ok.hd hc) ho (by omega) fun h' tk acc hkp it => ?_)
  have ea : acc.toList = ks.map fun x => Value.ref x.2.1 := by
    have hl : acc.toList.length = ks.length := by rw [Array.length_toList, it.1]; exact l1
    apply List.ext_getElem?
    intro j
    rw [List.getElem?_map]
    cases hj : acc.toList[j]? with
    | none =>
      have h1 := List.getElem?_eq_none_iff.mp hj
      rw [List.getElem?_eq_none (by omega)]
      all_goals rfl
    | some v =>
      obtain ⟨en, hen, hv⟩ := it.2 j v (by rw [← Array.getElem?_toList]; exact hj)
      have qe := entry_at he j
      rw [hen] at qe
      cases hb : ks[j]? with
      | none =>
        rw [hb] at qe
        exact nomatch (show some en = none from qe)
      | some b =>
        rw [hb] at qe
        have e2 : en = entryOfKey (tupleKind (mixKind X.prog X.w)) b := Option.some.inj qe
        rw [hv, e2]
        all_goals rfl
  have eb : acc.toList = (ks.map fun x => x.2.1).map Value.ref := by rw [ea, List.map_map]; all_goals rfl
  have hal : acc.toList.length = ks.length := by rw [eb, List.length_map, List.length_map]
  have hz : acc.toList.length ≤ sizeLine := by rw [hal]; omega
  have I1 : Inv X pins σ H { s with heap := h', toks := tk } := I.kept hkp
  have each : ∀ v ∈ acc.toList, IsTupI h' v (keyVT H (backV v)) ∧ (kvs.length < 2 ∨ keyVT H (backV v) ≠ []) := fun v hv => by
    rw [eb] at hv
    obtain ⟨b, hb, rfl⟩ := List.mem_map.mp hv
    obtain ⟨r, h1, h2, h3⟩ := hk _ isk b hb
    have e : keyVT H (backV (Value.ref b)) = r := h2
    rw [e]
    obtain ⟨_, its2, r2, o, ho, hc, n, hd⟩ := I1.hok _ _ h1
    exact ⟨⟨b, o, its2, n, rfl, ho, hc, hd, r2⟩, h3⟩
  refine wpAny_bind (wpAny_newList ?_ hz)
  have hoL : (h'.push (seqObj "list" acc.toList.toArray 0)).get? h'.objs.size = some (seqObj "list" acc.toList.toArray 0) := Heap.get?_push_size _ rfl
  show wpAny _ _ _ _ _ { s with heap := h'.push (seqObj "list" acc.toList.toArray 0), toks := tk }
  refine wpAny_bind (wpAny_holding (wpAny_call_entry PyProof.Rows.slot_list_sort ⟨_, hoL, rfl⟩ PyProof.Rows.entry_list_sort
    (SrtO.list_sort_ord (s := { s with heap := h'.push (seqObj "list" acc.toList.toArray 0), toks := tk }) (swoL fun u => keyVT H (backV u)) hoL hz (fun h2 => ?_) fun out g1 g2 => ⟨_, rfl, ?_⟩) (PyProof.Rows.args_list_sort _)))
  · refine tups_sortable (s := { s with heap := h'.push (seqObj "list" acc.toList.toArray 0), toks := tk }) (by omega) (fun v hv => ⟨(each v hv).1.keeps fun c o e _ => Heap.get?_push_of_some _ e, ?_⟩) fun o e => ?_
    · rcases (each v hv).2 with hne | hne
      · omega
      · exact hne
    · have e' : some o = some (seqObj "list" acc.toList.toArray 0) := e.symm.trans hoL
      cases e'
      exact fun c => absurd (Value.type.inj c) (by decide)
  · have h3 : ∀ u ∈ out, ∃ a, u = Value.ref a := fun u hu => by
      have := g2.perm.mem_iff.mp hu
      rw [eb] at this
      obtain ⟨b, _, rfl⟩ := List.mem_map.mp this
      exact ⟨b, rfl⟩
    have e1 : acc.toList.map backV = (ks.map fun x => x.2.1).map V.ref := by
      rw [eb, List.map_map]
      rfl
    have hb : SrtO.Stb (fun x y => lexL (keyVT H x) (keyVT H y)) (out.map backV) ((ks.map fun x => x.2.1).map V.ref) := e1 ▸ SrtO.Stb.map (swoL (keyVT H)) backV g2
    obtain ⟨e', he'⟩ := PyProof.Rows.sortedHeap_at (vs := acc.toList) (out := out.toArray) hoL
    have hlen : (out.map backV).length ≤ sizeLine := by
      rw [List.length_map, g2.len]
      exact hz
    refine wpAny_pure ⟨_, rfl, .ref h'.objs.size, upd H h'.objs.size (.lst (out.map backV)), I1.laid (t' := tk) (fun b u e => ?_) (Nat.le_refl _)
      (show ObjOk X.prog X.w _ _ _ (.lst (out.map backV)) from ⟨hlen, out, e', vals_back h3, he'⟩), rfl, q _ _ _ isk (SrtO.srtd_map g1) hb (I1.hok.fresh (Nat.le_refl _))⟩
    have hb : b < h'.objs.size := Heap.lt_size e
    rw [PyProof.Rows.sortedHeap_old (Nat.ne_of_lt hb) (by rw [size_push']; exact Nat.lt_succ_of_lt hb)]
    exact Heap.get?_push_of_some _ e
end
end DL

namespace DL
open PySem PySem.Spec PyProof.Rows L2 DLS
variable [TB]

def fSortedK : List S → Option S
  | [s] => (asTb s).bind fun t => if t.fl = false then (rowsP (t.kvs.map fun p => keyD p.1)).bind fun rs => if rs.length < 2 ∨ (rs.all fun r => !r.isEmpty) = true then some (.o (.l ((sortT rs).map tupI))) else none else none
  | _ => none
theorem cd_sortedK {K : PySem.W.Frag} : CallD K (rSortedKT K) fSortedK := fun T ρ H vs ss s Q k hp hg hq => by
  unfold fSortedK at hg
  split at hg
  case h_2 => cases hg
  rename_i u
  obtain ⟨v, rfl, h⟩ := paired1 hp
  cases e : asTb u with
  | none => rw [e] at hg; cases hg
  | some t =>
    rw [e] at hg
    simp only [Option.bind_some] at hg
    split at hg
    case isFalse => cases hg
    rename_i hfl
    cases ep : rowsP (t.kvs.map fun p => keyD p.1) with
    | none => rw [ep] at hg; cases hg
    | some rs =>
      rw [ep] at hg
      simp only [Option.bind_some] at hg
      split at hg
      case isFalse => cases hg
      rename_i hc
      cases hg
      obtain ⟨a, o, rfl, ha, to⟩ := at_tb h e
      rcases to with ⟨_, wt, rfl, tv⟩ | ⟨f', _⟩
      case inr => rw [hfl] at f'; cases f'
      have ex := rowsP_eq ep
      have dqs : ∀ bs, IsKeys H wt bs → DqAll K (hid T ρ H) (bs.map V.ref) (rs.map tupI) := fun bs hk => by
        have := dq_keys k tv hk
        rw [ex] at this
        exact this
      have each : ∀ bs, IsKeys H wt bs → ∀ v ∈ bs.map V.ref, (∃ t, v = .ref t ∧ H t = some (.tup ((keyVT H v).map V.int))) ∧ Dq K (hid T ρ H) v (tupI (keyVT H v)) ∧ keyVT H v ∈ rs := fun bs hk v hv => by
        obtain ⟨d, hd, q⟩ := dqAll_mem (dqs bs hk) hv
        obtain ⟨r, hr, rfl⟩ := List.mem_map.mp hd
        obtain ⟨q1, q2⟩ := dq_tupI hid_same q
        rw [q1]
        exact ⟨q2, q, hr⟩
      have hlen : wt.length = rs.length := by
        have h1 := Paired.length tv
        have h2 := congrArg List.length ex
        rw [List.length_map, List.length_map] at h2
        omega
      refine ⟨a, wt, rfl, .inl ha, fun bs hk b hb => ?_, fun bs ys n hk h3 h4 hn => ?_⟩
      · obtain ⟨⟨t', e1, e2⟩, _, e3⟩ := each bs hk (.ref b) (List.mem_map.mpr ⟨b, hb, rfl⟩)
        cases e1
        refine ⟨_, e2, rfl, ?_⟩
        rcases hc with hc | hc
        · exact .inl (by omega)
        · refine .inr fun z => ?_
          have := List.all_eq_true.mp hc _ e3
          rw [z] at this
          cases this
      · have h2 := dqs bs hk
        have kws : (bs.map V.ref).map (keyVT H) = rs := by
          apply List.ext_getElem?
          intro i
          rw [List.getElem?_map]
          cases ei : (bs.map V.ref)[i]? with
          | none =>
            have hl := List.getElem?_eq_none_iff.mp ei
            have hd := dpAll_len h2
            have hd2 : (rs.map tupI).length = rs.length := List.length_map _
            rw [List.getElem?_eq_none (by omega)]
            rfl
          | some v =>
            obtain ⟨d, e1, q⟩ := dpAll_getV h2 ei
            rw [List.getElem?_map] at e1
            cases e2 : rs[i]? with
            | none => rw [e2] at e1; cases e1
            | some r =>
              rw [e2] at e1
              cases e1
              exact congrArg some (dq_tupI hid_same q).1
        have ey : ys.map (keyVT H) = sortT rs := by
          refine perm_uniq (R := fun a b => lexL b a = false) (fun a b h1 h2 => lexL_anti a b h2 h1) ?_ ?_ (isort_sorted (fun a b => lexL_asym a b) (fun a b c => lexL_tr a b c) _)
          · have := h4.perm.map (keyVT H)
            rw [kws] at this
            exact this.trans (isort_perm rs).symm
          · exact List.pairwise_map.mpr h3
        refine hq n _ hn ⟨ys, rfl, ?_⟩
        rw [← ey, List.map_map]
        exact dqAll_of fun v hv => (each bs hk v (h4.perm.mem_iff.mp hv)).2.1
section
variable {X : Cx} {e : Expr} {es : List Expr} {pos p : Pos} {fa : AEV}
theorem de_sortedK (hc : X.calm = true) (hm : X.mg "sorted" = none) (hg : Gl X "sorted") (ha : DA X (e :: es) fa) (he : starEach (e :: es) X.env = (false, eval e X.env) :: starEach es X.env := by rfl) (hpl : (backTo pos (starEach es X.env)).any (·.1) = false := by rfl) : DE X (.Call (.Name "sorted" p) (e :: es) [] pos) (callB fSortedK fa) :=
  de_callB (cr_sortedKT hc) cd_sortedK hg hm (by decide +kernel) ha (by decide) (by decide) he hpl
end
end DL

namespace DLS
open PySem PySem.Calls PyProof.Rows PyProof.V PySem.Spec
section
variable {prog : Program} {w : World} {A : Around} {E : Value → Shared → Prop} {s : Shared}
theorem same_bare {nm : String} {a b : Addr} {oa ob : Obj} {es : Array DictEntry} {ep ep' : Nat} {Q : Bool → Shared → Prop} (ha : (a == sysModules) = false) (hb : (b == sysModules) = false)
    (hoa : s.heap.get? a = some oa) (hda : oa.data = .dict es ep) (hob : s.heap.get? b = some ob) (hdb : ob.data = .dict #[] ep') (h : Q (es.size == 0) s) :
    wpAny (model prog w) A (Builtin.Dict.samePairs nm a b) Q E s := by
  unfold Builtin.Dict.samePairs Builtin.Dict.showsAll
  rw [if_neg (show ¬ (a == sysModules) = true by rw [ha]; exact Bool.false_ne_true), if_neg (show ¬ (b == sysModules) = true by rw [hb]; exact Bool.false_ne_true)]
  refine wpAny_bind (wpAny_pure (wpAny_bind (wpAny_pure ?_)))
  refine wpAny_bind (wpAny_dictEntries hoa hda ?_)
  dsimp only
  refine wpAny_bind (wpAny_dictEntries hob hdb ?_)
  by_cases hsz : es.size = 0
  case neg =>
    rw [if_pos (by simpa using hsz)]
    have hbf : (es.size == 0) = false := by simpa using hsz
    rw [hbf] at h
    exact wpAny_bind (wpAny_rule (wpAny_pure h))
  case pos =>
    have h' : Q true s := by simpa [hsz] using h
    rw [if_neg (by rw [hsz]; simp)]
    refine wpAny_bind (wpAny_dictEpoch hoa hda ?_)
    refine wpAny_bind ?_
    rw [Std.Legacy.Range.forIn_eq_forIn_range']
    simp only [Std.Legacy.Range.size, Nat.sub_zero, Nat.add_sub_cancel, Nat.div_one, hsz]
    exact wpAny_pure (wpAny_pure h')
theorem ne_bare {a b : Addr} {oa ob : Obj} {es : Array DictEntry} {ep ep' : Nat} {Q : Value → Shared → Prop} (ha : (a == sysModules) = false) (hb : (b == sysModules) = false)
    (hoa : s.heap.get? a = some oa) (xa : oa.ExactDict) (hda : oa.data = .dict es ep) (hob : s.heap.get? b = some ob) (xb : ob.ExactDict) (hdb : ob.data = .dict #[] ep') (hu : A.units < cLine) (h : Q (.bool (!(es.size == 0))) s) :
    wpAny (model prog w) A (compareOp .NotEq (.ref a) (.ref b)) Q E s := by
  refine wpAny_richCompare_same_room (op := .NotEq) ⟨oa, hoa, xa.1⟩ ⟨ob, hob, xb.1⟩ PySem.F.slot_dict_ne (wpAny_call_entry PySem.F.slot_dict_ne ⟨oa, hoa, xa.1⟩ PySem.F.entry_dict_ne ?_ (PySem.F.args_dict_ne_2 _ _)) hu
  show wpAny _ _ (Builtin.Dict.dictSlotArgs "__ne__" ⟨[.ref a, .ref b], []⟩ >>= _) _ _ s
  refine wpAny_bind ?_
  unfold Builtin.Dict.dictSlotArgs
  refine wpAny_bind (wpAny_notOrdered_dict ⟨oa, hoa, xa.1⟩ ?_)
  show wpAny _ _ (pure (Value.ref a, Value.ref b)) _ _ s
  refine wpAny_pure ?_
  refine wpAny_bind (wpAny_isInstance (T := "dict") ⟨ob, hob, xb.1⟩ PySem.F.sub_dict_dict ?_)
  simp only [Bool.not_true, Bool.false_eq_true, if_false]
  refine wpAny_bind (wpAny_pure (wpAny_bind (wpAny_pure ?_)))
  refine wpAny_bind (same_bare ha hb hoa hda hob hdb ?_)
  refine wpAny_pure ⟨_, rfl, ?_, ?_⟩
  · exact fun x => nomatch x
  · simpa using h
end
end DLS
namespace DL
open PySem PySem.Spec PyProof.Rows L2 DLS
variable [TB]
/-! ### table != {} -/
def rNeB : R2 := fun x y H Q => ∃ a b kvs, x = .ref a ∧ y = .ref b ∧ Rd H a (.dT kvs) ∧ Rd H b (.dT []) ∧ Q (.bl (!(kvs.length == 0))) H
def opNeB (a b : S) : Option S := (asTb a).bind fun t => (asTb b).bind fun u => if t.fl = false ∧ u.fl = false ∧ u.kvs.length = 0 then some (.d (.bool (!(t.kvs.length == 0)))) else none
section
variable {X : Cx} {a b : Expr} {pos : Pos} {fp fq : PEV} {k : Nat}
theorem or_neB (hu : X.A.units < cLine) : OpR X (compareOp .NotEq) rNeB := by
  intro pins s σ H x y v u Q I rx ry h
  obtain ⟨a, b, kvs, rfl, rfl, ea, eb, q⟩ := h
  obtain rfl : v = Value.ref a := rx
  obtain rfl : u = Value.ref b := ry
  obtain ⟨_, ya, xa, pa, oa, es, ep, hoa, hxa, hda, hea, _⟩ := (show ObjOk X.prog X.w H s.heap a (.dT kvs) from ea.ok I.hok)
  obtain ⟨_, yb, xb, pb, ob, es', ep', hob, hxb, hdb, heb, _⟩ := (show ObjOk X.prog X.w H s.heap b (.dT []) from eb.ok I.hok)
  have l1 : es.size = xa.length := size_of_entries hea
  have l2 : kvs.length = xa.length := Paired.length pa
  have l3 : es'.size = xb.length := size_of_entries heb
  have l4 : ([] : List (List Key × V)).length = xb.length := Paired.length pb
  have e0 : es' = #[] := Array.eq_empty_of_size_eq_zero (by simp at l4; omega)
  subst e0
  exact ne_bare ya yb hoa hxa hda hob hxb hdb hu (fin_bl I q (by rw [l1, l2]))
theorem od_neB {K : PySem.W.Frag} : OpD K rNeB opNeB := fun T ρ H x y a b s Q k ha hb hg hq => by
  unfold opNeB at hg
  cases e1 : asTb a with
  | none => rw [e1] at hg; cases hg
  | some t =>
    rw [e1] at hg
    simp only [Option.bind_some] at hg
    cases e2 : asTb b with
    | none => rw [e2] at hg; cases hg
    | some u =>
      rw [e2] at hg
      simp only [Option.bind_some] at hg
      split at hg
      case isFalse => cases hg
      rename_i hc
      cases hg
      obtain ⟨p, o, rfl, hp, tp⟩ := at_tb ha e1
      obtain ⟨q, o', rfl, hq', tq⟩ := at_tb hb e2
      rcases tp with ⟨_, w1, rfl, tv1⟩ | ⟨f', _⟩
      case inr => rw [hc.1] at f'; cases f'
      rcases tq with ⟨_, w2, rfl, tv2⟩ | ⟨f', _⟩
      case inr => rw [hc.2.1] at f'; cases f'
      have l1 : w1.length = t.kvs.length := Paired.length tv1
      have l2 : w2.length = u.kvs.length := Paired.length tv2
      have e0 : w2 = [] := List.length_eq_zero_iff.mp (by omega)
      subst e0
      refine ⟨p, q, w1, rfl, rfl, .inl hp, .inl hq', ?_⟩
      rw [l1]
      exact postO_same hq (.bl _)
theorem de_neB (hr : Room k X.A) (ha : DP X a fp) (hb : DP X b fq) : DE X (.Compare a [.NotEq] [b] pos) (bin opNeB fp fq) := de_cmp (or_neB (by have := hr.un; omega)) od_neB ha hb (nomark _)
end
end DL

namespace DL
open PySem PySem.Spec PyProof.Rows L2 DLS
variable [TB]
/-! ### i & 1 -/
def opAnd1 (a b : S) : Option S := (asI a).bind fun i => (asI b).bind fun j => if j = 1 then some (.d (.int (i % 2))) else none
theorem od_and1 {K : PySem.W.Frag} : OpD K (fun x y H Q => ∃ (i : Int) (k : Nat), x = .int i ∧ y = .int (2 ^ k - 1) ∧ Q (.int (i % 2 ^ k)) H) opAnd1 := fun T ρ H x y a b s Q k ha hb hg hq => by
  unfold opAnd1 at hg
  cases e1 : asI a with
  | none => rw [e1] at hg; cases hg
  | some i =>
    rw [e1] at hg
    simp only [Option.bind_some] at hg
    cases e2 : asI b with
    | none => rw [e2] at hg; cases hg
    | some j =>
      rw [e2] at hg
      simp only [Option.bind_some] at hg
      split at hg
      case isFalse => cases hg
      rename_i hj
      subst hj
      cases hg
      exact ⟨i, 1, at_I ha e1, at_I hb e2, postO_same hq (.int _)⟩
section
variable {X : Cx} {a b : Expr} {pos : Pos} {fp fq : PEV} {k : Nat}
theorem de_and1 (ha : DP X a fp) (hb : DP X b fq) : DE X (.BinOp a .BitAnd b pos) (bin opAnd1 fp fq) := de_op op_andM od_and1 ha hb
end
end DL

namespace DL
open PySem PySem.Spec PyProof.Rows L2
variable [TB]

/-! ### list(table.values()), tuple keys -/
def tListVals (td : TE) : TE := fun σ H Q => td σ H fun x H1 => ∃ a kvs, x = V.ref a ∧ H1 a = some (.dT kvs) ∧ ∀ p, H1 p = none → Q (.ref p) (upd H1 p (.lst (kvs.map (·.2))))
section
variable {X : Cx} {o : Expr} {p pos apos mpos : Pos} {td : TE}
theorem kt_vals {H : Hp} {kvs : List (List Key × V)} {xs : List (List Key × Addr × Value)} (r : KT H kvs xs) : Vals (kvs.map (·.2)) (xs.map fun x => x.2.2) := by
  induction r with
  | nil => exact .nil
  | cons h t ih => exact .cons h.2.2 ih
theorem pe_listVals (hc : X.calm = true) (hg : Gl X "list") (hm : X.mg "list" = none) (hd : PE X o td) (hbase : attributeBase o "values" X.env (eval o X.env) = eval o X.env := by rfl) (hline : (apos.endLine == mpos.line) = true := by rfl)
    (hse : starEach [Expr.Call (.Attribute o "values" apos) [] [] mpos] X.env = [(false, eval (Expr.Call (.Attribute o "values" apos) [] [] mpos) X.env)] := by rfl) :
    PE X (.Call (.Name "list" p) [.Call (.Attribute o "values" apos) [] [] mpos] [] pos) (tListVals td) := by
  refine ⟨fun pins s σ H Q I h => ?_⟩
  refine wpAny_Call_Name_kw (ld_blt I hg hm (u := .type "list") (by first | rfl | decide +kernel) ?_ (by first | decide +kernel | decide) (by first | decide +kernel | decide))
  rw [hse]
  refine PySem.callWith_type1 (wpAny_Call_method0_late hbase hline (thn (hd.run pins s σ H _ I h) fun v s1 ⟨x, H1, I1, r1, a, kvs, ex, ha, q⟩ => ?_))
  subst ex
  obtain rfl : v = Value.ref a := r1
  obtain ⟨z, hsys, ks, pr, ob, es, ep, ho, hx, hdt, he, hn⟩ := (show ObjOk X.prog X.w H1 s1.heap a (.dT kvs) from I1.hok a _ ha)
  have l1 : es.size = ks.length := size_of_entries he
  have l2 : kvs.length = ks.length := Paired.length pr
  refine ⟨"dict", "dict.values", F.plainAttrs_dict, F.slot_dict_values, F.type_dict_values, ⟨ob, ho, hx.1⟩, fun b e => ?_, Calls.callWith_builtin rfl (PySem.evalArgs_none ?_)⟩
  · cases e
    exact ⟨ob, ho, hx.2.1⟩
  refine call_meetsIn F.slot_dict_values ⟨ob, ho, hx.1⟩ F.entry_dict_values (F.args_dict_values_1 _) (meets_dict_values_raw a hsys) ⟨⟨es, ep, ob, ho, hx, hdt⟩, ?_⟩
  have k1 : ∀ b u, s1.heap.get? b = some u → (s1.heap.push { cls := .type "dict_values", data := .fields #[.ref a] }).get? b = some u := fun b u e => Heap.get?_push_of_some _ e
  refine PySem.W.kdl_call (KdlSrc.rawValues (r := s1.heap.objs.size) (d := a) (es := es) (ep := ep)) (I.ok.hd hc) ⟨⟨_, Heap.get?_push_size _ rfl, rfl, rfl⟩, ⟨ob, k1 _ _ ho, hx, hdt⟩⟩ (by omega) fun h' tk acc' c' kp e it => ?_
  have ea : acc'.toList = ks.map fun x => x.2.2 := by
    have hl : acc'.toList.length = ks.length := by rw [Array.length_toList, it.1]; exact l1
    apply List.ext_getElem?
    intro j
    rw [List.getElem?_map]
    cases hj : acc'.toList[j]? with
    | none =>
      have h1 := List.getElem?_eq_none_iff.mp hj
      rw [List.getElem?_eq_none (by omega)]
      all_goals rfl
    | some v =>
      obtain ⟨hi, hv⟩ := it.2 j v (by rw [← Array.getElem?_toList]; exact hj)
      have qe := entry_at he j
      have hen : es[j]? = some es[j] := Array.getElem?_eq_getElem hi
      rw [hen] at qe
      cases hb : ks[j]? with
      | none =>
        rw [hb] at qe
        exact nomatch (show some es[j] = none from qe)
      | some b =>
        rw [hb] at qe
        have e2 : es[j] = entryOfKey (tupleKind (mixKind X.prog X.w)) b := Option.some.inj qe
        rw [hv, e2]
        all_goals rfl
  have hz : (kvs.map (·.2)).length ≤ sizeLine := by rw [List.length_map]; omega
  have hsz : (s1.heap.push { cls := .type "dict_values", data := .fields #[.ref a] }).objs.size = s1.heap.objs.size + 1 := Heap.size_push _ _
  refine ⟨.ref (s1.heap.push { cls := .type "dict_values", data := .fields #[.ref a] }).objs.size, _, I1.laid (t' := tk) (o := .lst (kvs.map (·.2))) (fun b u e => kp b u (k1 b u e)) (by omega) ?_, rfl, q _ (I1.hok.fresh (by omega))⟩
  exact ⟨hz, acc'.toList, c', by rw [ea]; exact kt_vals pr, by rw [Array.toArray_toList]; exact e⟩
def listVE (fa : PEV) : EV := fun δ => (fa δ).bind fun x => (res x.2 x.1).bind fun u => (asTb u).bind fun t => if t.fl = false then some (.o (.l (t.kvs.map (·.2))), x.2) else none
theorem tv_vals {K : PySem.W.Frag} {G : Hp} : ∀ {ws : List (List Key × V)} {kvs : List (List Key × PyData)}, TV K G ws kvs → DqAll K G (ws.map (·.2)) (kvs.map (·.2))
  | _, _, .nil => .nil
  | _, _, .cons h t => .cons h.2 (tv_vals t)
theorem de_listV {fa : PEV} (hc : X.calm = true) (hm : X.mg "list" = none) (hg : Gl X "list") (ha : DP X o fa) (hbase : attributeBase o "values" X.env (eval o X.env) = eval o X.env := by rfl) (hline : (apos.endLine == mpos.line) = true := by rfl)
    (hse : starEach [Expr.Call (.Attribute o "values" apos) [] [] mpos] X.env = [(false, eval (Expr.Call (.Attribute o "values" apos) [] [] mpos) X.env)] := by rfl) :
    DE X (.Call (.Name "list" p) [.Call (.Attribute o "values" apos) [] [] mpos] [] pos) (listVE fa) := pe_imp (pe_listVals hc hg hm ha hbase hline hse) fun σ H Q ⟨T, ρ, δ, s, δ', hs, hf, hq⟩ => by
  unfold listVE at hf
  cases e1 : fa δ with
  | none => rw [e1] at hf; cases hf
  | some x =>
    rw [e1] at hf
    simp only [Option.bind_some] at hf
    cases e2 : res x.2 x.1 with
    | none => rw [e2] at hf; cases hf
    | some u =>
      rw [e2] at hf
      simp only [Option.bind_some] at hf
      cases e3 : asTb u with
      | none => rw [e3] at hf; cases hf
      | some t =>
        rw [e3] at hf
        simp only [Option.bind_some] at hf
        split at hf
        case isFalse => cases hf
        rename_i hfl
        cases hf
        refine ⟨T, ρ, δ, x.1, x.2, hs, by rw [e1], fun ρ1 v H1 s1 x1 p1 => ?_⟩
        obtain ⟨a, o, rfl, ha, to⟩ := at_tb (pat_at s1 .refl p1 e2) e3
        rcases to with ⟨_, ws, rfl, tv⟩ | ⟨f', _⟩
        · exact ⟨a, ws, rfl, ha, fun p hn => hq ρ1 p H1 _ s1 x1 hn ⟨_, rfl, tv_vals tv⟩⟩
        · rw [hfl] at f'; cases f'
end
end DL

namespace DL
open PySem PySem.Spec PyProof.Rows L2
variable [TB]

/-! ### max, min, sum of a list of whole numbers -/
def bigL : List Int → Int
  | [] => 0
  | [a] => a
  | a :: b :: r => max a (bigL (b :: r))
def lowL : List Int → Int
  | [] => 0
  | [a] => a
  | a :: b :: r => min a (lowL (b :: r))
theorem bigL_mem : ∀ {ns : List Int}, ns ≠ [] → bigL ns ∈ ns
  | [], h => absurd rfl h
  | [a], _ => List.mem_singleton.mpr rfl
  | a :: b :: r, _ => by
    have := bigL_mem (ns := b :: r) (by simp)
    show max a (bigL (b :: r)) ∈ _
    by_cases h : a ≤ bigL (b :: r)
    · rw [Int.max_eq_right h]; exact List.mem_cons_of_mem _ this
    · rw [Int.max_eq_left (by omega)]; exact List.mem_cons_self
theorem bigL_le : ∀ {ns : List Int} {y : Int}, y ∈ ns → y ≤ bigL ns
  | [a], y, h => by rw [List.mem_singleton.mp h]; exact Int.le_refl _
  | a :: b :: r, y, h => by
    show y ≤ max a (bigL (b :: r))
    rcases List.mem_cons.mp h with h | h
    · subst h; exact Int.le_max_left _ _
    · exact Int.le_trans (bigL_le h) (Int.le_max_right _ _)
theorem bigL_uniq {ns : List Int} {m : Int} (h : m ∈ ns) (k : ∀ y ∈ ns, y ≤ m) : m = bigL ns := Int.le_antisymm (bigL_le h) (k _ (bigL_mem fun z => by rw [z] at h; cases h))
theorem lowL_mem : ∀ {ns : List Int}, ns ≠ [] → lowL ns ∈ ns
  | [], h => absurd rfl h
  | [a], _ => List.mem_singleton.mpr rfl
  | a :: b :: r, _ => by
    have := lowL_mem (ns := b :: r) (by simp)
    show min a (lowL (b :: r)) ∈ _
    by_cases h : a ≤ lowL (b :: r)
    · rw [Int.min_eq_left h]; exact List.mem_cons_self
    · rw [Int.min_eq_right (by omega)]; exact List.mem_cons_of_mem _ this
theorem lowL_le : ∀ {ns : List Int} {y : Int}, y ∈ ns → lowL ns ≤ y
  | [a], y, h => by rw [List.mem_singleton.mp h]; exact Int.le_refl _
  | a :: b :: r, y, h => by
    show min a (lowL (b :: r)) ≤ y
    rcases List.mem_cons.mp h with h | h
    · subst h; exact Int.min_le_left _ _
    · exact Int.le_trans (Int.min_le_right _ _) (lowL_le h)
theorem lowL_uniq {ns : List Int} {m : Int} (h : m ∈ ns) (k : ∀ y ∈ ns, m ≤ y) : m = lowL ns := Int.le_antisymm (k _ (lowL_mem fun z => by rw [z] at h; cases h)) (lowL_le h)
def fMaxL : List S → Option S
  | [s] => (asL s).bind fun xs => (intsP xs).bind fun ns => if ns = [] then none else some (.d (.int (bigL ns)))
  | _ => none
def fMinL : List S → Option S
  | [s] => (asL s).bind fun xs => (intsP xs).bind fun ns => if ns = [] then none else some (.d (.int (lowL ns)))
  | _ => none
def fSum : List S → Option S
  | [s] => (asL s).bind fun xs => (intsP xs).map fun ns => .d (.int ns.sum)
  | _ => none
theorem cd_maxL {K : PySem.W.Frag} : CallD K (rMax K) fMaxL := fun T ρ H vs ss s Q k hp hg hq => by
  unfold fMaxL at hg
  split at hg
  case h_2 => cases hg
  rename_i u
  obtain ⟨v, rfl, h⟩ := paired1 hp
  cases e : asL u with
  | none => rw [e] at hg; cases hg
  | some xs =>
    rw [e] at hg
    simp only [Option.bind_some] at hg
    cases eb : intsP xs with
    | none => rw [eb] at hg; cases hg
    | some ns =>
      rw [eb] at hg
      simp only [Option.bind_some] at hg
      split at hg
      case isTrue => cases hg
      rename_i hne
      cases hg
      obtain ⟨a, ws, rfl, h1, h2⟩ := at_L h e
      rw [intsP_eq eb] at h2
      have := ints_V h2
      subst this
      exact ⟨a, ns, rfl, SqL.of h1, List.length_pos_iff.mpr hne, fun m m1 m2 => by rw [bigL_uniq m1 m2]; exact postO_same hq (.int _)⟩
theorem cd_minL {K : PySem.W.Frag} : CallD K (rMin K) fMinL := fun T ρ H vs ss s Q k hp hg hq => by
  unfold fMinL at hg
  split at hg
  case h_2 => cases hg
  rename_i u
  obtain ⟨v, rfl, h⟩ := paired1 hp
  cases e : asL u with
  | none => rw [e] at hg; cases hg
  | some xs =>
    rw [e] at hg
    simp only [Option.bind_some] at hg
    cases eb : intsP xs with
    | none => rw [eb] at hg; cases hg
    | some ns =>
      rw [eb] at hg
      simp only [Option.bind_some] at hg
      split at hg
      case isTrue => cases hg
      rename_i hne
      cases hg
      obtain ⟨a, ws, rfl, h1, h2⟩ := at_L h e
      rw [intsP_eq eb] at h2
      have := ints_V h2
      subst this
      exact ⟨a, ns, rfl, SqL.of h1, List.length_pos_iff.mpr hne, fun m m1 m2 => by rw [lowL_uniq m1 m2]; exact postO_same hq (.int _)⟩
theorem cd_sum {K : PySem.W.Frag} : CallD K (rSum K) fSum := fun T ρ H vs ss s Q k hp hg hq => by
  unfold fSum at hg
  split at hg
  case h_2 => cases hg
  rename_i u
  obtain ⟨v, rfl, h⟩ := paired1 hp
  cases e : asL u with
  | none => rw [e] at hg; cases hg
  | some xs =>
    rw [e] at hg
    simp only [Option.bind_some] at hg
    cases eb : intsP xs with
    | none => rw [eb] at hg; cases hg
    | some ns =>
      rw [eb] at hg
      cases hg
      obtain ⟨a, ws, rfl, h1, h2⟩ := at_L h e
      rw [intsP_eq eb] at h2
      have := ints_V h2
      subst this
      exact ⟨a, ns, rfl, SqL.of h1, postO_same hq (.int _)⟩
section
variable {X : Cx} {e : Expr} {es : List Expr} {pos p : Pos} {fa : AEV}
theorem de_maxL (hc : X.calm = true) (hm : X.mg "max" = none) (hg : Gl X "max") (ha : DA X (e :: es) fa) (he : starEach (e :: es) X.env = (false, eval e X.env) :: starEach es X.env := by rfl) (hpl : (backTo pos (starEach es X.env)).any (·.1) = false := by rfl) : DE X (.Call (.Name "max" p) (e :: es) [] pos) (callB fMaxL fa) :=
  de_callB (cr_max hc) cd_maxL hg hm (by decide +kernel) ha (by decide) (by decide) he hpl
theorem de_minL (hc : X.calm = true) (hm : X.mg "min" = none) (hg : Gl X "min") (ha : DA X (e :: es) fa) (he : starEach (e :: es) X.env = (false, eval e X.env) :: starEach es X.env := by rfl) (hpl : (backTo pos (starEach es X.env)).any (·.1) = false := by rfl) : DE X (.Call (.Name "min" p) (e :: es) [] pos) (callB fMinL fa) :=
  de_callB (cr_min hc) cd_minL hg hm (by decide +kernel) ha (by decide) (by decide) he hpl
theorem de_sum (hc : X.calm = true) (hm : X.mg "sum" = none) (hg : Gl X "sum") (ha : DA X (e :: es) fa) (he : starEach (e :: es) X.env = (false, eval e X.env) :: starEach es X.env := by rfl) (hpl : (backTo pos (starEach es X.env)).any (·.1) = false := by rfl) : DE X (.Call (.Name "sum" p) (e :: es) [] pos) (callB fSum fa) :=
  de_callB (cr_sum hc) cd_sum hg hm (by decide +kernel) ha (by decide) (by decide) he hpl
end
end DL

namespace DL
open PySem PySem.Spec PyProof.Rows L2
variable [TB]

/-! ### what may be shown: how deep, how long -/
structure Rp (d w : Nat) (x : PyData) : Prop where
  sh : x.showable = true
  nd : x.hasDict = false
  ly : x.canLay0 = true
  dp : x.depth ≤ d
  ln : x.shown.length ≤ w
structure RpA (d w : Nat) (xs : List PyData) : Prop where
  sh : PyData.showableAll xs = true
  nd : PyData.hasDictAll xs = false
  ly : PyData.canLayAll0 xs = true
  dp : PyData.depthAll xs ≤ d
  ln : piled (PyData.shownAll xs) ≤ (w + 2) * xs.length
theorem rpA {d w : Nat} : ∀ {xs : List PyData}, (∀ x ∈ xs, Rp d w x) → RpA d w xs
  | [], _ => ⟨rfl, rfl, rfl, Nat.zero_le _, Nat.zero_le _⟩
  | x :: xs, h => by
    have a := h x List.mem_cons_self
    have b := rpA fun y hy => h y (List.mem_cons_of_mem _ hy)
    refine ⟨?_, ?_, ?_, ?_, ?_⟩
    · show (x.showable && PyData.showableAll xs) = true
      rw [a.sh, b.sh]; rfl
    · show (x.hasDict || PyData.hasDictAll xs) = false
      rw [a.nd, b.nd]; rfl
    · show (x.canLay0 && PyData.canLayAll0 xs) = true
      rw [a.ly, b.ly]; rfl
    · show max x.depth (PyData.depthAll xs) ≤ d
      exact Nat.max_le.mpr ⟨a.dp, b.dp⟩
    · show piled (x.shown :: PyData.shownAll xs) ≤ _
      rw [piled_cons, List.length_cons, Nat.mul_succ]
      have := a.ln
      have := b.ln
      omega
theorem Rp.mono {d w d' w' : Nat} {x : PyData} (h : Rp d w x) (hd : d ≤ d') (hw : w ≤ w') : Rp d' w' x := ⟨h.sh, h.nd, h.ly, Nat.le_trans h.dp hd, Nat.le_trans h.ln hw⟩
theorem Rp.bool (b : Bool) : Rp 0 5 (.bool b) := ⟨rfl, rfl, rfl, Nat.le_refl _, by cases b <;> decide +kernel⟩
theorem Rp.nil : Rp 0 4 .none := ⟨rfl, rfl, rfl, Nat.le_refl _, by decide +kernel⟩
theorem shown_1000 : ∀ k : Fin 1000, (PyData.shown (.int (k.val : Int))).length ≤ 3 := by decide +kernel
theorem Rp.int {i : Int} (h : 0 ≤ i ∧ i < 1000) : Rp 0 3 (.int i) := ⟨decide_eq_true (log_lt (a := 10) (lt_pow_of h.1 (by omega)) (by decide) (by decide)), rfl, rfl, Nat.le_refl _, by
  have := shown_1000 ⟨i.toNat, by omega⟩
  rw [show ((i.toNat : Nat) : Int) = i by omega] at this
  exact this⟩
theorem text_len (ts : List Str) : ∀ (i : Nat) (a : Str), (textFrom i a ts).length ≤ a.length + piled ts := by
  induction ts with
  | nil => intro i a; exact Nat.le_add_right _ _
  | cons t ts ih =>
    intro i a
    rw [piled_cons]
    unfold textFrom
    refine Nat.le_trans (ih _ _) ?_
    split <;> simp only [Str.length_append] <;> (have : ((", " : String) : Str).length ≤ 2 := by decide +kernel) <;> (have : (("" : String) : Str).length ≤ 0 := by decide +kernel) <;> omega
theorem Rp.list {d w : Nat} {xs : List PyData} (h : ∀ x ∈ xs, Rp d w x) : Rp (d + 1) ((w + 2) * xs.length + 3) (.list xs) := by
  have b := rpA h
  refine ⟨b.sh, b.nd, b.ly, Nat.succ_le_succ b.dp, ?_⟩
  show (listText (PyData.shownAll xs)).length ≤ _
  unfold listText
  rw [Str.length_append]
  have h1 := text_len (PyData.shownAll xs) 0 "["
  have h2 : (("[" : String) : Str).length ≤ 1 := by decide +kernel
  have h3 : (("]" : String) : Str).length ≤ 1 := by decide +kernel
  have := b.ln
  omega
theorem Rp.tuple {d w : Nat} {xs : List PyData} (h : ∀ x ∈ xs, Rp d w x) : Rp (d + 1) ((w + 2) * xs.length + 3) (.tuple xs) := by
  have b := rpA h
  refine ⟨b.sh, b.nd, b.ly, Nat.succ_le_succ b.dp, ?_⟩
  show (tupleText (PyData.shownAll xs)).length ≤ _
  unfold tupleText
  rw [Str.length_append, Str.length_append]
  have h3 : (Str.join ", " (PyData.shownAll xs)).length ≤ (w + 2) * xs.length := by
    cases xs with
    | nil => exact Nat.zero_le _
    | cons i r =>
      have e := join_length_add (PyData.shownAll (i :: r)) (by show PyData.shown i :: _ ≠ []; exact List.cons_ne_nil _ _)
      have := b.ln
      omega
  have h4 : (("(" : String) : Str).length ≤ 1 := by decide +kernel
  have h5 : ((if (PyData.shownAll xs).length == 1 then ",)" else ")" : String) : Str).length ≤ 2 := by
    split <;> decide +kernel
  omega
theorem Rp.ok {d w : Nat} {x : PyData} (h : Rp d w x) (hd : d ≤ 60) (hw : w ≤ sizeLine) : reprOk x = true := by
  unfold reprOk
  rw [h.sh, h.nd, decide_eq_true (Nat.le_trans h.dp hd), decide_eq_true (Nat.le_trans h.ln hw)]
  rfl
theorem Rp.shaped {d w : Nat} {x : PyData} (h : Rp d w x) (hd : d ≤ 64) : SeqAt.shaped x = true := by
  unfold SeqAt.shaped
  rw [h.ly, decide_eq_true (Nat.le_trans h.dp hd)]
  rfl
theorem Rp.ints {ms : List Int} (h : ∀ i ∈ ms, 0 ≤ i ∧ i < 1000) : Rp 1 (5 * ms.length + 3) (.tuple (ms.map PyData.int)) := by
  have := Rp.tuple (xs := ms.map PyData.int) (d := 0) (w := 3) fun x hx => by
    obtain ⟨i, hi, rfl⟩ := List.mem_map.mp hx
    exact Rp.int (h i hi)
  rw [List.length_map] at this
  exact this
theorem Rp.reprL {d w : Nat} {xs : List PyData} (h : Rp d w (.list xs)) (hd : d ≤ 60) (hw : w ≤ sizeLine) : fReprX [.d (.list xs)] = some (.d (.str (PyData.list xs).shown)) := by
  show (if reprOk (.list xs) = true then some (S.d (.str (PyData.list xs).shown)) else none) = _
  rw [if_pos (h.ok hd hw)]
theorem Rp.reprT {d w : Nat} {xs : List PyData} (h : Rp d w (.tuple xs)) (hd : d ≤ 60) (hw : w ≤ sizeLine) : fReprX [.d (.tuple xs)] = some (.d (.str (PyData.tuple xs).shown)) := by
  show (if reprOk (.tuple xs) = true then some (S.d (.str (PyData.tuple xs).shown)) else none) = _
  rw [if_pos (h.ok hd hw)]
end DL

namespace DL
open PySem PySem.Spec PyProof.Rows L2
variable [TB]
open AutoSeq1 (wpAny_loadPart')

/-! ### enumerate(tuple) -/
section
variable {prog : Program} {w : World} {A : Around} {E : Value → Shared → Prop} {s : Shared}
theorem nextT_item {j t : Addr} {i : Nat} {ys : Array Value} {x : Value} {Q : Value → Shared → Prop} (ji : s.heap.IsTupleIter j t i) (jt : s.heap.IsTuple t ys) (jx : ys[i]? = some x)
    (q : ∀ h', h'.IsTupleIter j t (i + 1) → Heap.SameBut j s.heap h' → Q x { s with heap := h' }) : wpAny (model prog w) A (Builtin.SmallTypes.nextOf (.ref j)) Q E s := by
  obtain ⟨oj, gj, cj, dj⟩ := id ji
  obtain ⟨ot, gt, _, nt, dt⟩ := jt
  unfold Builtin.SmallTypes.nextOf
  refine wpAny_bind (wpAny_callSpecial?_slot (name := Str.ofString "__next__") ji.typeIs F.slot_tuple_iterator_next (wpAny_call_entry F.slot_tuple_iterator_next ji.typeIs F.entry_tuple_iterator_next ?_ (F.args_tuple_iterator_next_1 _)))
  show wpAny _ _ (field (.ref j) 0 >>= _) _ _ s
  refine wpAny_bind (wpAny_field gj dj (x := .ref t) rfl ?_)
  show wpAny _ _ (if (Value.ref t == Value.none) = true then _ else _) _ _ _
  have nn : ¬((Value.ref t == Value.none) = true) := Bool.false_ne_true
  rw [if_neg nn]
  show wpAny _ _ (field (.ref j) 1 >>= _) _ _ s
  refine wpAny_bind (wpAny_field gj dj (x := .int i 0) rfl (show wpAny _ _ (seqItems? (.ref t) >>= _) _ _ s from wpAny_bind (wpAny_seqItems gt dt ?_)))
  simp only [Int.toNat_natCast, jx]
  refine wpAny_bind (wpAny_setField gj dj (by simp) (wpAny_pure ⟨x, rfl, wpAny_pure (q _ ⟨_, Heap.get?_update_self _ gj (Obj.isFreed_of_fields (Obj.data_mapFields dj _)), (Obj.cls_mapFields ..).trans cj, ?_⟩ (Heap.SameBut.update ..))⟩))
  rw [Obj.data_mapFields dj]
  simp [rawInt]
theorem nextT_end {j t : Addr} {i : Nat} {ys : Array Value} {Q : Value → Shared → Prop} (jh : A.handled = none) (ji : s.heap.IsTupleIter j t i) (jt : s.heap.IsTuple t ys) (jx : ys[i]? = none)
    (q : ∀ h' e, Heap.ExtBut j s.heap h' → (∃ o, h'.get? e = some o ∧ o.cls = .type "StopIteration") → E (.ref e) { s with heap := h' }) : wpAny (model prog w) A (Builtin.SmallTypes.nextOf (.ref j)) Q E s := by
  obtain ⟨oj, gj, cj, dj⟩ := id ji
  obtain ⟨ot, gt, _, nt, dt⟩ := jt
  unfold Builtin.SmallTypes.nextOf
  refine wpAny_bind (wpAny_callSpecial?_slot (name := Str.ofString "__next__") ji.typeIs F.slot_tuple_iterator_next (wpAny_call_entry F.slot_tuple_iterator_next ji.typeIs F.entry_tuple_iterator_next ?_ (F.args_tuple_iterator_next_1 _)))
  show wpAny _ _ (field (.ref j) 0 >>= _) _ _ s
  refine wpAny_bind (wpAny_field gj dj (x := .ref t) rfl ?_)
  show wpAny _ _ (if (Value.ref t == Value.none) = true then _ else _) _ _ _
  have nn : ¬((Value.ref t == Value.none) = true) := Bool.false_ne_true
  rw [if_neg nn]
  show wpAny _ _ (field (.ref j) 1 >>= _) _ _ s
  refine wpAny_bind (wpAny_field gj dj (x := .int i 0) rfl (show wpAny _ _ (seqItems? (.ref t) >>= _) _ _ s from wpAny_bind (wpAny_seqItems gt dt ?_)))
  simp only [Int.toNat_natCast, jx]
  refine wpAny_bind (wpAny_rule (wpAny_bind (wpAny_setField gj dj (by simp) (show wpAny _ _ (newExc (.type "StopIteration") [] >>= _) _ _ _ from wpAny_bind ?_))))
  simp only [newExc, newTuple]
  refine wpAny_bind (wpAny_newObj_type (wpAny_bind (m := firstArgMember _ _) (wpAny_of_eq (a := Value.none) (by first | rfl | (simp only [firstArgMember]; rfl)) (wpAny_newObj_type ?_ (by size_fits)))) (by size_fits))
  simp only [raiseNew]
  refine wpAny_bind (wpAny_handled ?_)
  first
    | rw [show A.in1.handled = none from jh]
    | rw [jh]
  exact wpAny_bind (wpAny_pure (wpAny_throw (q _ _ (((Heap.SameBut.update ..).extBut.push _).push _) ⟨_, Heap.get?_push_size _ rfl, rfl⟩)))
/-- one turn of an enumerate whose own iterator gives x -/
theorem enumGen_item {e j : Addr} {i : Nat} {x old : Value} {Q : Option Value → Shared → Prop} {St : Heap → Prop} (ee : IsEnum s.heap e j i old) (ne : e ≠ j)
    (nx : ∀ (A : Around) (E : Value → Shared → Prop) (Q' : Value → Shared → Prop), (∀ h', St h' → Heap.SameBut j s.heap h' → Q' x { s with heap := h' }) → wpAny (model prog w) A (Builtin.SmallTypes.nextOf (.ref j)) Q' E s)
    (kp : ∀ h h', St h → (∀ o, h.get? j = some o → h'.get? j = some o) → St h')
    (q : ∀ h', IsEnumOut h' e j ((i : Int) + 1) x s.heap.objs.size → St h' → h'.get? s.heap.objs.size = some { cls := .type "tuple", data := .seq #[.int i s.toks, x] } → h'.objs.size = s.heap.objs.size + 1 →
      (∀ b o, b ≠ e → b ≠ j → s.heap.get? b = some o → h'.get? b = some o) → Q (some (.ref s.heap.objs.size)) { s with heap := h', toks := s.toks + 1 }) :
    wpAny (model prog w) A (pyNext (.ref e)) Q E s := by
  have ty : s.TypeIs (.ref e) "enumerate" := ⟨_, ee, rfl⟩
  have hel : e < s.heap.objs.size := Heap.lt_size ee
  unfold pyNext
  refine wpAny_bind (wpAny_attempt (wpAny_callSpecial?_slot (name := Str.ofString "__next__") ty F.slot_enumerate_next (wpAny_call_entry F.slot_enumerate_next ty F.entry_enumerate_next ?_ (F.args_enumerate_next_1 _))))
  obtain ⟨hp, g, d, tk, os⟩ := s
  show wpAny _ _ (field (.ref e) 2 >>= _) _ _ _
  refine wpAny_bind (wpAny_field ee rfl (x := .ref j) rfl (wpAny_bind (nx _ _ _ fun a1 t1 b1 => ?_)))
  have b1 : Heap.SameBut j hp a1 := b1
  have e1 : IsEnum a1 e j i old := (b1.2 e ne).trans ee
  show wpAny _ _ (field (.ref e) 3 >>= _) _ _ ⟨a1, g, d, tk, os⟩
  refine wpAny_bind (wpAny_field e1 rfl (x := rawInt i) rfl ?_)
  show wpAny _ _ (field (.ref e) 4 >>= _) _ _ ⟨a1, g, d, tk, os⟩
  refine wpAny_bind (wpAny_field e1 rfl (x := .none) rfl ?_)
  show wpAny _ _ (mkInt i >>= _) _ _ ⟨a1, g, d, tk, os⟩
  refine wpAny_bind (wpAny_mkInt ?_)
  show wpAny _ _ (setField (.ref e) 3 (rawInt ((i : Int) + 1)) >>= _) _ _ ⟨a1, g, d, tk + 1, os⟩
  refine wpAny_bind (wpAny_setField_rec e1 (by simp) fun a2 e2 b2 => ?_)
  have b2 : Heap.SameBut e a1 a2 := b2
  have e2 : IsEnum a2 e j ((i : Int) + 1) old := e2
  show wpAny _ _ (setField (.ref e) 4 .none >>= _) _ _ ⟨a2, g, d, tk + 1, os⟩
  refine wpAny_bind (wpAny_setField_rec e2 (by simp) fun a3 e3 b3 => ?_)
  have b3 : Heap.SameBut e a2 a3 := b3
  have e3 : IsEnum a3 e j ((i : Int) + 1) old := e3
  show wpAny _ _ (newTuple [.int i tk, x] >>= _) _ _ ⟨a3, g, d, tk + 1, os⟩
  refine wpAny_bind (wpAny_newTuple ?_)
  have sz : a3.objs.size = hp.objs.size := by rw [b3.1, b2.1, b1.1]
  have e4 : IsEnum (a3.push { cls := .type "tuple", data := .seq #[.int i tk, x] }) e j ((i : Int) + 1) old := Heap.get?_push_of_some _ e3
  have t4 : (a3.push { cls := .type "tuple", data := .seq #[.int i tk, x] }).get? hp.objs.size = some { cls := .type "tuple", data := .seq #[.int i tk, x] } := by
    rw [← sz]
    exact Heap.get?_push_size _ rfl
  have z4 : (a3.push { cls := .type "tuple", data := .seq #[.int i tk, x] }).objs.size = hp.objs.size + 1 := by rw [Heap.size_push, sz]
  have k4 : ∀ b o, b ≠ e → b ≠ j → hp.get? b = some o → (a3.push { cls := .type "tuple", data := .seq #[.int i tk, x] }).get? b = some o := fun b o n1 n2 z => Heap.get?_push_of_some _ (b3.extBut b o n1 (b2.extBut b o n1 (b1.extBut b o n2 z)))
  have s4 : St (a3.push { cls := .type "tuple", data := .seq #[.int i tk, x] }) := kp a1 _ t1 fun o z => Heap.get?_push_of_some _ (b3.extBut j o (Ne.symm ne) (b2.extBut j o (Ne.symm ne) z))
  generalize a3.push { cls := .type "tuple", data := .seq #[.int i tk, x] } = a4 at e4 t4 z4 k4 s4 ⊢
  show wpAny _ _ (Builtin.SmallTypes.ownedTupleIsFree (.ref e) >>= _) _ _ ⟨a4, g, d, tk + 1, os⟩
  rw [sz]
  refine wpAny_bind ?_
  unfold Builtin.SmallTypes.ownedTupleIsFree
  refine wpAny_bind (wpAny_field e4 rfl (x := .none) rfl (wpAny_pure ?_))
  simp only [if_true]
  refine wpAny_bind (wpAny_rule (wpAny_bind (wpAny_field e4 rfl (x := old) rfl (wpAny_bind (wpAny_setField_rec e4 (by simp) fun a5 e5 b5 => ?_)))))
  have b5 : Heap.SameBut e a4 a5 := b5
  have e5 : IsEnum a5 e j ((i : Int) + 1) x := e5
  show wpAny _ _ (Builtin.SmallTypes.ownedTupleHandOut (.ref e) (.ref hp.objs.size) >>= _) _ _ ⟨a5, g, d, tk + 1, os⟩
  refine wpAny_bind ?_
  unfold Builtin.SmallTypes.ownedTupleHandOut
  refine wpAny_bind (wpAny_setField_rec e5 (by simp) fun a6 e6 b6 => ?_)
  have b6 : Heap.SameBut e a5 a6 := b6
  have e6 : IsEnumOut a6 e j ((i : Int) + 1) x hp.objs.size := e6
  refine wpAny_setField_rec e6 (by simp) fun a7 e7 b7 => ?_
  have b7 : Heap.SameBut e a6 a7 := b7
  have e7 : IsEnumOut a7 e j ((i : Int) + 1) x hp.objs.size := e7
  have all : ∀ b o, b ≠ e → a4.get? b = some o → a7.get? b = some o := fun b o n1 z => b7.extBut b o n1 (b6.extBut b o n1 (b5.extBut b o n1 z))
  exact wpAny_bind (wpAny_letGo (wpAny_pure ⟨_, rfl, wpAny_pure (q a7 e7 (kp a4 a7 s4 fun o z => all j o (Ne.symm ne) z) (all _ _ (Nat.ne_of_gt hel) t4) (by rw [b7.1, b6.1, b5.1, z4]) fun b o n1 n2 z => all b o n1 (k4 b o n1 n2 z))⟩))
theorem enumT_end {e j t : Addr} {i : Nat} {ys : Array Value} {old : Value} {Q : Option Value → Shared → Prop} (jh : A.handled = none) (ee : IsEnum s.heap e j i old) (ji : s.heap.IsTupleIter j t i) (jt : s.heap.IsTuple t ys) (jx : ys[i]? = none)
    (q : ∀ h', Heap.ExtBut j s.heap h' → Q none { s with heap := h' }) : wpAny (model prog w) A (pyNext (.ref e)) Q E s := by
  have ty : s.TypeIs (.ref e) "enumerate" := ⟨_, ee, rfl⟩
  unfold pyNext
  refine wpAny_bind (wpAny_attempt (wpAny_callSpecial?_slot (name := Str.ofString "__next__") ty F.slot_enumerate_next (wpAny_call_entry F.slot_enumerate_next ty F.entry_enumerate_next ?_ (F.args_enumerate_next_1 _))))
  show wpAny _ _ (field (.ref e) 2 >>= _) _ _ _
  refine wpAny_bind (wpAny_field ee rfl (x := .ref j) rfl (wpAny_bind (nextT_end jh ji jt jx fun h' v k1 ⟨o, k2, k3⟩ => ?_)))
  exact wpAny_bind (wpAny_isInstance (T := "StopIteration") (b := true) ⟨o, k2, k3⟩ isSubtype_stop (wpAny_pure (q _ k1)))
theorem meets_enumT (t : Addr) (ys : Array Value) (n : Nat) (dct : Option Addr) (sl : Array (Option Value)) :
    Meets (Builtin.«enumerate.__new__» ⟨[.type "enumerate", .ref t], []⟩) (fun _ R s => s.heap.get? t = some { cls := .type "tuple", dict := dct, data := .seq ys n, slots := sl } ∧
      R (.ok (.ret (.ref (s.heap.push { cls := .type "tuple_iterator", data := .fields #[.ref t, .int 0 0] }).objs.size)))
        { s with heap := (s.heap.push { cls := .type "tuple_iterator", data := .fields #[.ref t, .int 0 0] }).push { cls := .type "enumerate", data := .fields #[.none, .bool false, .ref s.heap.objs.size, rawInt 0, .none, .none] } }) :=
  .of_wp fun prog w A R s h => by
    obtain ⟨hp, g, d, tk, os⟩ := s
    obtain ⟨gt, h⟩ := h
    have sub := sub_enumerate
    have jt : Heap.IsTuple (Shared.heap ⟨hp, g, d, tk, os⟩) t ys := ⟨_, gt, rfl, n, rfl⟩
    wp_walk using wpAny_loadPart' gt
    refine wpAny_stack_any fun st => wpAny_pure ?_
    split
    · rename_i c _ _ _ _ _
      cases (c == Value.type "enumerate") <;> (wp_walk using wpAny_loadPart' gt, wpAny_pyIter_tuple jt) <;> exact ⟨_, rfl, h⟩
    · wp_walk using wpAny_loadPart' gt, wpAny_pyIter_tuple jt
      exact ⟨_, rfl, h⟩
theorem call_enumT {t : Addr} {ys : Array Value} {Q : Value → Shared → Prop} (jt : s.heap.IsTuple t ys)
    (q : ∀ h', IsEnum h' (s.heap.objs.size + 1) s.heap.objs.size 0 .none → h'.IsTupleIter s.heap.objs.size t 0 → (∀ b o, s.heap.get? b = some o → h'.get? b = some o) → Q (.ref (s.heap.objs.size + 1)) { s with heap := h' }) :
    wpAny (model prog w) A (call (.type "enumerate") [.ref t]) Q E s := by
  obtain ⟨⟨c, dct, dt, sl⟩, gt, ct, n, de⟩ := jt
  have ct : c = .type "tuple" := ct
  have de : dt = .seq ys n := de
  subst ct de
  refine callType_new F.called_enumerate (by decide) (F.typeCall_enumerate_1 _) (F.newCall_enumerate_1 _) (fun obj => F.args_object_init_2 obj _) F.entry_enumerate_new (meets_enumT t ys n dct sl) ⟨gt, ?_⟩
  have z : (s.heap.push { cls := .type "tuple_iterator", data := .fields #[.ref t, .int 0 0] }).objs.size = s.heap.objs.size + 1 := Heap.size_push ..
  show _ ∧ _
  rw [z]
  have he : IsEnum ((s.heap.push { cls := .type "tuple_iterator", data := .fields #[.ref t, .int 0 0] }).push { cls := .type "enumerate", data := .fields #[.none, .bool false, .ref s.heap.objs.size, rawInt 0, .none, .none] }) (s.heap.objs.size + 1) s.heap.objs.size 0 .none := by
    have k := Heap.get?_push_size (s.heap.push { cls := .type "tuple_iterator", data := .fields #[.ref t, .int 0 0] }) (o := { cls := .type "enumerate", data := .fields #[.none, .bool false, .ref s.heap.objs.size, rawInt 0, .none, .none] }) rfl
    rw [z] at k
    exact k
  exact ⟨⟨_, he, rfl⟩, q _ he ⟨_, Heap.get?_push_of_some _ (Heap.get?_push_size _ rfl), rfl, rfl⟩ fun b o x => Heap.get?_push_of_some _ (Heap.get?_push_of_some _ x)⟩
end
end DL

namespace DL
open PySem PySem.Spec PyProof.Rows L2
variable [TB]

/-- the tuple at a, each item in a new pair with its number -/
def ItE (K : PySem.W.Frag) (a : Addr) : It where
  go := fun i H => ∃ (xs : List V) (x : V), SqT K H a xs ∧ xs[i]? = some x
  yld := fun i H v H' => ∃ T x, v = .ref T ∧ H T = none ∧ H' = upd H T (.tup [.int (i : Nat), x]) ∧ ∀ xs, SqT K H a xs → xs[i]? = some x
  stop := fun i H => ∃ xs : List V, SqT K H a xs ∧ xs.length ≤ i
theorem two_of {b e j : Addr} (h : b ∈ [e, j]) : b = e ∨ b = j := by simpa using h
theorem turn_enumT {P : Program} {w : World} {K : PySem.W.Frag} {elts : List Expr} {kk : Nat} {tpos : Pos} (a e j : Addr) :
    Turn P w K (.Tuple elts kk tpos) (ItE K a) [e, j] e (fun i h => (∃ old, IsEnum h e j ((i : Nat) : Int) old) ∧ h.IsTupleIter j a i ∧ e ≠ j) where
  mem := by simp
  obj := fun i h ⟨⟨old, ee⟩, ⟨o, go, co, dd⟩, _⟩ b hb => by
    rcases two_of hb with rfl | rfl
    · exact ⟨_, ee, fun v q => nomatch q⟩
    · exact ⟨o, go, fun v q => by rw [dd] at q; cases q⟩
  keep := fun i h h' ⟨⟨old, ee⟩, ji, ne⟩ k => ⟨⟨old, k e (by simp) _ ee⟩, ji.at fun o q => k j (by simp) o q, ne⟩
  item := by
    intro X hP hw hK hc i pins s σ H E I hf st hg
    subst hP hw hK
    obtain ⟨⟨old, ee⟩, ji, ne⟩ := st
    obtain ⟨xs, x, sq, ex⟩ := hg
    obtain ⟨its, rv, tp, _⟩ := I.tuple sq
    obtain ⟨u, eu, ru⟩ := rv.get ex
    have le : e < s.heap.objs.size := Heap.lt_size ee
    have lj : j < s.heap.objs.size := by obtain ⟨_, q, _⟩ := ji; exact Heap.lt_size q
    refine enumGen_item (St := fun h => h.IsTupleIter j a (i + 1)) ee ne (fun A E Q q => nextT_item ji (show s.heap.IsTuple a its.toArray from tp) (by simpa using eu) q) (fun h h' k z => k.at z) fun h' eo jo tn zn kn => ?_
    refine ⟨_, rfl, wpAny_letOwnedTupleGo_enum (s := { s with heap := h', toks := s.toks + 1 }) eo fun h2 e2 sb => ?_⟩
    have t2 : h2.get? s.heap.objs.size = some { cls := .type "tuple", data := .seq #[.int i s.toks, u] } := (sb.2 _ (Nat.ne_of_gt le)).trans tn
    have ok : ObjOk X.prog X.w (upd H s.heap.objs.size (.tup [.int (i : Nat), x])) h2 s.heap.objs.size (.tup [.int (i : Nat), x]) := ⟨show 2 ≤ sizeLine by decide, [.int i s.toks, u], .cons ⟨_, rfl⟩ (.cons ru .nil), _, t2, rfl, _, rfl⟩
    have I1 : Inv X pins σ (upd H s.heap.objs.size (.tup [.int (i : Nat), x])) { s with heap := h2, toks := s.toks + 1 } :=
      I.turnedNew (ch := [e, j]) (fun b ob nb q => (sb.2 b fun z => nb (by simp [z])).trans (kn b ob (fun z => nb (by simp [z])) (fun z => nb (by simp [z])) q)) hf (Nat.le_refl _) ok
    refine ⟨.ref s.heap.objs.size, _, I1, rfl, ⟨_, x, rfl, I.hok.fresh (Nat.le_refl _), rfl, fun ys hy => by rw [I.tuple_inj hy sq]; exact ex⟩, ⟨⟨u, ?_⟩, jo.at fun o q => (sb.2 j ne.symm).trans q, ne⟩, fun b hb => ?_⟩
    · rw [show ((i + 1 : Nat) : Int) = (i : Int) + 1 by omega]
      exact e2
    · have lb : b < s.heap.objs.size := by rcases two_of hb with rfl | rfl <;> assumption
      rw [upd_ne (Nat.ne_of_lt lb)]
      exact (hf b hb).1
  done := by
    intro X hP hw hK hc i pins s σ H E I hf st hg
    subst hP hw hK
    obtain ⟨⟨old, ee⟩, ji, ne⟩ := st
    obtain ⟨xs, sq, lx⟩ := hg
    obtain ⟨its, rv, tp, _⟩ := I.tuple sq
    obtain ⟨f0, f1, f2, f3, f4, f5⟩ := hf j (by simp)
    have hl := rv.length
    exact enumT_end (I.ok.hd hc) ee ji (show s.heap.IsTuple a its.toArray from tp) (by simp; omega) fun h' k => ⟨rfl, I.turned (t' := s.toks) (fun b o nb q => k b o nb q) f0 f1 f3 f4 f5⟩
  self := fun A i s Q E ⟨⟨_, ee⟩, _⟩ h => wpAny_pyIter_enum ee h
def iEnumT (K : PySem.W.Frag) (ta : TA) : TI := fun σ H R => ta σ H fun vs H1 => ∃ a xs, vs = [.ref a] ∧ SqT K H1 a xs ∧ R (ItE K a) H1
theorem pi_enumT {X : Cx} {e : Expr} {ta : TA} {p pos tpos : Pos} {elts : List Expr} {kk : Nat} (hg : Gl X "enumerate") (hm : X.mg "enumerate" = none) (ha : PA X [e] ta) (hs : starEach [e] X.env = [(false, eval e X.env)] := by rfl) :
    PI X (.Tuple elts kk tpos) (.Call (.Name "enumerate" p) [e] [] pos) (iEnumT X.K ta) := by
  refine ⟨fun pins s σ H R I h => Call_ (ld_blt I hg hm boot_enumerate (PyProof.Rows.callWith_type1 (thn (ha.run pos pins s σ H _ I h) fun us s1 ⟨vs, H1, I1, r1, q1⟩ => ?_) hs rfl))⟩
  obtain ⟨a, xs, rfl, sq, q⟩ := q1
  obtain ⟨u, rfl, ru⟩ := r1.one
  cases ru
  obtain ⟨its, rv, tp, _⟩ := I1.tuple sq
  refine call_enumT (show s1.heap.IsTuple a its.toArray from tp) fun h' ee ji hk => wpAny_pyIter_enum ee ?_
  have I2 : Inv X pins σ H1 { s1 with heap := h' } := I1.kept (t' := s1.toks) hk
  refine ⟨s1.heap.objs.size + 1, [s1.heap.objs.size + 1, s1.heap.objs.size], _, _, H1, rfl, I2, turn_enumT a (s1.heap.objs.size + 1) s1.heap.objs.size, ⟨⟨.none, ee⟩, ji, Nat.succ_ne_self _⟩, fun b hb => ?_, q⟩
  have le : s1.heap.objs.size ≤ b := by rcases two_of hb with rfl | rfl <;> omega
  exact I1.fpOk le (I1.hok.fresh le)
/-- of a list or of a tuple -/
theorem pi_or {X : Cx} {tg e : Expr} {t u : TI} (p : PI X tg e t) (q : PI X tg e u) : PI X tg e (fun σ H R => t σ H R ∨ u σ H R) := ⟨fun pins s σ H R I h => h.elim (p.run pins s σ H R I) (q.run pins s σ H R I)⟩
def enumX (fa : AEV) : IEV := fun δ => (fa δ).bind fun x => match x.1 with
  | [.v (.d (.list xs))] => some (enumF 0 xs, x.2)
  | [.v (.d (.tuple xs))] => some (enumF 0 xs, x.2)
  | _ => none
theorem serves_ET {K : PySem.W.Frag} {T : List Addr} {ρ : List (Option Addr)} {H : Hp} {a : Addr} {ws : List V} {xs : List PyData} (h0 : hid T ρ H a = some (.tup ws)) (hd : DqAll K (hid T ρ H) ws xs) : Serves K T ρ H (ItE K a) (enumF 0 xs) := fun i T2 ρ2 H2 sm tr => by
  have h2 : SqT K H2 a ws := SqT.of (hid_same _ _ (sm _ _ h0))
  refine ⟨fun d hi => ?_, fun hi => ⟨ws, h2, by rw [dpAll_len hd]; rw [enumF_len] at hi; exact hi⟩⟩
  rw [enumF_at] at hi
  obtain ⟨x, ex, rfl⟩ := Option.map_eq_some_iff.mp hi
  obtain ⟨v, e1, e2⟩ := dpAll_get hd ex
  refine ⟨⟨ws, v, h2, e1⟩, fun y H3 hy => ?_⟩
  obtain ⟨t, x', rfl, hn, rfl, fv⟩ := hy
  have := fv ws h2
  rw [e1] at this
  cases this
  refine ⟨same_new hn, Dq.tup (tr.hidNew hn) (.cons ?_ (.cons (dpM (hid_mono (same_new hn)) _ (dpM sm _ e2)) .nil))⟩
  rw [Nat.zero_add]
  exact .int _
section
variable {X : Cx} {e : Expr} {fa : AEV} {p pos tpos : Pos} {elts : List Expr} {kk : Nat}
theorem di_enumX (hg : Gl X "enumerate") (hm : X.mg "enumerate" = none) (ha : DA X [e] fa) (hs : starEach [e] X.env = [(false, eval e X.env)] := by rfl) : DI X (.Tuple elts kk tpos) (.Call (.Name "enumerate" p) [e] [] pos) (enumX fa) := pi_imp (pi_or (pi_enum hg hm ha hs) (pi_enumT hg hm ha hs)) fun σ H R ⟨T, ρ, δ, xs, δ', hs, hf, hq⟩ => by
  unfold enumX at hf
  cases ea : fa δ with
  | none => rw [ea] at hf; cases hf
  | some z =>
    obtain ⟨ps, δ1⟩ := z
    rw [ea] at hf
    simp only [Option.bind_some] at hf
    split at hf
    case h_3 => cases hf
    · rename_i ys
      cases hf
      refine .inl ⟨T, ρ, δ, _, _, hs, ea, fun ρ1 vs H1 s1 x1 p1 => ?_⟩
      obtain ⟨v, rfl, q1⟩ := paired1 p1
      cases (show Dq X.K (hid T ρ1 H1) _ (.list ys) from q1) with
      | lst h1 h2 => exact ⟨_, _, rfl, SqL.of (hid_same _ _ h1), hq ρ1 H1 _ s1 x1 (serves_E h1 h2)⟩
    · rename_i ys
      cases hf
      refine .inr ⟨T, ρ, δ, _, _, hs, ea, fun ρ1 vs H1 s1 x1 p1 => ?_⟩
      obtain ⟨v, rfl, q1⟩ := paired1 p1
      cases (show Dq X.K (hid T ρ1 H1) _ (.tuple ys) from q1) with
      | tup h1 h2 => exact ⟨_, _, rfl, SqT.of (hid_same _ _ h1), hq ρ1 H1 _ s1 x1 (serves_ET h1 h2)⟩
end
end DL

namespace DL
open PySem PySem.Spec PyProof.Rows L2 DLS
variable [TB]

/-! ### < of numbers or of tuples of numbers -/
theorem lexLt_eq : ∀ xs ys : List Int, HT.lexLt xs ys = lexL xs ys
  | [], [] => rfl
  | [], _ :: _ => rfl
  | _ :: _, [] => rfl
  | x :: xs, y :: ys => by
    show (if x = y then HT.lexLt xs ys else decide (x < y)) = if x = y then lexL xs ys else decide (x < y)
    rw [lexLt_eq xs ys]
def opLtX (a b : S) : Option S := match asI a, asI b with
  | some i, some j => some (.d (.bool (pLt i j)))
  | _, _ => (asT a).bind fun xs => (asT b).bind fun ys => (intsP xs).bind fun ns => (intsP ys).map fun ms => .d (.bool (lexL ns ms))
theorem od_ltX {K : PySem.W.Frag} : OpD K (fun x y H Q => rCmp pLt x y H Q ∨ rLtT K x y H Q) opLtX := fun T ρ H x y a b s Q k ha hb hg hq => by
  unfold opLtX at hg
  split at hg
  · rename_i i j e1 e2
    cases hg
    exact .inl ⟨i, j, at_I ha e1, at_I hb e2, postO_same hq (.bl _)⟩
  · cases e1 : asT a with
    | none => rw [e1] at hg; cases hg
    | some xs =>
      rw [e1] at hg
      simp only [Option.bind_some] at hg
      cases e2 : asT b with
      | none => rw [e2] at hg; cases hg
      | some ys =>
        rw [e2] at hg
        simp only [Option.bind_some] at hg
        cases e3 : intsP xs with
        | none => rw [e3] at hg; cases hg
        | some ns =>
          rw [e3] at hg
          simp only [Option.bind_some] at hg
          cases e4 : intsP ys with
          | none => rw [e4] at hg; cases hg
          | some ms =>
            rw [e4] at hg
            cases hg
            obtain ⟨p, vs, rfl, h1, h2⟩ := at_T ha e1
            obtain ⟨q, ws, rfl, h3, h4⟩ := at_T hb e2
            rw [intsP_eq e3] at h2
            rw [intsP_eq e4] at h4
            have z1 := ints_V h2
            have z2 := ints_V h4
            subst z1 z2
            refine .inr ⟨p, q, ns, ms, rfl, rfl, SqT.of (hid_same _ _ h1), SqT.of (hid_same _ _ h3), ?_⟩
            rw [lexLt_eq]
            exact postO_same hq (.bl _)
section
variable {X : Cx} {a b e : Expr} {pos : Pos} {fp fq : PEV} {j : Nat}
theorem de_ltX (hr : Room j X.A) (ha : DP X a fp) (hb : DP X b fq) : DE X (.Compare a [.Lt] [b] pos) (bin opLtX fp fq) := de_cmp (opr_or or_lt (op_ltT (by have := hr.units; omega))) od_ltX ha hb (nomark _)
theorem dt_ltX (hr : Room j X.A) (ha : DP X a fp) (hb : DP X b fq) : DT X (.Compare a [.Lt] [b] pos) (bl (bin opLtX fp fq)) := dt_cmp (opr_or or_lt (op_ltT (by have := hr.units; omega))) od_ltX ha hb (nomark _)
/-! ### a constant of the module -/
def Con (mg : Str → Option Value) (x : Str) (v : V) : Prop := ∃ u, mg x = some u ∧ RelV v u
theorem de_con {x : Str} {v : V} {d : PyData} (hg : Gl X x) (hm : Con X.mg x v) (h : ∀ (K : PySem.W.Frag) (G : Hp), Dq K G v d) (hd : (x == ("__debug__" : Str)) = false := by decide) : DE X (.Name x pos) (cst d) := by
  obtain ⟨u, h1, h2⟩ := hm
  exact de_cst (pe_glob hg h1 h2 hd) fun _ => h _ _
theorem de_conI {x : Str} {i : Int} (hg : Gl X x) (hm : Con X.mg x (.int i)) (hd : (x == ("__debug__" : Str)) = false := by decide) : DE X (.Name x pos) (cst (.int i)) := de_con hg hm (fun _ _ => .int i) hd
theorem de_conS {x t : Str} (hg : Gl X x) (hm : Con X.mg x (.str t)) (hd : (x == ("__debug__" : Str)) = false := by decide) : DE X (.Name x pos) (cst (.str t)) := de_con hg hm (fun _ _ => .str t) hd
end
end DL

namespace DL
open PySem PySem.Spec PyProof.Rows L2 DLS RZ
variable [TB]

/-! ### zip of two lists, or of two tuples -/
def zipX (fa : AEV) : IEV := fun δ => (fa δ).bind fun x => match x.1 with
  | [.v (.d (.list xs)), .v (.d (.list ys))] => some (zipD xs ys, x.2)
  | [.v (.d (.tuple xs)), .v (.d (.tuple ys))] => some (zipD xs ys, x.2)
  | _ => none
theorem serves_ZT {K : PySem.W.Frag} {T : List Addr} {ρ : List (Option Addr)} {H : Hp} {a b : Addr} {us ws : List V} {xs ys : List PyData} (h1 : hid T ρ H a = some (.tup us)) (d1 : DqAll K (hid T ρ H) us xs) (h2 : hid T ρ H b = some (.tup ws)) (d2 : DqAll K (hid T ρ H) ws ys) : Serves K T ρ H (ItzT K a b) (zipD xs ys) := fun i T2 ρ2 H2 sm tr => by
  have g1 : SqT K H2 a us := SqT.of (hid_same _ _ (sm _ _ h1))
  have g2 : SqT K H2 b ws := SqT.of (hid_same _ _ (sm _ _ h2))
  have l1 := dpAll_len d1
  have l2 := dpAll_len d2
  refine ⟨fun d hi => ?_, fun hi => ⟨us, ws, g1, g2, ?_⟩⟩
  · unfold zipD at hi
    rw [List.getElem?_map] at hi
    cases e : (xs.zip ys)[i]? with
    | none => rw [e] at hi; cases hi
    | some p =>
      rw [e] at hi
      cases hi
      obtain ⟨e1, e2⟩ := List.getElem?_zip_eq_some.mp e
      obtain ⟨v, f1, f2⟩ := dpAll_get d1 e1
      obtain ⟨w, f3, f4⟩ := dpAll_get d2 e2
      refine ⟨⟨us, ws, v, w, g1, g2, f1, f3⟩, fun x H3 hy => ?_⟩
      obtain ⟨t, x1, x2, rfl, nt, rfl, q1, q2⟩ := hy
      have r1 := q1 us g1
      have r2 := q2 ws g2
      rw [f1] at r1
      rw [f3] at r2
      cases r1
      cases r2
      have sn := same_new (o := .tup [v, w]) nt
      exact ⟨sn, .tup (tr.hidNew nt) (.cons (dpM (sm.trans (hid_mono sn)) _ f2) (.cons (dpM (sm.trans (hid_mono sn)) _ f4) .nil))⟩
  · unfold zipD at hi
    rw [List.length_map, List.length_zip] at hi
    rw [l1, l2]
    omega
theorem di_zipX {X : Cx} {e e2 : Expr} {elts : List Expr} {kk : Nat} {tpos p pos : Pos} {fa : AEV} (hg : Gl X "zip") (hm : X.mg "zip" = none) (ha : DA X [e, e2] fa) (hs : starEach [e, e2] X.env = (false, eval e X.env) :: starEach [e2] X.env := by rfl) (hpl : (backTo pos (starEach [e2] X.env)).any (·.1) = false := by rfl) :
    DI X (.Tuple elts kk tpos) (.Call (.Name "zip" p) [e, e2] [] pos) (zipX fa) := pi_imp (pi_zipA hg hm ha hs hpl) fun σ H R ⟨T, ρ, δ, xs, δ', hs, hf, hq⟩ => by
  unfold zipX at hf
  cases ea : fa δ with
  | none => rw [ea] at hf; cases hf
  | some z =>
    obtain ⟨ps, δ1⟩ := z
    rw [ea] at hf
    simp only [Option.bind_some] at hf
    refine ⟨T, ρ, δ, ps, δ1, hs, ea, fun ρ1 vs H1 s1 x1 p1 => ?_⟩
    split at hf
    · rename_i xs1 ys1
      cases hf
      obtain ⟨v, w, rfl, q1, q2⟩ := paired2 p1
      have q1' : Dq X.K (hid T ρ1 H1) v (.list xs1) := q1
      have q2' : Dq X.K (hid T ρ1 H1) w (.list ys1) := q2
      cases q1' with
      | lst a1 a2 =>
        cases q2' with
        | lst b1 b2 => exact ⟨_, _, _, _, rfl, .inl ⟨SqL.of (hid_same _ _ a1), SqL.of (hid_same _ _ b1), hq ρ1 H1 _ s1 x1 (serves_Z a1 a2 b1 b2)⟩⟩
    · rename_i xs1 ys1
      cases hf
      obtain ⟨v, w, rfl, q1, q2⟩ := paired2 p1
      have q1' : Dq X.K (hid T ρ1 H1) v (.tuple xs1) := q1
      have q2' : Dq X.K (hid T ρ1 H1) w (.tuple ys1) := q2
      cases q1' with
      | tup a1 a2 =>
        cases q2' with
        | tup b1 b2 => exact ⟨_, _, _, _, rfl, .inr ⟨SqT.of (hid_same _ _ a1), SqT.of (hid_same _ _ b1), hq ρ1 H1 _ s1 x1 (serves_ZT a1 a2 b1 b2)⟩⟩
    · cases hf
end DL

namespace DL
open PySem PySem.Spec PyProof.Rows L2 DLS
variable [TB]

/-! ### a def that calls itself: its meaning by how deep it may go; no deeper means nothing -/
theorem dss_none {X : Cx} {P : List Nat} {ss : List Stmt} : DSs X P ss (fun _ => none) := ⟨fun pins s σ H D I ⟨T, ρ, δ, o, hs, hf, hq⟩ => nomatch hf⟩
end DL

namespace DL
open PySem PySem.Spec PyProof.Rows L2
variable [TB]

/-! ### {k: v for .. for ..}: the machine's part -/
theorem turnD2_out (kx vx ta ia tb ib : Expr) (fa fb : List Expr) (scope : Scope) (pos : Pos) (it acc : Value) (env : Env) :
    compTurn (.DictComp kx vx [⟨ta, ia, fa, 0⟩, ⟨tb, ib, fb, 0⟩] scope pos) 0 it acc env = (do
      standAt ia.pos
      match ← pyNext it with
      | none => pure (.done .next)
      | some u =>
        letOwnedTupleGo ta it u
        assign ta env u
        let mut ok := true
        for c in fa do
          if ok then ok ← isTrue c env (eval c env)
        if ok then
          let y ← eval ib env
          standAt ib.pos
          let y ← foldedSetIterable ib env y
          let _ ← runOwn (.compStart (.DictComp kx vx [⟨ta, ia, fa, 0⟩, ⟨tb, ib, fb, 0⟩] scope pos) 1 (← holding [y] (pyIter y)) acc env) env
        again (.compLoop (.DictComp kx vx [⟨ta, ia, fa, 0⟩, ⟨tb, ib, fb, 0⟩] scope pos) 0 it acc env)) := by rfl
theorem turnD2_in (kx vx ta ia tb ib : Expr) (fa fb : List Expr) (scope : Scope) (pos : Pos) (it : Value) (D : Addr) (env : Env) :
    compTurn (.DictComp kx vx [⟨ta, ia, fa, 0⟩, ⟨tb, ib, fb, 0⟩] scope pos) 1 it (.ref D) env = (do
      standAt ib.pos
      match ← pyNext it with
      | none => pure (.done .next)
      | some u =>
        letOwnedTupleGo tb it u
        assign tb env u
        let mut ok := true
        for c in fb do
          if ok then ok ← isTrue c env (eval c env)
        if ok then
          (do
            let ku ← eval kx env
            let vu ← holding [ku] (eval vx env)
            standAt { kx.pos with endLine := vx.pos.endLine, endCol := vx.pos.endCol }
            holding [ku, vu] (dictSet D ku vu))
        again (.compLoop (.DictComp kx vx [⟨ta, ia, fa, 0⟩, ⟨tb, ib, fb, 0⟩] scope pos) 1 it (.ref D) env)) := by rfl
section
variable {prog : Program} {w : World} {A : Around} {R : Result → Shared → Prop} {s : Shared} {kx vx ta ia tb ib : Expr} {fa fb : List Expr} {scope : Scope} {pos : Pos} {it : Value} {D : Addr} {env : Env}
abbrev nbE (prog : Program) (w : World) (A : Around) (env : Env) (R : Result → Shared → Prop) := notedBy (model prog w) A env fun e s' => R (.error e) s'
abbrev ifsM (fs : List Expr) (env : Env) : Sem Bool := forIn fs true fun c r => if r = true then do let ok ← isTrue c env (eval c env); pure (ForInStep.yield ok) else pure (ForInStep.yield r)
theorem loopD2_out (hs : ∀ x, foldedSetIterable ib env x = pure x) (L : Nat → Shared → Prop)
    (turn : ∀ n s, L n s → wpAny (model prog w) A (pyNext it) (fun r a1 => match r with
      | none => R (.ok .next) a1
      | some u => wpAny (model prog w) A (letOwnedTupleGo ta it u) (fun _ a2 => wpAny (model prog w) A (assign ta env u) (fun _ a3 => wpAny (model prog w) A (ifsM fa env) (fun ok a4 =>
            if ok = true then wpAny (model prog w) A (eval ib env) (fun y a5 => wpAny (model prog w) A (pyIter y) (fun jt a6 =>
              codeAny (model prog w) A (.compStart (.DictComp kx vx [⟨ta, ia, fa, 0⟩, ⟨tb, ib, fb, 0⟩] scope pos) 1 jt (.ref D) env) (fun r a7 => match r with
                | .ok _ => ∃ m, m < n ∧ L m a7
                | .error _ => False) a6) (nbE prog w A env R) a5) (nbE prog w A env R) a4
            else ∃ m, m < n ∧ L m a4) (nbE prog w A env R) a3) (nbE prog w A env R) a2) (nbE prog w A env R) a1) (nbE prog w A env R) s)
    (n : Nat) (h : L n s) :
    codeAny (model prog w) A (.compLoop (.DictComp kx vx [⟨ta, ia, fa, 0⟩, ⟨tb, ib, fb, 0⟩] scope pos) 0 it (.ref D) env) R s := by
  refine codeAny_loop rfl L (fun n s hL => ?_) n h
  show wpAny _ A ((compTurn (.DictComp kx vx [⟨ta, ia, fa, 0⟩, ⟨tb, ib, fb, 0⟩] scope pos) 0 it (.ref D) env).onRaise (fun x => do noteFrame x env; theTreesLotGoes x)) _ _ s
  refine wpAny_noted ?_
  rw [turnD2_out]
  refine wpAny_bind (wpAny_standAt (wpAny_bind (wpAny_mono (turn n s hL) (fun r a1 g1 => ?_) fun _ _ z => z)))
  cases r with
  | none => exact wpAny_pure g1
  | some u =>
    refine wpAny_bind (wpAny_mono g1 (fun _ a2 g2 => ?_) fun _ _ z => z)
    refine wpAny_bind (wpAny_mono g2 (fun _ a3 g3 => wpAny_bind (wpAny_mono g3 (fun ok a4 g4 => ?_) fun _ _ z => z)) fun _ _ z => z)
    cases ok with
    | false => exact wpAny_pure ⟨rfl, g4⟩
    | true =>
      refine wpAny_bind (wpAny_mono g4 (fun y a5 g5 => ?_) fun _ _ z => z)
      refine wpAny_bind (wpAny_standAt (wpAny_bind (wpAny_of_eq (hs y) (wpAny_bind (wpAny_holding (wpAny_mono g5 (fun jt a6 g6 => ?_) fun _ _ z => z))))))
      refine wpAny_bind (wpAny_runOwn ?_)
      rw [Around.mark_none]
      refine codeAny_mono g6 fun r a7 g7 => ?_
      cases r with
      | ok f =>
        first
          | exact wpAny_pure ⟨rfl, g7⟩
          | exact wpAny_bind (wpAny_pure (wpAny_pure ⟨rfl, g7⟩))
      | error e => exact g7.elim
theorem loopD2_in (L : Nat → Shared → Prop)
    (turn : ∀ n s, L n s → wpAny (model prog w) A (pyNext it) (fun r a1 => match r with
      | none => R (.ok .next) a1
      | some u => wpAny (model prog w) A (letOwnedTupleGo tb it u) (fun _ a2 => wpAny (model prog w) A (assign tb env u) (fun _ a3 => wpAny (model prog w) A (ifsM fb env) (fun ok a4 =>
            if ok = true then wpAny (model prog w) A (eval kx env) (fun ku a5 => wpAny (model prog w) A (eval vx env) (fun vu a6 =>
              wpAny (model prog w) A (dictSet D ku vu) (fun _ a7 => ∃ m, m < n ∧ L m a7) (nbE prog w A env R) a6) (nbE prog w A env R) a5) (nbE prog w A env R) a4
            else ∃ m, m < n ∧ L m a4) (nbE prog w A env R) a3) (nbE prog w A env R) a2) (nbE prog w A env R) a1) (nbE prog w A env R) s)
    (n : Nat) (h : L n s) :
    codeAny (model prog w) A (.compLoop (.DictComp kx vx [⟨ta, ia, fa, 0⟩, ⟨tb, ib, fb, 0⟩] scope pos) 1 it (.ref D) env) R s := by
  refine codeAny_loop rfl L (fun n s hL => ?_) n h
  show wpAny _ A ((compTurn (.DictComp kx vx [⟨ta, ia, fa, 0⟩, ⟨tb, ib, fb, 0⟩] scope pos) 1 it (.ref D) env).onRaise (fun x => do noteFrame x env; theTreesLotGoes x)) _ _ s
  refine wpAny_noted ?_
  rw [turnD2_in]
  refine wpAny_bind (wpAny_standAt (wpAny_bind (wpAny_mono (turn n s hL) (fun r a1 g1 => ?_) fun _ _ z => z)))
  cases r with
  | none => exact wpAny_pure g1
  | some u =>
    refine wpAny_bind (wpAny_mono g1 (fun _ a2 g2 => ?_) fun _ _ z => z)
    refine wpAny_bind (wpAny_mono g2 (fun _ a3 g3 => wpAny_bind (wpAny_mono g3 (fun ok a4 g4 => ?_) fun _ _ z => z)) fun _ _ z => z)
    cases ok with
    | false => exact wpAny_pure ⟨rfl, g4⟩
    | true =>
      exact wpAny_bind (wpAny_bind (wpAny_mono g4 (fun ku a5 g5 => wpAny_bind (wpAny_holding (wpAny_mono g5 (fun vu a6 g6 => wpAny_bind (wpAny_standAt (wpAny_holding (wpAny_mono g6 (fun _ a7 g7 => wpAny_pure ⟨rfl, g7⟩) fun _ _ z => z)))) fun _ _ z => z))) fun _ _ z => z))
theorem startD1 (h0 : codeAny (model prog w) A (.compLoop (.DictComp kx vx [⟨ta, ia, fa, 0⟩, ⟨tb, ib, fb, 0⟩] scope pos) 1 it (.ref D) env) R s)
    (h : wpAny (model prog w) A (pyIter it) (fun jt a1 => codeAny (model prog w) A (.compLoop (.DictComp kx vx [⟨ta, ia, fa, 0⟩, ⟨tb, ib, fb, 0⟩] scope pos) 1 jt (.ref D) env) R a1) (nbE prog w A env R) s) :
    codeAny (model prog w) A (.compStart (.DictComp kx vx [⟨ta, ia, fa, 0⟩, ⟨tb, ib, fb, 0⟩] scope pos) 1 it (.ref D) env) R s := by
  refine codeAny_of_tree ?_
  show wpAny _ _ ((compStart (.DictComp kx vx [⟨ta, ia, fa, 0⟩, ⟨tb, ib, fb, 0⟩] scope pos) 1 it (.ref D) env).onRaise (fun x => do noteFrame x env; standAt theWindowsPlace)) _ _ s
  refine wpAny_notedAt ?_
  unfold compStart
  show wpAny _ _ (ask >>= fun _ => _) _ _ s
  refine wpAny_bind (wpAny_askSetting (wpAny_ite ?_))
  split
  · first
      | exact wpAny_bind (wpAny_pure (wpAny_pure ⟨rfl, h0⟩))
      | exact wpAny_pure ⟨rfl, h0⟩
  · first
      | exact wpAny_bind (wpAny_rule (wpAny_bind (wpAny_standAt (wpAny_bind (wpAny_mono h (fun jt a1 g1 => wpAny_pure ⟨rfl, g1⟩) fun _ _ z => z)))))
      | (refine wpAny_bind (wpAny_rule ?_); show wpAny _ _ (standAt ib.pos >>= _) _ _ s; exact wpAny_bind (wpAny_standAt (wpAny_bind (wpAny_mono h (fun jt a1 g1 => wpAny_pure ⟨rfl, g1⟩) fun _ _ z => z))))
end
end DL

namespace DL
open PySem PySem.Spec PyProof.Rows L2
variable [TB]

/-! ### {k: v for .. for ..}: a rule -/
def inGd (D : Addr) (wi1 : TI) (g1 : TG) (tt1 : TT) (tk tv : TE) (vs1 : List Nat) (σ2 : L2.St) (H3 : Hp) (Nx : Hp → Prop) : Prop :=
  wi1 σ2 H3 fun J1 H4 => ∃ W1 : Nat → Nat → Hp → Prop, (∃ m, W1 0 m H4) ∧ ∀ j k G, W1 j k G → (J1.stop j G ∧ Nx G) ∨
    (J1.go j G ∧ ∃ N1 : Hp → Prop, (∀ G', N1 G' → ∃ k', k' < k ∧ W1 (j + 1) k' G') ∧ ∀ x G', J1.yld j G x G' → g1 x (L2.wipe σ2 vs1) G' fun σ3 G5 => L2.wipe σ3 vs1 = L2.wipe σ2 vs1 ∧
      tt1 σ3 G5 fun b G6 => if b = true then tk σ3 G6 fun y G7 => tv σ3 G7 fun z G8 => ∃ G9, DPut G8 D y z G9 ∧ N1 G9 else N1 G6)
def tGd2 (o0 : HO) (wi : TI) (g : TG) (tt : TT) (wi1 : TI) (g1 : TG) (tt1 : TT) (tk tv : TE) (vs vs1 : List Nat) : TE := fun σ H Q => wi σ H fun J H1 => ∀ D, H1 D = none →
  ∃ W : Nat → Nat → Hp → Prop, (∃ m, W 0 m (upd H1 D o0)) ∧ ∀ i m G, W i m G → (J.stop i G ∧ Q (.ref D) G) ∨
    (J.go i G ∧ ∃ N : Hp → Prop, (∀ G', N G' → ∃ m', m' < m ∧ W (i + 1) m' G') ∧ ∀ x G', J.yld i G x G' → g x (L2.wipe σ vs) G' fun σ2 G2 => L2.wipe σ2 vs = L2.wipe σ vs ∧
      tt σ2 G2 fun b G3 => if b = true then inGd D wi1 g1 tt1 tk tv vs1 σ2 G3 N else N G3)
section
variable {X : Cx} {kx vx tg iter tg1 iter1 : Expr} {ifs ifs1 : List Expr} {scope : Scope} {own : List (Str × Nat)} {pos : Pos} {wi wi1 : TI} {g g1 : TG} {tt tt1 : TT} {tk tv : TE} {o0 : HO}
/-- the inner turns -/
theorem gd2_in {s0 : Shared} {H0 : Hp} {ce : Env} {fp : List Addr} {D : Addr} {pins : List (Addr × Obj)} {σ2 : L2.St} {vs1 : List Nat} {N : Hp → Prop} {R : Shared → Prop} (hu : X.A.units + 1 < cLine) (hc : X.calm = true)
    (pi1 : PI (X.blk s0 H0 scope ce fp) tg1 iter1 wi1) (pg1 : PG (X.blk s0 H0 scope ce fp) tg1 g1) (pt1 : PTs (X.blk s0 H0 scope ce fp) ifs1 tt1) (pk : PE (X.blk s0 H0 scope ce fp) kx tk) (pe : PE (X.blk s0 H0 scope ce fp) vx tv)
    {s : Shared} {H3 : Hp} (I : Inv (X.blk s0 H0 scope ce fp) pins σ2 H3 s) (h : inGd D wi1 g1 tt1 tk tv vs1 σ2 H3 N)
    (fin : ∀ G s', Inv (X.blk s0 H0 scope ce fp) pins (L2.wipe σ2 vs1) G s' → N G → R s') {E : Value → Shared → Prop} :
    wpAny (model X.prog X.w) X.A (eval iter1 ce) (fun y a5 => wpAny (model X.prog X.w) X.A (pyIter y) (fun jt a6 =>
      codeAny (model X.prog X.w) X.A (.compStart (.DictComp kx vx [⟨tg, iter, ifs, 0⟩, ⟨tg1, iter1, ifs1, 0⟩] scope pos) 1 jt (.ref D) ce) (fun r a7 => match r with
        | .ok _ => R a7
        | .error _ => False) a6) E a5) E s := by
  refine thnF (pi1.run _ s σ2 H3 _ I h) fun xv s10 hx => thnF hx fun itv s11 h11 => ?_
  obtain ⟨it1, fp1, tn1, J1, H11, e1, I11, T1, st11, f11, W1, ⟨m1, w1⟩, turn1⟩ := h11
  subst e1
  have hst : ∀ {G : Hp}, (∀ b ∈ fp1, G b = none) → ∀ b ∈ fp1, FpOk (X.blk s0 H0 scope ce fp) pins G b := fun hn b hb => ⟨hn b hb, (f11 b hb).2⟩
  have all : codeAny (model X.prog X.w) X.A (.compLoop (.DictComp kx vx [⟨tg, iter, ifs, 0⟩, ⟨tg1, iter1, ifs1, 0⟩] scope pos) 1 (.ref it1) (.ref D) ce) (fun r a7 => match r with
      | .ok _ => R a7
      | .error _ => False) s11 := by
    let L : Nat → Shared → Prop := fun k s' => ∃ j G, Inv (X.blk s0 H0 scope ce fp) pins (L2.wipe σ2 vs1) G s' ∧ tn1 j s'.heap ∧ (∀ b ∈ fp1, G b = none) ∧ W1 j k G
    refine loopD2_in L (fun k s12 hL => ?_) m1 ⟨0, H11, I11.weak (wipe_length _ _) (fun j v e => (wipe_some e).1), st11, fun b hb => (f11 b hb).1, w1⟩
    obtain ⟨j, H12, I12, t12, n12, w12⟩ := hL
    rcases turn1 j k H12 w12 with ⟨hs, q⟩ | ⟨hg, N1, down, each⟩
    · refine thnF (T1.done (X.blk s0 H0 scope ce fp) rfl rfl rfl hc j _ s12 _ H12 (fun _ _ => False) I12 (hst n12) t12 hs) fun r s13 ⟨er, I13⟩ => ?_
      subst er
      exact fin H12 s13 I13 q
    · refine thnF (T1.item (X.blk s0 H0 scope ce fp) rfl rfl rfl hc j _ s12 _ H12 (fun _ _ => False) I12 (hst n12) t12 hg) fun r s13 ⟨u, er, h13⟩ => ?_
      subst er
      refine thnF h13 fun _ s14 ⟨x, H14, I14, r14, y14, t14, n14⟩ => ?_
      have leave : ∀ {σ4 : L2.St} {s' : Shared} {G' : Hp}, L2.wipe σ4 vs1 = L2.wipe σ2 vs1 → Inv (X.blk s0 H0 scope ce fp) (pins ++ pinsAt fp1 s14.heap) σ4 G' s' → N1 G' → ∃ m, m < k ∧ L m s' := fun {σ4 s' G'} ew I' hN => by
        obtain ⟨m', lt, w'⟩ := down G' hN
        have held : ∀ b ∈ fp1, ∀ o, s14.heap.get? b = some o → s'.heap.get? b = some o ∧ G' b = none := fun b hb o e => by
          have z := I'.pin (b, o) (List.mem_append_right _ (List.mem_append_right _ (mem_pinsAt hb e)))
          exact ⟨z.1, z.2.1⟩
        have len : (L2.wipe σ2 vs1).length = σ4.length := by rw [← ew, wipe_length]
        refine ⟨m', lt, j + 1, G', (I'.unpinned (pins := pins)).weak len (fun i v e => (wipe_some (by rw [ew]; exact e)).1), T1.keep _ _ _ t14 fun b hb o e => (held b hb o e).1, fun b hb => ?_, w'⟩
        obtain ⟨o, e, _⟩ := T1.obj _ _ t14 b hb
        exact (held b hb o e).2
      refine thnF (pg1.run _ s14 _ H14 x u _ (I14.pinned (hst n14) (T1.obj _ _ t14)) r14 (each x H14 y14)) fun _ s15 ⟨σ15, H15, I15, ew, q15⟩ => ?_
      refine thnF (pt1.run _ s15 σ15 H15 _ I15 q15) fun b s16 ⟨H16, I16, q16⟩ => ?_
      cases b with
      | false => exact leave ew I16 q16
      | true =>
        refine thnF (pk.run _ s16 σ15 H16 _ I16 q16) fun kv s17 ⟨yk, H17, I17, r17, q17⟩ => ?_
        refine thnF (pe.run _ s17 σ15 H17 _ I17 q17) fun vv s18 ⟨yv, H18, I18, r18, H19, hp, hN⟩ => ?_
        exact dset_put (X := X.blk s0 H0 scope ce fp) hu I18 hp r17 r18 fun s19 I19 => leave ew I19 hN
  exact startD1 all (T1.self X.A 0 _ _ _ st11 all)
/-- all turns of the block -/
theorem gd2_turns {s0 : Shared} {H0 : Hp} {ce : Env} {fp : List Addr} {it D : Addr} {tn : Nat → Heap → Prop} {J : It} {W : Nat → Nat → Hp → Prop} {σ : L2.St} {vs vs1 : List Nat} {Q : Hp → Prop} {R : Result → Shared → Prop} (hu : X.A.units + 1 < cLine) (hc : X.calm = true) (hv : ∀ i ∈ vs1, i ∈ vs) (hs1 : ∀ env x, foldedSetIterable iter1 env x = pure x) (T : Turn X.prog X.w X.K tg J fp it tn)
    (pg : PG (X.blk s0 H0 scope ce fp) tg g) (pt : PTs (X.blk s0 H0 scope ce fp) ifs tt) (pi1 : PI (X.blk s0 H0 scope ce fp) tg1 iter1 wi1) (pg1 : PG (X.blk s0 H0 scope ce fp) tg1 g1) (pt1 : PTs (X.blk s0 H0 scope ce fp) ifs1 tt1) (pk : PE (X.blk s0 H0 scope ce fp) kx tk) (pe : PE (X.blk s0 H0 scope ce fp) vx tv)
    (turn : ∀ i m G, W i m G → (J.stop i G ∧ Q G) ∨ (J.go i G ∧ ∃ N : Hp → Prop, (∀ G', N G' → ∃ m', m' < m ∧ W (i + 1) m' G') ∧ ∀ x G', J.yld i G x G' → g x (L2.wipe σ vs) G' fun σ2 G2 => L2.wipe σ2 vs = L2.wipe σ vs ∧
      tt σ2 G2 fun b G3 => if b = true then inGd D wi1 g1 tt1 tk tv vs1 σ2 G3 N else N G3))
    (fin : ∀ G s', Inv (X.blk s0 H0 scope ce fp) [] (L2.wipe σ vs) G s' → Q G → R (.ok .next) s') {s : Shared} {m0 : Nat} {G0 : Hp} (I0 : Inv (X.blk s0 H0 scope ce fp) [] (L2.wipe σ vs) G0 s) (t0 : tn 0 s.heap) (n0 : ∀ b ∈ fp, G0 b = none) (w0 : W 0 m0 G0) :
    codeAny (model X.prog X.w) X.A (.compLoop (.DictComp kx vx [⟨tg, iter, ifs, 0⟩, ⟨tg1, iter1, ifs1, 0⟩] scope pos) 0 (.ref it) (.ref D) ce) R s := by
  have hst : ∀ {σ' : L2.St} {G : Hp} {s' : Shared}, Inv (X.blk s0 H0 scope ce fp) [] σ' G s' → (∀ b ∈ fp, G b = none) → ∀ b ∈ fp, FpOk (X.blk s0 H0 scope ce fp) [] G b := fun {σ' G s'} I' hn b hb =>
    ⟨hn b hb, (I'.ok.exf b hb).1, I'.ok.exfs b hb, .inl hb, fun x c e => (I'.ok.exf b hb).2 x c e, fun p hp => by
      have hp' : p ∈ ([] : List (Addr × Obj)) ++ [] := hp
      simp at hp'⟩
  let L : Nat → Shared → Prop := fun n s' => ∃ i G, Inv (X.blk s0 H0 scope ce fp) [] (L2.wipe σ vs) G s' ∧ tn i s'.heap ∧ (∀ b ∈ fp, G b = none) ∧ W i n G
  refine loopD2_out (hs1 ce) L (fun n s1 hL => ?_) m0 ⟨0, G0, I0, t0, n0, w0⟩
  obtain ⟨i, G1, I1, t1, n1, w1⟩ := hL
  rcases turn i n G1 w1 with ⟨hs, q⟩ | ⟨hg, N, down, each⟩
  · refine thnF (T.done (X.blk s0 H0 scope ce fp) rfl rfl rfl hc i [] s1 _ G1 (fun _ _ => False) I1 (hst I1 n1) t1 hs) fun r s2 ⟨er, I2⟩ => ?_
    subst er
    exact fin G1 s2 I2 q
  · refine thnF (T.item (X.blk s0 H0 scope ce fp) rfl rfl rfl hc i [] s1 _ G1 (fun _ _ => False) I1 (hst I1 n1) t1 hg) fun r s2 ⟨u, er, h2⟩ => ?_
    subst er
    refine thnF h2 fun _ s3 ⟨x, G3, I3, r3, y3, t3, n3⟩ => ?_
    -- what a turn leaves
    have leave : ∀ {σ4 : L2.St} {s' : Shared} {G' : Hp}, (L2.wipe σ vs).length = σ4.length → (∀ (j : Nat) v, (L2.wipe σ vs)[j]? = some (some v) → σ4[j]? = some (some v)) → Inv (X.blk s0 H0 scope ce fp) ([] ++ pinsAt fp s3.heap) σ4 G' s' → N G' → ∃ m, m < n ∧ L m s' := fun {σ4 s' G'} hl hk I' hN => by
      obtain ⟨m', lt, w'⟩ := down G' hN
      have held : ∀ b ∈ fp, ∀ o, s3.heap.get? b = some o → s'.heap.get? b = some o ∧ G' b = none := fun b hb o e => by
        have z := I'.pin (b, o) (List.mem_append_right _ (List.mem_append_right _ (mem_pinsAt hb e)))
        exact ⟨z.1, z.2.1⟩
      refine ⟨m', lt, i + 1, G', (I'.unpinned (pins := [])).weak hl hk, T.keep _ _ _ t3 fun b hb o e => (held b hb o e).1, fun b hb => ?_, w'⟩
      obtain ⟨o, e, _⟩ := T.obj _ _ t3 b hb
      exact (held b hb o e).2
    refine thnF (pg.run _ s3 _ G3 x u _ (I3.pinned (hst I3 n3) (T.obj _ _ t3)) r3 (each x G3 y3)) fun _ s4 ⟨σ4, G4, I4, ew, q4⟩ => ?_
    refine thnF (pt.run _ s4 σ4 G4 _ I4 q4) fun b s5 ⟨G5, I5, q5⟩ => ?_
    have hl4 : (L2.wipe σ vs).length = σ4.length := by rw [← ew, wipe_length]
    cases b with
    | false => exact leave hl4 (fun j v e => (wipe_some (by rw [ew]; exact e)).1) I5 q5
    | true =>
      refine gd2_in (pos := pos) (ifs := ifs) (iter := iter) (tg := tg) hu hc pi1 pg1 pt1 pk pe I5 q5 fun G6 s6 I6 hN => ?_
      refine leave (hl4.trans (wipe_length σ4 vs1).symm) (fun j v e => ?_) I6 hN
      rw [← ew] at e
      obtain ⟨e1, e2⟩ := wipe_some e
      rw [L2.wipe_out fun z => e2 (hv j z)]
      exact e1
theorem pe_gd2 {vs1 : List Nat} (hnew : NewOk X o0) (hu : X.A.units + 1 < cLine) (hc : X.calm = true) (hN : X.N.Nodup) (hi : PI X tg iter wi) (ok : BlkOk X.N X.env.scope scope own) (hv : ∀ i ∈ vs1, i ∈ own.map (·.2))
    (hg : ∀ (s : Shared) (G : Hp) (C : Addr) (cl : List (Str × Addr)) (fp : List Addr), PG (X.blk s G scope (compEnvC scope cl C X.env) fp) tg g) (ht : ∀ (s : Shared) (G : Hp) (C : Addr) (cl : List (Str × Addr)) (fp : List Addr), PTs (X.blk s G scope (compEnvC scope cl C X.env) fp) ifs tt)
    (hi1 : ∀ (s : Shared) (G : Hp) (C : Addr) (cl : List (Str × Addr)) (fp : List Addr), PI (X.blk s G scope (compEnvC scope cl C X.env) fp) tg1 iter1 wi1)
    (hg1 : ∀ (s : Shared) (G : Hp) (C : Addr) (cl : List (Str × Addr)) (fp : List Addr), PG (X.blk s G scope (compEnvC scope cl C X.env) fp) tg1 g1) (ht1 : ∀ (s : Shared) (G : Hp) (C : Addr) (cl : List (Str × Addr)) (fp : List Addr), PTs (X.blk s G scope (compEnvC scope cl C X.env) fp) ifs1 tt1)
    (hk : ∀ (s : Shared) (G : Hp) (C : Addr) (cl : List (Str × Addr)) (fp : List Addr), PE (X.blk s G scope (compEnvC scope cl C X.env) fp) kx tk)
    (he : ∀ (s : Shared) (G : Hp) (C : Addr) (cl : List (Str × Addr)) (fp : List Addr), PE (X.blk s G scope (compEnvC scope cl C X.env) fp) vx tv) (hs : ∀ x, foldedSetIterable iter X.env x = pure x := by intro _; rfl) (hs1 : ∀ env x, foldedSetIterable iter1 env x = pure x := by intro _ _; rfl) :
    PE X (.DictComp kx vx [⟨tg, iter, ifs, 0⟩, ⟨tg1, iter1, ifs1, 0⟩] scope pos) (tGd2 o0 wi g tt wi1 g1 tt1 tk tv (own.map (·.2)) vs1) := ⟨fun pins s σ H Q I h => by
  rw [arm_eval_DictComp]
  have cells : ∀ y ∈ scope.names, y.2 = .free → ∃ c, X.env.cells.lookup y.1 = some c := fun y hy e => (ok.free y hy e).elim (fun k => I.ok.has _ (.inl k)) fun k => I.ok.has _ (.inr k)
  refine wpAny_comprehension_free (use := none) rfl hs (closure_ok cells) ok.kind (fun y hy e => (ok.uniq y hy).trans (congrArg some e)) (thn (hi.run pins s σ H _ I h) fun xv s1 hx => thn hx fun itv s2 hy => ?_)
  obtain ⟨it, fp, tn, J, G2, rfl, I2, T, t2, f2, q⟩ := hy
  obtain ⟨W, ⟨m0, w0⟩, turn⟩ := q s2.heap.objs.size (I2.hok.fresh (Nat.le_refl _))
  have I3 : Inv X pins σ (upd G2 s2.heap.objs.size o0) { s2 with heap := s2.heap.push { cls := .type "dict", data := .dict #[] } } :=
    I2.laid (t' := s2.toks) (fun b o e => Heap.get?_push_of_some _ e) (Nat.le_refl _) (hnew s2.heap _ I2.big)
  have f3 : ∀ b ∈ fp, FpOk X pins (upd G2 s2.heap.objs.size o0) b ∧ b < (s2.heap.push { cls := .type "dict", data := .dict #[] }).objs.size := fun b hb => by
    obtain ⟨o, e, _⟩ := T.obj _ _ t2 b hb
    have lt : b < s2.heap.objs.size := Heap.lt_size e
    refine ⟨⟨(upd_ne (Nat.ne_of_lt lt)).trans (f2 b hb).1, (f2 b hb).2⟩, ?_⟩
    rw [Heap.size_push]
    exact Nat.lt_succ_of_lt lt
  have t3 : tn 0 (s2.heap.push { cls := .type "dict", data := .dict #[] }) := T.keep _ _ _ t2 fun b _ o e => Heap.get?_push_of_some _ e
  have I4 := block_start I3 ok hN f3
  have t4 := T.keep _ _ (pushCells ((s2.heap.push { cls := .type "dict", data := .dict #[] }).push { cls := .type "dict", data := .dict #[] }) scope.names) t3 fun b _ o e => pushCells_keeps _ _ _ _ (Heap.get?_push_of_some _ e)
  refine wpAny_newObj_type (newEnv_comp ?_)
  have all := gd2_turns (X := X) (pos := pos) (iter := iter) (R := compPost (model X.prog X.w) X.A X.xe none (fun v s' => ∃ x G', Inv X pins σ G' s' ∧ RelV x v ∧ Q x G') (.ref s2.heap.objs.size) (s2.heap.push { cls := .type "dict", data := .dict #[] }).objs.size) (Q := fun G => Q (.ref s2.heap.objs.size) G) hu hc hv hs1 T (hg _ _ _ _ _) (ht _ _ _ _ _) (hi1 _ _ _ _ _) (hg1 _ _ _ _ _) (ht1 _ _ _ _ _) (hk _ _ _ _ _) (he _ _ _ _ _) turn (fun G s' J' hq => by
    have J1 : Inv X pins σ G s' := I3.call' (ch := fp) J'.os J'.base J'.hok J'.bare fun b hb => ⟨(f3 b hb).1.2.2.2.1, (f3 b hb).1.2.1, (f3 b hb).1.2.2.2.2.1, (f3 b hb).1.2.2.2.2.2⟩
    have free : G (s2.heap.push { cls := .type "dict", data := .dict #[] }).objs.size = none := J'.free
    obtain ⟨m, ns, _⟩ := J'.loc
    obtain ⟨a0, a1, a2, a3, a4, a5⟩ := I3.fpOk (Nat.le_refl _) free
    exact ⟨m, ns, fun h'' sb => ⟨.ref s2.heap.objs.size, G, J1.turned (t' := s'.toks) (fun b o hb e => (sb.2 b hb).trans e) a0 a1 a3 a4 a5, rfl, hq⟩⟩) I4 t4 (fun b hb => (f3 b hb).1.1) w0
  exact codeAny_compStart_dict all (T.self X.A 0 _ _ _ t4 all)⟩
end
end DL

namespace DL
open PySem PySem.Spec PyProof.Rows L2
variable [TB]

/-! ### {k: v for .. for ..}, seen from the data -/
def dcD2 (fl : Bool) (vs vs1 : List Nat) (g : GEV) (tt : TEV) (fi1 : IEV) (g1 : GEV) (tt1 : TEV) (tk tv : EV) : List PyData → List (List Key × PyData) → Ds → Option (List (List Key × PyData) × Ds)
  | [], acc, δ => some (acc, δ)
  | x :: xs, acc, δ => (g x δ).bind fun δ1 => (tt δ1).bind fun b =>
    if b.1 then (fi1 b.2).bind fun z => if noOwn vs1 z.2 then (dcD fl vs1 g1 tt1 tk tv z.1 acc (wipeD z.2 vs1)).bind fun r =>
      if noOwn vs r.2 then dcD2 fl vs vs1 g tt fi1 g1 tt1 tk tv xs r.1 (wipeD r.2 vs) else none else none
    else if noOwn vs b.2 then dcD2 fl vs vs1 g tt fi1 g1 tt1 tk tv xs acc (wipeD b.2 vs) else none
def dc2E (fl : Bool) (vs vs1 : List Nat) (fi : IEV) (g : GEV) (tt : TEV) (fi1 : IEV) (g1 : GEV) (tt1 : TEV) (tk tv : EV) : EV := fun δ => (fi δ).bind fun x =>
  if noOwn vs x.2 then (dcD2 fl vs vs1 g tt fi1 g1 tt1 tk tv x.1 [] (wipeD x.2 vs)).map fun r => (.o (.t ⟨fl, r.1⟩), restD x.2 r.2 vs) else none
section
variable {K : PySem.W.Frag}
theorem dc_in {fl : Bool} {vs1 ws1 : List Nat} {fi1 : IEV} {g1 : GEV} {tt1 : TEV} {tk tv : EV} (hw1 : ∀ j ∈ ws1, j ∈ vs1) {T : List Addr} {ρ : List (Option Addr)} {δ δ1 δe : Ds} {σ : L2.St} {H : Hp} {D : Addr} {o : HO} {kvs out : List (List Key × PyData)} {ys : List PyData} (hD : D ∈ T) (s : Sim K T ρ δ σ H) (hacc : H D = some o) (hto : TbO K (hid T ρ H) o ⟨fl, kvs⟩)
    (ei : fi1 δ = some (ys, δ1)) (hno : noOwn vs1 δ1 = true) (el : dcD fl vs1 g1 tt1 tk tv ys kvs (wipeD δ1 vs1) = some (out, δe)) {Nx : Hp → Prop}
    (fin : ∀ ρ' H' o', Sim K T ρ' δe (L2.wipe σ vs1) H' → Same (hid T ρ H) (hid T ρ' H') → (∀ a ∈ T, a ≠ D → Kp (H a) (H' a)) → H' D = some o' → TbO K (hid T ρ' H') o' ⟨fl, out⟩ → Nx H') :
    inGd D (liftI K fi1) (liftG K ws1 g1) (liftT K tt1) (lift K tk) (lift K tv) vs1 σ H Nx := by
  refine ⟨T, ρ, δ, ys, δ1, s, ei, fun ρ1 H1 J s1 x1 sv => ?_⟩
  let Wn : Nat → Hp → Prop := fun i H' => ∃ ρ' δ2 o' kv', Sim K T ρ' δ2 (L2.wipe σ vs1) H' ∧ Same (hid T ρ1 H1) (hid T ρ' H') ∧ (∀ a ∈ T, a ≠ D → Kp (H1 a) (H' a)) ∧ H' D = some o' ∧ TbO K (hid T ρ' H') o' ⟨fl, kv'⟩ ∧ dcD fl vs1 g1 tt1 tk tv (ys.drop i) kv' δ2 = some (out, δe)
  refine ⟨fun i m H' => i + m = ys.length ∧ Wn i H', ⟨ys.length, by omega, ρ1, wipeD δ1 vs1, o, kvs, s1.wipe hno, Same.refl _, fun _ _ _ => .refl, x1.at hD hacc (tb_nb hto).1, tbM x1.same hto, el⟩, ?_⟩
  rintro i m H2 ⟨him, ρ2, δ2, o2, kv2, s2, sm, tm, hacc2, hto2, hl⟩
  by_cases hi : i < ys.length
  · have hd : ys.drop i = ys[i] :: ys.drop (i + 1) := by rw [List.drop_eq_getElem_cons hi]
    rw [hd] at hl
    unfold dcD at hl
    cases eg : g1 ys[i] δ2 with
    | none => rw [eg] at hl; cases hl
    | some δ3 =>
      rw [eg] at hl
      simp only [Option.bind_some] at hl
      cases et : tt1 δ3 with
      | none => rw [et] at hl; cases hl
      | some b =>
        obtain ⟨b, δ4⟩ := b
        rw [et] at hl
        simp only [Option.bind_some] at hl
        obtain ⟨go, yl⟩ := (sv i T ρ2 H2 sm s2.trk).1 _ (List.getElem?_eq_getElem hi)
        refine .inr ⟨go, Wn (i + 1), fun H' hW => ⟨m - 1, by omega, by omega, hW⟩, fun x H3 hy => ?_⟩
        obtain ⟨y1, y2⟩ := yl x H3 hy
        have e2 := s2.trk.extT y1
        refine ⟨T, ρ2, δ2, ys[i], δ3, s2.mono y1, y2, eg, fun ρ4 σ4 H4 s4 x4 o4 => ?_⟩
        have hwp : L2.wipe σ4 vs1 = L2.wipe σ vs1 := by rw [wipe_only o4 hw1, wipe_idem]
        refine ⟨hwp, T, ρ4, δ3, b, δ4, s4, et, fun ρ5 H5 s5 x5 => ?_⟩
        have xx : Ext T ρ2 H2 ρ5 H5 := e2.trans (x4.trans x5)
        have fn : ∀ (ρ6 : List (Option Addr)) (δ6 : Ds) (H6 : Hp), Sim K T ρ6 δ6 σ4 H6 → Ext T ρ2 H2 ρ6 H6 → noOwn vs1 δ6 = true →
            Sim K T ρ6 (wipeD δ6 vs1) (L2.wipe σ vs1) H6 ∧ Same (hid T ρ1 H1) (hid T ρ6 H6) ∧ (∀ a ∈ T, a ≠ D → Kp (H1 a) (H6 a)) ∧ H6 D = some o2 ∧ TbO K (hid T ρ6 H6) o2 ⟨fl, kv2⟩ := by
          intro ρ6 δ6 H6 s6 x6 n6
          have q := s6.wipe n6
          rw [hwp] at q
          exact ⟨q, sm.trans x6.same, fun a ha ne => (tm a ha ne).trans (x6.tmp a ha), x6.at hD hacc2 (tb_nb hto2).1, tbM x6.same hto2⟩
        cases b with
        | false =>
          refine L2.iteF ?_
          rw [if_neg Bool.false_ne_true] at hl
          split at hl
          case isFalse => cases hl
          rename_i n5
          obtain ⟨q1, q2, q3, q4, q5⟩ := fn ρ5 δ4 H5 s5 xx n5
          exact ⟨ρ5, _, o2, kv2, q1, q2, q3, q4, q5, hl⟩
        | true =>
          refine L2.iteT ?_
          rw [if_pos rfl] at hl
          cases ey : tk δ4 with
          | none => rw [ey] at hl; cases hl
          | some y =>
            obtain ⟨u, δ6⟩ := y
            rw [ey] at hl
            simp only [Option.bind_some] at hl
            split at hl
            case h_2 => cases hl
            rename_i yk
            cases ez : tv δ6 with
            | none => rw [ez] at hl; cases hl
            | some z =>
              obtain ⟨w, δ7⟩ := z
              rw [ez] at hl
              simp only [Option.bind_some] at hl
              split at hl
              case h_2 => cases hl
              rename_i d f k hd' hk'
              split at hl
              case isFalse => cases hl
              rename_i hc
              obtain ⟨hf, n7, hlen⟩ := hc
              refine ⟨T, ρ5, δ4, .d yk, δ6, s5, ey, fun ρ6 v6 H6 s6 x6 hv6 => ?_⟩
              have each : ∀ (ρ7 : List (Option Addr)) (v : V) (H7 : Hp), Sim K T ρ7 δ7 σ4 H7 → Ext T ρ6 H6 ρ7 H7 → Dq K (hid T ρ7 H7) v d → ∃ H8, DPut H7 D v6 v H8 ∧ Wn (i + 1) H8 := by
                intro ρ7 v H7 s7 x7 hv
                obtain ⟨q1, q2, q3, q4, q5⟩ := fn ρ7 δ7 H7 s7 (xx.trans (x6.trans x7)) n7
                have hkey : At K T ρ7 H7 v6 (.d yk) := svM (s := .d yk) x7.same hv6
                obtain ⟨o', hp, ht'⟩ := tb_put hkey (t := ⟨fl, kv2⟩) (k := k) (by rw [hk', hf]) q4 q5 hv hlen
                refine ⟨_, hp, ρ7, _, o', putD kv2 k d, q1.tmpW hD (nb_of q4 (tb_nb q5).1 (tb_nb q5).2) (tb_nt ht'), ?_, ?_, upd_same, ?_, hl⟩
                · rw [hid_tmp hD]
                  exact q2
                · intro a ha ne
                  rw [upd_ne ne]
                  exact q3 a ha ne
                · rw [hid_tmp hD]
                  exact ht'
              refine ⟨T, ρ6, δ6, w, δ7, s6, ez, ?_⟩
              cases w with
              | o c =>
                intro ρ7 p H7 o s7 x7 hp hc
                have hn := frz_new s7.trk hp hc
                rw [hd'] at hn
                exact each ρ7 (.ref p) _ (s7.mono (same_new hp)) (x7.trans (s7.trk.extT (same_new hp))) hn
              | d c =>
                cases hd'
                exact fun ρ7 v H7 s7 x7 hv => each ρ7 v H7 s7 x7 hv
              | t c => cases hd'
              | z c => cases hd'
              | p c => cases hd'
  · have hd : ys.drop i = [] := List.drop_eq_nil_of_le (by omega)
    rw [hd] at hl
    cases hl
    exact .inl ⟨(sv i T ρ2 H2 sm s2.trk).2 (by omega), fin ρ2 H2 o2 s2 (x1.same.trans sm) (fun a ha ne => (x1.tmp a ha).trans (tm a ha ne)) hacc2 hto2⟩
theorem dc2_ok {fl : Bool} {vs ws vs1 ws1 : List Nat} {fi fi1 : IEV} {g g1 : GEV} {tt tt1 : TEV} {tk tv : EV} (hw : ∀ j ∈ ws, j ∈ vs) (hw1 : ∀ j ∈ ws1, j ∈ vs1) (hv1 : ∀ j ∈ vs1, j ∈ vs) (σ : L2.St) (H : Hp) (Q : VK) (h : lift K (dc2E fl vs vs1 fi g tt fi1 g1 tt1 tk tv) σ H Q) :
    tGd2 (oNew fl) (liftI K fi) (liftG K ws g) (liftT K tt) (liftI K fi1) (liftG K ws1 g1) (liftT K tt1) (lift K tk) (lift K tv) vs vs1 σ H Q := by
  obtain ⟨T, ρ, δ, s, δ', hs, hf, hq⟩ := h
  unfold dc2E at hf
  cases ea : fi δ with
  | none => rw [ea] at hf; cases hf
  | some z =>
    obtain ⟨xs, δ1⟩ := z
    rw [ea] at hf
    simp only [Option.bind_some] at hf
    split at hf
    case isFalse => cases hf
    rename_i hno
    cases el : dcD2 fl vs vs1 g tt fi1 g1 tt1 tk tv xs [] (wipeD δ1 vs) with
    | none => rw [el] at hf; cases hf
    | some r =>
      obtain ⟨out, δe⟩ := r
      rw [el] at hf
      cases hf
      refine ⟨T, ρ, δ, xs, δ1, hs, ea, fun ρ1 H1 J s1 x1 sv => ?_⟩
      intro D hD
      let Wn : Nat → Hp → Prop := fun i H' => ∃ ρ' δ2 o kvs, Sim K (D :: T) ρ' δ2 (L2.wipe σ vs) H' ∧ Same (hid T ρ1 H1) (hid (D :: T) ρ' H') ∧ (∀ a, a ∈ T → Kp (H1 a) (H' a)) ∧ H' D = some o ∧ TbO K (hid (D :: T) ρ' H') o ⟨fl, kvs⟩ ∧ dcD2 fl vs vs1 g tt fi1 g1 tt1 tk tv (xs.drop i) kvs δ2 = some (out, δe)
      refine ⟨fun i m H' => i + m = xs.length ∧ Wn i H', ⟨xs.length, by omega, ρ1, wipeD δ1 vs, oNew fl, [], (s1.wipe hno).addTmp hD (tb_nt (tbo_new (K := K) (G := H1) fl)), ?_, ?_, upd_same, tbo_new fl, el⟩, ?_⟩
      · rw [hid_new hD]
        exact Same.refl _
      · intro a ha
        obtain ⟨o, ho, _⟩ := s1.tmp a ha
        rw [upd_ne (ne_of_none ho hD)]
        exact .refl
      rintro i m H2 ⟨him, ρ2, δ2, o, kvs, s2, sm, tm, hacc, hto, hl⟩
      by_cases hi : i < xs.length
      · have hd : xs.drop i = xs[i] :: xs.drop (i + 1) := by rw [List.drop_eq_getElem_cons hi]
        rw [hd] at hl
        unfold dcD2 at hl
        cases eg : g xs[i] δ2 with
        | none => rw [eg] at hl; cases hl
        | some δ3 =>
          rw [eg] at hl
          simp only [Option.bind_some] at hl
          cases et : tt δ3 with
          | none => rw [et] at hl; cases hl
          | some b =>
            obtain ⟨b, δ4⟩ := b
            rw [et] at hl
            simp only [Option.bind_some] at hl
            obtain ⟨go, yl⟩ := (sv i (D :: T) ρ2 H2 sm s2.trk).1 _ (List.getElem?_eq_getElem hi)
            refine .inr ⟨go, Wn (i + 1), fun H' hW => ⟨m - 1, by omega, by omega, hW⟩, fun x H3 hy => ?_⟩
            obtain ⟨y1, y2⟩ := yl x H3 hy
            have e2 := s2.trk.extT y1
            refine ⟨D :: T, ρ2, δ2, xs[i], δ3, s2.mono y1, y2, eg, fun ρ4 σ4 H4 s4 x4 o4 => ?_⟩
            have hwp : L2.wipe σ4 vs = L2.wipe σ vs := by rw [wipe_only o4 hw, wipe_idem]
            refine ⟨hwp, D :: T, ρ4, δ3, b, δ4, s4, et, fun ρ5 H5 s5 x5 => ?_⟩
            have xx : Ext (D :: T) ρ2 H2 ρ5 H5 := e2.trans (x4.trans x5)
            cases b with
            | false =>
              refine L2.iteF ?_
              rw [if_neg Bool.false_ne_true] at hl
              split at hl
              case isFalse => cases hl
              rename_i n5
              have q := s5.wipe n5
              rw [hwp] at q
              exact ⟨ρ5, _, o, kvs, q, sm.trans xx.same, fun a ha => (tm a ha).trans (xx.tmp a (List.mem_cons_of_mem _ ha)), xx.at List.mem_cons_self hacc (tb_nb hto).1, tbM xx.same hto, hl⟩
            | true =>
              refine L2.iteT ?_
              rw [if_pos rfl] at hl
              cases ei : fi1 δ4 with
              | none => rw [ei] at hl; cases hl
              | some y =>
                obtain ⟨ys, δ5⟩ := y
                rw [ei] at hl
                simp only [Option.bind_some] at hl
                split at hl
                case isFalse => cases hl
                rename_i n5
                cases er : dcD fl vs1 g1 tt1 tk tv ys kvs (wipeD δ5 vs1) with
                | none => rw [er] at hl; cases hl
                | some r =>
                  obtain ⟨o1, δ6⟩ := r
                  rw [er] at hl
                  simp only [Option.bind_some] at hl
                  split at hl
                  case isFalse => cases hl
                  rename_i n6
                  refine dc_in hw1 List.mem_cons_self s5 (xx.at List.mem_cons_self hacc (tb_nb hto).1) (tbM xx.same hto) ei n5 er fun ρ7 H7 o7 s7 m7 t7 a7 d7 => ?_
                  have q := s7.wipe n6
                  rw [wipe_sub hv1, hwp] at q
                  exact ⟨ρ7, _, o7, o1, q, sm.trans (xx.same.trans m7), fun a ha => by
                    have ne : a ≠ D := fun z => by
                      subst z
                      exact (s1.trk.fresh hD).1 ha
                    exact ((tm a ha).trans (xx.tmp a (List.mem_cons_of_mem _ ha))).trans (t7 a (List.mem_cons_of_mem _ ha) ne), a7, d7, hl⟩
      · have hd : xs.drop i = [] := List.drop_eq_nil_of_le (by omega)
        rw [hd] at hl
        cases hl
        refine .inl ⟨(sv i (D :: T) ρ2 H2 sm s2.trk).2 (by omega), ?_⟩
        have hh : hid T ρ2 (rm H2 D) = hid (D :: T) ρ2 H2 := hid_rm
        obtain ⟨a, b⟩ := comp_end s1 hno s2 sm tm hD (nb_of hacc (tb_nb hto).1 (tb_nb hto).2)
        rw [← rm_upd hacc]
        exact hq ρ2 D (rm H2 D) o a (x1.trans b) rm_self (show TbO K (hid T ρ2 (rm H2 D)) o _ by rw [hh]; exact hto)
end
section
variable {X : Cx}
theorem de_dc2 (fl : Bool) {k : Nat} {kx vx tg iter tg1 iter1 : Expr} {ifs ifs1 : List Expr} {scope : Scope} {own : List (Str × Nat)} {pos : Pos} {ws vs1 ws1 : List Nat} {fi fi1 : IEV} {g g1 : GEV} {tt tt1 : TEV} {tk tv : EV} (hr : Room k X.A) (hc : X.calm = true) (hN : X.N.Nodup) (hi : DI X tg iter fi) (ok : BlkOk X.N X.env.scope scope own) (hw : ∀ j ∈ ws, j ∈ own.map (·.2)) (hw1 : ∀ j ∈ ws1, j ∈ vs1) (hv1 : ∀ j ∈ vs1, j ∈ own.map (·.2))
    (hg : ∀ (s : Shared) (H : Hp) (C : Addr) (cl : List (Str × Addr)) (fp : List Addr), DG (X.blk s H scope (compEnvC scope cl C X.env) fp) ws tg g)
    (ht : ∀ (s : Shared) (H : Hp) (C : Addr) (cl : List (Str × Addr)) (fp : List Addr), DTs (X.blk s H scope (compEnvC scope cl C X.env) fp) ifs tt)
    (hi1 : ∀ (s : Shared) (H : Hp) (C : Addr) (cl : List (Str × Addr)) (fp : List Addr), DI (X.blk s H scope (compEnvC scope cl C X.env) fp) tg1 iter1 fi1)
    (hg1 : ∀ (s : Shared) (H : Hp) (C : Addr) (cl : List (Str × Addr)) (fp : List Addr), DG (X.blk s H scope (compEnvC scope cl C X.env) fp) ws1 tg1 g1)
    (ht1 : ∀ (s : Shared) (H : Hp) (C : Addr) (cl : List (Str × Addr)) (fp : List Addr), DTs (X.blk s H scope (compEnvC scope cl C X.env) fp) ifs1 tt1)
    (hk : ∀ (s : Shared) (H : Hp) (C : Addr) (cl : List (Str × Addr)) (fp : List Addr), DE (X.blk s H scope (compEnvC scope cl C X.env) fp) kx tk)
    (he : ∀ (s : Shared) (H : Hp) (C : Addr) (cl : List (Str × Addr)) (fp : List Addr), DE (X.blk s H scope (compEnvC scope cl C X.env) fp) vx tv) (hs : ∀ x, foldedSetIterable iter X.env x = pure x := by intro _; rfl) (hs1 : ∀ (env : Env) x, foldedSetIterable iter1 env x = pure x := by intro _ _; rfl) :
    DE X (.DictComp kx vx [⟨tg, iter, ifs, 0⟩, ⟨tg1, iter1, ifs1, 0⟩] scope pos) (dc2E fl (own.map (·.2)) vs1 fi g tt fi1 g1 tt1 tk tv) := pe_imp (pe_gd2 (newOk fl) (by have := hr.un; omega) hc hN hi ok hv1 hg ht hi1 hg1 ht1 hk he hs hs1) (dc2_ok hw hw1 hv1)
end
end DL

namespace DL
open PySem PySem.Spec PyProof.Rows L2
variable [TB]

/-! ### tuples that have tables in them: made, and taken apart -/
def M.s : M → S
  | .d x => .d x
  | .t x => .t x
theorem mv_sv {K : PySem.W.Frag} {G : Hp} {v : V} : ∀ {m : M}, MV K G v m → SV K G v m.s
  | .d _, h => h
  | .t _, h => h
def packA : List PV → Option (List M)
  | [] => some []
  | .v (.d x) :: ps => (packA ps).map (M.d x :: ·)
  | .v (.t x) :: ps => (packA ps).map (M.t x :: ·)
  | _ => none
section
variable {K : PySem.W.Frag} {T : List Addr} {ρ : List (Option Addr)} {H : Hp} {σ : L2.St}
theorem pack_mv : ∀ {vs : List V} {ps : List PV} {ms : List M}, Paired (PAt K T ρ H σ) vs ps → packA ps = some ms → Paired (MV K (hid T ρ H)) vs ms
  | _, _, _, .nil, hr => by cases hr; exact .nil
  | _, .v (.d x) :: ps, ms, .cons a b, hr => by
    have hr' : (packA ps).map (M.d x :: ·) = some ms := hr
    cases e2 : packA ps with
    | none => rw [e2] at hr'; cases hr'
    | some r =>
      rw [e2] at hr'
      cases hr'
      exact .cons a (pack_mv b e2)
  | _, .v (.t x) :: ps, ms, .cons a b, hr => by
    have hr' : (packA ps).map (M.t x :: ·) = some ms := hr
    cases e2 : packA ps with
    | none => rw [e2] at hr'; cases hr'
    | some r =>
      rw [e2] at hr'
      cases hr'
      exact .cons a (pack_mv b e2)
  | _, .v (.z x) :: ps, ds, .cons a b, hr => by cases hr
  | _, .v (.p x) :: ps, ds, .cons a b, hr => by cases hr
  | _, .v (.o x) :: ps, ds, .cons a b, hr => by cases hr
  | _, .own x :: ps, ds, .cons a b, hr => by cases hr
end
def tupP (fa : AEV) : EV := fun δ => (fa δ).bind fun x => (packA x.1).bind fun ms => if ms.length ≤ sizeLine then some (.p ms, x.2) else none
def setM : List Nat → List M → Ds → Option Ds
  | [], [], δ => some δ
  | i :: is, m :: ms, δ => setM is ms (δ.set i (some m.s))
  | _, _, _ => none
def liftMs (K : PySem.W.Frag) (is : List Nat) : TGs := fun ws σ H Q => ∃ T ρ δ ms δ', Sim K T ρ δ σ H ∧ Paired (MV K (hid T ρ H)) ws ms ∧ setM is ms δ = some δ' ∧ ∀ ρ' σ' H', Sim K T ρ' δ' σ' H' → Ext T ρ H ρ' H' → Only is σ σ' → Q σ' H'
def liftM (K : PySem.W.Frag) (is : List Nat) : TG := fun v σ H Q => ∃ T ρ δ ms δ', Sim K T ρ δ σ H ∧ SV K (hid T ρ H) v (.p ms) ∧ setM is ms δ = some δ' ∧ ∀ ρ' σ' H', Sim K T ρ' δ' σ' H' → Ext T ρ H ρ' H' → Only is σ σ' → Q σ' H'
def unpP (f : PEV) (is : List Nat) : SEV := fun δ => (f δ).bind fun x => match x.1 with
  | .v (.p ms) => (setM is ms x.2).map fun δ' => .nx δ'
  | _ => none
section
variable {X : Cx} {pos : Pos} {e : Expr} {P : List Nat} {fp : PEV}
theorem de_tupP {es : List Expr} {fa : AEV} {k} (h : DA X es fa) : DE X (.Tuple es k pos) (tupP fa) := pe_imp (pe_tup h) fun σ H Q ⟨T, ρ, δ, s, δ', hs, hf, hq⟩ => by
  unfold tupP at hf
  cases ea : fa δ with
  | none => rw [ea] at hf; cases hf
  | some x =>
    rw [ea] at hf
    simp only [Option.bind_some] at hf
    cases eb : packA x.1 with
    | none => rw [eb] at hf; cases hf
    | some ms =>
      rw [eb] at hf
      simp only [Option.bind_some] at hf
      split at hf
      · rename_i hl
        cases hf
        refine ⟨T, ρ, δ, x.1, x.2, hs, by rw [ea], fun ρ1 vs H1 s1 x1 p1 => ?_⟩
        have hd := pack_mv p1 eb
        refine ⟨by rw [Paired.length hd]; exact hl, fun p hp => ?_⟩
        have hm := same_new (o := .tup vs) hp
        exact hq ρ1 (.ref p) _ (s1.mono hm) (x1.trans (s1.trk.extT hm)) ⟨p, rfl, vs, s1.trk.hidNew hp, Paired.mapP hd fun _ _ z => mvM (hid_mono hm) z⟩
      · cases hf
theorem dms_nil : PGs X [] (liftMs X.K []) := pgs_imp pgs_nil fun ws σ H Q ⟨T, ρ, δ, ms, δ', hs, hd, hg, hq⟩ => by
  cases hd with
  | nil =>
    cases hg
    exact ⟨rfl, hq ρ σ H hs .refl .refl⟩
  | cons a b => cases hg
theorem dms_cons {i : Nat} {x : Str} {is : List Nat} {es : List Expr} {p1 : Pos} (hN : X.N.Nodup) (hi : X.N[i]? = some x) (hx : Loc X.env.scope x) (h2 : PGs X es (liftMs X.K is)) (hf : X.fn x = true ∨ X.env.scope.names.lookup x = some .local := by first | exact .inl rfl | exact .inr rfl | assumption)
    (h3 : (assignEach (.Name x p1 :: es) X.env).map (·.2) = assign (.Name x p1) X.env :: (assignEach es X.env).map (·.2) := by rfl) : PGs X (.Name x p1 :: es) (liftMs X.K (i :: is)) := pgs_imp (pgs_cons (pg_name hN hi hx hf) h2 h3) fun us σ H Q ⟨T, ρ, δ, ms, δ', hs, hd, hg, hq⟩ => by
  cases hd with
  | nil => cases hg
  | @cons u m us ms q1 q2 =>
    have hg' : setM is ms (δ.set i (some m.s)) = some δ' := hg
    obtain ⟨a, b⟩ := hs.setD (i := i) (v := u) (s := m.s) (mv_sv q1)
    refine ⟨_, _, rfl, ?_⟩
    exact ⟨T, _, _, ms, δ', a, Paired.mapP q2 fun _ _ z => mvM b.same z, hg', fun ρ2 σ2 H2 s2 x2 o2 => hq ρ2 σ2 H2 s2 (b.trans x2) (Only.trans (vs := [i]) only_set o2)⟩
theorem dm_tup {is : List Nat} {es : List Expr} {k n : Nat} (hc : X.calm = true) (h : PGs X es (liftMs X.K is)) (hni : is.length = n) (hn : (assignEach es X.env).length = n := by rfl) (hst : (assignEach es X.env).findIdx? (·.1) = none := by rfl) : PG X (.Tuple es k pos) (liftM X.K is) := pg_imp (pg_tup hc h hn hst) fun v σ H Q ⟨T, ρ, δ, ms, δ', hs, hd, hg, hq⟩ => by
  obtain ⟨a, rfl, vs, h1, h2⟩ := hd
  have hlen : ∀ (is : List Nat) (ms : List M) (δ δ' : Ds), setM is ms δ = some δ' → ms.length = is.length := by
    intro is
    induction is with
    | nil => intro ms δ δ' h; cases ms with
      | nil => rfl
      | cons m ms => cases h
    | cons i is ih => intro ms δ δ' h; cases ms with
      | nil => cases h
      | cons m ms => rw [List.length_cons, List.length_cons, ih ms _ _ h]
  exact ⟨_, _, rfl, SqT.of (hid_same _ _ h1), by rw [Paired.length h2, hlen _ _ _ _ hg, hni], T, ρ, δ, ms, δ', hs, h2, hg, hq⟩
theorem ds_unpP {is : List Nat} {tg : Expr} (hP : ∀ i ∈ P, i ∉ is) (he : DP X e fp) (hg : PG X tg (liftM X.K is)) (hs : swapsWithSole [tg] e pos.line X.env = pure false := by rfl) (hw : swappedStores [tg] e X.env = pure none := by rfl)
    (h1 : (assignEach [tg] X.env).map (·.2) = [assign tg X.env] := by rfl) : DS X P (.Assign [tg] e pos) (unpP fp is) := ps_imp (ps_asg he hg hs hw h1) fun D σ H ⟨T, ρ, δ, o, hs, hf, hq⟩ => by
  unfold unpP at hf
  cases ea : fp δ with
  | none => rw [ea] at hf; cases hf
  | some x =>
    obtain ⟨pv, δ1⟩ := x
    rw [ea] at hf
    simp only [Option.bind_some] at hf
    split at hf
    case h_2 => cases hf
    rename_i ms
    cases eg : setM is ms δ1 with
    | none => rw [eg] at hf; cases hf
    | some δ2 =>
      rw [eg] at hf
      cases hf
      refine ⟨T, ρ, δ, _, δ1, hs, ea, fun ρ1 v H1 s1 x1 p1 => ?_⟩
      refine ⟨T, ρ1, δ1, ms, δ2, s1, p1, eg, fun ρ2 σ2 H2 s2 x2 o2 => ?_⟩
      exact hq ρ2 σ2 H2 s2 (x1.trans x2) fun i hi => o2.2 i (hP i hi)
end
end DL

namespace DL
open PySem PySem.Spec PyProof.Rows L2
variable [TB]

/-! ### table.get(key, other) -/
def getE (ft fk fd : PEV) : EV := fun δ => (ft δ).bind fun x => (res x.2 x.1).bind fun u0 => (asTb u0).bind fun _ => (fk x.2).bind fun y => (fd y.2).bind fun z => (res z.2 x.1).bind fun u => (asTb u).bind fun t => (res z.2 y.1).bind fun kk => (keyS kk).bind fun q =>
  match z.1 with
  | .v (.d d) => if q.1 = t.fl then some (.d ((valK t.kvs q.2).getD d), z.2) else none
  | _ => none
section
variable {X : Cx} {o e f : Expr} {apos cpos : Pos} {ft fk fd : PEV} {k : Nat}
theorem de_get2 (hr : Room k X.A) (hd : DP X o ft) (he : DP X e fk) (hf : DP X f fd) (m : M2 X o "get" apos e f cpos) : DE X (.Call (.Attribute o "get" apos) [e, f] [] cpos) (getE ft fk fd) := pe_imp (pe_dget2 (by have := hr.un; omega) hd he hf m) fun σ H Q ⟨T, ρ, δ, s, δ', hs, hfn, hq⟩ => by
  unfold getE at hfn
  cases e1 : ft δ with
  | none => rw [e1] at hfn; cases hfn
  | some x =>
    rw [e1] at hfn
    simp only [Option.bind_some] at hfn
    cases r1 : res x.2 x.1 with
    | none => rw [r1] at hfn; cases hfn
    | some u0 =>
      rw [r1] at hfn
      simp only [Option.bind_some] at hfn
      cases t1 : asTb u0 with
      | none => rw [t1] at hfn; cases hfn
      | some t0 =>
        rw [t1] at hfn
        simp only [Option.bind_some] at hfn
        cases e2 : fk x.2 with
        | none => rw [e2] at hfn; cases hfn
        | some y =>
          rw [e2] at hfn
          simp only [Option.bind_some] at hfn
          cases e3 : fd y.2 with
          | none => rw [e3] at hfn; cases hfn
          | some z =>
            rw [e3] at hfn
            simp only [Option.bind_some] at hfn
            cases r3 : res z.2 x.1 with
            | none => rw [r3] at hfn; cases hfn
            | some u =>
              rw [r3] at hfn
              simp only [Option.bind_some] at hfn
              cases t3 : asTb u with
              | none => rw [t3] at hfn; cases hfn
              | some t =>
                rw [t3] at hfn
                simp only [Option.bind_some] at hfn
                cases r4 : res z.2 y.1 with
                | none => rw [r4] at hfn; cases hfn
                | some kk =>
                  rw [r4] at hfn
                  simp only [Option.bind_some] at hfn
                  cases k4 : keyS kk with
                  | none => rw [k4] at hfn; cases hfn
                  | some q =>
                    rw [k4] at hfn
                    simp only [Option.bind_some] at hfn
                    obtain ⟨pz, δz⟩ := z
                    simp only at hfn r3 r4
                    split at hfn
                    case h_2 => cases hfn
                    rename_i pz' d
                    split at hfn
                    case isFalse => cases hfn
                    rename_i hfl
                    cases hfn
                    refine ⟨T, ρ, δ, x.1, x.2, hs, by rw [e1], fun ρ1 v1 H1 s1 x1 p1 => ?_⟩
                    obtain ⟨a, oo, rfl, ha, to⟩ := at_tb (pat_at s1 .refl p1 r1) t1
                    refine ⟨a, rfl, ?_, T, ρ1, x.2, y.1, y.2, s1, by rw [e2], fun ρ2 v2 H2 s2 x2 p2 => ?_⟩
                    · rcases to with ⟨_, ws, rfl, _⟩ | ⟨_, ws, rfl, _⟩
                      · exact .inr ⟨ws, .inl ha⟩
                      · exact .inl ⟨ws, .inl ha⟩
                    refine ⟨T, ρ2, y.2, .v (.d d), δ', s2, e3, fun ρ3 v3 H3 s3 x3 p3 => ?_⟩
                    have pa := pat_at s3 (x2.trans x3) p1 r3
                    have pk := pat_at s3 x3 p2 r4
                    obtain ⟨c, r, ec, g, hr'⟩ := tb_get pk pa (k := q.2) (by rw [← hfl]; exact k4) t3
                    cases ec
                    refine ⟨r, g, ?_⟩
                    have xx := x1.trans (x2.trans x3)
                    rcases hr' with ⟨rfl, hk⟩ | ⟨v, dd, rfl, hk, hdq⟩
                    · rw [hk] at hq
                      exact hq ρ3 v3 H3 s3 xx p3
                    · rw [hk] at hq
                      exact hq ρ3 v H3 s3 xx hdq
end
end DL

namespace DL
open PySem PySem.Spec PyProof.Rows L2
variable [TB]

/-! ### a tuple by 0 or 1 -/
theorem tuple_mul1 (l : Addr) (items : Array Value) (n : Nat) (dd : Option Addr) (sl : Array (Option Value)) (u : Tok) :
    Meets (Builtin.«tuple.__mul__» ⟨[.ref l, .int 1 u], []⟩) (fun _ R s => s.heap.get? l = some { cls := .type "tuple", dict := dd, data := .seq items n, slots := sl } ∧ R (.ok (.ret (Value.ref l))) s) :=
  .of_wp fun prog w A R s h => by
    obtain ⟨hp, g, d, tk, os⟩ := s
    obtain ⟨hl, h⟩ := h
    have f1 := AutoSeq1.idx_int
    wp_walk using wpAny_loadPart' hl
    exact ⟨_, rfl, h⟩
theorem tuple_mul0 (l : Addr) (items : Array Value) (n : Nat) (dd : Option Addr) (sl : Array (Option Value)) (u : Tok) (hi : items.isEmpty = false) :
    Meets (Builtin.«tuple.__mul__» ⟨[.ref l, .int 0 u], []⟩) (fun _ R s => s.heap.get? l = some { cls := .type "tuple", dict := dd, data := .seq items n, slots := sl } ∧ R (.ok (.ret (Value.ref s.heap.objs.size))) { s with heap := s.heap.push { cls := Value.type "tuple", data := Data.seq #[] }, toks := s.toks }) :=
  .of_wp fun prog w A R s h => by
    obtain ⟨hp, g, d, tk, os⟩ := s
    obtain ⟨hl, h⟩ := h
    have f1 := AutoSeq1.idx_int
    wp_walk using wpAny_loadPart' hl
    exact ⟨_, rfl, h⟩
def rRep1 (K : PySem.W.Frag) : R2 := fun x y H Q => ∃ l xs, x = .ref l ∧ y = .int 1 ∧ SqT K H l xs ∧ Q (.ref l) H
def rRep0 (K : PySem.W.Frag) : R2 := fun x y H Q => ∃ l xs, x = .ref l ∧ y = .int 0 ∧ SqT K H l xs ∧ xs ≠ [] ∧ ∀ p, H p = none → Q (.ref p) (upd H p (.tup []))
section
variable {X : Cx} {a b : Expr} {pos : Pos} {fa fb : PEV}
theorem op_rep1 : OpR X (binaryOp .Mult) (rRep1 X.K) := by
  intro pins s σ H x y v u Q I rx ry h
  obtain ⟨l, xs, rfl, rfl, hT, q⟩ := h
  cases rx
  obtain ⟨t, rfl⟩ := ry
  obtain ⟨its, r, ⟨⟨cls, dd, data, sl⟩, ho, hc, n, hd⟩, hs⟩ := I.tuple hT
  simp only at hc hd
  subst hc hd
  refine wpAny_binaryOp_repeat_ref (T := "tuple") (U := "int") (by decide) ⟨_, ho, rfl⟩ (fun s' => typeIs_int s' 1 t) noFill_tuple_mul F.fills_int_mul F.slot_int_rmul repeat_tuple F.slot_int_index.lookup
    (call_meets F.slot_int_rmul (typeIs_int s 1 t) F.entry_int_rmul (F.args_int_rmul_2 _ _) (int_rmul_tuple 1 t l its.toArray n dd sl)
      ⟨ho, rfl, ⟨_, ho, rfl⟩, call_meets F.slot_tuple_mul ⟨_, ho, rfl⟩ F.entry_tuple_mul (F.args_tuple_mul_2 _ _) (tuple_mul1 l its.toArray n dd sl t) ⟨ho, ?_⟩⟩)
  exact ⟨.ref l, H, I, rfl, q⟩
theorem op_rep0 : OpR X (binaryOp .Mult) (rRep0 X.K) := by
  intro pins s σ H x y v u Q I rx ry h
  obtain ⟨l, xs, rfl, rfl, hT, hne, q⟩ := h
  cases rx
  obtain ⟨t, rfl⟩ := ry
  obtain ⟨its, r, ⟨⟨cls, dd, data, sl⟩, ho, hc, n, hd⟩, hs⟩ := I.tuple hT
  simp only at hc hd
  subst hc hd
  have hle : its.length = xs.length := r.length.symm
  have hi : its.toArray.isEmpty = false := by
    cases its with
    | nil => exact absurd (List.eq_nil_of_length_eq_zero hle.symm) hne
    | cons a b => rfl
  refine wpAny_binaryOp_repeat_ref (T := "tuple") (U := "int") (by decide) ⟨_, ho, rfl⟩ (fun s' => typeIs_int s' 0 t) noFill_tuple_mul F.fills_int_mul F.slot_int_rmul repeat_tuple F.slot_int_index.lookup
    (call_meets F.slot_int_rmul (typeIs_int s 0 t) F.entry_int_rmul (F.args_int_rmul_2 _ _) (int_rmul_tuple 0 t l its.toArray n dd sl)
      ⟨ho, rfl, ⟨_, ho, rfl⟩, call_meets F.slot_tuple_mul ⟨_, ho, rfl⟩ F.entry_tuple_mul (F.args_tuple_mul_2 _ _) (tuple_mul0 l its.toArray n dd sl t hi) ⟨ho, ?_⟩⟩)
  refine ⟨.ref s.heap.objs.size, _, I.laid (t' := s.toks) (o := .tup []) (fun b ob q => Heap.get?_push_of_some _ q) (Nat.le_refl _) ?_, rfl, q _ (I.hok.fresh (Nat.le_refl _))⟩
  exact ⟨by rw [sizeLine_eq]; exact Nat.zero_le _, [], .nil, IsTup.new _ _⟩
def opMulT (a b : S) : Option S := (asI b).bind fun j => (asT a).bind fun xs => if j = 1 then some (.d (.tuple xs)) else if j = 0 ∧ xs ≠ [] then some (.d (.tuple [])) else none
theorem od_mulT {K : PySem.W.Frag} : OpD K (fun x y H Q => rRep1 K x y H Q ∨ rRep0 K x y H Q) opMulT := fun T ρ H x y a b s Q k ha hb hg hq => by
  unfold opMulT at hg
  cases e2 : asI b with
  | none => rw [e2] at hg; cases hg
  | some j =>
    rw [e2] at hg
    simp only [Option.bind_some] at hg
    cases e1 : asT a with
    | none => rw [e1] at hg; cases hg
    | some xs =>
      rw [e1] at hg
      simp only [Option.bind_some] at hg
      obtain ⟨p, vs, rfl, h1, h2⟩ := at_T ha e1
      have hb' := at_I hb e2
      split at hg
      · rename_i hj
        subst hj
        cases hg
        exact .inl ⟨p, vs, rfl, hb', SqT.of (hid_same _ _ h1), postO_same hq (.tup h1 h2)⟩
      · split at hg
        · rename_i hj
          obtain ⟨rfl, hne⟩ := hj
          cases hg
          refine .inr ⟨p, vs, rfl, hb', SqT.of (hid_same _ _ h1), fun z => ?_, fun n hn => postO_tup k hq .nil hn⟩
          subst z
          cases h2
          exact hne rfl
        · cases hg
theorem de_mulT (ha : DP X a fa) (hb : DP X b fb) : DE X (.BinOp a .Mult b pos) (bin opMulT fa fb) := de_op (opr_or op_rep1 op_rep0) od_mulT ha hb
end
end DL

namespace DL
open PySem PySem.Spec PyProof.Rows L2 DLS
variable [TB]

/-! ### sorted(tuple), its members tuples of numbers -/
def rSortedTT (K : PySem.W.Frag) : List V → Hp → VK → Prop := fun vs H Q => ∃ (a : Addr) (xs : List V) (k : V → List Int), vs = [V.ref a] ∧ SqT K H a xs ∧ (∀ x ∈ xs, ∃ t, x = V.ref t ∧ H t = some (.tup ((k x).map V.int))) ∧ (xs.length < 2 ∨ ∀ x ∈ xs, k x ≠ []) ∧
  ∀ ys p, SrtO.Srtd (fun x y => lexL (k x) (k y)) ys → SrtO.Stb (fun x y => lexL (k x) (k y)) ys xs → H p = none → Q (.ref p) (upd H p (.lst ys))
def fSortedTT : List S → Option S
  | [s] => (asT s).bind fun xs => (rowsP xs).bind fun rs => if rs.length < 2 ∨ (rs.all fun r => !r.isEmpty) = true then some (.o (.l ((sortT rs).map tupI))) else none
  | _ => none
section
variable {X : Cx}
theorem cr_sortedTT : CallR X (.builtin "sorted") (rSortedTT X.K) := by
  intro pins s σ H vs us Q I r h
  obtain ⟨a, xs, k, rfl, hs, hx, hne, q⟩ := h
  obtain ⟨its, rv, ⟨o, ho, hc, n, hd⟩, hz⟩ := I.tuple hs
  obtain ⟨u, rfl, ru⟩ := vals1 r
  cases (show u = Value.ref a from ru)
  obtain ⟨e1, e2⟩ := refs_back rv fun x m => let ⟨t, e, _⟩ := hx x m; ⟨t, e⟩
  have each : ∀ v ∈ its, IsTupI s.heap v (k (backV v)) := fun v hv => by
    obtain ⟨t, rfl⟩ := e2 v hv
    have hm : V.ref t ∈ xs := e1 ▸ List.mem_map.mpr ⟨_, hv, rfl⟩
    obtain ⟨t', e, ht⟩ := hx _ hm
    cases e
    obtain ⟨_, its2, r2, o, ho, hc, n, hd⟩ := I.hok _ _ ht
    exact ⟨t, o, its2, n, rfl, ho, hc, hd, r2⟩
  have hlen : xs.length = its.length := rv.length
  have hz' : its.length ≤ sizeLine := by omega
  refine Calls.call_function_entry PyProof.Rows.kind_sorted PyProof.Rows.plain_sorted PyProof.Rows.entry_sorted (PyProof.Rows.args_sorted1 _) ?_
  unfold Builtin.«sorted»
  refine wpAny_bind (m := checkCount "sorted" 1 1 _) (wpAny_pure ?_)
  refine wpAny_bind (wpAny_collect_seq (A := X.A.in1) a (T := "tuple") (.inr rfl) ho hc hd (fun h' hkp => ?_) (by rw [List.size_toArray]; exact hz'))
  have I1 : Inv X pins σ H { s with heap := h', toks := s.toks } := I.kept hkp
  rw [List.toList_toArray]
  refine wpAny_bind (wpAny_newList ?_ hz')
  have hoL : (h'.push (seqObj "list" its.toArray 0)).get? h'.objs.size = some (seqObj "list" its.toArray 0) := Heap.get?_push_size _ rfl
  show wpAny _ _ _ _ _ { s with heap := h'.push (seqObj "list" its.toArray 0), toks := s.toks }
  refine wpAny_bind (wpAny_holding (wpAny_call_entry PyProof.Rows.slot_list_sort ⟨_, hoL, rfl⟩ PyProof.Rows.entry_list_sort
    (SrtO.list_sort_ord (s := { s with heap := h'.push (seqObj "list" its.toArray 0), toks := s.toks }) (swoL fun u => k (backV u)) hoL hz' (fun h2 => ?_) fun out g1 g2 => ⟨_, rfl, ?_⟩) (PyProof.Rows.args_list_sort _)))
  · refine tups_sortable (s := { s with heap := h'.push (seqObj "list" its.toArray 0), toks := s.toks }) (by omega) (fun v hv => ⟨(each v hv).keeps fun c o e _ => Heap.get?_push_of_some _ (hkp c o e), ?_⟩) fun o e => ?_
    · rcases hne with hne | hne
      · omega
      · obtain ⟨t, rfl⟩ := e2 v hv
        exact hne _ (e1 ▸ List.mem_map.mpr ⟨_, hv, rfl⟩)
    · have e' : some o = some (seqObj "list" its.toArray 0) := e.symm.trans hoL
      cases e'
      exact fun c => absurd (Value.type.inj c) (by decide)
  · have h3 : ∀ u ∈ out, ∃ a, u = Value.ref a := fun u hu => e2 u (g2.perm.mem_iff.mp hu)
    have hb : SrtO.Stb (fun x y => lexL (k x) (k y)) (out.map backV) xs := e1 ▸ SrtO.Stb.map (swoL k) backV g2
    obtain ⟨e', he'⟩ := PyProof.Rows.sortedHeap_at (vs := its) (out := out.toArray) hoL
    have hlen2 : (out.map backV).length ≤ sizeLine := by
      rw [List.length_map, g2.len]
      exact hz'
    refine wpAny_pure ⟨_, rfl, .ref h'.objs.size, upd H h'.objs.size (.lst (out.map backV)), I1.laid (t' := s.toks) (fun b u e => ?_) (Nat.le_refl _)
      (show ObjOk X.prog X.w _ _ _ (.lst (out.map backV)) from ⟨hlen2, out, e', vals_back h3, he'⟩), rfl, q _ _ (SrtO.srtd_map g1) hb (I1.hok.fresh (Nat.le_refl _))⟩
    have hb : b < h'.objs.size := Heap.lt_size e
    rw [PyProof.Rows.sortedHeap_old (Nat.ne_of_lt hb) (by rw [size_push']; exact Nat.lt_succ_of_lt hb)]
    exact Heap.get?_push_of_some _ e
end
theorem cd_sortedTT {K : PySem.W.Frag} : CallD K (rSortedTT K) fSortedTT := fun T ρ H vs ss s Q k hp hg hq => by
  unfold fSortedTT at hg
  split at hg
  case h_2 => cases hg
  rename_i u
  obtain ⟨v, rfl, h⟩ := paired1 hp
  cases e : asT u with
  | none => rw [e] at hg; cases hg
  | some xs =>
    rw [e] at hg
    simp only [Option.bind_some] at hg
    cases ep : rowsP xs with
    | none => rw [ep] at hg; cases hg
    | some rs =>
      rw [ep] at hg
      simp only [Option.bind_some] at hg
      split at hg
      case isFalse => cases hg
      rename_i hc
      cases hg
      obtain ⟨a, ws, rfl, h1, h2⟩ := at_T h e
      have ex := rowsP_eq ep
      subst ex
      have each : ∀ v ∈ ws, (∃ t, v = .ref t ∧ H t = some (.tup ((keyVT H v).map V.int))) ∧ Dq K (hid T ρ H) v (tupI (keyVT H v)) ∧ keyVT H v ∈ rs := fun v hv => by
        obtain ⟨d, hd, q⟩ := dqAll_mem h2 hv
        obtain ⟨r, hr, rfl⟩ := List.mem_map.mp hd
        obtain ⟨q1, q2⟩ := dq_tupI hid_same q
        rw [q1]
        exact ⟨q2, q, hr⟩
      have hlen : ws.length = rs.length := by
        have := dpAll_len h2
        rw [List.length_map] at this
        exact this
      have kws : ws.map (keyVT H) = rs := by
        apply List.ext_getElem?
        intro i
        rw [List.getElem?_map]
        cases ei : ws[i]? with
        | none =>
          have hl := List.getElem?_eq_none_iff.mp ei
          rw [List.getElem?_eq_none (by omega)]
          rfl
        | some v =>
          obtain ⟨d, e1, q⟩ := dpAll_getV h2 ei
          rw [List.getElem?_map] at e1
          cases e2 : rs[i]? with
          | none => rw [e2] at e1; cases e1
          | some r =>
            rw [e2] at e1
            cases e1
            exact congrArg some (dq_tupI hid_same q).1
      refine ⟨a, ws, keyVT H, rfl, SqT.of (hid_same _ _ h1), fun v hv => (each v hv).1, ?_, fun ys n h3 h4 hn => ?_⟩
      · rcases hc with hc | hc
        · exact .inl (by omega)
        · refine .inr fun v hv z => ?_
          have := List.all_eq_true.mp hc _ (each v hv).2.2
          rw [z] at this
          cases this
      have ey : ys.map (keyVT H) = sortT rs := by
        refine perm_uniq (R := fun a b => lexL b a = false) (fun a b h1 h2 => lexL_anti a b h2 h1) ?_ ?_ (isort_sorted (fun a b => lexL_asym a b) (fun a b c => lexL_tr a b c) _)
        · have := h4.perm.map (keyVT H)
          rw [kws] at this
          exact this.trans (isort_perm rs).symm
        · exact List.pairwise_map.mpr h3
      refine hq n _ hn ⟨ys, rfl, ?_⟩
      rw [← ey, List.map_map]
      exact dqAll_of fun v hv => (each v (h4.perm.mem_iff.mp hv)).2.1
section
variable {X : Cx} {e : Expr} {es : List Expr} {pos p : Pos} {fa : AEV}
theorem de_sortedTT (hm : X.mg "sorted" = none) (hg : Gl X "sorted") (ha : DA X (e :: es) fa) (he : starEach (e :: es) X.env = (false, eval e X.env) :: starEach es X.env := by rfl) (hpl : (backTo pos (starEach es X.env)).any (·.1) = false := by rfl) : DE X (.Call (.Name "sorted" p) (e :: es) [] pos) (callB fSortedTT fa) :=
  de_callB cr_sortedTT cd_sortedTT hg hm (by decide +kernel) ha (by decide) (by decide) he hpl
/-! ### {text: text, ..} -/
def strTab (kv : List (Str × Str)) : Tb := kv.foldl (fun a p => putD a [.inr p.1] (.str p.2)) []
def dispE (kv : List (Str × Str)) : EV := fun δ => some (.o (.t ⟨true, strTab kv⟩), δ)
theorem pps_str : ∀ (kv : List (Str × Str)) {ks : List (Option Expr)} {vs : List Expr}, Paired (fun (p : Str × Str) (q : Option Expr × Expr) => ∃ a b j k, q = (some (.Constant (.str p.1) j a), .Constant (.str p.2) k b)) kv (ks.zip vs) → ks.length = vs.length → ks.length = kv.length →
    PPs X pos ks vs (kv.map fun p => (tC (V.str p.1), tC (V.str p.2)))
  | [], [], [], _, _, _ => pps_nil
  | p :: kv, k :: ks, v :: vs, .cons h t, h1, h2 => by
    obtain ⟨a, b, j, l, e⟩ := h
    cases e
    exact pps_cons pe_str pe_str (pps_str kv t (by simpa using h1) (by simpa using h2))
theorem tPairs_str {σ : L2.St} : ∀ (kv : List (Str × Str)) {H : Hp} {Q : List (V × V) → Hp → Prop}, Q (kv.map fun p => (V.str p.1, V.str p.2)) H → tPairs (kv.map fun p => (tC (V.str p.1), tC (V.str p.2))) σ H Q
  | [], H, Q, h => h
  | p :: kv, H, Q, h => tPairs_str kv (Q := fun ps H3 => Q ((V.str p.1, V.str p.2) :: ps) H3) h
theorem upd_twice {H : Hp} {p : Addr} {o o' : HO} : upd (upd H p o) p o' = upd H p o' := by
  funext b
  by_cases h : b = p
  · subst h
    rw [upd_same, upd_same]
  · rw [upd_ne h, upd_ne h, upd_ne h]
theorem merge_tv {K : PySem.W.Frag} {G : Hp} : ∀ (kv : List (Str × Str)) {ws : List (Key × V)} {ds : Tb}, TV K G (ws.map fun p => ([p.1], p.2)) ds → TV K G ((mergeK ws (kv.map fun p => ((.inr p.1 : Key), V.str p.2))).map fun p => ([p.1], p.2)) (kv.foldl (fun a p => putD a [.inr p.1] (.str p.2)) ds)
  | [], ws, ds, h => h
  | p :: kv, ws, ds, h => by
    refine merge_tv kv (ws := putK ws (.inr p.1) (V.str p.2)) ?_
    rw [put_one]
    exact tv_put h (.str _)
theorem de_disp (kv : List (Str × Str)) {ks : List (Option Expr)} {vs : List Expr} (hp : Paired (fun (p : Str × Str) (q : Option Expr × Expr) => ∃ a b j k, q = (some (.Constant (.str p.1) j a), .Constant (.str p.2) k b)) kv (ks.zip vs)) (h1 : ks.length = vs.length) (h2 : ks.length = kv.length) (hall : ks.all (·.isSome) = true) (h0 : ks ≠ []) (h15 : ks.length ≤ 15) :
    DE X (.Dict ks vs pos) (dispE kv) := pe_imp (pe_disp (pps_str kv hp h1 h2) hall h1 h0 h15) fun σ H Q ⟨T, ρ, δ, s, δ', hs, hf, hq⟩ => by
  cases hf
  intro q hn
  refine tPairs_str kv ⟨upd_same, kv.map fun p => ((.inr p.1 : Key), V.str p.2), ?_, by rw [List.length_map]; omega, ?_⟩
  · rw [List.map_map]
    rfl
  · rw [upd_twice]
    exact hq ρ q H _ hs .refl hn (.inr ⟨rfl, _, rfl, merge_tv kv .nil⟩)
end
end DL

namespace DL
open PySem PySem.Spec PyProof.Rows L2 DLS
variable [TB]

/-! ### len(table) -/
def fLenX : List S → Option S
  | [s] => (asTb s).bind fun t => if t.fl = false then some (.d (.int (t.kvs.length : Nat))) else none
  | _ => none
theorem cd_lenX {K : PySem.W.Frag} : CallD K rLenT fLenX := fun T ρ H vs ss s Q k hp hg hq => by
  unfold fLenX at hg
  split at hg
  case h_2 => cases hg
  rename_i u
  obtain ⟨v, rfl, h⟩ := paired1 hp
  cases e : asTb u with
  | none => rw [e] at hg; cases hg
  | some t =>
    rw [e] at hg
    simp only [Option.bind_some] at hg
    split at hg
    case isFalse => cases hg
    rename_i hf
    cases hg
    obtain ⟨a, o, rfl, ha, to⟩ := at_tb h e
    rcases to with ⟨_, ws, rfl, tv⟩ | ⟨f', _⟩
    · refine ⟨a, ws, rfl, ha, ?_⟩
      rw [show ws.length = t.kvs.length from Paired.length tv]
      exact postO_same hq (.int _)
    · rw [hf] at f'; cases f'
section
variable {X : Cx} {e : Expr} {es : List Expr} {pos p : Pos} {fa : AEV}
theorem de_lenX (hm : X.mg "len" = none) (hg : Gl X "len") (ha : DA X (e :: es) fa) (he : starEach (e :: es) X.env = (false, eval e X.env) :: starEach es X.env := by rfl) (hpl : (backTo pos (starEach es X.env)).any (·.1) = false := by rfl) : DE X (.Call (.Name "len" p) (e :: es) [] pos) (callB fLenX fa) :=
  de_callB call_len_dT cd_lenX hg hm (by decide +kernel) ha (by decide) (by decide) he hpl
end
end DL

namespace DL
open PySem PySem.Spec PyProof.Rows L2
variable [TB]
/-! ### two comparisons in one, as a test -/
section
variable {X : Cx} {a b c : Expr} {pos : Pos} {fa fb fc : PEV}
theorem chn_ok {r r' : R2} {g g' : S → S → Option S} (hd : OpD X.K r g) (hd' : OpD X.K r' g') (σ : L2.St) (H : Hp) (Q : V → Hp → Prop) (h : lift X.K (chn g g' fa fb fc) σ H Q) : tChain r r' (liftP X.K fa) (liftP X.K fb) (liftP X.K fc) σ H Q := by
  obtain ⟨T, ρ, δ, s, δ', hs, hf, hq⟩ := h
  unfold chn at hf
  cases ea : fa δ with
  | none => rw [ea] at hf; cases hf
  | some x =>
    rw [ea] at hf
    simp only [Option.bind_some] at hf
    cases eb : fb x.2 with
    | none => rw [eb] at hf; cases hf
    | some y =>
      rw [eb] at hf
      simp only [Option.bind_some] at hf
      cases e1 : res y.2 x.1 with
      | none => rw [e1] at hf; cases hf
      | some u =>
        rw [e1] at hf
        simp only [Option.bind_some] at hf
        cases e2 : res y.2 y.1 with
        | none => rw [e2] at hf; cases hf
        | some w =>
          rw [e2] at hf
          simp only [Option.bind_some] at hf
          cases e3 : g u w with
          | none => rw [e3] at hf; cases hf
          | some z =>
            rw [e3] at hf
            simp only [Option.bind_some] at hf
            refine ⟨T, ρ, δ, x.1, x.2, hs, by rw [ea], fun ρ1 v1 H1 s1 x1 p1 => ?_⟩
            refine ⟨T, ρ1, x.2, y.1, y.2, s1, by rw [eb], fun ρ2 v2 H2 s2 x2 p2 => ?_⟩
            split at hf
            · refine hd T ρ2 H2 v1 v2 u w (.d (.bool true)) _ s2.trk (pat_at s2 x2 p1 e1) (pat_at s2 .refl p2 e2) e3 fun v3 H3 m3 d3 => ?_
              cases (show Dq _ _ v3 (.bool true) from d3)
              have x3 := s2.trk.extT m3
              have s3 := s2.mono m3
              refine ⟨true, rfl, ?_⟩
              rw [if_pos rfl]
              cases ec : fc y.2 with
              | none => rw [ec] at hf; cases hf
              | some q =>
                rw [ec] at hf
                simp only [Option.bind_some] at hf
                cases e4 : res q.2 y.1 with
                | none => rw [e4] at hf; cases hf
                | some u' =>
                  rw [e4] at hf
                  simp only [Option.bind_some] at hf
                  cases e5 : res q.2 q.1 with
                  | none => rw [e5] at hf; cases hf
                  | some w' =>
                    rw [e5] at hf
                    simp only [Option.bind_some] at hf
                    cases e6 : g' u' w' with
                    | none => rw [e6] at hf; cases hf
                    | some z' =>
                      rw [e6] at hf
                      cases hf
                      refine ⟨T, ρ2, y.2, q.1, q.2, s3, by rw [ec], fun ρ4 v4 H4 s4 x4 p4 => ?_⟩
                      exact hd' T ρ4 H4 v2 v4 u' w' s Q s4.trk (pat_at s4 (x3.trans x4) p2 e4) (pat_at s4 .refl p4 e5) e6 (post_o s4 (x1.trans (x2.trans (x3.trans x4))) hq)
            · cases hf
              refine hd T ρ2 H2 v1 v2 u w (.d (.bool false)) _ s2.trk (pat_at s2 x2 p1 e1) (pat_at s2 .refl p2 e2) e3 fun v3 H3 m3 d3 => ?_
              cases (show Dq _ _ v3 (.bool false) from d3)
              refine ⟨false, rfl, ?_⟩
              rw [if_neg Bool.false_ne_true]
              exact hq ρ2 _ H3 (s2.mono m3) (x1.trans (x2.trans (s2.trk.extT m3))) (Dq.bl false)
            · cases hf

theorem dt_chain {op op' : CmpOp} {r r' : R2} {g g' : S → S → Option S} (ho : OpR X (compareOp op) r) (hd : OpD X.K r g) (ho' : OpR X (compareOp op') r') (hd' : OpD X.K r' g') (ha : DP X a fa) (hb : DP X b fb) (hc : DP X c fc) (hl : lastMarks [op, op'] [b, c] = false := by rfl) :
    DT X (.Compare a [op, op'] [b, c] pos) (bl (chn g g' fa fb fc)) := pt_imp (pt_chain ho ho' ha hb hc hl) fun σ H Q h => by
  have q := bl_ok σ H Q h
  exact chn_ok hd hd' σ H _ q
end
end DL

namespace DL
open PySem PySem.Spec PyProof.Rows L2 DLS
variable [TB]

/-! ### dict(list of pairs), the keys tuples -/
/-- the pair's address, its key's address, the key, the value -/
abbrev PrT := Addr × Addr × List Key × V
def mergeT (kvs : List (List Key × V)) (more : List PrT) : List (List Key × V) := more.foldl (fun acc p => putK acc p.2.2.1 p.2.2.2) kvs
theorem mergeT_len : ∀ (more : List PrT) (kvs : List (List Key × V)), (mergeT kvs more).length ≤ kvs.length + more.length
  | [], kvs => Nat.le_refl _
  | p :: r, kvs => by
    have h1 := mergeT_len r (putK kvs p.2.2.1 p.2.2.2)
    have h2 := length_putK kvs p.2.2.1 p.2.2.2
    show (mergeT (putK kvs p.2.2.1 p.2.2.2) r).length ≤ _
    rw [List.length_cons]
    omega
def rDictT (K : PySem.W.Frag) : List V → Hp → VK → Prop := fun vs H Q => ∃ (a : Addr) (ps : List PrT), vs = [V.ref a] ∧ SqL K H a (ps.map fun p => V.ref p.1) ∧ (∀ p ∈ ps, SqT K H p.1 [V.ref p.2.1, p.2.2.2] ∧ H p.2.1 = some (.tup (p.2.2.1.map kV))) ∧
  ∀ d, H d = none → Q (.ref d) (upd H d (.dT (mergeT [] ps)))
abbrev RelPr (h : Heap) (p : PrT) (q : List Key × Addr × Value) : Prop := q.1 = p.2.2.1 ∧ q.2.1 = p.2.1 ∧ RelV p.2.2.2 q.2.2 ∧ h.IsTuple p.1 #[.ref p.2.1, q.2.2]
section
variable {X : Cx}
theorem pairsT_of {pins : List (Addr × Obj)} {σ : L2.St} {H : Hp} {s : Shared} (I : Inv X pins σ H s) : ∀ {ps : List PrT}, (∀ p ∈ ps, SqT X.K H p.1 [V.ref p.2.1, p.2.2.2] ∧ H p.2.1 = some (.tup (p.2.2.1.map kV))) → ∃ prs : List (List Key × Addr × Value), Paired (RelPr s.heap) ps prs
  | [], _ => ⟨[], .nil⟩
  | p :: ps, h => by
    obtain ⟨prs, hr⟩ := pairsT_of I (ps := ps) fun q hq => h q (List.mem_cons_of_mem _ hq)
    obtain ⟨its, rv, ⟨o, ho, hc, n, hd⟩, _⟩ := I.tuple (h p List.mem_cons_self).1
    obtain ⟨u, y, ei, ru, ry⟩ := vals2 rv
    subst ei
    cases (show u = Value.ref p.2.1 from ru)
    exact ⟨(p.2.2.1, p.2.1, y) :: prs, .cons ⟨rfl, rfl, ry, o, ho, hc, n, hd⟩ hr⟩
theorem kt_merge {H : Hp} {h : Heap} : ∀ {ps : List PrT} {prs : List (List Key × Addr × Value)} {acc : List (List Key × V)} {xs : List (List Key × Addr × Value)}, Paired (RelPr h) ps prs → (∀ p ∈ ps, H p.2.1 = some (.tup (p.2.2.1.map kV))) → KT H acc xs → KT H (mergeT acc ps) (storedAllH xs prs)
  | _, _, _, _, .nil, _, r => r
  | _, _, acc, xs, .cons (a := p) (b := q) hq t, hk, r => by
    have r2 := r.put p.2.2.1 (hk p List.mem_cons_self) hq.2.2.1
    have := kt_merge t (fun z hz => hk z (List.mem_cons_of_mem _ hz)) r2
    show KT H (mergeT (putK acc p.2.2.1 p.2.2.2) _) (storedAllH (storedH xs q.1 q.2.1 q.2.2) _)
    rw [hq.1, hq.2.1]
    exact this
theorem paired_at {α β : Type} {R : α → β → Prop} : ∀ {l : List α} {m : List β}, Paired R l m → ∀ {i : Nat} {y : β}, m[i]? = some y → ∃ x, l[i]? = some x ∧ R x y
  | _, _, .nil, i, y, e => by cases e
  | _, _, .cons h t, 0, y, e => by cases e; exact ⟨_, rfl, h⟩
  | _, _, .cons h t, i + 1, y, e => by
    obtain ⟨x, h1, h2⟩ := paired_at t (i := i) (y := y) (by simpa using e)
    exact ⟨x, by simpa using h1, h2⟩
theorem call_dictT (hc : X.calm = true) (hu : X.A.units + 64 < cLine) : CallR X (.type "dict") (rDictT X.K) := by
  intro pins s σ H vs us Q I r h
  obtain ⟨a, ps, rfl, hs, hp, q⟩ := h
  obtain ⟨u, rfl, rx⟩ := vals1 r
  cases (show u = Value.ref a from rx)
  obtain ⟨its, rv, pl, hz⟩ := I.list hs
  have ei : its = (ps.map fun p => p.1).map Value.ref := refs_at (ps := ps.map fun p => p.1) (by rw [List.map_map]; exact rv)
  subst ei
  simp only [List.length_map] at hz
  obtain ⟨prs, hr⟩ := pairsT_of I hp
  have hl : ps.length = prs.length := Paired.length hr
  obtain ⟨o, n, ho, hcl, hd, hdat⟩ := pl
  have P := PairArg.list (prog := X.prog) (w := X.w) a ((ps.map fun p => p.1).map Value.ref).toArray (fun j => ((ps[j]?).map fun p => p.1).getD 0) (prs.map fun q => (Value.ref q.2.1, q.2.2))
  refine call_dict_pairsH (knd := tupleKind (mixKind X.prog X.w)) (ps := prs) P (I.ok.hd hc) ?_ ⟨⟨o, n, ho, hcl, hd, hdat⟩, ?_, fun j k v e => ?_⟩ ⟨?_, fun i key v e => ?_⟩ (fun h' hk x hx => ?_) ?_ fun h' tk hd' hk => ?_
  · exact tupleKind_room_in1 (A := X.A.in1) (by show X.A.units + 1 + 1 < cLine; omega)
  · simp [hl]
  · rw [List.getElem?_map] at e
    obtain ⟨q', e1, e2⟩ := Option.map_eq_some_iff.mp e
    obtain ⟨p, e3, e4⟩ := paired_at hr e1
    cases e2
    refine ⟨?_, ?_⟩
    · rw [List.getElem?_toArray, List.getElem?_map, List.getElem?_map, e3]
      show some (Value.ref p.1) = some (Value.ref ((ps[j]?.map fun p => p.1).getD 0))
      rw [e3]
      rfl
    · show PairAt s.heap ((ps[j]?.map fun p => p.1).getD 0) _ _
      rw [e3]
      refine .inl ?_
      rw [e4.2.1]
      exact e4.2.2.2
  · simp
  · have e' : (prs.map fun q => (Value.ref q.2.1, q.2.2))[i]? = some (key, v) := e
    rw [List.getElem?_map] at e'
    obtain ⟨q', e1, e2⟩ := Option.map_eq_some_iff.mp e'
    cases e2
    exact ⟨q'.1, q'.2.1, e1, rfl⟩
  · obtain ⟨i, hi⟩ := List.mem_iff_getElem?.mp hx
    obtain ⟨p, e3, e4⟩ := paired_at hr hi
    have hkey := key_of (P := X.prog) (w := X.w) I.hok (hp p (List.mem_of_getElem? e3)).2
    rw [e4.1, e4.2.1]
    obtain ⟨o', its', n', h1, h2, h3, h4⟩ := hkey
    exact ⟨o', its', n', hk _ _ (Nat.ne_of_lt (Heap.lt_size h1)) (fun z => nomatch z) h1, h2, h3, h4⟩
  · rw [List.length_map]
    omega
  · have hm : (s.heap.objs.size == sysModules) = false := beq_eq_false_iff_ne.mpr (Nat.ne_of_gt I.big)
    have hlen : (mergeT [] ps).length ≤ sizeLine := by
      have := mergeT_len ps []
      rw [List.length_nil, Nat.zero_add] at this
      omega
    have kt := kt_merge (H := H) (acc := []) (xs := []) hr (fun p hp' => (hp p hp').2) .nil
    obtain ⟨o', es, ep, hq, h2, h3, h4, _, h5⟩ := hd'
    have hfr := I.hok.fresh (Nat.le_refl s.heap.objs.size)
    exact ⟨.ref s.heap.objs.size, upd H s.heap.objs.size (.dT (mergeT [] ps)), I.laid (t' := tk) (fun b o e => hk b o (fun z => nomatch z) e) (Nat.le_refl _)
      (show ObjOk X.prog X.w _ _ _ (.dT (mergeT [] ps)) from ⟨hlen, hm, _, kt.keeps fun c ys ec => (by
        rw [upd_ne (fun z => by rw [z, hfr] at ec; cases ec)]
        exact ec), o', es, ep, hq, h2, h3, h4, h5⟩), rfl, q _ hfr⟩
end
/-- the pairs of a list, by the data -/
def pairsP : List PyData → Option (List (List Key × PyData))
  | [] => some []
  | .tuple [.tuple ks, d] :: xs => (keyL ks).bind fun k => (pairsP xs).map fun r => (k, d) :: r
  | _ => none
def mergeD (kvs : List (List Key × PyData)) (more : List (List Key × PyData)) : List (List Key × PyData) := more.foldl (fun acc p => putD acc p.1 p.2) kvs
def fDictT : List S → Option S
  | [s] => (asL s).bind fun xs => (pairsP xs).map fun kvs => .o (.t ⟨false, mergeD [] kvs⟩)
  | _ => none
theorem pairs_back {K : PySem.W.Frag} {G : Hp} : ∀ {ws : List V} {xs : List PyData} {kvs : List (List Key × PyData)}, DqAll K G ws xs → pairsP xs = some kvs →
    ∃ ps : List PrT, ws = ps.map (fun p => V.ref p.1) ∧ (∀ p ∈ ps, G p.1 = some (.tup [V.ref p.2.1, p.2.2.2]) ∧ G p.2.1 = some (.tup (p.2.2.1.map kV))) ∧ Paired (fun (p : PrT) (q : List Key × PyData) => p.2.2.1 = q.1 ∧ Dq K G p.2.2.2 q.2) ps kvs
  | _, _, kvs, .nil, e => by
    cases e
    exact ⟨[], rfl, fun p (hp : p ∈ []) => (by cases hp), Paired.nil⟩
  | _, _, kvs, .cons (v := v) (d := d) (ds := ds) h t, e => by
    unfold pairsP at e
    split at e
    case h_1 z => cases z
    case h_3 => cases e
    rename_i ks d' xs' z
    cases z
    cases ek : keyL ks with
    | none => rw [ek] at e; cases e
    | some k =>
      rw [ek] at e
      simp only [Option.bind_some] at e
      cases er : pairsP ds with
      | none => rw [er] at e; cases e
      | some kr =>
        rw [er] at e
        cases e
        obtain ⟨ps, e1, e2, e3⟩ := pairs_back t er
        cases h with
        | tup h1 h2 =>
          cases h2 with
          | cons hk hrest =>
            cases hrest with
            | cons hv hnil =>
              cases hnil
              cases hk with
              | tup h3 h4 =>
                rename_i a1 v2 a2 us
                refine ⟨(a1, a2, k, v2) :: ps, by rw [List.map_cons, e1], fun p hp => ?_, .cons ⟨rfl, hv⟩ e3⟩
                rcases List.mem_cons.mp hp with rfl | hp
                · exact ⟨h1, by rw [h3, keyL_v h4 ek]⟩
                · exact e2 p hp
theorem tv_merge {K : PySem.W.Frag} {G : Hp} : ∀ {ps : List PrT} {kvs : List (List Key × PyData)} {acc : List (List Key × V)} {accD : List (List Key × PyData)}, Paired (fun (p : PrT) (q : List Key × PyData) => p.2.2.1 = q.1 ∧ Dq K G p.2.2.2 q.2) ps kvs → TV K G acc accD → TV K G (mergeT acc ps) (mergeD accD kvs)
  | _, _, _, _, .nil, r => r
  | _, _, acc, accD, .cons (a := p) (b := q) h t, r => by
    have r2 := tv_put (k := p.2.2.1) r h.2
    have := tv_merge t r2
    show TV K G (mergeT (putK acc p.2.2.1 p.2.2.2) _) (mergeD (putD accD q.1 q.2) _)
    rw [← h.1]
    exact this
theorem cd_dictT {K : PySem.W.Frag} : CallD K (rDictT K) fDictT := fun T ρ H vs ss s Q k hp hg hq => by
  unfold fDictT at hg
  split at hg
  case h_2 => cases hg
  rename_i u
  obtain ⟨v, rfl, h⟩ := paired1 hp
  cases e : asL u with
  | none => rw [e] at hg; cases hg
  | some xs =>
    rw [e] at hg
    simp only [Option.bind_some] at hg
    cases ep : pairsP xs with
    | none => rw [ep] at hg; cases hg
    | some kvs =>
      rw [ep] at hg
      cases hg
      obtain ⟨a, ws, rfl, h1, h2⟩ := at_L h e
      obtain ⟨ps, rfl, e2, e3⟩ := pairs_back h2 ep
      exact ⟨a, ps, rfl, SqL.of h1, fun p hp => ⟨SqT.of (hid_same _ _ (e2 p hp).1), hid_same _ _ (e2 p hp).2⟩, fun d hn => hq d _ hn (.inl ⟨rfl, _, rfl, tv_merge e3 .nil⟩)⟩
section
variable {X : Cx} {e : Expr} {es : List Expr} {pos p : Pos} {fa : AEV}
theorem de_dictT {j : Nat} (hr : Room j X.A) (hc : X.calm = true) (hm : X.mg "dict" = none) (hg : Gl X "dict") (ha : DA X (e :: es) fa) (he : starEach (e :: es) X.env = (false, eval e X.env) :: starEach es X.env := by rfl) (hpl : (backTo pos (starEach es X.env)).any (·.1) = false := by rfl) : DE X (.Call (.Name "dict" p) (e :: es) [] pos) (callB fDictT fa) :=
  de_callTy (call_dictT hc hr.units) cd_dictT hg hm (by decide +kernel) ha (by decide) (by decide) he hpl
end
end DL

namespace DL
open PySem PySem.Spec PyProof.Rows L2 DLS
variable [TB]

/-! ### sorted(tuple of numbers) -/
def rSortedIT (K : PySem.W.Frag) : List V → Hp → VK → Prop := fun vs H Q => ∃ (a : Addr) (ns : List Int), vs = [V.ref a] ∧ SqT K H a (ns.map V.int) ∧
  ∀ (ns' : List Int) (p : Addr), ns'.Perm ns → ns'.Pairwise (· ≤ ·) → H p = none → Q (.ref p) (upd H p (.lst (ns'.map V.int)))
abbrev sortI : List Int → List Int := isort fun a b => decide (a < b)
def fSortedI : List S → Option S
  | [s] => (asT s).bind fun xs => (intsP xs).map fun ns => .o (.l ((sortI ns).map PyData.int))
  | _ => none
section
variable {X : Cx}
theorem cr_sortedIT : CallR X (.builtin "sorted") (rSortedIT X.K) := by
  intro pins s σ H vs us Q I r h
  obtain ⟨a, ns, rfl, hs, q⟩ := h
  obtain ⟨its, rv, ⟨o, ho, hc, n, hd⟩, hz⟩ := I.tuple hs
  obtain ⟨u, rfl, ru⟩ := vals1 r
  cases (show u = Value.ref a from ru)
  have hi := rv.ints
  have hlen0 : (ns.map V.int).length = its.length := rv.length
  have hz' : its.length ≤ sizeLine := by omega
  refine Calls.call_function_entry PyProof.Rows.kind_sorted PyProof.Rows.plain_sorted PyProof.Rows.entry_sorted (PyProof.Rows.args_sorted1 _) ?_
  unfold Builtin.«sorted»
  refine wpAny_bind (m := checkCount "sorted" 1 1 _) (wpAny_pure ?_)
  refine wpAny_bind (wpAny_collect_seq (A := X.A.in1) a (T := "tuple") (.inr rfl) ho hc hd (fun h' hkp => ?_) (by rw [List.size_toArray]; exact hz'))
  have I1 : Inv X pins σ H { s with heap := h', toks := s.toks } := I.kept hkp
  rw [List.toList_toArray]
  refine wpAny_bind (wpAny_newList ?_ hz')
  have hoL : (h'.push (seqObj "list" its.toArray 0)).get? h'.objs.size = some (seqObj "list" its.toArray 0) := Heap.get?_push_size _ rfl
  show wpAny _ _ _ _ _ { s with heap := h'.push (seqObj "list" its.toArray 0), toks := s.toks }
  refine wpAny_bind (wpAny_holding (wpAny_call_entry PyProof.Rows.slot_list_sort ⟨_, hoL, rfl⟩ PyProof.Rows.entry_list_sort
    (SrtO.list_sort_ord (s := { s with heap := h'.push (seqObj "list" its.toArray 0), toks := s.toks }) SrtO.swo_int hoL hz' (fun h2 => SrtO.ints_sortable hi h2) fun out g1 g2 => ⟨_, rfl, ?_⟩) (PyProof.Rows.args_list_sort _)))
  obtain ⟨k1, k2, k3⟩ := SrtO.ints_out hi g1 g2
  obtain ⟨e', he'⟩ := PyProof.Rows.sortedHeap_at (vs := its) (out := out.toArray) hoL
  have hlen2 : ((out.map SrtO.iv).map V.int).length ≤ sizeLine := by
    rw [List.length_map, k2.length_eq]
    rw [List.length_map] at hlen0
    omega
  refine wpAny_pure ⟨_, rfl, .ref h'.objs.size, upd H h'.objs.size (.lst ((out.map SrtO.iv).map V.int)), I1.laid (t' := s.toks) (fun b u e => ?_) (Nat.le_refl _)
    (show ObjOk X.prog X.w _ _ _ (.lst ((out.map SrtO.iv).map V.int)) from ⟨hlen2, out, e', vals_of_ints k1, he'⟩), rfl, q _ _ k2 k3 (I1.hok.fresh (Nat.le_refl _))⟩
  have hb : b < h'.objs.size := Heap.lt_size e
  rw [PyProof.Rows.sortedHeap_old (Nat.ne_of_lt hb) (by rw [size_push']; exact Nat.lt_succ_of_lt hb)]
  exact Heap.get?_push_of_some _ e
end
theorem sortI_of {ns ms : List Int} (h : ms.Perm ns) (hm : ms.Pairwise (· ≤ ·)) : ms = sortI ns :=
  perm_uniq (R := fun a b => decide (b < a) = false) (fun a b h1 h2 => by
    have h1' := of_decide_eq_false h1
    have h2' := of_decide_eq_false h2
    omega) (h.trans (isort_perm ns).symm) (hm.imp fun {a b} h => decide_eq_false (by omega)) (isort_sorted (fun a b h => by
      have h' := of_decide_eq_true h
      exact decide_eq_false (by omega)) (fun a b c h1 h2 => by
      have h1' := of_decide_eq_false h1
      have h2' := of_decide_eq_false h2
      exact decide_eq_false (by omega)) ns)
theorem dq_intsB {K : PySem.W.Frag} {G : Hp} : ∀ {ws : List V} {ns : List Int}, DqAll K G ws (ns.map PyData.int) → ws = ns.map V.int
  | _, [], .nil => rfl
  | _, i :: ns, .cons h t => by
    cases h
    rw [dq_intsB t]
    rfl
theorem dq_intsA {K : PySem.W.Frag} {G : Hp} : ∀ ns : List Int, DqAll K G (ns.map V.int) (ns.map PyData.int)
  | [] => .nil
  | i :: ns => .cons (.int i) (dq_intsA ns)
theorem cd_sortedI {K : PySem.W.Frag} : CallD K (rSortedIT K) fSortedI := fun T ρ H vs ss s Q k hp hg hq => by
  unfold fSortedI at hg
  split at hg
  case h_2 => cases hg
  rename_i u
  obtain ⟨v, rfl, h⟩ := paired1 hp
  cases e : asT u with
  | none => rw [e] at hg; cases hg
  | some xs =>
    rw [e] at hg
    simp only [Option.bind_some] at hg
    cases ep : intsP xs with
    | none => rw [ep] at hg; cases hg
    | some ns =>
      rw [ep] at hg
      cases hg
      obtain ⟨a, ws, rfl, h1, h2⟩ := at_T h e
      have ex := intsP_eq ep
      subst ex
      have ew := dq_intsB h2
      subst ew
      refine ⟨a, ns, rfl, SqT.of (hid_same _ _ h1), fun ns' p g1 g2 hn => ?_⟩
      have es := sortI_of g1 g2
      subst es
      exact hq p _ hn ⟨_, rfl, dq_intsA _⟩
section
variable {X : Cx} {e : Expr} {es : List Expr} {pos p : Pos} {fa : AEV}
theorem de_sortedI (hm : X.mg "sorted" = none) (hg : Gl X "sorted") (ha : DA X (e :: es) fa) (he : starEach (e :: es) X.env = (false, eval e X.env) :: starEach es X.env := by rfl) (hpl : (backTo pos (starEach es X.env)).any (·.1) = false := by rfl) : DE X (.Call (.Name "sorted" p) (e :: es) [] pos) (callB fSortedI fa) :=
  de_callB cr_sortedIT cd_sortedI hg hm (by decide +kernel) ha (by decide) (by decide) he hpl
end
end DL

namespace DL
open PySem PySem.Spec PyProof.Rows L2 DLS
variable [TB]

/-! ### raise: never come to, as the meaning says -/
def noS : SEV := fun _ => none
theorem ds_none {X : Cx} {P : List Nat} {st : Stmt} : DS X P st noS := ⟨fun pins s σ H D I ⟨T, ρ, δ, o, hs, hf, hq⟩ => nomatch hf⟩
end DL

namespace DL
open PySem PySem.Spec PyProof.Rows L2
variable [TB]

/-! ### dicts as data: {} and {'a': x} -/
def dctE0 : EV := fun δ => some (.d (.dict []), δ)
def dctE1 (k : Str) (f : EV) : EV := fun δ => (f δ).bind fun x => match x.1 with
  | .d d => some (.d (.dict [(.str k, d)]), x.2)
  | _ => none
section
variable {K : PySem.W.Frag} {T : List Addr} {ρ ρ1 : List (Option Addr)} {δ δ' : Ds} {σ : L2.St} {H H0 : Hp} {p : Addr} {o : HO}
theorem hid_sub (hT : p ∉ T) (hρ : some p ∉ ρ) : Same (hid (p :: T) ρ H) (hid T ρ (upd H p o)) := fun b x e => by
  obtain ⟨h1, h2, h3⟩ := hid_some.mp e
  refine hid_some.mpr ⟨?_, fun z => h2 (List.mem_cons_of_mem _ z), h3⟩
  rw [upd_ne (fun z => h2 (by rw [z]; exact List.mem_cons_self))]
  exact h1
/-- what was put by is written and nobody's -/
theorem Sim.subTmp (h : Sim K (p :: T) ρ δ σ H) (hT : p ∉ T) (hb : ∀ x, H p = some x → (∀ ps, x ≠ .tbl ps) ∧ NT x) : Sim K T ρ δ σ (upd H p o) := by
  have hρ : some p ∉ ρ := fun z => by
    obtain ⟨i, hi⟩ := mem_ix z
    exact h.nt i p hi List.mem_cons_self
  have hm : Same (hid (p :: T) ρ H) (hid T ρ (upd H p o)) := hid_sub hT hρ
  refine ⟨h.len, h.slen, fun j s hj => ?_, h.own, h.own', h.inj, fun j a hj hm => h.nt j a hj (List.mem_cons_of_mem _ hm), fun a ha => ?_, fun q hq => ?_, tabs_upd h.tabs hb⟩
  · obtain ⟨v, e1, e2⟩ := h.slot j s hj
    refine ⟨v, e1, ?_⟩
    cases s with
    | o c =>
      obtain ⟨a, x, z1, z2, z3⟩ := e2
      obtain ⟨a', q1, q2⟩ := h.own j c hj
      rw [e1] at q2
      cases q2
      cases z1
      refine ⟨_, x, rfl, ?_, coM hm z3⟩
      rw [upd_ne (fun z => h.nt j _ q1 (by rw [z]; exact List.mem_cons_self))]
      exact z2
    | d x => exact svM (s := .d x) hm e2
    | t x => exact svM (s := .t x) hm e2
    | z x => exact svM (s := .z x) hm e2
    | p x => exact svM (s := .p x) hm e2
  · obtain ⟨x, hx, hy⟩ := h.tmp a (List.mem_cons_of_mem _ ha)
    exact ⟨x, by rw [upd_ne (fun z => hT (by rw [← z]; exact ha))]; exact hx, hy⟩
  · rcases List.mem_cons.mp (h.tabT q hq) with z | z
    · obtain ⟨ps, h1, _⟩ := h.tabs q hq
      rw [z] at h1
      exact absurd rfl ((hb _ h1).1 ps)
    · exact z
end
section
variable {X : Cx} {e : Expr} {es : List Expr} {pos p : Pos} {fa : AEV}
theorem de_dct0 : DE X (.Dict [] [] pos) dctE0 := pe_imp pe_dnewK fun σ H Q ⟨T, ρ, δ, s, δ', hs, hf, hq⟩ => by
  cases hf
  exact fun q hn => hq ρ (.ref q) _ (hs.mono (same_new hn)) (hs.trk.extT (same_new hn)) (Dq.dctE (hs.trk.hidNew hn))
theorem de_dct1 {k : Str} {j : Nat} {a : Pos} {f : EV} (he : DE X e f) : DE X (.Dict [some (.Constant (.str k) j a)] [e] pos) (dctE1 k f) :=
  pe_imp (pe_disp (pps_cons pe_str he pps_nil) rfl rfl (List.cons_ne_nil _ _) (by show (1 : Nat) ≤ 15; omega)) fun σ H Q ⟨T, ρ, δ, s, δ', hs, hf, hq⟩ => by
  unfold dctE1 at hf
  cases e : f δ with
  | none => rw [e] at hf; cases hf
  | some x =>
    obtain ⟨u, δ1⟩ := x
    rw [e] at hf
    simp only [Option.bind_some] at hf
    cases u with
    | d d =>
      cases hf
      intro q hn
      obtain ⟨nT, nρ⟩ := hs.trk.fresh hn
      refine ⟨q :: T, ρ, δ, .d d, _, hs.addTmp hn, e, fun ρ2 v H2 s2 e2 hv => ?_⟩
      have hp2 : H2 q = some (.dK []) := e2.at List.mem_cons_self upd_same
      have nρ2 : some q ∉ ρ2 := fun z => by
        obtain ⟨i, hi⟩ := mem_ix z
        exact s2.nt i q hi List.mem_cons_self
      refine ⟨hp2, [(.inr k, v)], rfl, by show (1 : Nat) ≤ 15; omega, ?_⟩
      have hm : Same (hid (q :: T) ρ2 H2) (hid T ρ2 (upd H2 q (.dK (mergeK [] [(.inr k, v)])))) := hid_sub nT nρ2
      have h0 : hid (q :: T) ρ (upd H q (.dK [])) = hid T ρ H := hid_new hn
      refine hq ρ2 (.ref q) _ (s2.subTmp nT (nb_of hp2)) ⟨?_, fun c hc => ?_, fun _ => tabs_upd s2.tabs (nb_of hp2)⟩ (Dq.dct1 (hid_some.mpr ⟨upd_same, nT, nρ2⟩) (dpM hm _ hv))
      · rw [← h0]
        exact e2.same.trans hm
      · have hcq : c ≠ q := fun z => nT (by rw [← z]; exact hc)
        have q := e2.tmp c (List.mem_cons_of_mem _ hc)
        rw [upd_ne hcq] at q ⊢
        exact q
    | t _ => cases hf
    | z _ => cases hf
    | p _ => cases hf
    | o _ => cases hf
/-! ### str of a whole number -/
def fStr : List S → Option S
  | [.d (.int i)] => if i.natAbs.log2 < 1920 then some (.d (.str (toString i))) else none
  | _ => none
theorem cd_str {K : PySem.W.Frag} : CallD K (fun xs H Q => ∃ i, xs = [.int i] ∧ i.natAbs.log2 < 1920 ∧ Q (.str (toString i)) H) fStr := fun T ρ H vs ss s Q k hp hg hq => by
  unfold fStr at hg
  split at hg
  · rename_i i
    obtain ⟨v, rfl, h⟩ := paired1 hp
    split at hg
    · rename_i hl
      cases hg
      cases (show Dq K _ v (.int i) from h)
      exact ⟨i, rfl, hl, postO_same hq (.str _)⟩
    · cases hg
  · cases hg
theorem de_str1 (hm : X.mg "str" = none) (hg : Gl X "str") (ha : DA X (e :: es) fa) (he : starEach (e :: es) X.env = (false, eval e X.env) :: starEach es X.env := by rfl) (hpl : (backTo pos (starEach es X.env)).any (·.1) = false := by rfl) : DE X (.Call (.Name "str" p) (e :: es) [] pos) (callB fStr fa) :=
  de_callTy call_str_int cd_str hg hm (by decide +kernel) ha (by decide) (by decide) he hpl
end
end DL

namespace DLS
open PySem PySem.Calls PyProof.Rows PyProof.V PySem.Spec PySem.MeetsSeq PySem.SeqAt
/-! ### a dict against a text -/
section
variable {prog : Program} {w : World} {A : Around} {E : Value → Shared → Prop} {s : Shared}
theorem str_eq_declines_dict (b : Str) (u : Tok) (l : Addr) (c : Value) (es : Array DictEntry) (n : Nat) (dd : Option Addr) (sl : Array (Option Value)) :
    Meets (Builtin.«str.__eq__» ⟨[.str b u, .ref l], []⟩) (fun _ R s => s.heap.get? l = some { cls := c, dict := dd, data := .dict es n, slots := sl } ∧ R (.ok (.ret .notImplemented)) s) :=
  .of_wp fun prog w A R s h => by obtain ⟨hp, g, d, tk, os⟩ := s; obtain ⟨hl, h⟩ := h; wp_walk using wpAny_loadPart' hl, wpAny_load hl; exact ⟨_, rfl, h⟩
theorem dict_eq_str {a : Addr} {oa : Obj} {es : Array DictEntry} {ep : Nat} {b : Str} {u : Tok} {Q : Value → Shared → Prop} (hoa : s.heap.get? a = some oa) (xa : oa.ExactDict) (hda : oa.data = .dict es ep) (hu : A.units < cLine) (h : Q (.bool false) s) :
    wpAny (model prog w) A (compareOp .Eq (.ref a) (.str b u)) Q E s := by
  obtain ⟨cls, dd, data, sl⟩ := oa
  simp only at hda
  subst hda
  refine rc_eq_decline_or (k := false) (Ta := "dict") (Tb := "str") ⟨_, hoa, xa.1⟩ (typeIs_str s b u) (by decide) PySem.F.sub_str_dict PySem.F.slot_dict_eq PySem.F.slot_str_eq_refl (fun Q' hq => ?_) (fun Q' hq => ?_) (fun _ hq => wpAny_of_eq (rfl : isSame (.ref a) (.str b u) = pure false) hq) (.inr hu) h
  · refine wpAny_call_entry PySem.F.slot_dict_eq ⟨_, hoa, xa.1⟩ PySem.F.entry_dict_eq ?_ (PySem.F.args_dict_eq_2 _ _)
    show wpAny _ _ (Builtin.Dict.dictSlotArgs "__eq__" ⟨[.ref a, .str b u], []⟩ >>= _) _ _ s
    refine wpAny_bind ?_
    unfold Builtin.Dict.dictSlotArgs
    refine wpAny_bind (wpAny_notOrdered_dict ⟨_, hoa, xa.1⟩ ?_)
    show wpAny _ _ (pure (Value.ref a, Value.str b u)) _ _ s
    refine wpAny_pure ?_
    refine wpAny_bind (wpAny_isInstance (T := "str") (typeIs_str s b u) PySem.F.sub_str_dict ?_)
    simp only [Bool.not_false, if_true]
    exact wpAny_bind (wpAny_rule (wpAny_pure ⟨_, rfl, hq⟩))
  · exact call_meets PySem.F.slot_str_eq_refl (typeIs_str s b u) PySem.F.entry_str_eq (PySem.F.args_str_eq_2 _ _) (str_eq_declines_dict b u a cls es ep dd sl) ⟨hoa, hq⟩
end
end DLS
namespace DL
open PySem PySem.Spec PyProof.Rows L2 DLS
variable [TB]
/-! ### anything == a text -/
def isT (t : Str) : PyData → Bool
  | .str x => decide (x = t)
  | _ => false
def rEqS (K : PySem.W.Frag) : R2 := fun x y H Q => ∃ d t, Dq K H x d ∧ y = .str t ∧ Q (.bl (isT t d)) H
def opEqS (a b : S) : Option S := match a, b with
  | .d x, .d (.str t) => some (.d (.bool (isT t x)))
  | _, _ => none
section
variable {X : Cx} {a b : Expr} {pos : Pos} {fp fq : PEV} {k : Nat}
theorem or_eqS (hu : X.A.units < cLine) : OpR X (compareOp .Eq) (rEqS X.K) := by
  intro pins s σ H x y v u Q I rx ry h
  obtain ⟨d, t, hd, rfl, q⟩ := h
  obtain ⟨tk, rfl⟩ := ry
  cases hd with
  | non => cases rx; exact PySem.SeqAt.RcAt.none_str t tk _ _ _ _ (fin_bl I q rfl)
  | bl b => cases rx; exact PySem.SeqAt.RcAt.bool_str b t tk _ _ _ _ (fin_bl I q rfl)
  | int i => obtain ⟨_, rfl⟩ := rx; exact PySem.SeqAt.RcAt.int_str i _ t tk _ _ _ _ (fin_bl I q rfl)
  | str z =>
    obtain ⟨_, rfl⟩ := rx
    refine PySem.SeqAt.RcAt.str_str z _ t tk _ _ _ _ (fin_bl I q ?_)
    show decide (z = t) = (z == t)
    by_cases h : z = t
    · rw [decide_eq_true h, h, beq_self_eq_true]
    · rw [decide_eq_false h]
      exact (beq_eq_false_iff_ne.mpr h).symm
  | lst h1 h2 =>
    cases rx
    obtain ⟨its, rv, ⟨o, n, ho, hc, _, hd'⟩, _⟩ := I.list (SqL.of h1)
    exact PySem.SeqAt.RcAt.list_str t tk ⟨o, ho, hc, n, hd'⟩ hu _ _ _ _ (fin_bl I q rfl)
  | tup h1 h2 =>
    cases rx
    obtain ⟨its, rv, ⟨o, ho, hc, n, hd'⟩, _⟩ := I.tuple (SqT.of h1)
    exact PySem.SeqAt.RcAt.tuple_str t tk ⟨o, ho, hc, n, hd'⟩ hu _ _ _ _ (fin_bl I q rfl)
  | @dctE a h1 =>
    cases rx
    obtain ⟨_, ya, vs, rk, m⟩ := (show ObjOk X.prog X.w H s.heap a (.dK []) from I.hok a _ h1)
    obtain ⟨o, es, ep, g1, x1, g2, _⟩ := m
    exact dict_eq_str g1 x1 g2 hu (fin_bl I q rfl)
  | @dct1 a kk vv xx h1 h2 =>
    cases rx
    obtain ⟨_, ya, vs, rk, m⟩ := (show ObjOk X.prog X.w H s.heap a (.dK [(.inr kk, vv)]) from I.hok a _ h1)
    obtain ⟨o, es, ep, g1, x1, g2, _⟩ := m
    exact dict_eq_str g1 x1 g2 hu (fin_bl I q rfl)
theorem od_eqS {K : PySem.W.Frag} : OpD K (rEqS K) opEqS := fun T ρ H x y a b s Q k ha hb hg hq => by
  unfold opEqS at hg
  split at hg
  · rename_i d t
    cases hg
    cases (show Dq K _ y (.str t) from hb)
    exact ⟨d, t, dpM hid_same _ (show Dq K _ x d from ha), rfl, postO_same hq (.bl _)⟩
  · cases hg
theorem de_eqS (hr : Room k X.A) (ha : DP X a fp) (hb : DP X b fq) : DE X (.Compare a [.Eq] [b] pos) (bin opEqS fp fq) := de_cmp (or_eqS (by have := hr.un; omega)) od_eqS ha hb (nomark _)
theorem dt_eqS (hr : Room k X.A) (ha : DP X a fp) (hb : DP X b fq) : DT X (.Compare a [.Eq] [b] pos) (bl (bin opEqS fp fq)) := dt_cmp (or_eqS (by have := hr.un; omega)) od_eqS ha hb (nomark _)
end
/-! ### repr of anything -/
mutual
theorem dq_reads2 {X : Cx} {pins : List (Addr × Obj)} {σ : L2.St} {H : Hp} {s : Shared} (I : Inv X pins σ H s) (hz : H sysModules = none) : ∀ (d : PyData) (v : V) (u : Value), Dq X.K H v d → RelV v u → ∃ as, Reads s.heap u d as ∧ sysModules ∉ as
  | .none, _, _, h, r => by
    cases h; cases r
    exact ⟨_, Reads.none, by simp⟩
  | .bool b, _, _, h, r => by
    cases h; cases r
    exact ⟨_, Reads.bool b, by simp⟩
  | .int i, _, _, h, r => by
    cases h
    obtain ⟨t, rfl⟩ := r
    exact ⟨_, Reads.int i t, by simp⟩
  | .str x, _, _, h, r => by
    cases h
    obtain ⟨t, rfl⟩ := r
    exact ⟨_, Reads.str x t, by simp⟩
  | .list ds, _, _, h, r => by
    cases h with
    | @lst a xs _ hs ha =>
      cases r
      obtain ⟨its, rv, ⟨o, n, ho, hc, _, hd⟩, _⟩ := I.list (SqL.of hs)
      obtain ⟨as, hr, hn⟩ := dq_reads2A I hz ds _ its ha rv
      refine ⟨_, Reads.list ho hc hd hr, fun z => ?_⟩
      rcases List.mem_cons.mp z with z | z
      · rw [← z, hz] at hs
        cases hs
      · exact hn z
  | .tuple ds, _, _, h, r => by
    cases h with
    | tup hs ha =>
      cases r
      obtain ⟨its, rv, ⟨o, ho, hc, n, hd⟩, _⟩ := I.tuple (SqT.of hs)
      obtain ⟨as, hr, hn⟩ := dq_reads2A I hz ds _ its ha rv
      exact ⟨_, Reads.tuple ho hc hd hr, hn⟩
  | .dict [], _, _, h, r => by
    obtain ⟨as, h1, h2⟩ := dq_reads I (.dict []) _ _ h r
    exact ⟨as, h1, h2 rfl⟩
  | .dict [(k, x)], _, _, h, r => by
    cases h with
    | @dct1 a k v _ hs hx =>
      cases r
      obtain ⟨_, ya, vs, rk, m⟩ := (show ObjOk X.prog X.w H s.heap a (.dK [(.inr k, v)]) from I.hok a _ hs)
      cases rk with
      | @cons p q _ _ r0 rt =>
        cases rt
        obtain ⟨o, es, ep, h1, h2, h3, h4⟩ := dict_parts m
        obtain ⟨q1, q2⟩ := q
        obtain ⟨rk1, rv1⟩ := r0
        cases (show Sum.inr k = q1 from rk1)
        have rv2 : RelV v q2 := rv1
        cases he : es.toList with
        | nil => rw [he] at h4; cases h4
        | cons e r =>
          rw [he] at h4
          cases h4 with
          | cons k1 k2 k3 =>
            cases r with
            | cons _ _ => cases k3
            | nil =>
              have k1' : keyIs (.inr k) e.key = true := k1
              rcases keyIs_shape k1' with ⟨i, t, e2, e1⟩ | ⟨z, t, e2, e1⟩
              · cases e2
              · cases e2
                obtain ⟨as, hr, hn⟩ := dq_reads2 I hz x v q2 hx rv2
                refine ⟨_, Reads.dict (as := [] ++ []) (bs := as ++ []) h1 h2 h3 (by rw [he]; show ReadsAll _ [e.key] [PyData.str k] _; rw [e1]; exact .cons (Reads.str k t) .nil) (by rw [he]; show ReadsAll _ [e.val] [x] _; rw [k2]; exact .cons hr .nil), fun z => ?_⟩
                have hz' : sysModules = a ∨ sysModules ∈ as := by simpa using z
                rcases hz' with hz' | hz'
                · rw [hz'] at ya
                  simp at ya
                · exact hn hz'
  | .dict (_ :: _ :: _), _, _, h, r => by cases h
theorem dq_reads2A {X : Cx} {pins : List (Addr × Obj)} {σ : L2.St} {H : Hp} {s : Shared} (I : Inv X pins σ H s) (hz : H sysModules = none) : ∀ (ds : List PyData) (vs : List V) (us : List Value), DqAll X.K H vs ds → Vals vs us → ∃ as, ReadsAll s.heap us ds as ∧ sysModules ∉ as
  | [], _, _, h, r => by
    cases h; cases r
    exact ⟨_, ReadsAll.nil, by simp⟩
  | d :: ds, _, _, h, r => by
    cases h with
    | cons h1 h2 =>
      cases r with
      | cons r1 r2 =>
        obtain ⟨as, q1, n1⟩ := dq_reads2 I hz d _ _ h1 r1
        obtain ⟨bs, q2, n2⟩ := dq_reads2A I hz ds _ _ h2 r2
        refine ⟨_, ReadsAll.cons q1 q2, fun z => ?_⟩
        rcases List.mem_append.mp z with z | z
        · exact n1 z
        · exact n2 z
end
def reprD (x : PyData) : Bool := x.showable && decide (x.depth ≤ 60) && decide (x.shown.length ≤ sizeLine)
def fReprD : List S → Option S
  | [s] => (asD s).bind fun x => if reprD x then some (.d (.str x.shown)) else none
  | _ => none
def rReprD (K : PySem.W.Frag) : List V → Hp → VK → Prop := fun vs H Q => ∃ v x, vs = [v] ∧ Dq K H v x ∧ reprD x = true ∧ Q (.str x.shown) H
theorem cr_reprD {X : Cx} (hG : X.A.guards = some []) (hu : X.A.units + 64 < cLine) (hsm : ∃ o, X.base.get? sysModules = some o) : CallR X (.builtin "repr") (rReprD X.K) := by
  intro pins s σ H vs us Q I r h
  obtain ⟨v, x, rfl, hx, ok, q⟩ := h
  obtain ⟨so, hso⟩ := hsm
  have hz : H sysModules = none := (I.bs _ so hso).2
  obtain ⟨u, rfl, hu'⟩ := Vals.one r
  unfold reprD at ok
  simp only [Bool.and_eq_true, decide_eq_true_eq] at ok
  obtain ⟨⟨o1, o3⟩, o4⟩ := ok
  obtain ⟨as, rd, rn⟩ := dq_reads2 I hz x _ _ hx hu'
  have ref : ∀ a, u = .ref a → wpAny (model X.prog X.w) X.A (call (.builtin "repr") [.ref a]) (EP X pins σ Q) X.xe s := fun a e => by
    subst e
    exact repr_of_reads' rd o1 (fun _ => rn) hG (by omega) (fun b o e => e) (fun h' t tk hk => ⟨.str x.shown, H, I.kept hk, ⟨_, rfl⟩, q⟩) o4
  cases rd with
  | none => exact PySem.P.repr_of_none ⟨.str _, H, I.tok _, ⟨_, rfl⟩, q⟩
  | bool b => exact PySem.P.repr_of_bool ⟨.str _, H, I.tok _, ⟨_, rfl⟩, q⟩
  | int i t => exact PySem.P.repr_of_int (of_decide_eq_true o1) ⟨.str _, H, I.tok _, ⟨_, rfl⟩, q⟩
  | str z t => exact PySem.P.repr_of_str (hsz := o4) ⟨.str _, H, I.tok _, ⟨_, rfl⟩, q⟩
  | list _ _ _ _ => exact ref _ rfl
  | tuple _ _ _ _ => exact ref _ rfl
  | dict _ _ _ _ _ => exact ref _ rfl
theorem cd_reprD {K : PySem.W.Frag} : CallD K (rReprD K) fReprD := fun T ρ H vs ss s Q k hp hg hq => by
  unfold fReprD at hg
  split at hg
  · rename_i u
    obtain ⟨v, rfl, h⟩ := paired1 hp
    cases ed : asD u with
    | none => rw [ed] at hg; cases hg
    | some x =>
      rw [ed] at hg
      simp only [Option.bind_some] at hg
      split at hg
      · rename_i ok
        cases hg
        exact ⟨v, x, rfl, at_Dq h ed, ok, postO_same hq (.str _)⟩
      · cases hg
  · cases hg
section
variable {X : Cx} {e : Expr} {es : List Expr} {pos p : Pos} {fs : AEV}
theorem de_reprD {k : Nat} (hsm : ∃ o, X.base.get? sysModules = some o) (hG : X.A.guards = some []) (hr : Room k X.A) (hm : X.mg "repr" = none) (hg : Gl X "repr") (ha : DA X (e :: es) fs) (he : starEach (e :: es) X.env = (false, eval e X.env) :: starEach es X.env := by rfl) (hpl : (backTo pos (starEach es X.env)).any (·.1) = false := by rfl) : DE X (.Call (.Name "repr" p) (e :: es) [] pos) (callB fReprD fs) :=
  de_callB (cr_reprD hG hr.units hsm) cd_reprD hg hm (by decide +kernel) ha (by decide) (by decide) he hpl
end
/-! what may be shown, dicts too -/
structure RpD (d w : Nat) (x : PyData) : Prop where
  sh : x.showable = true
  dp : x.depth ≤ d
  ln : x.shown.length ≤ w
theorem Rp.toD {d w : Nat} {x : PyData} (h : Rp d w x) : RpD d w x := ⟨h.sh, h.dp, h.ln⟩
theorem RpD.mono {d w d' w' : Nat} {x : PyData} (h : RpD d w x) (hd : d ≤ d') (hw : w ≤ w') : RpD d' w' x := ⟨h.sh, Nat.le_trans h.dp hd, Nat.le_trans h.ln hw⟩
structure RpDA (d w : Nat) (xs : List PyData) : Prop where
  sh : PyData.showableAll xs = true
  dp : PyData.depthAll xs ≤ d
  ln : piled (PyData.shownAll xs) ≤ (w + 2) * xs.length
theorem rpDA {d w : Nat} : ∀ {xs : List PyData}, (∀ x ∈ xs, RpD d w x) → RpDA d w xs
  | [], _ => ⟨rfl, Nat.zero_le _, Nat.zero_le _⟩
  | x :: xs, h => by
    have a := h x List.mem_cons_self
    have b := rpDA fun y hy => h y (List.mem_cons_of_mem _ hy)
    refine ⟨?_, ?_, ?_⟩
    · show (x.showable && PyData.showableAll xs) = true
      rw [a.sh, b.sh]; rfl
    · show max x.depth (PyData.depthAll xs) ≤ d
      exact Nat.max_le.mpr ⟨a.dp, b.dp⟩
    · show piled (x.shown :: PyData.shownAll xs) ≤ _
      rw [piled_cons, List.length_cons, Nat.mul_succ]
      have := a.ln
      have := b.ln
      omega
theorem RpD.list {d w : Nat} {xs : List PyData} (h : ∀ x ∈ xs, RpD d w x) : RpD (d + 1) ((w + 2) * xs.length + 3) (.list xs) := by
  have b := rpDA h
  refine ⟨b.sh, Nat.succ_le_succ b.dp, ?_⟩
  show (listText (PyData.shownAll xs)).length ≤ _
  unfold listText
  rw [Str.length_append]
  have h1 := text_len (PyData.shownAll xs) 0 "["
  have h2 : (("[" : String) : Str).length ≤ 1 := by decide +kernel
  have h3 : (("]" : String) : Str).length ≤ 1 := by decide +kernel
  have := b.ln
  omega
theorem RpD.tuple {d w : Nat} {xs : List PyData} (h : ∀ x ∈ xs, RpD d w x) : RpD (d + 1) ((w + 2) * xs.length + 3) (.tuple xs) := by
  have b := rpDA h
  refine ⟨b.sh, Nat.succ_le_succ b.dp, ?_⟩
  show (tupleText (PyData.shownAll xs)).length ≤ _
  unfold tupleText
  rw [Str.length_append, Str.length_append]
  have h3 : (Str.join ", " (PyData.shownAll xs)).length ≤ (w + 2) * xs.length := by
    cases xs with
    | nil => exact Nat.zero_le _
    | cons i r =>
      have e := join_length_add (PyData.shownAll (i :: r)) (by show PyData.shown i :: _ ≠ []; exact List.cons_ne_nil _ _)
      have := b.ln
      omega
  have h4 : (("(" : String) : Str).length ≤ 1 := by decide +kernel
  have h5 : ((if (PyData.shownAll xs).length == 1 then ",)" else ")" : String) : Str).length ≤ 2 := by
    split <;> decide +kernel
  omega
theorem RpD.dict1 {d w : Nat} {x : PyData} (h : RpD d w x) : RpD (d + 1) (w + 10) (.dict [(.str "a", x)]) := by
  refine ⟨?_, ?_, ?_⟩
  · show (true && x.showable && true) = true
    rw [h.sh]; rfl
  · have := h.dp
    show max 0 (max x.depth 0) + 1 ≤ d + 1
    omega
  · show (dictText [PyData.shown (.str "a") ++ ": " ++ x.shown]).length ≤ _
    unfold dictText
    have := h.ln
    have h1 : (("{" : String) : Str).length ≤ 1 := by decide +kernel
    have h2 : (("}" : String) : Str).length ≤ 1 := by decide +kernel
    have h3 : ((": " : String) : Str).length ≤ 2 := by decide +kernel
    have h4 : (PyData.shown (.str "a")).length ≤ 3 := by decide +kernel
    simp only [Str.join, Str.length_append]
    omega
theorem RpD.ok {d w : Nat} {x : PyData} (h : RpD d w x) (hd : d ≤ 60) (hw : w ≤ sizeLine) : fReprD [.d x] = some (.d (.str x.shown)) := by
  have e : reprD x = true := by
    unfold reprD
    rw [h.sh, decide_eq_true (Nat.le_trans h.dp hd), decide_eq_true (Nat.le_trans h.ln hw)]
    rfl
  show (if reprD x = true then some (S.d (.str x.shown)) else none) = _
  rw [if_pos e]
/-! ### the law's end, where the base has the modules' table -/
section
variable {P : Program} {w : World} {K : PySem.W.Frag} {mg mb : Str → Option Value} {k : Nat} {fa a : Addr} {fd : FuncData} {x : Str} {sp : Sp} {s₁ : Shared} {vs : List Value} {ns : List Int}
theorem end_coreS (H : Hp) (KX : K.In s₁.heap) (hns : s₁.heap.Ns mainGlobals mg) (hb : s₁.heap.Ns builtinsNs mb) (hbb : ∀ x : Str, x ≠ "__name__" → mb x = bootBuiltins x) (hlim : s₁.heap.NoLimit) (hg : s₁.gens = #[])
    (ha : s₁.heap.get? a = some { cls := .type "list", data := .seq vs.toArray }) (hr : Room k callerA)
    (hsm : ∃ mm, s₁.heap.Ns sysModules mm) (F : ∀ base : Heap, K.In base → base.Ns mainGlobals mg → (∃ o, base.get? sysModules = some o) → FnG P w K mg base k fa fd [x] sp) (hbind : ∀ (s : Shared) (u : Value), BindsTo s fd ⟨[u], []⟩ [(x, u)])
    (hO : L2.Only H) (hS : sp [.ref a] H (fun v _ => v = .bl true) fun _ _ _ => False) (hok : HOk P w H s₁.heap) (hA : ∀ b, H b ≠ none → b = a) (hK : H a ≠ none → K.lookup a = none) :
    codeAny (model P w) callerA (.call (.ref fa) ⟨[.ref a], []⟩) (fun r s' => r = .ok (.ret (.bool true)) ∧ OldK s₁.heap s'.heap ∧ s'.os = s₁.os ∧ AllBare s'.gens) s₁ := by
  have isA : ∀ {b : Addr} {u : HO}, H b = some u → b = a := fun {b u} q => hA b (by
    rw [q]
    exact Option.some_ne_none u)
  have dic : ∀ {b : Addr} {o : Obj} {es : Array DictEntry} {ep : Nat}, s₁.heap.get? b = some o → o.data = .dict es ep → H b = none := by
    intro b o es ep e d
    cases q : H b with
    | none => rfl
    | some u =>
      have e2 := isA q
      subst e2
      rw [ha] at e
      cases e
      cases (show Data.seq vs.toArray _ = Data.dict es ep from d)
  have nsK : ∀ {b : Addr} {m : Str → Option Value}, s₁.heap.Ns b m → (hidT s₁.heap H).Ns b m := by
    rintro b m ⟨o, es, ep, e, d, r⟩
    exact ⟨o, es, ep, hidT_get e (dic e d), d, r⟩
  have hKb : K.In (hidT s₁.heap H) := by
    intro b o e
    refine hidT_get (KX b o e) ?_
    cases q : H b with
    | none => rfl
    | some u =>
      have e2 := isA q
      subst e2
      rw [hK (by rw [q]; exact Option.some_ne_none u)] at e
      cases e
  obtain ⟨mc, l1, l2⟩ := hlim
  have hM : Mod K mg (hidT s₁.heap H) := ⟨hKb, nsK hns, ⟨mb, nsK hb, hbb⟩, mc, nsK l1, l2⟩
  have none0 : ∀ (b : Addr), b ∉ ([] : List Addr) := fun b => by simp
  have e0 : Env0 P w K mg (hidT s₁.heap H) callerA [] s₁ H :=
    ⟨rfl, hM, fun b o e => of_hidT e, Nat.le_of_eq (hidT_size _ _), trivial,
      fun b z => (none0 b z).elim, hok, .of_eq hg⟩
  have hsm2 : ∃ o, (hidT s₁.heap H).get? sysModules = some o := let ⟨_, z⟩ := hsm; let ⟨o, _, _, e, _⟩ := nsK z; ⟨o, e⟩
  have R := (F _ hKb (nsK hns) hsm2).run callerA [] s₁ H ⟨[.ref a], []⟩ [.ref a] [.ref a] _ _ rfl hr e0
    (hbind s₁ (.ref a)) (.cons rfl .nil) hS
  refine codeAny_mono R ?_
  intro r s' h
  cases r with
  | error e => exact h.elim
  | ok fl =>
    cases fl with
    | next => exact h.elim
    | brk => exact h.elim
    | cont => exact h.elim
    | ret u =>
      obtain ⟨v, H', os, bare, un, hok', rv, q⟩ := h
      cases (show v = .bl true from q)
      cases (show u = Value.bool true from rv)
      refine ⟨rfl, OldK.of_keep ?_, os, bare⟩
      intro b o e
      cases q : H b with
      | none => exact un.keep b o e q (fun z => none0 b z) (none0 b)
      | some u =>
        rcases hO b with z | ⟨ob, xs, z⟩
        · rw [q] at z
          cases z
        · have e1 := (hok b _ z).1
          have e2 := (hok' b _ (un.frzs b ob _ z)).1
          rw [e] at e1
          cases e1
          exact e2
theorem end_callS (KX : K.In s₁.heap) (hns : s₁.heap.Ns mainGlobals mg) (hb : s₁.heap.Ns builtinsNs mb) (hbb : ∀ x : Str, x ≠ "__name__" → mb x = bootBuiltins x) (hlim : s₁.heap.NoLimit) (hg : s₁.gens = #[])
    (ha : s₁.heap.get? a = some { cls := .type "list", data := .seq vs.toArray }) (hi : IntsAre vs ns) (hl : ns.length ≤ sizeLine) (hr : Room k callerA)
    (hsm : ∃ mm, s₁.heap.Ns sysModules mm) (F : ∀ base : Heap, K.In base → base.Ns mainGlobals mg → (∃ o, base.get? sysModules = some o) → FnG P w K mg base k fa fd [x] sp) (hbind : ∀ (s : Shared) (u : Value), BindsTo s fd ⟨[u], []⟩ [(x, u)])
    (hsp : ∀ H : Hp, L2.Only H → SqL K H a (ns.map V.int) → sp [.ref a] H (fun v _ => v = .bl true) fun _ _ _ => False) :
    codeAny (model P w) callerA (.call (.ref fa) ⟨[.ref a], []⟩) (fun r s' => r = .ok (.ret (.bool true)) ∧ OldK s₁.heap s'.heap ∧ s'.os = s₁.os ∧ AllBare s'.gens) s₁ := by
  have rv := vals_ints hi
  have lenV := hi.length
  cases hk : K.lookup a with
  | some o =>
    have e := KX a o hk
    rw [ha] at e
    cases e
    have hO : L2.Only fun _ => none := fun _ => .inl rfl
    have hS : SqL K (fun _ => none) a (ns.map V.int) := .inr ⟨_, vs.toArray, _, hk, rfl, rfl, rfl, by rw [List.size_toArray, lenV]; exact hl, by simpa using rv⟩
    refine end_coreS (fun _ => none) KX hns hb hbb hlim hg ha hr hsm F hbind hO (hsp _ hO hS) ?_ (fun b z => absurd rfl z) (fun z => absurd rfl z)
    intro b u z
    cases (show (none : Option HO) = some u from z)
  | none =>
    have at1 : ∀ b, b = a → (fun b => if b = a then some (HO.frz { cls := .type "list", data := .seq vs.toArray } (.lst (ns.map V.int))) else none) b = some (HO.frz { cls := .type "list", data := .seq vs.toArray } (.lst (ns.map V.int))) := fun b e => if_pos e
    have at0 : ∀ b, b ≠ a → (fun b => if b = a then some (HO.frz { cls := .type "list", data := .seq vs.toArray } (.lst (ns.map V.int))) else none) b = none := fun b e => if_neg e
    generalize hH : (fun b => if b = a then some (HO.frz { cls := .type "list", data := .seq vs.toArray } (.lst (ns.map V.int))) else none : Hp) = H at at1 at0
    have hO : L2.Only H := fun b => by
      by_cases e : b = a
      · exact .inr ⟨_, _, at1 b e⟩
      · exact .inl (at0 b e)
    refine end_coreS H KX hns hb hbb hlim hg ha hr hsm F hbind hO (hsp H hO (.inl (.inr ⟨_, at1 a rfl⟩))) ?_ ?_ fun _ => hk
    · intro b u z
      by_cases e : b = a
      · rw [at1 b e] at z
        cases z
        subst e
        refine ⟨ha, ?_, vs, _, rv, ha⟩
        rw [List.length_map]
        exact hl
      · rw [at0 b e] at z
        cases z
    · intro b z
      by_cases e : b = a
      · exact e
      · exact absurd (at0 b e) z
end
omit [TB] in
/-- the goal that the head leaves, from the law's meaning: it is True of every script -/
theorem walkS {l : PySem.W.OpenLaw} {n k : Nat} {q : Program} {loose : List Str} {XP : (Str → Option Value) → Heap → Prop} {YP : World → Heap → Prop} {d : DefRec} {K : Params → PySem.W.Frag} {x : Str} {G : FN}
    (hn : l.most = some n) (hn2 : n ≤ sizeLine) (hdf : d.params.defaults = []) (hr : Room k callerA) (himp : importsNone q = true) (hY : ∀ (w : World) (h : Heap), YP w h → (K w.params).In h)
    (F : ∀ (w : World) (mg : Str → Option Value) (fa : Addr) (h : Heap), (K w.params).In h → h.Ns mainGlobals mg → mg d.name = some (.ref fa) →
      ∃ fd : FuncData, (∀ (s : Shared) (u : Value), BindsTo s fd ⟨[u], []⟩ [(x, u)]) ∧
        ∀ base : Heap, (K w.params).In base → base.Ns mainGlobals mg → (∃ o, base.get? sysModules = some o) → FnG l.prog w (K w.params) mg base k fa fd [x] (@spF defTB (K w.params) 1 G))
    (hG : ∀ ns : List Int, ns.length ≤ n → ∃ cs, G [.z ns] = some (.d (.bool true), cs)) :
    PySem.W.WalkO q loose XP YP l.row.toRowW d [] (fun f vs => PySem.call f vs) := by
  refine Att.attach_call hn hdf fun w s₀ s₁ mg mb fa o pm cd doc a vs ns G' Y ho hd hcd hmg hobj hints hlen hg => ?_
  have KX := hY w _ Y
  obtain ⟨fd, hb, hF⟩ := F w mg fa _ KX G'.T.g hmg
  refine end_callS KX G'.T.g G'.T.b G'.T.builtins G'.T.nolimit hg hobj hints (Nat.le_trans hlen hn2) hr (let ⟨mm, z, _⟩ := (G'.T.seer himp).mods; ⟨mm, z⟩) hF hb ?_
  intro H hO hS
  obtain ⟨cs, hcs⟩ := hG ns hlen
  have he : hid [] [none] H = H := by
    funext b
    unfold hid
    rw [if_neg]
    rintro (z | z)
    · cases z
    · cases List.mem_singleton.mp z
  refine ⟨[], [none], [.z ns], _, cs, ⟨rfl, rfl, ?_, ?_, ?_, ?_, ?_, ?_, (fun p hp => by cases (show p ∈ ([] : List (Addr × Str)) from hp)), (fun p hp => by cases (show p ∈ ([] : List (Addr × Str)) from hp))⟩, rfl, hcs, ?_⟩
  · intro i s hi
    cases i with
    | zero =>
      cases (show some (some (S.z ns)) = some (some s) from hi)
      exact ⟨.ref a, rfl, a, rfl, by rw [he]; exact hS⟩
    | succ i => cases (show (none : Option (Option S)) = some (some s) from hi)
  · intro i c hi
    cases i with
    | zero => cases (show some (some (S.z ns)) = some (some (S.o c)) from hi)
    | succ i => cases (show (none : Option (Option S)) = some (some (S.o c)) from hi)
  · intro i b hi
    cases i with
    | zero => cases (show some (none : Option Addr) = some (some b) from hi)
    | succ i => cases (show (none : Option (Option Addr)) = some (some b) from hi)
  · intro i j b hi
    cases i with
    | zero => cases (show some (none : Option Addr) = some (some b) from hi)
    | succ i => cases (show (none : Option (Option Addr)) = some (some b) from hi)
  · intro i b hi
    cases i with
    | zero => cases (show some (none : Option Addr) = some (some b) from hi)
    | succ i => cases (show (none : Option (Option Addr)) = some (some b) from hi)
  · intro b hb
    cases hb
  · intro v H' _ _ hv
    cases (show Dq _ _ v (.bool true) from hv)
    rfl
end DL

namespace DL
open PySem PySem.Spec PyProof.Rows L2 DLS
variable [TB]
/-! ### numbers, truths among them -/
abbrev b2 (b : Bool) : Int := if b = true then 1 else 0
def rNum (g : Int → Int → Int) : R2 := fun x y H Q => (∃ i j, x = .int i ∧ y = .int j ∧ Q (.int (g i j)) H) ∨ (∃ b j, x = .bl b ∧ y = .int j ∧ Q (.int (g (b2 b) j)) H) ∨ (∃ i b, x = .int i ∧ y = .bl b ∧ Q (.int (g i (b2 b))) H)
def opNum (g : Int → Int → Int) (a b : S) : Option S := match a, b with
  | .d (.int i), .d (.int j) => some (.d (.int (g i j)))
  | .d (.bool b), .d (.int j) => some (.d (.int (g (b2 b) j)))
  | .d (.int i), .d (.bool b) => some (.d (.int (g i (b2 b))))
  | _, _ => none
theorem od_num {K : PySem.W.Frag} {g : Int → Int → Int} : OpD K (rNum g) (opNum g) := fun T ρ H x y a b s Q k ha hb hg hq => by
  unfold opNum at hg
  split at hg
  · rename_i i j
    cases hg
    cases (show Dq K _ x (.int i) from ha)
    cases (show Dq K _ y (.int j) from hb)
    exact .inl ⟨i, j, rfl, rfl, postO_same hq (.int _)⟩
  · rename_i c j
    cases hg
    cases (show Dq K _ x (.bool c) from ha)
    cases (show Dq K _ y (.int j) from hb)
    exact .inr (.inl ⟨c, j, rfl, rfl, postO_same hq (.int _)⟩)
  · rename_i i c
    cases hg
    cases (show Dq K _ x (.int i) from ha)
    cases (show Dq K _ y (.bool c) from hb)
    exact .inr (.inr ⟨i, c, rfl, rfl, postO_same hq (.int _)⟩)
  · cases hg
section
variable {X : Cx} {a b e : Expr} {es : List Expr} {pos p : Pos} {fp fq : PEV} {fa : AEV}
theorem or_addN : OpR X (binaryOp .Add) (rNum (· + ·)) := by
  intro pins s σ H x y v u Q I rx ry h
  rcases h with ⟨i, j, rfl, rfl, q⟩ | ⟨c, j, rfl, rfl, q⟩ | ⟨i, c, rfl, rfl, q⟩
  · obtain ⟨_, rfl⟩ := rx
    obtain ⟨_, rfl⟩ := ry
    exact PyProof.Rows.add_int ⟨.int _, H, I.tok _, ⟨_, rfl⟩, q⟩
  · cases rx
    obtain ⟨_, rfl⟩ := ry
    exact IntBool.add_bool_int ⟨.int _, H, I.tok _, ⟨_, rfl⟩, q⟩
  · obtain ⟨_, rfl⟩ := rx
    cases ry
    exact add_int_bool ⟨.int _, H, I.tok _, ⟨_, rfl⟩, q⟩
theorem or_subN : OpR X (binaryOp .Sub) (rNum (· - ·)) := by
  intro pins s σ H x y v u Q I rx ry h
  rcases h with ⟨i, j, rfl, rfl, q⟩ | ⟨c, j, rfl, rfl, q⟩ | ⟨i, c, rfl, rfl, q⟩
  · obtain ⟨_, rfl⟩ := rx
    obtain ⟨_, rfl⟩ := ry
    exact PyProof.Rows.sub_int ⟨.int _, H, I.tok _, ⟨_, rfl⟩, q⟩
  · cases rx
    obtain ⟨_, rfl⟩ := ry
    exact IntBool.sub_bool_int ⟨.int _, H, I.tok _, ⟨_, rfl⟩, q⟩
  · obtain ⟨_, rfl⟩ := rx
    cases ry
    exact IntBool.sub_int_bool ⟨.int _, H, I.tok _, ⟨_, rfl⟩, q⟩
theorem de_addN (ha : DP X a fp) (hb : DP X b fq) : DE X (.BinOp a .Add b pos) (bin (opNum (· + ·)) fp fq) := de_op or_addN od_num ha hb
theorem de_subN (ha : DP X a fp) (hb : DP X b fq) : DE X (.BinOp a .Sub b pos) (bin (opNum (· - ·)) fp fq) := de_op or_subN od_num ha hb
def strN : PyData → Option Str
  | .int i => if i.natAbs.log2 < 1920 then some (toString i) else none
  | .bool b => some (if b = true then "True" else "False")
  | _ => none
def fStrN : List S → Option S
  | [.d x] => (strN x).map fun t => .d (.str t)
  | _ => none
theorem call_strN : CallR X (.type "str") (fun xs H Q => (∃ i, xs = [.int i] ∧ i.natAbs.log2 < 1920 ∧ Q (.str (toString i)) H) ∨ ∃ b, xs = [.bl b] ∧ Q (.str (if b = true then "True" else "False")) H) := by
  intro pins s σ H xs us Q I r h
  rcases h with h | ⟨b, rfl, q⟩
  · exact call_str_int pins s σ H xs us Q I r h
  · obtain ⟨u, rfl, r1⟩ := vals1 r
    cases r1
    exact PySem.P.str_of_bool ⟨.str _, H, I.tok _, ⟨_, rfl⟩, q⟩
theorem cd_strN {K : PySem.W.Frag} : CallD K (fun xs H Q => (∃ i, xs = [.int i] ∧ i.natAbs.log2 < 1920 ∧ Q (.str (toString i)) H) ∨ ∃ b, xs = [.bl b] ∧ Q (.str (if b = true then "True" else "False")) H) fStrN := fun T ρ H vs ss s Q k hp hg hq => by
  unfold fStrN at hg
  split at hg
  · rename_i x
    obtain ⟨v, rfl, h⟩ := paired1 hp
    cases x with
    | int i =>
      have hg' : ((if i.natAbs.log2 < 1920 then some (Str.ofString (toString i)) else none).map fun t => S.d (.str t)) = some s := hg
      by_cases hl : i.natAbs.log2 < 1920
      · rw [if_pos hl] at hg'
        cases hg'
        cases (show Dq K _ v (.int i) from h)
        exact .inl ⟨i, rfl, hl, postO_same hq (.str _)⟩
      · rw [if_neg hl] at hg'
        cases hg'
    | bool b =>
      cases hg
      cases (show Dq K _ v (.bool b) from h)
      exact .inr ⟨b, rfl, postO_same hq (.str _)⟩
    | _ => cases hg
  · cases hg
theorem de_strN (hm : X.mg "str" = none) (hg : Gl X "str") (ha : DA X (e :: es) fa) (he : starEach (e :: es) X.env = (false, eval e X.env) :: starEach es X.env := by rfl) (hpl : (backTo pos (starEach es X.env)).any (·.1) = false := by rfl) : DE X (.Call (.Name "str" p) (e :: es) [] pos) (callB fStrN fa) :=
  de_callTy call_strN cd_strN hg hm (by decide +kernel) ha (by decide) (by decide) he hpl
end
/-! ### a tuple of anything != () -/
def rNeU (K : PySem.W.Frag) : R2 := fun x y H Q => ∃ xs, Dq K H x (.tuple xs) ∧ Dq K H y (.tuple []) ∧ Q (.bl (!xs.isEmpty)) H
def opNeU (a b : S) : Option S := match a, b with
  | .d (.tuple xs), .d (.tuple []) => some (.d (.bool (!xs.isEmpty)))
  | _, _ => none
section
variable {X : Cx} {a b : Expr} {pos : Pos} {fp fq : PEV} {k : Nat}
theorem dq_tup {X : Cx} {pins : List (Addr × Obj)} {σ : L2.St} {H : Hp} {s : Shared} (I : Inv X pins σ H s) {x : V} {v : Value} {xs : List PyData} (h : Dq X.K H x (.tuple xs)) (r : RelV x v) : ∃ a its, v = .ref a ∧ s.heap.IsTuple a its ∧ its.size = xs.length := by
  cases h with
  | @tup a ws _ h1 h2 =>
    cases r
    obtain ⟨its, rv, ⟨o, ho, hc, n, hd⟩, _⟩ := I.tuple (SqT.of h1)
    exact ⟨_, _, rfl, ⟨o, ho, hc, n, hd⟩, by rw [List.size_toArray, ← dpAll_len h2, rv.length]⟩
theorem or_neU (hu : X.A.units < cLine) : OpR X (compareOp .NotEq) (rNeU X.K) := by
  intro pins s σ H x y v u Q I rx ry h
  obtain ⟨xs, hx, hy, q⟩ := h
  obtain ⟨a, its, rfl, ta, la⟩ := dq_tup I hx rx
  obtain ⟨b, its2, rfl, tb, lb⟩ := dq_tup I hy ry
  have l0 : its2.size = 0 := lb
  refine PySem.SeqAt.RcNeAt.tuples (e := fun _ => true) ta tb hu (fun j h1 h2 => by omega) _ _ _ _ (fin_bl I q ?_)
  rw [l0, la]
  cases xs <;> simp
theorem od_neU {K : PySem.W.Frag} : OpD K (rNeU K) opNeU := fun T ρ H x y a b s Q k ha hb hg hq => by
  unfold opNeU at hg
  split at hg
  · rename_i xs
    cases hg
    exact ⟨xs, dpM hid_same _ (show Dq K _ x _ from ha), dpM hid_same _ (show Dq K _ y _ from hb), postO_same hq (.bl _)⟩
  · cases hg
theorem dt_neU (hr : Room k X.A) (ha : DP X a fp) (hb : DP X b fq) : DT X (.Compare a [.NotEq] [b] pos) (bl (bin opNeU fp fq)) := dt_cmp (or_neU (by have := hr.un; omega)) od_neU ha hb (nomark _)
end
end DL

namespace DL
open PySem PySem.Spec PyProof.Rows L2 DLS
variable [TB]
/-! ### things of any kind: how great, how deep, how long -/
inductive Sm (B : Nat) : PyData → Prop
  | non : Sm B .none
  | bl (b : Bool) : Sm B (.bool b)
  | int {i : Int} (h : i.natAbs ≤ B) : Sm B (.int i)
  | str (x : Str) : Sm B (.str x)
  | lst {xs : List PyData} (h : ∀ x ∈ xs, Sm B x) : Sm B (.list xs)
  | tup {xs : List PyData} (h : ∀ x ∈ xs, Sm B x) : Sm B (.tuple xs)
  | dE : Sm B (.dict [])
  | d1 {k : Str} {x : PyData} (h : Sm B x) : Sm B (.dict [(.str k, x)])
theorem Sm.mono {B B' : Nat} (hB : B ≤ B') {x : PyData} (h : Sm B x) : Sm B' x := by
  induction h with
  | non => exact .non
  | bl b => exact .bl b
  | int h => exact .int (Nat.le_trans h hB)
  | str x => exact .str x
  | lst _ ih => exact .lst ih
  | tup _ ih => exact .tup ih
  | dE => exact .dE
  | d1 _ ih => exact .d1 ih
theorem all_show : ∀ {xs : List PyData}, (∀ x ∈ xs, x.showable = true) → PyData.showableAll xs = true
  | [], _ => rfl
  | x :: xs, h => by
    show (x.showable && PyData.showableAll xs) = true
    rw [h x List.mem_cons_self, all_show fun y hy => h y (List.mem_cons_of_mem _ hy)]
    rfl
theorem Sm.show {B : Nat} (hB : B < 2 ^ 1000) {x : PyData} (h : Sm B x) : x.showable = true := by
  induction h with
  | non => rfl
  | bl b => rfl
  | int h => exact decide_eq_true (log_lt (a := 1000) (Nat.lt_of_le_of_lt h hB) (by decide) (by decide))
  | str x => rfl
  | lst _ ih => exact all_show ih
  | tup _ ih => exact all_show ih
  | dE => rfl
  | @d1 k x _ ih =>
    show (true && x.showable && true) = true
    rw [ih]; rfl
def slen (xs : List PyData) : Nat := (xs.map fun x => x.shown.length + 2).sum
theorem slen_piled : ∀ xs : List PyData, piled (PyData.shownAll xs) = slen xs
  | [] => rfl
  | x :: xs => by
    show piled (x.shown :: PyData.shownAll xs) = _
    rw [piled_cons, slen_piled xs]
    unfold slen
    rw [List.map_cons, List.sum_cons]
theorem slen_app (xs ys : List PyData) : slen (xs ++ ys) = slen xs + slen ys := by
  unfold slen
  rw [List.map_append, List.sum_append]
theorem slen_one (x : PyData) : slen [x] = x.shown.length + 2 := by
  unfold slen
  simp
theorem sum_sub {l m : List Nat} (h : l.Sublist m) : l.sum ≤ m.sum := by
  induction h with
  | slnil => exact Nat.le_refl _
  | cons a _ ih => rw [List.sum_cons]; omega
  | cons_cons a _ ih => rw [List.sum_cons, List.sum_cons]; omega
theorem slen_sub {xs ys : List PyData} (h : xs.Sublist ys) : slen xs ≤ slen ys := sum_sub (h.map _)
theorem slen_rev (xs : List PyData) : slen xs.reverse = slen xs := by
  unfold slen
  rw [List.map_reverse, List.sum_reverse]
theorem slen_len (xs : List PyData) : 2 * xs.length ≤ slen xs := by
  induction xs with
  | nil => exact Nat.le_refl _
  | cons x xs ih =>
    have : slen (x :: xs) = x.shown.length + 2 + slen xs := by
      unfold slen
      rw [List.map_cons, List.sum_cons]
    rw [this, List.length_cons]
    omega
structure It (d w B : Nat) (x : PyData) : Prop where
  sm : Sm B x
  dp : x.depth ≤ d
  ln : x.shown.length ≤ w
structure SqI (d w B : Nat) (xs : List PyData) : Prop where
  sm : ∀ x ∈ xs, Sm B x
  dp : ∀ x ∈ xs, x.depth ≤ d
  ln : slen xs ≤ w
theorem It.mono {d w B d' w' B' : Nat} {x : PyData} (h : It d w B x) (hd : d ≤ d') (hw : w ≤ w') (hB : B ≤ B') : It d' w' B' x := ⟨h.sm.mono hB, Nat.le_trans h.dp hd, Nat.le_trans h.ln hw⟩
theorem SqI.mono {d w B d' w' B' : Nat} {x : List PyData} (h : SqI d w B x) (hd : d ≤ d') (hw : w ≤ w') (hB : B ≤ B') : SqI d' w' B' x := ⟨fun y hy => (h.sm y hy).mono hB, fun y hy => Nat.le_trans (h.dp y hy) hd, Nat.le_trans h.ln hw⟩
theorem depth_all {d : Nat} : ∀ {xs : List PyData}, (∀ x ∈ xs, x.depth ≤ d) → PyData.depthAll xs ≤ d
  | [], _ => Nat.zero_le _
  | x :: xs, h => by
    show max x.depth (PyData.depthAll xs) ≤ d
    exact Nat.max_le.mpr ⟨h x List.mem_cons_self, depth_all fun y hy => h y (List.mem_cons_of_mem _ hy)⟩
theorem depth_mem {d : Nat} : ∀ {xs : List PyData}, PyData.depthAll xs ≤ d → ∀ x ∈ xs, x.depth ≤ d
  | [], _, x, hx => nomatch hx
  | y :: xs, h, x, hx => by
    have h' : max y.depth (PyData.depthAll xs) ≤ d := h
    obtain ⟨h1, h2⟩ := Nat.max_le.mp h'
    rcases List.mem_cons.mp hx with rfl | hx
    · exact h1
    · exact depth_mem h2 x hx
theorem SqI.tup {d w B : Nat} {xs : List PyData} (h : SqI d w B xs) : It (d + 1) (w + 3) B (.tuple xs) := by
  refine ⟨.tup h.sm, Nat.succ_le_succ (depth_all h.dp), ?_⟩
  show (tupleText (PyData.shownAll xs)).length ≤ _
  unfold tupleText
  rw [Str.length_append, Str.length_append]
  have hp := slen_piled xs
  have h3 : (Str.join ", " (PyData.shownAll xs)).length ≤ slen xs := by
    cases xs with
    | nil => exact Nat.zero_le _
    | cons i r =>
      have e := join_length_add (PyData.shownAll (i :: r)) (by show PyData.shown i :: _ ≠ []; exact List.cons_ne_nil _ _)
      omega
  have h4 : (("(" : String) : Str).length ≤ 1 := by decide +kernel
  have h5 : ((if (PyData.shownAll xs).length == 1 then ",)" else ")" : String) : Str).length ≤ 2 := by
    split <;> decide +kernel
  have := h.ln
  omega
theorem SqI.lst {d w B : Nat} {xs : List PyData} (h : SqI d w B xs) : It (d + 1) (w + 3) B (.list xs) := by
  refine ⟨.lst h.sm, Nat.succ_le_succ (depth_all h.dp), ?_⟩
  show (listText (PyData.shownAll xs)).length ≤ _
  unfold listText
  rw [Str.length_append]
  have hp := slen_piled xs
  have h1 := text_len (PyData.shownAll xs) 0 "["
  have h2 : (("[" : String) : Str).length ≤ 1 := by decide +kernel
  have h3 : (("]" : String) : Str).length ≤ 1 := by decide +kernel
  have := h.ln
  omega
theorem It.un {d w B : Nat} {xs : List PyData} (h : It (d + 1) w B (.tuple xs)) : SqI d (w + 2) B xs := by
  refine ⟨?_, depth_mem (Nat.le_of_succ_le_succ h.dp), ?_⟩
  · cases h.sm with
    | tup q => exact q
  · have hl := h.ln
    have hl' : (tupleText (PyData.shownAll xs)).length ≤ w := hl
    unfold tupleText at hl'
    rw [Str.length_append, Str.length_append] at hl'
    have hp := slen_piled xs
    cases xs with
    | nil => exact Nat.zero_le _
    | cons i r =>
      have e := join_length_add (PyData.shownAll (i :: r)) (by show PyData.shown i :: _ ≠ []; exact List.cons_ne_nil _ _)
      omega
theorem It.deep {d w B : Nat} {xs : List PyData} (h : It d w B (.tuple xs)) : ∃ e, d = e + 1 := by
  have : PyData.depthAll xs + 1 ≤ d := h.dp
  exact ⟨d - 1, by omega⟩
theorem SqI.sub {d w B : Nat} {xs ys : List PyData} (h : SqI d w B ys) (s : xs.Sublist ys) : SqI d w B xs := ⟨fun x hx => h.sm x (s.subset hx), fun x hx => h.dp x (s.subset hx), Nat.le_trans (slen_sub s) h.ln⟩
theorem SqI.rev {d w B : Nat} {xs : List PyData} (h : SqI d w B xs) : SqI d w B xs.reverse := ⟨fun x hx => h.sm x (List.mem_reverse.mp hx), fun x hx => h.dp x (List.mem_reverse.mp hx), by rw [slen_rev]; exact h.ln⟩
theorem SqI.app {d w u B : Nat} {xs ys : List PyData} (h : SqI d w B xs) (k : SqI d u B ys) : SqI d (w + u) B (xs ++ ys) := ⟨fun x hx => (List.mem_append.mp hx).elim (h.sm x) (k.sm x), fun x hx => (List.mem_append.mp hx).elim (h.dp x) (k.dp x), by
  rw [slen_app]
  have := h.ln
  have := k.ln
  omega⟩
theorem It.one {d w B : Nat} {x : PyData} (h : It d w B x) : SqI d (w + 2) B [x] := ⟨fun y hy => by rw [List.mem_singleton.mp hy]; exact h.sm, fun y hy => by rw [List.mem_singleton.mp hy]; exact h.dp, by
  rw [slen_one]
  have := h.ln
  omega⟩
theorem SqI.nil (d B : Nat) : SqI d 0 B [] := ⟨fun x hx => (nomatch hx), fun x hx => (nomatch hx), Nat.le_refl _⟩
theorem SqI.len {d w B : Nat} {xs : List PyData} (h : SqI d w B xs) : xs.length ≤ w := by
  have := slen_len xs
  have := h.ln
  omega
theorem shown_le {x : PyData} : ∀ {xs : List PyData}, x ∈ xs → x.shown.length + 2 ≤ slen xs
  | y :: xs, h => by
    have e : slen (y :: xs) = y.shown.length + 2 + slen xs := by
      unfold slen
      rw [List.map_cons, List.sum_cons]
    rw [e]
    rcases List.mem_cons.mp h with rfl | h
    · omega
    · have := shown_le h
      omega
theorem SqI.at {d w B : Nat} {xs : List PyData} (h : SqI d w B xs) {x : PyData} (hx : x ∈ xs) : It d w B x := ⟨h.sm x hx, h.dp x hx, by
  have := shown_le hx
  have := h.ln
  omega⟩
theorem It.ok {d w B : Nat} {x : PyData} (h : It d w B x) (hd : d ≤ 60) (hw : w ≤ 16000000) (hB : B < 2 ^ 1000) : fReprD [.d x] = some (.d (.str x.shown)) := RpD.ok (d := d) (w := w) ⟨h.sm.show hB, h.dp, h.ln⟩ hd (Nat.le_trans hw (by decide))
theorem It.rp {d w B : Nat} {x : PyData} (hs : Sm B x) (h : RpD d w x) : It d w B x := ⟨hs, h.dp, h.ln⟩
theorem shown_int : ∀ k : Fin 201, (PyData.shown (.int ((k.val : Int) - 100))).length ≤ 5 := by decide +kernel
theorem shown_str : ∀ k : Fin 201, (PyData.shown (.str (Str.ofString (toString ((k.val : Int) - 100))))).length ≤ 7 := by decide +kernel
theorem It.int {d B : Nat} {i : Int} (h : i.natAbs ≤ B) (hB : B ≤ 100) : It d 5 B (.int i) := ⟨.int h, Nat.zero_le _, by
  have := shown_int ⟨(i + 100).toNat, by omega⟩
  rw [show (((i + 100).toNat : Nat) : Int) - 100 = i by omega] at this
  exact this⟩
theorem It.strI {d B : Nat} {i : Int} (h : i.natAbs ≤ 100) : It d 7 B (.str (Str.ofString (toString i))) := ⟨.str _, Nat.zero_le _, by
  have := shown_str ⟨(i + 100).toNat, by omega⟩
  rw [show (((i + 100).toNat : Nat) : Int) - 100 = i by omega] at this
  exact this⟩
theorem It.non (d B : Nat) : It d 4 B .none := ⟨.non, Nat.zero_le _, by decide +kernel⟩
theorem It.bl (d B : Nat) (b : Bool) : It d 5 B (.bool b) := ⟨.bl b, Nat.zero_le _, by cases b <;> decide +kernel⟩
end DL

namespace DL
open PySem PySem.Spec PyProof.Rows L2 DLS
variable [TB]
/-! ### a tuple by any small number -/
def opMulTN (a b : S) : Option S := match opMulT a b with
  | some z => some z
  | none => (asI b).bind fun j => (asT a).bind fun xs => if xs ≠ [] ∧ 2 ≤ j ∧ j ≤ 1000 ∧ xs.length ≤ 1000 then some (.d (.tuple (List.replicate j.toNat xs).flatten)) else none
theorem od_mulTN {K : PySem.W.Frag} : OpD K (fun x y H Q => (rRep1 K x y H Q ∨ rRep0 K x y H Q) ∨ rRepT K x y H Q) opMulTN := fun T ρ H x y a b s Q k ha hb hg hq => by
  unfold opMulTN at hg
  split at hg
  · rename_i z hz
    cases hg
    exact .inl (od_mulT T ρ H x y a b s Q k ha hb hz hq)
  · cases e2 : asI b with
    | none => rw [e2] at hg; cases hg
    | some j =>
      rw [e2] at hg
      simp only [Option.bind_some] at hg
      cases e1 : asT a with
      | none => rw [e1] at hg; cases hg
      | some xs =>
        rw [e1] at hg
        simp only [Option.bind_some] at hg
        obtain ⟨p, vs, rfl, h1, h2⟩ := at_T ha e1
        have hb' := at_I hb e2
        split at hg
        · rename_i hj
          cases hg
          refine .inr ⟨p, j, vs, rfl, hb', SqT.of (hid_same _ _ h1), fun z => ?_, hj.2.1, hj.2.2.1, by rw [dpAll_len h2]; exact hj.2.2.2, fun n hn => postO_tup k hq (dpAll_rep h2 _) hn⟩
          subst z
          cases h2
          exact hj.1 rfl
        · cases hg
section
variable {X : Cx} {a b : Expr} {pos : Pos} {fa fb : PEV}
theorem de_mulTN (ha : DP X a fa) (hb : DP X b fb) : DE X (.BinOp a .Mult b pos) (bin opMulTN fa fb) := de_op (opr_or (opr_or op_rep1 op_rep0) op_repT) od_mulTN ha hb
end
end DL

namespace DLS
open PySem PySem.Spec PyProof.Rows L2 SrtO PySem.W
/-! ### tuples that are all empty can be sorted too -/
section
variable {prog : Program} {w : World} {A : Around} {E : Value → Shared → Prop} {s : Shared}
theorem one_lt_units {l b : Addr} {Q : Bool → Shared → Prop} (hl : IsTup s.heap l #[]) (hb : IsTup s.heap b #[]) (hu : A.units < cLine) (h : Q false s) : wpAny (model prog w) A (oneLt' true (.ref l) (.ref b)) Q E s := by
  obtain ⟨⟨cls, dd, data, sl⟩, ho, hc, n, hd⟩ := id hl
  obtain ⟨⟨cls2, dd2, data2, sl2⟩, ho2, hc2, n2, hd2⟩ := id hb
  simp only at hc hd hc2 hd2
  subst hc hd hc2 hd2
  rw [oneLt'_eq]
  simp only [if_true]
  refine wpAny_bind (wpAny_cRoomFor hu ?_)
  refine wpAny_bind (wpAny_callSpecialIfBound?_slot (T := "tuple") ⟨_, ho, rfl⟩ PySem.F.slot_tuple_lt (call_meets PySem.F.slot_tuple_lt ⟨_, ho, rfl⟩ PySem.F.entry_tuple_lt (PySem.F.args_tuple_lt_2 _ _) (HT.tuple_lt_ints l b #[] #[] n n2 dd dd2 sl sl2 [] [] .nil .nil) ⟨ho, ho2, ?_⟩))
  exact wpAny_truthy_bool h
theorem units_kind {vs : List Value} {Q : SortKind → Shared → Prop} (h2 : 0 < vs.length) (hT : ∀ v ∈ vs, ∃ a, v = .ref a ∧ IsTup s.heap a #[]) (h : Q oneType' s) : wpAny (model prog w) A (keyKind' vs.toArray) Q E s := by
  obtain ⟨v₁, rest, rfl⟩ : ∃ v₁ rest, vs = v₁ :: rest := by
    match vs, h2 with
    | v₁ :: rest, _ => exact ⟨v₁, rest, rfl⟩
  have look : ∀ v ∈ v₁ :: rest, Looks (model prog w) s.heap (typeOf v) (Value.type "tuple") := fun v hv => by
    obtain ⟨a, rfl, o, ho, hc, _⟩ := hT v hv
    show Looks _ _ (typeOf (Value.ref _)) (Value.type "tuple")
    exact hc ▸ (Looks.ld ho).andThen .now
  rw [keyKind'_eq, List.mapM_toArray, map_eq_pure_bind]
  refine wpAny_bind (wpAny_bind (kas_mapM (r := none) _ (fun v hv Q' hq => ?_) (wpAny_pure ?_)))
  · rw [kas_first_eq]
    refine wpAny_bind ((look v hv).here ?_)
    rw [if_neg (by first | decide | simp)]
    obtain ⟨a, rfl, o, ho, hc, n, hd⟩ := hT v hv
    exact wpAny_bind (listItems_at ho hd (wpAny_pure hq))
  · rw [if_neg (by simp), if_neg (by simp)]
    rw [oneTypeOnly'_eq, List.mapM_toArray, map_eq_pure_bind]
    refine wpAny_bind (wpAny_bind (wpAny_bind (kas_mapM (r := Value.type "tuple") _ (fun v hv Q' hq => (look v hv).here hq) (wpAny_pure ?_))))
    have hall : ((List.map (fun _ => Value.type "tuple") (v₁ :: rest)).toArray.all fun x => x == Value.type "tuple") = true := by
      simp only [List.all_toArray, List.all_map, List.all_eq_true]
      intro _ _
      rfl
    have h0 : (List.map (fun _ => Value.type "tuple") (v₁ :: rest)).toArray[0]? = some (Value.type "tuple") := by simp
    rw [h0]
    simp only [hall, if_true]
    exact wpAny_pure (wpAny_pure h)
theorem units_sortable (hu : A.units < cLine) {a : Addr} {vs : List Value} {k : Value → List Int} (h0 : 0 < vs.length) (hp : ∀ v ∈ vs, IsTupI s.heap v (k v) ∧ k v = []) (ha : ∀ o, s.heap.get? a = some o → o.cls ≠ .type "tuple") : SortableO prog w A s a vs fun v u => lexL (k v) (k u) := by
  intro h' keep
  have hp' : ∀ v ∈ vs, IsTupI h' v (k v) ∧ k v = [] := fun v hm => ⟨(hp v hm).1.keeps fun b o e c => keep b o (fun z => by subst z; exact ha o e c) e, (hp v hm).2⟩
  have hT : ∀ v ∈ vs, ∃ a, v = .ref a ∧ IsTup h' a #[] := fun v hv => by
    obtain ⟨⟨a, o, its, n, e, ho, hc, hd, hr⟩, hk⟩ := hp' v hv
    rw [hk] at hr
    cases hr
    exact ⟨a, e, o, ho, hc, n, hd⟩
  refine ⟨oneType', fun Q E hq => units_kind (s := { s with heap := h' }) h0 hT hq, ?_⟩
  intro p q hm hm'
  obtain ⟨x, ex, hx⟩ := hT _ hm
  obtain ⟨y, ey, hy⟩ := hT _ hm'
  show wpAny (model prog w) A (keyLt' oneType' p.1 q.1) (fun r s' => s' = { s with heap := h' } ∧ r = lexL (k p.1) (k q.1)) (fun _ _ => False) { s with heap := h' }
  rw [keyLt'_oneType, ex, ey]
  refine one_lt_units (s := { s with heap := h' }) hx hy hu ⟨rfl, ?_⟩
  rw [← ex, ← ey, (hp' _ hm).2, (hp' _ hm').2]
  rfl
end
end DLS
namespace DL
open PySem PySem.Spec PyProof.Rows L2 DLS
variable [TB]
/-! ### sorted(tuple), its members tuples of numbers -/
def rSortedTE (K : PySem.W.Frag) : List V → Hp → VK → Prop := fun vs H Q => ∃ (a : Addr) (xs : List V) (k : V → List Int), vs = [V.ref a] ∧ SqT K H a xs ∧ (∀ x ∈ xs, ∃ t, x = V.ref t ∧ H t = some (.tup ((k x).map V.int))) ∧ ((∀ x ∈ xs, k x = []) ∨ xs.length < 2 ∨ ∀ x ∈ xs, k x ≠ []) ∧
  ∀ ys p, SrtO.Srtd (fun x y => lexL (k x) (k y)) ys → SrtO.Stb (fun x y => lexL (k x) (k y)) ys xs → H p = none → Q (.ref p) (upd H p (.lst ys))
def fSortedTE : List S → Option S
  | [s] => (asT s).bind fun xs => (rowsP xs).bind fun rs => if (rs.all fun r => r.isEmpty) = true ∨ rs.length < 2 ∨ (rs.all fun r => !r.isEmpty) = true then some (.o (.l ((sortT rs).map tupI))) else none
  | _ => none
section
variable {X : Cx}
theorem cr_sortedTE (hu : X.A.units + 64 < cLine) : CallR X (.builtin "sorted") (rSortedTE X.K) := by
  intro pins s σ H vs us Q I r h
  obtain ⟨a, xs, k, rfl, hs, hx, hne, q⟩ := h
  obtain ⟨its, rv, ⟨o, ho, hc, n, hd⟩, hz⟩ := I.tuple hs
  obtain ⟨u, rfl, ru⟩ := vals1 r
  cases (show u = Value.ref a from ru)
  obtain ⟨e1, e2⟩ := refs_back rv fun x m => let ⟨t, e, _⟩ := hx x m; ⟨t, e⟩
  have each : ∀ v ∈ its, IsTupI s.heap v (k (backV v)) := fun v hv => by
    obtain ⟨t, rfl⟩ := e2 v hv
    have hm : V.ref t ∈ xs := e1 ▸ List.mem_map.mpr ⟨_, hv, rfl⟩
    obtain ⟨t', e, ht⟩ := hx _ hm
    cases e
    obtain ⟨_, its2, r2, o, ho, hc, n, hd⟩ := I.hok _ _ ht
    exact ⟨t, o, its2, n, rfl, ho, hc, hd, r2⟩
  have hlen : xs.length = its.length := rv.length
  have hz' : its.length ≤ sizeLine := by omega
  refine Calls.call_function_entry PyProof.Rows.kind_sorted PyProof.Rows.plain_sorted PyProof.Rows.entry_sorted (PyProof.Rows.args_sorted1 _) ?_
  unfold Builtin.«sorted»
  refine wpAny_bind (m := checkCount "sorted" 1 1 _) (wpAny_pure ?_)
  refine wpAny_bind (wpAny_collect_seq (A := X.A.in1) a (T := "tuple") (.inr rfl) ho hc hd (fun h' hkp => ?_) (by rw [List.size_toArray]; exact hz'))
  have I1 : Inv X pins σ H { s with heap := h', toks := s.toks } := I.kept hkp
  rw [List.toList_toArray]
  refine wpAny_bind (wpAny_newList ?_ hz')
  have hoL : (h'.push (seqObj "list" its.toArray 0)).get? h'.objs.size = some (seqObj "list" its.toArray 0) := Heap.get?_push_size _ rfl
  show wpAny _ _ _ _ _ { s with heap := h'.push (seqObj "list" its.toArray 0), toks := s.toks }
  refine wpAny_bind (wpAny_holding (wpAny_call_entry PyProof.Rows.slot_list_sort ⟨_, hoL, rfl⟩ PyProof.Rows.entry_list_sort
    (SrtO.list_sort_ord (s := { s with heap := h'.push (seqObj "list" its.toArray 0), toks := s.toks }) (swoL fun u => k (backV u)) hoL hz' (fun h2 => ?_) fun out g1 g2 => ⟨_, rfl, ?_⟩) (PyProof.Rows.args_list_sort _)))
  · have hcl : ∀ o, ({ s with heap := h'.push (seqObj "list" its.toArray 0), toks := s.toks } : Shared).heap.get? h'.objs.size = some o → o.cls ≠ .type "tuple" := fun o e => by
      have e' : some o = some (seqObj "list" its.toArray 0) := e.symm.trans hoL
      cases e'
      exact fun c => absurd (Value.type.inj c) (by decide)
    have isT : ∀ v ∈ its, IsTupI (h'.push (seqObj "list" its.toArray 0)) v (k (backV v)) := fun v hv => (each v hv).keeps fun c o e _ => Heap.get?_push_of_some _ (hkp c o e)
    have inx : ∀ v ∈ its, backV v ∈ xs := fun v hv => by
      obtain ⟨t, rfl⟩ := e2 v hv
      exact e1 ▸ List.mem_map.mpr ⟨_, hv, rfl⟩
    rcases hne with hne | hne | hne
    · exact units_sortable (s := { s with heap := h'.push (seqObj "list" its.toArray 0), toks := s.toks }) (by show X.A.units + 1 + 1 < cLine; omega) (by omega) (fun v hv => ⟨isT v hv, hne _ (inx v hv)⟩) hcl
    · omega
    · exact tups_sortable (s := { s with heap := h'.push (seqObj "list" its.toArray 0), toks := s.toks }) (by omega) (fun v hv => ⟨isT v hv, hne _ (inx v hv)⟩) hcl
  · have h3 : ∀ u ∈ out, ∃ a, u = Value.ref a := fun u hu => e2 u (g2.perm.mem_iff.mp hu)
    have hb : SrtO.Stb (fun x y => lexL (k x) (k y)) (out.map backV) xs := e1 ▸ SrtO.Stb.map (swoL k) backV g2
    obtain ⟨e', he'⟩ := PyProof.Rows.sortedHeap_at (vs := its) (out := out.toArray) hoL
    have hlen2 : (out.map backV).length ≤ sizeLine := by
      rw [List.length_map, g2.len]
      exact hz'
    refine wpAny_pure ⟨_, rfl, .ref h'.objs.size, upd H h'.objs.size (.lst (out.map backV)), I1.laid (t' := s.toks) (fun b u e => ?_) (Nat.le_refl _)
      (show ObjOk X.prog X.w _ _ _ (.lst (out.map backV)) from ⟨hlen2, out, e', vals_back h3, he'⟩), rfl, q _ _ (SrtO.srtd_map g1) hb (I1.hok.fresh (Nat.le_refl _))⟩
    have hb : b < h'.objs.size := Heap.lt_size e
    rw [PyProof.Rows.sortedHeap_old (Nat.ne_of_lt hb) (by rw [size_push']; exact Nat.lt_succ_of_lt hb)]
    exact Heap.get?_push_of_some _ e
end
theorem cd_sortedTE {K : PySem.W.Frag} : CallD K (rSortedTE K) fSortedTE := fun T ρ H vs ss s Q k hp hg hq => by
  unfold fSortedTE at hg
  split at hg
  case h_2 => cases hg
  rename_i u
  obtain ⟨v, rfl, h⟩ := paired1 hp
  cases e : asT u with
  | none => rw [e] at hg; cases hg
  | some xs =>
    rw [e] at hg
    simp only [Option.bind_some] at hg
    cases ep : rowsP xs with
    | none => rw [ep] at hg; cases hg
    | some rs =>
      rw [ep] at hg
      simp only [Option.bind_some] at hg
      split at hg
      case isFalse => cases hg
      rename_i hc
      cases hg
      obtain ⟨a, ws, rfl, h1, h2⟩ := at_T h e
      have ex := rowsP_eq ep
      subst ex
      have each : ∀ v ∈ ws, (∃ t, v = .ref t ∧ H t = some (.tup ((keyVT H v).map V.int))) ∧ Dq K (hid T ρ H) v (tupI (keyVT H v)) ∧ keyVT H v ∈ rs := fun v hv => by
        obtain ⟨d, hd, q⟩ := dqAll_mem h2 hv
        obtain ⟨r, hr, rfl⟩ := List.mem_map.mp hd
        obtain ⟨q1, q2⟩ := dq_tupI hid_same q
        rw [q1]
        exact ⟨q2, q, hr⟩
      have hlen : ws.length = rs.length := by
        have := dpAll_len h2
        rw [List.length_map] at this
        exact this
      have kws : ws.map (keyVT H) = rs := by
        apply List.ext_getElem?
        intro i
        rw [List.getElem?_map]
        cases ei : ws[i]? with
        | none =>
          have hl := List.getElem?_eq_none_iff.mp ei
          rw [List.getElem?_eq_none (by omega)]
          rfl
        | some v =>
          obtain ⟨d, e1, q⟩ := dpAll_getV h2 ei
          rw [List.getElem?_map] at e1
          cases e2 : rs[i]? with
          | none => rw [e2] at e1; cases e1
          | some r =>
            rw [e2] at e1
            cases e1
            exact congrArg some (dq_tupI hid_same q).1
      refine ⟨a, ws, keyVT H, rfl, SqT.of (hid_same _ _ h1), fun v hv => (each v hv).1, ?_, fun ys n h3 h4 hn => ?_⟩
      · rcases hc with hc | hc | hc
        · refine .inl fun v hv => ?_
          have := List.all_eq_true.mp hc _ (each v hv).2.2
          exact List.isEmpty_iff.mp this
        · exact .inr (.inl (by omega))
        · refine .inr (.inr fun v hv z => ?_)
          have := List.all_eq_true.mp hc _ (each v hv).2.2
          rw [z] at this
          cases this
      have ey : ys.map (keyVT H) = sortT rs := by
        refine perm_uniq (R := fun a b => lexL b a = false) (fun a b h1 h2 => lexL_anti a b h2 h1) ?_ ?_ (isort_sorted (fun a b => lexL_asym a b) (fun a b c => lexL_tr a b c) _)
        · have := h4.perm.map (keyVT H)
          rw [kws] at this
          exact this.trans (isort_perm rs).symm
        · exact List.pairwise_map.mpr h3
      refine hq n _ hn ⟨ys, rfl, ?_⟩
      rw [← ey, List.map_map]
      exact dqAll_of fun v hv => (each v (h4.perm.mem_iff.mp hv)).2.1
section
variable {X : Cx} {e : Expr} {es : List Expr} {pos p : Pos} {fa : AEV}
theorem de_sortedTE {j : Nat} (hr : Room j X.A) (hm : X.mg "sorted" = none) (hg : Gl X "sorted") (ha : DA X (e :: es) fa) (he : starEach (e :: es) X.env = (false, eval e X.env) :: starEach es X.env := by rfl) (hpl : (backTo pos (starEach es X.env)).any (·.1) = false := by rfl) : DE X (.Call (.Name "sorted" p) (e :: es) [] pos) (callB fSortedTE fa) :=
  de_callB (cr_sortedTE hr.units) cd_sortedTE hg hm (by decide +kernel) ha (by decide) (by decide) he hpl
end
end DL

namespace DL
open PySem PySem.Spec PyProof.Rows L2 DLS
variable [TB]
/-! ### n *= e -/
def ipMul : TIp := fun x y H Q => ∃ i j, x = .int i ∧ y = .int j ∧ (-(2 ^ 64) < j ∧ j < 2 ^ 64) ∧ Q (.int (i * j)) H
section
variable {X : Cx} {P : List Nat} {e : Expr} {pos : Pos} {fp : PEV}
theorem ip_mul : PIp X .Mult ipMul := by
  intro pins s σ H x y v u Q I r1 r2 h
  obtain ⟨i, j, e1, e2, hc, q⟩ := h
  subst e1; subst e2
  obtain ⟨t, rfl⟩ := r1
  obtain ⟨t', rfl⟩ := r2
  exact imul_int ⟨.int _, H, I.tok _, ⟨_, rfl⟩, q⟩ (show CMul i j from .inr hc).ok
def augMS (i : Nat) (f : PEV) : SEV := fun δ => match slot δ i with
  | some (.d (.int m)) => (f δ).bind fun x => match x.1 with
    | .v (.d (.int n)) => if -(2 ^ 64) < n ∧ n < 2 ^ 64 then some (.nx (x.2.set i (some (.d (.int (m * n)))))) else none
    | _ => none
  | _ => none
theorem ds_augM {i : Nat} {x : Str} {pos' : Pos} (hN : X.N.Nodup) (hi : X.N[i]? = some x) (hx : Loc X.env.scope x) (hP : i ∉ P) (he : DP X e fp) (hf : X.fn x = true ∨ X.env.scope.names.lookup x = some .local := by first | exact .inl rfl | exact .inr rfl | assumption) :
    DS X P (.AugAssign (.Name x pos') .Mult e pos) (augMS i fp) := ps_imp (ps_aug hN hi hx he ip_mul hf) fun D σ H ⟨T, ρ, δ, o, hs, hf, hq⟩ => by
  unfold augMS at hf
  split at hf
  case h_2 => cases hf
  rename_i m hm
  obtain ⟨v, v1, v2⟩ := hs.slot i _ (slot_some hm)
  cases (show Dq X.K _ v (.int m) from v2)
  cases ea : fp δ with
  | none => rw [ea] at hf; cases hf
  | some z =>
    obtain ⟨pv, δ1⟩ := z
    rw [ea] at hf
    simp only [Option.bind_some] at hf
    split at hf
    case h_2 => cases hf
    rename_i n
    split at hf
    case isFalse => cases hf
    rename_i hc
    cases hf
    refine ⟨.int m, v1, T, ρ, δ, _, δ1, hs, ea, fun ρ1 w H1 s1 x1 p1 => ?_⟩
    cases (show Dq X.K _ w (.int n) from p1)
    obtain ⟨c1, c2⟩ := s1.setD (i := i) (v := .int (m * n)) (s := .d (.int (m * n))) (Dq.int _)
    exact ⟨m, n, rfl, rfl, hc, hq _ _ _ c1 (x1.trans c2) fun j hj => List.getElem?_set_ne (fun z : i = j => hP (by rw [z]; exact hj))⟩
end
/-! ### a tuple of anything == () -/
def rEqU (K : PySem.W.Frag) : R2 := fun x y H Q => ∃ xs, Dq K H x (.tuple xs) ∧ Dq K H y (.tuple []) ∧ Q (.bl xs.isEmpty) H
def opEqU (a b : S) : Option S := match a, b with
  | .d (.tuple xs), .d (.tuple []) => some (.d (.bool xs.isEmpty))
  | _, _ => none
section
variable {X : Cx} {a b : Expr} {pos : Pos} {fp fq : PEV} {k : Nat}
theorem or_eqU (hu : X.A.units < cLine) : OpR X (compareOp .Eq) (rEqU X.K) := by
  intro pins s σ H x y v u Q I rx ry h
  obtain ⟨xs, hx, hy, q⟩ := h
  obtain ⟨a, its, rfl, ta, la⟩ := dq_tup I hx rx
  obtain ⟨b, its2, rfl, tb, lb⟩ := dq_tup I hy ry
  have l0 : its2.size = 0 := lb
  refine PySem.SeqAt.RcAt.tuples (e := fun _ => true) ta tb hu (fun j h1 h2 => by omega) _ _ _ _ (fin_bl I q ?_)
  rw [l0, la]
  cases xs <;> simp
theorem od_eqU {K : PySem.W.Frag} : OpD K (rEqU K) opEqU := fun T ρ H x y a b s Q k ha hb hg hq => by
  unfold opEqU at hg
  split at hg
  · rename_i xs
    cases hg
    exact ⟨xs, dpM hid_same _ (show Dq K _ x _ from ha), dpM hid_same _ (show Dq K _ y _ from hb), postO_same hq (.bl _)⟩
  · cases hg
theorem dt_eqU (hr : Room k X.A) (ha : DP X a fp) (hb : DP X b fq) : DT X (.Compare a [.Eq] [b] pos) (bl (bin opEqU fp fq)) := dt_cmp (or_eqU (by have := hr.un; omega)) od_eqU ha hb (nomark _)
theorem de_eqU (hr : Room k X.A) (ha : DP X a fp) (hb : DP X b fq) : DE X (.Compare a [.Eq] [b] pos) (bin opEqU fp fq) := de_cmp (or_eqU (by have := hr.un; omega)) od_eqU ha hb (nomark _)
end
end DL

namespace DL
open PySem PySem.Spec PyProof.Rows L2 DLS
variable [TB]
/-! ### x[i] as a target, x owned -/
def subG (i : Nat) (fi : PEV) : GEV := fun d δ => match slot δ i with
  | some (.o _) => (fi δ).bind fun y => match y.1, slot y.2 i with
    | .v (.d (.int k)), some (.o (.l xs)) => (ixN xs.length k).map fun j => y.2.set i (some (.o (.l (xs.set j d))))
    | _, _ => none
  | _ => none
section
variable {X : Cx}
theorem dg_sub {i : Nat} {ix : Expr} {x : Str} {opos : Pos} {fi : PEV} {spos : Pos} (p : PE X (.Name x opos) (tVar i)) (hi : DP X ix fi)
    (ha : ∀ v, assign (.Subscript (.Name x opos) ix spos) X.env v = (do
      let ov ← holding [v] (eval (.Name x opos) X.env)
      let iv ← holding [v, ov] (eval ix X.env)
      standAt spos
      holding [v, ov, iv] (setItem ov iv v)
      release [v, ov, iv] []) := by intro _; rfl) : DG X [] (.Subscript (.Name x opos) ix spos) (subG i fi) := pg_imp (pg_sub p hi set_list ha) fun v σ H Q ⟨T, ρ, δ, d, δ', hs, hd, hg, hq⟩ => by
  unfold subG at hg
  split at hg
  case h_2 => cases hg
  rename_i c0 hi1
  cases eb : fi δ with
  | none => rw [eb] at hg; cases hg
  | some y =>
    obtain ⟨pw, δ2⟩ := y
    rw [eb] at hg
    simp only [Option.bind_some] at hg
    split at hg
    case h_2 => cases hg
    rename_i k xs hsl
    cases ec : ixN xs.length k with
    | none => rw [ec] at hg; cases hg
    | some j =>
      rw [ec] at hg
      cases hg
      obtain ⟨a, ob, a1, a2, a3, a4⟩ := sim_owned hs hi1
      refine ⟨.ref a, a1, T, ρ, δ, _, δ2, hs, eb, fun ρ2 v2 H2 s2 x2 p2 => ?_⟩
      obtain ⟨b, ob2, b1, b2, b3, b4⟩ := sim_owned s2 hsl
      rw [a1] at b1
      cases b1
      obtain ⟨ws, rfl, b5⟩ := b4
      have p1' : Dq X.K (hid T ρ2 H2) v d := dpM x2.same _ hd
      have e2 : v2 = .int k := by
        have p2' : Dq X.K (hid T ρ2 H2) v2 (.int k) := p2
        cases p2'
        rfl
      refine ⟨a, ws, k, j, rfl, e2, b3, by rw [dpAll_len b5]; exact ec, ?_⟩
      obtain ⟨c1, c2⟩ := s2.write (slot_some hsl) b2 (o := .lst (ws.set j v)) (c := .l (xs.set j d)) ⟨_, rfl, dpAll_set p1' j b5⟩
      exact hq ρ2 σ _ c1 (x2.trans c2) ⟨rfl, fun _ _ => rfl⟩
end
end DL

namespace DL
open PySem PySem.Spec PyProof.Rows L2 LamX NdefX
variable [TB]
/-! ### a function with captured cells is entered -/
section
omit [TB]
theorem cellsFrom_app : ∀ (names : List (Str × NameKind)) (n : Nat) (a b : List (Str × Addr)), cellsFrom n names (a ++ b) = cellsFrom n names a ++ b
  | [], _, _, _ => rfl
  | (x, k) :: r, n, a, b => by
    unfold cellsFrom
    split
    · exact cellsFrom_app r (n + 1) ((x, n) :: a) b
    · exact cellsFrom_app r n a b
theorem cellsFrom_cl (names : List (Str × NameKind)) (n : Nat) (cl : List (Str × Addr)) : cellsFrom n names cl = cellsFrom n names [] ++ cl := cellsFrom_app names n [] cl
theorem cells_kind : ∀ {names : List (Str × NameKind)} {n : Nat} {acc : List (Str × Addr)} {x : Str} {c : Addr}, (x, c) ∈ cellsFrom n names acc → (x, c) ∈ acc ∨ (x, NameKind.cell) ∈ names
  | [], _, _, _, _, h => .inl h
  | (y, k) :: r, n, acc, x, c, h => by
    unfold cellsFrom at h
    split at h
    · rename_i hk
      have hk : k = .cell := by simpa using hk
      rcases cells_kind h with h | h
      · rcases List.mem_cons.mp h with e | h
        · cases e
          exact .inr (by rw [hk]; exact List.mem_cons_self)
        · exact .inl h
      · exact .inr (List.mem_cons_of_mem _ h)
    · rcases cells_kind h with h | h
      · exact .inl h
      · exact .inr (List.mem_cons_of_mem _ h)
/-- its names: the parameters, then the captured ones, then its blocks' -/
structure CScope (N ps fr : List Str) (sc : Scope) : Prop where
  kind : sc.kind = .function
  co : sc.isCoroutine = false
  gen : sc.isGenerator = false
  nd : N.Nodup
  pre : N.take (ps.length + fr.length) = ps ++ fr
  par : ∀ x ∈ ps, sc.names.lookup x = some .local ∨ sc.names.lookup x = some .cell
  free : ∀ y ∈ sc.names, y.2 = .free → y.1 ∈ fr
  frk : ∀ x ∈ fr, sc.names.lookup x = some .free
  uniq : ∀ y ∈ sc.names, sc.names.lookup y.1 = some y.2
def cscB (N ps fr : List Str) (sc : Scope) : Bool :=
  decide (sc.kind = .function) && !sc.isCoroutine && !sc.isGenerator && decide N.Nodup && decide (N.take (ps.length + fr.length) = ps ++ fr) && ps.all (fun x => decide (sc.names.lookup x = some .local) || decide (sc.names.lookup x = some .cell)) && sc.names.all (fun y => !decide (y.2 = .free) || decide (y.1 ∈ fr)) && fr.all (fun x => decide (sc.names.lookup x = some .free)) && sc.names.all (fun y => decide (sc.names.lookup y.1 = some y.2))
theorem cscope_by {N ps fr : List Str} {sc : Scope} (h : cscB N ps fr sc = true) : CScope N ps fr sc := by
  unfold cscB at h
  simp only [Bool.and_eq_true, Bool.not_eq_true', decide_eq_true_eq, List.all_eq_true, Bool.or_eq_true, decide_eq_false_iff_not] at h
  obtain ⟨⟨⟨⟨⟨⟨⟨⟨h1, h2⟩, h3⟩, h4⟩, h5⟩, h6⟩, h7⟩, h8⟩, h9⟩ := h
  exact ⟨h1, h2, h3, h4, h5, h6, fun y hy e => (h7 y hy).elim (fun z => absurd e z) id, h8, h9⟩
section
variable {M : Model} {A : Around} {E : Value → Shared → Prop} {s₀ s : Shared} {m cm : Str → Option Value} {env : Env} {own : List (Str × Addr)}
theorem stLC2 {n : Str} {v : Value} {Q : Unit → Shared → Prop} (x : InCallC s₀ env.locals m own cm s) (hk : env.scope.kind = .function) (hl : env.kindOf n = some .local)
    (h : ∀ s', InCallC s₀ env.locals (fun y => if y = n then some v else m y) own cm s' → Q () s') : wpAny M A (storeName env n v) Q E s := by
  refine wpAny_storeName_local hl x.toInCall.ns (fun h' hn' hs' => h _ ⟨⟨?_, hn', fun b o e => ?_, x.toInCall.fresh⟩, fun k c hc => ?_, x.apart, x.above⟩) (by rw [hk]; rfl)
  · obtain ⟨h₁, tk, rfl⟩ := x.toInCall.same
    exact ⟨h', _, rfl⟩
  · exact hs'.extBut b o (Nat.ne_of_lt (Nat.lt_of_lt_of_le (Heap.lt_size e) x.toInCall.fresh)) (x.toInCall.keep b o e)
  · exact (x.cell k c hc).sameBut hs' (Nat.ne_of_gt (x.above k c (PySem.mem_of_lookup hc)))
theorem stCC2 {n : Str} {c : Addr} {v : Value} {Q : Unit → Shared → Prop} (x : InCallC s₀ env.locals m own cm s) (hk : env.scope.kind = .function) (hl : env.kindOf n = some .cell)
    (hc : own.lookup n = some c) (hc1 : env.cells.lookup n = some c)
    (h : ∀ s', InCallC s₀ env.locals m own (fun y => if y = n then some v else cm y) s' → Q () s') : wpAny M A (storeName env n v) Q E s := by
  have hLc := x.above n c (PySem.mem_of_lookup hc)
  refine wpAny_storeName_cell hk hl hc1 (x.cell n c hc) fun h' hc' hs' => h _ ⟨⟨?_, x.toInCall.ns.sameBut hs' (Nat.ne_of_lt hLc), fun b o e => ?_, x.toInCall.fresh⟩, fun k c' hk' => ?_, x.apart, x.above⟩
  · obtain ⟨h₁, tk, rfl⟩ := x.toInCall.same
    exact ⟨h', _, rfl⟩
  · exact hs'.extBut b o (Nat.ne_of_lt (Nat.lt_trans (Nat.lt_of_lt_of_le (Heap.lt_size e) x.toInCall.fresh) hLc)) (x.toInCall.keep b o e)
  · by_cases hkn : k = n
    · subst hkn
      rw [hc] at hk'; cases hk'
      simpa using hc'
    · rw [if_neg hkn]
      exact (x.cell k c' hk').sameBut hs' fun e => hkn (name_of_addr x.apart (PySem.mem_of_lookup hk') (e ▸ PySem.mem_of_lookup hc))
theorem bindParams2 (f : Str × Value → PUnit → Sem (ForInStep PUnit)) (hf : ∀ n v u, f (n, v) u = (do storeName env n v; pure (.yield ⟨⟩))) (hk : env.scope.kind = .function) :
    ∀ (binds : List (Str × Value)) (m cm : Str → Option Value) (s : Shared) (Q : PUnit → Shared → Prop), InCallC s₀ env.locals m own cm s →
      (∀ x ∈ binds, env.kindOf x.1 = some .local ∨ (env.kindOf x.1 = some .cell ∧ ∃ c, own.lookup x.1 = some c ∧ env.cells.lookup x.1 = some c)) →
      (∀ s', InCallC s₀ env.locals (bindL env.kindOf binds m) own (bindC env.kindOf binds cm) s' → Q ⟨⟩ s') → wpAny M A (forIn binds ⟨⟩ f) Q E s
  | [], m, cm, s, Q, x, _, h => by rw [List.forIn_nil]; exact wpAny_pure (h s x)
  | (n, v) :: r, m, cm, s, Q, x, hkind, h => by
    rw [List.forIn_cons, hf]
    have hr : ∀ y ∈ r, env.kindOf y.1 = some .local ∨ (env.kindOf y.1 = some .cell ∧ ∃ c, own.lookup y.1 = some c ∧ env.cells.lookup y.1 = some c) := fun y hy => hkind y (List.mem_cons_of_mem _ hy)
    rcases hkind (n, v) List.mem_cons_self with hl | ⟨hl, c, hc, hc1⟩
    · refine wpAny_bind (wpAny_bind (stLC2 x hk hl fun s' x' => wpAny_pure (bindParams2 f hf hk r _ _ s' Q x' hr fun s'' x'' => h s'' ?_)))
      unfold bindL bindC; rw [if_pos hl, if_pos hl]; exact x''
    · have hnl : ¬ env.kindOf n = some .local := by rw [hl]; decide
      refine wpAny_bind (wpAny_bind (stCC2 x hk hl hc hc1 fun s' x' => wpAny_pure (bindParams2 f hf hk r _ _ s' Q x' hr fun s'' x'' => h s'' ?_)))
      unfold bindL bindC; rw [if_neg hnl, if_neg hnl]; exact x''
theorem newEnvCl {scope : Scope} {globals : Addr} {cl : List (Str × Addr)} {binds : List (Str × Value)} {qual : Str} {func : Option Addr} {code : Value} {builtins : Addr} {Q : Env → Shared → Prop}
    (hk : scope.kind = .function) (hkind : ∀ x ∈ binds, scope.names.lookup x.1 = some .local ∨ scope.names.lookup x.1 = some .cell)
    (hQ : ∀ env, env = newEnv scope s.heap.objs.size globals (cellsFrom (s.heap.objs.size + 1) scope.names cl) qual func code none builtins →
      ∀ s', InCallC s env.locals (bindL env.kindOf binds fun _ => none) (cellsFrom (s.heap.objs.size + 1) scope.names []) (bindC env.kindOf binds fun _ => none) s' → Q env s') :
    wpAny M A (newFunctionEnv scope globals cl binds qual func code none builtins) Q E s := by
  simp only [newFunctionEnv, Option.isSome_none, Bool.false_eq_true, if_false]
  refine wpAny_bind (wpAny_alloc ?_)
  refine wpAny_bind (wpAny_layCells _ (fun name kind cells => by cases hkc : kind == NameKind.cell <;> simp [hkc]) _ _ _ _ ?_)
  have ok := cellsFrom_ok scope.names (s.heap.push { cls := .type "frame", data := .dict #[] }) (s.heap.objs.size + 1) [] ⟨fun _ _ hm => (nomatch hm), List.Pairwise.nil⟩ (by rw [Heap.size_push]; exact Nat.le_refl _)
  rw [Heap.size_push] at ok
  rw [show ({ s with heap := s.heap.push { cls := .type "frame", data := .dict #[] } } : Shared).heap.objs.size = s.heap.objs.size + 1 from Heap.size_push ..]
  refine wpAny_bind (bindParams2 (s₀ := s) (env := newEnv scope s.heap.objs.size globals (cellsFrom (s.heap.objs.size + 1) scope.names cl) qual func code none builtins) (own := cellsFrom (s.heap.objs.size + 1) scope.names [])
    _ (fun _ _ _ => rfl) hk binds (fun _ => none) (fun _ => none) _ _
    ⟨⟨⟨_, _, rfl⟩, (Heap.Ns.new s.heap (.type "frame")).keeps (pushCells_keeps _ _), fun b o e => pushCells_keeps _ _ b o (Heap.get?_push_of_some _ e), Nat.le_refl _⟩,
      fun n c hc => (ok.empty n c (PySem.mem_of_lookup hc)).1, ok.apart, fun n c hm => (ok.empty n c hm).2⟩
    (fun x hx => ?_) fun s' x => wpAny_pure (hQ _ rfl s' x))
  rcases hkind x hx with h | h
  · exact .inl h
  · obtain ⟨c, hc⟩ := cell_has (n := s.heap.objs.size + 1) h
    refine .inr ⟨h, c, hc, ?_⟩
    show (cellsFrom (s.heap.objs.size + 1) scope.names cl).lookup x.1 = some c
    rw [cellsFrom_cl, List.lookup_append, hc]
    rfl
end
/-- the context of its body -/
def ccx (CX : CXT) (P : Program) (w : World) (K : PySem.W.Frag) (mg : Str → Option Value) (base : Heap) (N : List Str) (qual : Str) (scope : Scope) (f : Addr) (cd : Value) (cl : List (Str × Addr)) (A : Around) (outer : List Env) (s : Shared) (H : Hp) (E : XK) : Cx where
  prog := P
  w := w
  K := K
  mg := mg
  base := base
  A := A.deeper (PySem.W.envX qual scope s.heap.objs.size f cd (cellsFrom (s.heap.objs.size + 1) scope.names cl))
  N := N
  s_0 := s
  H_0 := H
  env := PySem.W.envX qual scope s.heap.objs.size f cd (cellsFrom (s.heap.objs.size + 1) scope.names cl)
  outer := outer
  stack := PySem.W.envX qual scope s.heap.objs.size f cd (cellsFrom (s.heap.objs.size + 1) scope.names cl) :: outer
  ex := []
  calm := true
  fn := fun y => scope.names.lookup y == some .cell
  pn := []
  xe := fun e s' => wpAny (model P w) (A.deeper (PySem.W.envX qual scope s.heap.objs.size f cd (cellsFrom (s.heap.objs.size + 1) scope.names cl))) (leaving (PySem.W.envX qual scope s.heap.objs.size f cd (cellsFrom (s.heap.objs.size + 1) scope.names cl)) e) (fun _ s'' => CX outer H s E e s'') (fun e' s'' => CX outer H s E e' s'') s'
theorem own_none {N ps fr : List Str} {sc : Scope} (S : CScope N ps fr sc) {n : Nat} {y : Str} (h : sc.names.lookup y ≠ some .cell) : (cellsFrom n sc.names []).lookup y = none := by
  cases e : (cellsFrom n sc.names []).lookup y with
  | none => rfl
  | some c =>
    rcases cells_kind (PySem.mem_of_lookup e) with z | z
    · cases z
    · exact absurd (S.uniq _ z) h
theorem inv_startC {CX : CXT} {P : Program} {w : World} {K : PySem.W.Frag} {mg : Str → Option Value} {base : Heap} {N ps fr : List Str} {qual : Str} {scope : Scope} {f : Addr} {cd : Value} {cl : List (Str × Addr)} {A : Around} {outer : List Env} {s s1 : Shared} {H : Hp} {E : XK} {us : List Value} {vs : List V} {ws : List (Option V)}
    (S : CScope N ps fr scope) (hd : A.handled = none) (e0 : Env0 P w K mg base A outer s H) (hl : vs.length = ps.length) (r : Vals vs us) (C : CellsAt cl fr ws s.heap H)
    (x : InCallC s s.heap.objs.size (bindL (PySem.W.envX qual scope s.heap.objs.size f cd (cellsFrom (s.heap.objs.size + 1) scope.names cl)).kindOf (ps.zip us) fun _ => none) (cellsFrom (s.heap.objs.size + 1) scope.names []) (bindC (PySem.W.envX qual scope s.heap.objs.size f cd (cellsFrom (s.heap.objs.size + 1) scope.names cl)).kindOf (ps.zip us) fun _ => none) s1) :
    Inv (ccx CX P w K mg base N qual scope f cd cl A outer s H E) [] (startF N vs ws) H s1 := by
  have hpl : ps.length + fr.length ≤ N.length := by
    have q := congrArg List.length S.pre
    rw [List.length_take, List.length_append] at q
    omega
  obtain ⟨h1, tk, rfl, hk⟩ := x.done
  have noA : ∀ b : Addr, b ∉ (ccx CX P w K mg base N qual scope f cd cl A outer s H E).ex := fun b z => absurd (show b ∈ ([] : List Addr) from z) (by simp)
  have lk : ∀ {y : Str} {c : Addr}, (cellsFrom (s.heap.objs.size + 1) scope.names cl).lookup y = some c → (cellsFrom (s.heap.objs.size + 1) scope.names []).lookup y = some c ∨ (scope.names.lookup y ≠ some .cell ∧ cl.lookup y = some c) := fun {y c} e => by
    rw [cellsFrom_cl, List.lookup_append] at e
    by_cases hc : scope.names.lookup y = some .cell
    · obtain ⟨c1, h1⟩ := cell_has (n := s.heap.objs.size + 1) hc
      rw [h1] at e
      cases e
      exact .inl h1
    · rw [own_none S hc] at e
      exact .inr ⟨hc, e⟩
  have lkC : ∀ {y : Str} {c : Addr}, (cellsFrom (s.heap.objs.size + 1) scope.names []).lookup y = some c → (cellsFrom (s.heap.objs.size + 1) scope.names cl).lookup y = some c := fun {y c} e => by
    rw [cellsFrom_cl, List.lookup_append, e]
    rfl
  have lkF : ∀ {y : Str} {c : Addr}, scope.names.lookup y = some .free → cl.lookup y = some c → (cellsFrom (s.heap.objs.size + 1) scope.names cl).lookup y = some c := fun {y c} h e => by
    rw [cellsFrom_cl, List.lookup_append, own_none S (by rw [h]; decide)]
    exact e
  have clt : ∀ {y : Str} {c : Addr}, cl.lookup y = some c → c < s.heap.objs.size := fun {y c} e => by
    obtain ⟨_, v, z⟩ := C.all y c e
    exact z.lt
  have above : ∀ {y : Str} {c : Addr}, (cellsFrom (s.heap.objs.size + 1) scope.names []).lookup y = some c → s.heap.objs.size < c := fun {y c} e => x.above y c (PySem.mem_of_lookup e)
  have cellK : ∀ {c : Addr} {v : Option Value}, s.heap.IsCell c v → h1.IsCell c v := fun {c v} ⟨o, ho, hd⟩ => ⟨o, hk _ _ ho, hd⟩
  refine ⟨⟨e0.mod, S.kind, rfl, rfl, Nat.le_refl _, fun y z c h1 h2 => ?_, fun y hy => ?_, fun y c hf h => ?_, fun _ => hd, Around.frames_deeper e0.frames, .inr ⟨rfl, rfl⟩, fun b z => absurd z (noA b), e0.bs, e0.bsz, fun b _ _ => noA b, fun b z => absurd z (noA b), e0.funs, e0.frf⟩,
    rfl, e0.bare, Un.kept hk, ⟨_, x.toInCall.ns, fun i y v e1 e2 e3 => ?_⟩, fun y c h => ?_, e0.hok.fresh (Nat.le_refl _), fun y c h => ?_, fun p hp => absurd (show p ∈ ([] : List (Addr × Obj)) from hp) (by simp), e0.hok.kept hk, ?_⟩
  · rcases lk h1 with a | ⟨_, a⟩
    · rcases lk h2 with b | ⟨_, b⟩
      · exact name_of_addr x.apart (PySem.mem_of_lookup a) (PySem.mem_of_lookup b)
      · have q1 := above a
        have q2 := clt b
        exact absurd (Nat.lt_trans q1 q2) (Nat.lt_irrefl _)
    · rcases lk h2 with b | ⟨_, b⟩
      · have q1 := above b
        have q2 := clt a
        exact absurd (Nat.lt_trans q1 q2) (Nat.lt_irrefl _)
      · exact C.inj y z c a b
  · have hy : scope.names.lookup y = some .cell ∨ scope.names.lookup y = some .free := hy
    rcases hy with hy | hy
    · obtain ⟨c, hc⟩ := cell_has (n := s.heap.objs.size + 1) hy
      exact ⟨c, lkC hc⟩
    · obtain ⟨i, hi⟩ := List.mem_iff_getElem?.mp (S.free _ (PySem.mem_of_lookup hy) rfl)
      obtain ⟨c, hc, _⟩ := C.has i y hi
      exact ⟨c, lkF hy hc⟩
  · have hf : (scope.names.lookup y == some .cell) = true := hf
    have hf : scope.names.lookup y = some .cell := by simpa using hf
    rcases lk h with a | ⟨a, _⟩
    · exact Nat.le_of_lt (above a)
    · exact absurd hf a
  · have e1 : N[i]? = some y := e1
    have clen := C.len
    unfold startF at e2
    by_cases h1' : i < ps.length
    · have hq : ps[i]? = some y := by
        have : (ps ++ fr)[i]? = some y := by
          rw [← S.pre, List.getElem?_take_of_lt (by omega)]
          exact e1
        rw [List.getElem?_append_left h1'] at this
        exact this
      rw [List.getElem?_append_left (by rw [List.length_map]; omega), List.getElem?_map] at e2
      have ha : vs[i]? = some v := by
        cases e : vs[i]? with
        | none => rw [e] at e2; cases e2
        | some a => rw [e] at e2; cases e2; rfl
      obtain ⟨u, hu, rv⟩ := r.get ha
      have ndP : ps.Nodup := by
        have q := S.nd.sublist (List.take_sublist (ps.length + fr.length) N)
        rw [S.pre] at q
        exact (List.nodup_append.mp q).1
      refine ⟨u, rv, ?_⟩
      rcases S.par y (List.mem_of_getElem? hq) with k | k
      · exact .inl ⟨k, bindL_get ndP hq hu k⟩
      · obtain ⟨c, e⟩ := cell_has (n := s.heap.objs.size + 1) k
        refine .inr ⟨.inl k, c, lkC e, ?_⟩
        have q := x.cell y c e
        rw [bindC_get ndP hq hu (by show scope.names.lookup y ≠ _; rw [k]; decide)] at q
        exact q
    · rw [List.getElem?_append_right (by rw [List.length_map]; omega), List.length_map] at e2
      by_cases h2 : i < ps.length + fr.length
      · have hq : (ps ++ fr)[i]? = some y := by
          rw [← S.pre, List.getElem?_take_of_lt (by omega)]
          exact e1
        rw [List.getElem?_append_right (by omega)] at hq
        rw [List.getElem?_append_left (by omega), hl] at e2
        obtain ⟨c, hc, hv⟩ := C.has (i - ps.length) y hq
        obtain ⟨u, ru, hu⟩ := hv v e2
        have kf := S.frk y (List.mem_of_getElem? hq)
        exact ⟨u, ru, .inr ⟨.inr kf, c, lkF kf hc, cellK hu⟩⟩
      · rw [List.getElem?_append_right (by omega), List.getElem?_replicate] at e2
        split at e2 <;> cases e2
  · rcases lk h with a | ⟨_, a⟩
    · exact ⟨_, x.cell y c a⟩
    · obtain ⟨v, z⟩ := (C.all y c a).2
      exact ⟨v, cellK z⟩
  · rcases lk h with a | ⟨_, a⟩
    · exact e0.hok.fresh (Nat.le_of_lt (above a))
    · exact (C.all y c a).1
  · have clen := C.len
    unfold startF
    show _ = N.length
    rw [List.length_append, List.length_append, List.length_map, List.length_replicate]
    omega
end
end DL

namespace DLK
open PySem PySem.Spec PyProof.Rows PySem.W L2
/-! ### an object that nobody tracks is written -/
section
variable {X : Cx} {pins : List (Addr × Obj)} {σ : L2.St} {H : Hp} {s : Shared}
theorem inv_less {pins' : List (Addr × Obj)} (I : Inv X pins σ H s) (h : ∀ p ∈ pins', p ∈ pins) : Inv X pins' σ H s := I.pins_of fun p hp => I.pin p (List.mem_append_right _ (h p hp))
theorem inv_pinUpd {p : Addr} {o o' : Obj} {h' : Heap} (I : Inv X ((p, o) :: pins) σ H s) (hp : X.s_0.heap.objs.size ≤ p) (hs : Heap.SameBut p s.heap h') (new : h'.get? p = some o') (hc : ∀ v, o'.data ≠ .cell v) (oc : ∀ v, o.data ≠ .cell v) (npin : ∀ q ∈ X.pn ++ pins, q.1 ≠ p) :
    Inv X ((p, o') :: pins) σ H { s with heap := h' } := by
  obtain ⟨e1, e2, e3, e4, e5⟩ := I.pin (p, o) (List.mem_append_right _ List.mem_cons_self)
  have nC : ∀ x c, X.env.cells.lookup x = some c → c ≠ p := fun x c e z => by
    obtain ⟨v, oo, ho, hd⟩ := I.cell x c e
    rw [z, e1] at ho
    cases ho
    exact oc _ hd
  have nH : ∀ b u, H b = some u → b ≠ p := fun b u e z => by
    rw [z] at e
    rw [e2] at e
    cases e
  have J : Inv X pins σ H { s with heap := h' } := by
    refine (inv_less I fun q hq => List.mem_cons_of_mem _ hq).step (g' := s.gens) (d' := s.drawn) (t' := s.toks) (ch := [p]) (fun b hb => ?_) (fun b o _ _ hb e _ => ?_) (fun b o _ _ hb e _ => ⟨o.slots, ?_⟩) (fun b o _ _ n => n) (fun b o hb e => ⟨o, ?_⟩) (fun b xs e => e) (fun b o u e => e) (fun b ps e => ⟨#[], by simpa using e⟩) (fun m hn => ?_) (fun b u e => ?_) I.bare
    · rw [List.mem_singleton.mp hb]
      exact ⟨.inr hp, e3, nC, npin⟩
    · exact (hs.2 b (fun z => hb (by rw [z]; exact List.mem_singleton.mpr rfl))).trans e
    · exact (hs.2 b (fun z => hb (by rw [z]; exact List.mem_singleton.mpr rfl))).trans e
    · exact (hs.2 b (fun z => hb (by rw [z]; exact List.mem_singleton.mpr rfl))).trans e
    · obtain ⟨oo, es, ep, ho, r⟩ := hn
      exact ⟨oo, es, ep, (hs.2 _ (Ne.symm e3)).trans ho, r⟩
    · refine (I.hok b u e).stay (fun c v hc q => ?_) (fun c q => q) fun c xs q => q
      refine (hs.2 c ?_).trans q
      rcases hc with rfl | hc
      · exact nH _ _ e
      · exact nH _ _ hc
  refine J.pins_of fun q hq => ?_
  rcases List.mem_cons.mp hq with rfl | hq
  · exact ⟨new, e2, e3, e4, hc⟩
  · exact J.pin q (List.mem_append_right _ hq)
/-- stable by whole numbers -/
def sortBy {α : Type} (ks : List Int) (xs : List α) : List α := ((ks.zip xs).mergeSort fun a b => decide (a.1 ≤ b.1)).map (·.2)
theorem each_vals : ∀ {out : List Value} {bs : List (Int × V)}, EachIs (fun u (b : Int × V) => RelV b.2 u) out bs → Vals (bs.map (·.2)) out
  | _, _, .nil => .nil
  | _, _, .cons h r => .cons h (each_vals r)
theorem zip_each : ∀ {xs : List V} {its : List Value} {ks : List Int}, Vals xs its → ks.length = xs.length → EachIs (fun u (b : Int × V) => RelV b.2 u) its (ks.zip xs)
  | _, _, [], .nil, _ => .nil
  | _, _, _ :: _, .nil, h => by cases h
  | _, _, [], .cons _ _, h => by cases h
  | _, _, k :: ks, .cons a b, h => .cons a (zip_each b (by simpa using h))
theorem each_ints : ∀ {us : List Value} {ks : List Int} {h : Heap}, IntsAre us ks → EachIs (fun v k => ∃ as, Reads h v k as) us (ks.map PyData.int)
  | _, _, _, .nil => .nil
  | _, _, _, .cons _ _ r => .cons ⟨[], .int _ _⟩ (each_ints r)
theorem ints_snoc {n : Int} {t : Tok} : ∀ {vs : List Value} {ns : List Int}, IntsAre vs ns → IntsAre (vs ++ [.int n t]) (ns ++ [n]) := fun h => ksk_snoc h
/-- sorted(l, key=f), f called within the running body -/
theorem sortkey_run {f l : Addr} {its : List Value} {xs : List V} {Q : VK} (I : Inv X pins σ H s) (hl : s.heap.IsList l its.toArray) (hz : its.length ≤ sizeLine) (rv : Vals xs its) (hu : X.A.units + 2 < cLine)
    (W : Nat → List Int → Hp → Prop) (w0 : W 0 [] H)
    (turn : ∀ (i : Nat) (x : V) (u : Value) (ks : List Int) (pins' : List (Addr × Obj)) (s' : Shared) (H' : Hp), xs[i]? = some x → RelV x u → Inv X pins' σ H' s' → (∀ b o, s.heap.get? b = some o → H b = none → b ∉ frs X.stack → s'.heap.get? b = some o) → W i ks H' →
      wpAny (model X.prog X.w) X.A.in1.in1 (call (.ref f) [u]) (fun r s'' => ∃ (k : Int) (t : Tok) (H'' : Hp), r = .int k t ∧ Inv X pins' σ H'' s'' ∧ (∀ b o, s'.heap.get? b = some o → H' b = none → b ∉ frs X.stack → s''.heap.get? b = some o ∧ H'' b = none) ∧ W (i + 1) (ks ++ [k]) H'') (fun _ _ => False) s')
    (fin : ∀ (ks : List Int) (H' : Hp) (p : Addr), W xs.length ks H' → ks.length = xs.length → H' p = none → Q (.ref p) (upd H' p (.lst (sortBy ks xs)))) :
    wpAny (model X.prog X.w) X.A (call (.builtin "sorted") [.ref l] [(Str.ofString "key", .ref f)]) (EP X pins σ Q) X.xe s := by
  have hxl : xs.length = its.length := rv.length
  refine sorted_of_sort hl hz (ksk_s1 _ _) (fun _ => ksk_l1 _ _) fun E' => ?_
  rw [ksk_t1]
  -- a: the copy that is sorted, kS: the keys
  have ha0 : ∀ b o, s.heap.get? b = some o → b < s.heap.objs.size + 1 := fun b o e => Nat.lt_succ_of_lt (Heap.lt_size e)
  generalize ha : s.heap.objs.size + 1 = a at ha0 ⊢
  have ca : (copyHeap s.heap its).get? a = some (seqObj "list" its.toArray 0) := by rw [← ha]; exact copyHeap_at _ _
  have cold : ∀ b o, s.heap.get? b = some o → (copyHeap s.heap its).get? b = some o := fun b o e => copyHeap_old e
  generalize copyHeap s.heap its = hc at ca cold
  obtain ⟨e1, ho1⟩ : ∃ e1, (hc.update a (Obj.mapSeq fun _ => (#[] : Array Value))).get? a = some (seqObj "list" #[] e1) := ⟨_, get?_update_seq ca fun _ => #[]⟩
  have ca2 := Heap.lt_size ca
  unfold ksk_tree
  refine wpAny_bind (listItems_at ca rfl ?_)
  refine wpAny_bind (listUpdate_at ca rfl ?_ (by rw [List.size_toArray]; exact hz) (Nat.zero_le _))
  refine wpAny_bind (seqEpoch_at ho1 rfl ?_)
  refine wpAny_bind (wpAny_newTuple ?_ (by show its.length ≤ _; exact hz))
  refine wpAny_bind (wpAny_newList ?_ (Nat.zero_le _))
  refine wpAny_holding ?_
  have sb := Heap.SameBut.update hc a (Obj.mapSeq fun _ => (#[] : Array Value))
  have hsz0 : (hc.update a (Obj.mapSeq fun _ => (#[] : Array Value))).objs.size = hc.objs.size := Heap.size_update _ _ _
  have h2old : ∀ b o, s.heap.get? b = some o → (((hc.update a (Obj.mapSeq fun _ => (#[] : Array Value))).push (seqObj "tuple" its.toArray 0)).push (seqObj "list" #[] 0)).get? b = some o := fun b o e =>
    Heap.get?_push_of_some _ (Heap.get?_push_of_some _ ((sb.2 b (Nat.ne_of_lt (ha0 b o e))).trans (cold b o e)))
  have h2a : (((hc.update a (Obj.mapSeq fun _ => (#[] : Array Value))).push (seqObj "tuple" its.toArray 0)).push (seqObj "list" #[] 0)).get? a = some (seqObj "list" #[] e1) := Heap.get?_push_of_some _ (Heap.get?_push_of_some _ ho1)
  have h2k : (((hc.update a (Obj.mapSeq fun _ => (#[] : Array Value))).push (seqObj "tuple" its.toArray 0)).push (seqObj "list" #[] 0)).get? ((hc.update a (Obj.mapSeq fun _ => (#[] : Array Value))).push (seqObj "tuple" its.toArray 0)).objs.size = some (seqObj "list" #[] 0) := Heap.get?_push_size _ rfl
  have hkS : ((hc.update a (Obj.mapSeq fun _ => (#[] : Array Value))).push (seqObj "tuple" its.toArray 0)).objs.size = hc.objs.size + 1 := by rw [size_push', hsz0]
  have hsc : s.heap.objs.size < hc.objs.size := Nat.lt_trans (by rw [← ha]; exact Nat.lt_succ_self _) ca2
  have szA : s.heap.objs.size ≤ a := by rw [← ha]; exact Nat.le_succ _
  generalize hkS' : ((hc.update a (Obj.mapSeq fun _ => (#[] : Array Value))).push (seqObj "tuple" its.toArray 0)).objs.size = kS at h2k hkS ⊢
  generalize ((hc.update a (Obj.mapSeq fun _ => (#[] : Array Value))).push (seqObj "tuple" its.toArray 0)).push (seqObj "list" #[] 0) = h2 at h2old h2a h2k ⊢
  have hka : kS ≠ a := Nat.ne_of_gt (by rw [hkS]; exact Nat.lt_succ_of_lt ca2)
  have szK : s.heap.objs.size ≤ kS := by rw [hkS]; exact Nat.le_succ_of_le (Nat.le_of_lt hsc)
  have old : ∀ b o, s.heap.get? b = some o → b ≠ a ∧ b ≠ kS := fun b o e => ⟨Nat.ne_of_lt (ha0 b o e), Nat.ne_of_lt (Nat.lt_of_lt_of_le (Heap.lt_size e) szK)⟩
  have pinlt : ∀ q ∈ X.pn ++ pins, q.1 ≠ a ∧ q.1 ≠ kS := fun q hq => old _ _ (I.pin q hq).1
  have sz0 : X.s_0.heap.objs.size ≤ s.heap.objs.size := I.sz
  have Llt := I.lt
  have I1 : Inv X pins σ H { s with heap := h2 } := I.kept (t' := s.toks) h2old
  have I2 : Inv X ((kS, seqObj "list" #[] 0) :: (a, seqObj "list" #[] e1) :: pins) σ H { s with heap := h2 } := by
    refine I1.pins_of fun q hq => ?_
    rcases List.mem_cons.mp hq with rfl | hq
    · exact ⟨h2k, I.hok.fresh szK, Nat.ne_of_gt (Nat.lt_of_lt_of_le Llt szK), I.nofs szK, fun v z => by cases z⟩
    · rcases List.mem_cons.mp hq with rfl | hq
      · exact ⟨h2a, I.hok.fresh szA, Nat.ne_of_gt (Nat.lt_of_lt_of_le Llt szA), I.nofs szA, fun v z => by cases z⟩
      · exact I1.pin q (List.mem_append_right _ hq)
  unfold ksk_rest
  refine wpAny_bind (wpAny_rule ?_)
  first
    | rw [List.forIn_toArray]
    | (rw [← Array.forIn_toList]; simp only [List.toList_toArray])
    | rw [← Array.forIn_toList]
  have frst : ∀ b ∈ frs X.stack, b < s.heap.objs.size := fun b hb => by
    rcases List.mem_cons.mp (I.stkSub _ hb) with e | e
    · rw [e]; exact Llt
    · obtain ⟨_, o, ho, _⟩ := I.ok.funs.mem e
      exact Nat.lt_of_lt_of_le (Heap.lt_size ho) sz0
  refine wpAny_bind (ksk_fold (fun i s' => ∃ (ks : List Int) (H' : Hp) (kA : Array Value) (e : Nat), Inv X ((kS, seqObj "list" kA e) :: (a, seqObj "list" #[] e1) :: pins) σ H' s' ∧ (∀ b o, s.heap.get? b = some o → H b = none → b ∉ frs X.stack → s'.heap.get? b = some o ∧ H' b = none) ∧ W i ks H' ∧ IntsAre kA.toList ks ∧ ks.length = i) its 0 { s with heap := h2 }
    ⟨[], H, #[], 0, I2, fun b o e n _ => ⟨h2old b o e, n⟩, w0, .nil, rfl⟩ ?step ?done)
  case step =>
    rintro j u s' hx ⟨ks, H', kA, e, I', kp', w', hk, hkl⟩
    simp only [Nat.zero_add] at w' hkl ⊢
    have hj : j < its.length := (List.getElem?_eq_some_iff.mp hx).1
    obtain ⟨x, hxs⟩ : ∃ x, xs[j]? = some x := ⟨_, List.getElem?_eq_getElem (by omega)⟩
    obtain ⟨u', hu', ru⟩ := rv.get hxs
    rw [hx] at hu'
    cases hu'
    refine wpAny_bind (wpAny_attempt (wpAny_mono (turn j x u ks _ s' H' hxs ru I' (fun b o q n m => (kp' b o q n m).1) w') (fun r s'' he => ?_) fun _ _ hF => hF.elim))
    obtain ⟨k, t, H'', rfl, I'', kp'', w''⟩ := he
    obtain ⟨nk, nk2, nk3, nk4, nk5⟩ := I''.pin (kS, seqObj "list" kA e) (List.mem_append_right _ List.mem_cons_self)
    have kz : kA.size = ks.length := by
      have := hk.length
      rw [Array.length_toList] at this
      exact this
    have s1 := Heap.SameBut.update s''.heap kS (Obj.mapSeq (·.push (.int k t)))
    obtain ⟨c2, hc2⟩ : ∃ c2, (s''.heap.update kS (Obj.mapSeq (·.push (.int k t)))).get? kS = some (seqObj "list" (kA.push (.int k t)) c2) := ⟨_, get?_update_seq nk (·.push (.int k t))⟩
    refine wpAny_bind (listUpdate_at nk rfl ?_ (by omega) (Nat.le_trans (Nat.le_of_eq (Array.size_push ..)) (by omega)))
    refine wpAny_pure ⟨rfl, ks ++ [k], H'', kA.push (.int k t), c2, ?_, fun b o q n m => ?_, w'', ?_, by rw [List.length_append, hkl]; rfl⟩
    · refine inv_pinUpd I'' (Nat.le_trans sz0 szK) s1 hc2 (fun v z => by cases z) (fun v z => by cases z) fun q hq => ?_
      rcases List.mem_append.mp hq with hq | hq
      · exact (pinlt q (List.mem_append_left _ hq)).2
      · rcases List.mem_cons.mp hq with rfl | hq
        · exact hka.symm
        · exact (pinlt q (List.mem_append_right _ hq)).2
    · obtain ⟨q1, q2⟩ := kp' b o q n m
      obtain ⟨r1, r2⟩ := kp'' b o q1 q2 m
      exact ⟨(s1.2 b (old b o q).2).trans r1, r2⟩
    · have ea : (kA.push (Value.int k t)).toList = kA.toList ++ [Value.int k t] := by simp
      rw [ea]
      exact ints_snoc hk
  case done =>
    rintro s' ⟨ks, H', kA, e, I', kp', w', hk, hkl⟩
    simp only [Nat.zero_add] at w' hkl
    rw [← hxl] at w' hkl
    obtain ⟨nk, nk2, nk3, nk4, nk5⟩ := I'.pin (kS, seqObj "list" kA e) (List.mem_append_right _ List.mem_cons_self)
    obtain ⟨na, na2, na3, na4, na5⟩ := I'.pin (a, seqObj "list" #[] e1) (List.mem_append_right _ (List.mem_cons_of_mem _ List.mem_cons_self))
    have kz : kA.size = ks.length := by
      have := hk.length
      rw [Array.length_toList] at this
      exact this
    refine wpAny_bind (listItems_at nk rfl ?_)
    let H1 : Hp := fun b => if b = kS then some (.lst []) else none
    have kp : KeepsBut a (hidT s'.heap H1) s'.heap := fun b o _ q => (of_hidT q).1
    have hk1 : (hidT s'.heap H1).get? kS = none := by
      cases q : (hidT s'.heap H1).get? kS with
      | none => rfl
      | some o =>
        have := (of_hidT q).2
        have h9 : H1 kS = some (.lst []) := if_pos rfl
        rw [h9] at this
        cases this
    have hal : AllAlike (ks.map PyData.int) := fun d hd d' hd' => by
      obtain ⟨i, _, rfl⟩ := List.mem_map.mp hd
      obtain ⟨j, _, rfl⟩ := List.mem_map.mp hd'
      rfl
    have hsk : Sortable (ks.map PyData.int) := Sortable.others fun b => ⟨(fun z => by cases z), (fun xs z => by cases z)⟩
    have hek : EachIs (fun v k => ∃ as, Reads s'.heap v k as) kA.toList (ks.map PyData.int) := each_ints hk
    refine keyH_end (κ := dataKind s'.heap (ks.map PyData.int)) (h₁ := hidT s'.heap H1) kp hk1 nk na hka (SortsAt.data (s := s') hek hal hsk (fun d hd => by
      obtain ⟨i, _, rfl⟩ := List.mem_map.mp hd
      show X.A.units + 1 + 1 + 0 < cLine
      omega)) (by omega) hz fun h3 tk3 c k3 n3 => ⟨rfl, ?_⟩
    have ko : KeyedOut false (ks.map PyData.int) its (sortVals (dataKind s'.heap (ks.map PyData.int)) false kA.toList its) := ⟨s'.heap, kA.toList, hal, rfl, hek⟩
    have ko' : KeyedOut false ((ks.zip xs).map fun b => PyData.int b.1) its (sortVals (dataKind s'.heap (ks.map PyData.int)) false kA.toList its) := by
      have e : (ks.zip xs).map (fun b => PyData.int b.1) = ks.map PyData.int := by
        have : (ks.zip xs).map Prod.fst = ks := List.map_fst_zip (by omega)
        rw [show (fun b : Int × V => PyData.int b.1) = PyData.int ∘ Prod.fst from rfl, ← List.map_map, this]
      rw [e]
      exact ko
    have eo := each_vals (keyedOut_each (fun b : Int × V => PyData.int b.1) ko' (zip_each rv hkl))
    rw [dataLe_int (fun b : Int × V => b.1)] at eo
    have keep3 : ∀ b o, b ≠ a → b ≠ kS → s'.heap.get? b = some o → h3.get? b = some o := fun b o h1 h2 q => k3 b o h1 (hidT_get q (if_neg h2))
    have nC : ∀ x c, X.env.cells.lookup x = some c → c ≠ a ∧ c ≠ kS := fun x c e => by
      obtain ⟨v, oo, ho, hd⟩ := I'.cell x c e
      refine ⟨fun z => ?_, fun z => ?_⟩
      · rw [z, na] at ho; cases ho; cases hd
      · rw [z, nk] at ho; cases ho; cases hd
    have nH : ∀ b u, H' b = some u → b ≠ a ∧ b ≠ kS := fun b u e => ⟨(fun z => by rw [z, na2] at e; cases e), (fun z => by rw [z, nk2] at e; cases e)⟩
    have slen : (sortBy ks xs).length ≤ sizeLine := by
      unfold sortBy
      rw [List.length_map, List.length_mergeSort, List.length_zip]
      omega
    have J : Inv X pins σ (upd H' a (.lst (sortBy ks xs))) { s' with heap := h3, toks := tk3 } := by
      refine (inv_less I' fun q hq => List.mem_cons_of_mem _ (List.mem_cons_of_mem _ hq)).step (g' := s'.gens) (d' := s'.drawn) (t' := tk3) (ch := [a, kS]) (fun b hb => ?_) (fun b o _ _ hb e _ => ?_) (fun b o _ _ hb e _ => ⟨o.slots, ?_⟩) (fun b o hb _ n => ?_) (fun b o hb e => ⟨o, ?_⟩) (fun b xs e => ?_) (fun b o u e => ?_) (fun b ps e => ⟨#[], ?_⟩) (fun m hn => ?_) (fun b u e => ?_) I'.bare
      · rcases List.mem_cons.mp hb with rfl | hb
        · exact ⟨.inr (Nat.le_trans sz0 szA), na3, fun x c e => (nC x c e).1, fun q hq => (pinlt q hq).1⟩
        · rw [List.mem_singleton.mp hb]
          exact ⟨.inr (Nat.le_trans sz0 szK), nk3, fun x c e => (nC x c e).2, fun q hq => (pinlt q hq).2⟩
      · exact keep3 b o (fun z => hb (by rw [z]; exact List.mem_cons_self)) (fun z => hb (by rw [z]; exact List.mem_cons_of_mem _ (List.mem_singleton.mpr rfl))) e
      · exact keep3 b o (fun z => hb (by rw [z]; exact List.mem_cons_self)) (fun z => hb (by rw [z]; exact List.mem_cons_of_mem _ (List.mem_singleton.mpr rfl))) e
      · rw [upd_ne (fun z => hb (by rw [z]; exact List.mem_cons_self))]
        exact n
      · exact keep3 b o (fun z => hb (by rw [z]; exact List.mem_cons_self)) (fun z => hb (by rw [z]; exact List.mem_cons_of_mem _ (List.mem_singleton.mpr rfl))) e
      · rw [upd_ne (nH _ _ e).1]; exact e
      · rw [upd_ne (nH _ _ e).1]; exact e
      · rw [upd_ne (nH _ _ e).1]; simpa using e
      · obtain ⟨oo, es, ep, ho, r⟩ := hn
        exact ⟨oo, es, ep, keep3 _ _ (Ne.symm na3) (Ne.symm nk3) ho, r⟩
      · by_cases hb : b = a
        · subst hb
          rw [upd_same] at e
          cases e
          exact ⟨slen, _, c, eo, n3⟩
        · rw [upd_ne hb] at e
          refine (I'.hok b u e).stay (fun d v hd q => ?_) (fun d q => ?_) fun d xs q => ?_
          · rcases hd with rfl | hd
            · exact keep3 _ _ hb (nH _ _ e).2 q
            · exact keep3 _ _ (nH _ _ hd).1 (nH _ _ hd).2 q
          · rw [upd_ne (nH _ _ q).1]; exact q
          · rw [upd_ne (nH _ _ q).1]; exact q
    exact ⟨.ref a, _, J, rfl, fin ks H' a w' hkl na2⟩
end
end DLK

namespace DL
open PySem PySem.Spec PyProof.Rows L2
variable [TB]
/-! ### a promise, as what the body's meaning must bring -/
theorem spF_lift {K : PySem.W.Frag} {N : List Str} {m : Nat} {P : List Nat} {body : SEV} {vs : List V} {H : Hp} {Q : VK} {E : XK} (h : spF K m (runF P N.length body) vs H Q E) : liftS K P body { nx := fun _ H' => Q .non H', rt := Q } (L2.start N vs) H := by
  obtain ⟨T, as, ss, r, cs, hs, hl, hF, hq⟩ := h
  have hvl : vs.length = ss.length := by have := hs.slen; simpa using this
  have hst := hs.start (N.length - ss.length)
  unfold runF at hF
  cases eb : body (ss.map some ++ List.replicate (N.length - ss.length) none) with
  | none => rw [eb] at hF; cases hF
  | some o =>
    rw [eb] at hF
    have hst' : Sim K T (as ++ List.replicate (N.length - ss.length) none) (ss.map some ++ List.replicate (N.length - ss.length) none) (L2.start N vs) H := by
      unfold L2.start
      rw [hvl]
      exact hst
    refine ⟨T, _, _, o, hst', eb, ?_⟩
    -- what stands at the end
    have fin : ∀ (δ : Ds), ownC P 0 ss δ = some cs → ∀ (ρ' : List (Option Addr)) (σ' : L2.St) (H' : Hp), Sim K T ρ' δ σ' H' → Ext T (as ++ List.replicate (N.length - ss.length) none) H ρ' H' → Keep P (L2.start N vs) σ' →
        Same (hid T ρ' H') (hid T as H') ∧ Own K T as H' cs ∧ Ext T as H as H' := by
      intro δ hc ρ' σ' H' s1 x1 k1
      have each : ∀ (j : Nat) (a : Addr), as[j]? = some (some a) → ∃ c, ρ'[j]? = some (some a) ∧ δ[j]? = some (some (.o c)) ∧ cs[j]? = some (some c) := by
        intro j a hj
        obtain ⟨c0, hc0⟩ := hs.own' j a hj
        have hc1 : ss[j]? = some (.o c0) := by
          rw [List.getElem?_map] at hc0
          cases e : ss[j]? with
          | none => rw [e] at hc0; cases hc0
          | some z => rw [e] at hc0; cases hc0; rfl
        obtain ⟨hP, c, e1, e2⟩ := ownC_spec hc j c0 hc1
        obtain ⟨b, f1, f2⟩ := s1.own j c e1
        obtain ⟨a', g1, g2⟩ := hst'.own j c0 (get_app' hc0)
        rw [get_app' hj] at g1
        cases g1
        have := k1 j (by simpa using hP)
        rw [f2, g2] at this
        cases this
        exact ⟨c, f1, e1, e2⟩
      have hl : Same (hid T ρ' H') (hid T as H') := hid_less fun b hb => hb.elim .inl fun z => .inr (by
        obtain ⟨j, hj⟩ := mem_ix z
        obtain ⟨c, h1, _⟩ := each j b hj
        exact ix_mem h1)
      refine ⟨hl, fun j a hj => ?_, ?_, x1.tmp, x1.tabs⟩
      · obtain ⟨c, h1, h2, h3⟩ := each j a hj
        obtain ⟨v, e1, e2⟩ := s1.slot j _ h2
        obtain ⟨b, f1, f2⟩ := s1.own j c h2
        rw [h1] at f1
        cases f1
        rw [f2] at e1
        cases e1
        obtain ⟨b, o, z, z1, z2⟩ := e2
        cases z
        exact ⟨c, o, h3, z1, coM hl z2⟩
      · have := x1.same
        rw [hid_app] at this
        exact this.trans hl
    cases o with
    | bk δ => cases hF
    | ct δ => cases hF
    | nx δ =>
      have hF' : (ownC P 0 ss δ).map (fun cs => (S.d .none, cs)) = some (r, cs) := hF
      cases e : ownC P 0 ss δ with
      | none => rw [e] at hF'; cases hF'
      | some cs' =>
        rw [e] at hF'
        cases hF'
        intro ρ' σ' H' s1 x1 k1
        obtain ⟨a, b, c⟩ := fin δ e ρ' σ' H' s1 x1 k1
        exact hq _ H' b c .non
    | rt u δ =>
      have hF' : (ownC P 0 ss δ).map (fun cs => (u, cs)) = some (r, cs) := hF
      cases e : ownC P 0 ss δ with
      | none => rw [e] at hF'; cases hF'
      | some cs' =>
        rw [e] at hF'
        cases u with
        | o z =>
          cases hF'
          intro ρ' σ' p H0 o s1 x1 k1 hp hc
          obtain ⟨a, b, c⟩ := fin δ e ρ' σ' H0 s1 x1 k1
          exact hq p H0 o b c hp (coM a hc)
        | d z =>
          cases hF'
          intro ρ' σ' v H' s1 x1 k1 hv
          obtain ⟨a, b, c⟩ := fin δ e ρ' σ' H' s1 x1 k1
          exact hq v H' b c (svM (s := .d z) a hv)
        | t z =>
          cases hF'
          intro ρ' σ' v H' s1 x1 k1 hv
          obtain ⟨a, b, c⟩ := fin δ e ρ' σ' H' s1 x1 k1
          exact hq v H' b c (svM (s := .t z) a hv)
        | z z =>
          cases hF'
          intro ρ' σ' v H' s1 x1 k1 hv
          obtain ⟨a, b, c⟩ := fin δ e ρ' σ' H' s1 x1 k1
          exact hq v H' b c (svM (s := .z z) a hv)
        | p z =>
          cases hF'
          intro ρ' σ' v H' s1 x1 k1 hv
          obtain ⟨a, b, c⟩ := fin δ e ρ' σ' H' s1 x1 k1
          exact hq v H' b c (svM (s := .p z) a hv)
theorem lift_ret {K : PySem.W.Frag} {f : EV} {D : Ends} {σ : L2.St} {H : Hp} (h : liftS K [] (retS f) D σ H) : lift K f σ H D.rt := by
  obtain ⟨T, ρ, δ, o, hs, hf, hq⟩ := h
  unfold retS at hf
  cases ea : f δ with
  | none => rw [ea] at hf; cases hf
  | some x =>
    rw [ea] at hf
    cases hf
    exact ⟨T, ρ, δ, x.1, x.2, hs, by rw [ea], post_mk hq⟩
open NdefX LamX in
/-- a lambda is called -/
theorem lam_run {Pr : Program} {w : World} {K : PySem.W.Frag} {mg : Str → Option Value} {base : Heap} {N ps fr : List Str} {qual : Str} {params : Arguments} {body : Expr} {scope : Scope} {f c' : Addr} {cl : List (Str × Addr)} {pm ctv : Value} {k : Nat} {fE : EV} {A : Around} {outer : List Env} {s : Shared} {H : Hp} {us : List Value} {vs ws : List V} {Q : VK}
    (S : CScope N ps fr scope) (hbind : bindArgs (PySem.W.kla_fn "<lambda>" qual params body scope cl pm (.ref c') ctv) ⟨us, []⟩ = pure (ps.zip us))
    (hbody : Room k (A.deeper (PySem.W.envX qual scope s.heap.objs.size f (.ref c') (cellsFrom (s.heap.objs.size + 1) scope.names cl))) → DE (ccx CX0 Pr w K mg base N qual scope f (.ref c') cl A outer s H E0) body fE)
    (hr : Room (k + 1) A) (e0 : Env0 Pr w K mg base A outer s H) (ho : s.heap.get? f = some (PySem.W.kla_obj "<lambda>" qual params body scope cl pm c' ctv))
    (hc : s.heap.CodeRec (.ref c') qual) (C : CellsAt cl fr (ws.map some) s.heap H) (r : Vals vs us) (hl : vs.length = ps.length)
    (h : spF K (ps.length + fr.length) (runF [] N.length (retS fE)) (vs ++ ws) H Q E0) :
    codeAny (model Pr w) A (.call (.ref f) ⟨us, []⟩) (CR CX0 outer Pr w H s Q E0) s := by
  have lim : s.heap.NoLimit := e0.mod.nolimit.keeps fun b o e => (e0.bs b o e).1
  refine PySem.W.kla_callFunE hr.depth ho rfl S.co S.gen rfl hc ?_
  rw [hbind]
  refine wpAny_pure (newEnvCl S.kind (fun ⟨n, _⟩ hy => S.par n (List.of_mem_zip hy).1) fun env he s1 x => ?_)
  subst he
  refine ⟨lim.keeps x.toInCall.keep, ?_⟩
  refine PySem.W.kla_codeExpr ?_
  have I := inv_startC (CX := CX0) (E := E0) S hr.hd e0 hl r C x
  have L := lift_ret (spF_lift h)
  have e : startF N vs (ws.map some) = L2.start N (vs ++ ws) := by
    unfold startF L2.start
    rw [List.map_append, List.append_assoc, List.length_append, List.length_map, Nat.sub_sub]
  rw [e] at I
  refine wpAny_mono ((hbody (hr.deeper _)).run [] s1 _ H _ I L) (fun v s' hq => ?_) fun e s' hq => hq
  obtain ⟨v', H', J, rv, q⟩ := hq
  exact ⟨v', H', J.os, J.bare, J.base, J.hok, rv, q⟩
section
variable {K : PySem.W.Frag} {T : List Addr} {ρ : List (Option Addr)} {δ : Ds} {σ : L2.St} {H : Hp}
theorem in_all {b : Addr} : b ∈ T ++ ρ.filterMap id ↔ (b ∈ T ∨ some b ∈ ρ) := by
  rw [List.mem_append]
  constructor
  · rintro (h | h)
    · exact .inl h
    · obtain ⟨z, hz, e⟩ := List.mem_filterMap.mp h
      have e' : z = some b := e
      rw [e'] at hz
      exact .inr hz
  · rintro (h | h)
    · exact .inl h
    · exact .inr (List.mem_filterMap.mpr ⟨some b, h, rfl⟩)
theorem hid_all {n : Nat} : hid (T ++ ρ.filterMap id) (List.replicate n none) H = hid T ρ H := by
  funext b
  unfold hid
  have e : (b ∈ T ++ ρ.filterMap id ∨ some b ∈ List.replicate n (none : Option Addr)) ↔ (b ∈ T ∨ some b ∈ ρ) := by
    rw [in_all]
    constructor
    · rintro (h | h)
      · exact h
      · cases (List.mem_replicate.mp h).2
    · exact .inl
  simp only [e]
/-- nothing but data is handed on -/
theorem Sim.args (s : Sim K T ρ δ σ H) {vs : List V} {ss : List S} (h : Paired (SV K (hid T ρ H)) vs ss) : Sim K (T ++ ρ.filterMap id) (List.replicate ss.length none) (ss.map some) (vs.map some) H := by
  have no : ∀ {i : Nat} {a : Addr}, (List.replicate ss.length (none : Option Addr))[i]? = some (some a) → False := fun {i a} e => by
    rw [List.getElem?_replicate] at e
    split at e <;> cases e
  refine ⟨by simp, by simp [Paired.length h], fun i u hi => ?_, fun i c hi => ?_, fun i a hi => (no hi).elim, fun i j a hi => (no hi).elim, fun i a hi => (no hi).elim, fun a ha => ?_, fun p hp => List.mem_append_left _ (s.tabT p hp), s.tabs⟩
  · rw [List.getElem?_map] at hi
    cases e : ss[i]? with
    | none => rw [e] at hi; cases hi
    | some u' =>
      rw [e] at hi
      cases hi
      obtain ⟨v, a, b⟩ := paired_get h i u e
      exact ⟨v, by rw [List.getElem?_map, a]; rfl, at_hid hid_all.symm (sv_at b)⟩
  · rw [List.getElem?_map] at hi
    cases e : ss[i]? with
    | none => rw [e] at hi; cases hi
    | some u' =>
      rw [e] at hi
      cases hi
      obtain ⟨v, a, b⟩ := paired_get h i _ e
      exact b.elim
  · exact (in_all.mp ha).elim (s.tmp a) (s.trk.own a)
theorem Sim.argsBack (s : Sim K T ρ δ σ H) {n : Nat} {H' : Hp} (x : Ext (T ++ ρ.filterMap id) (List.replicate n none) H (List.replicate n none) H') : Sim K T ρ δ σ H' ∧ Ext T ρ H ρ H' := by
  have sm : Same (hid T ρ H) (hid T ρ H') := by
    have := x.same
    rw [hid_all, hid_all] at this
    exact this
  refine ⟨s.keep sm (fun a ha => x.tmp a (in_all.mpr ha)) (x.tabs s.tabs), sm, fun a ha => x.tmp a (in_all.mpr (.inl ha)), x.tabs⟩
end
/-! ### what a lambda reads of the def that makes it -/
def frzS : Ds → List Nat → Ds
  | δ, [] => δ
  | δ, i :: is => match slot δ i with
    | some (.o c) => frzS (δ.set i (some (frz (.o c)))) is
    | _ => frzS δ is
def capD (δ : Ds) : List Nat → Option (List S)
  | [] => some []
  | i :: is => match slot δ i with
    | some (.o _) => none
    | some s => (capD δ is).map (s :: ·)
    | none => none
theorem Sim.frzS {K : PySem.W.Frag} {T : List Addr} {σ : L2.St} {H : Hp} : ∀ {is : List Nat} {ρ : List (Option Addr)} {δ : Ds}, Sim K T ρ δ σ H → ∃ ρ', Sim K T ρ' (DL.frzS δ is) σ H ∧ Ext T ρ H ρ' H
  | [], ρ, δ, s => ⟨ρ, s, .refl⟩
  | i :: is, ρ, δ, s => by
    unfold DL.frzS
    split
    · rename_i c hc
      obtain ⟨s1, x1, _⟩ := s.freeze (slot_some hc)
      obtain ⟨ρ', s2, x2⟩ := Sim.frzS (is := is) s1
      exact ⟨ρ', s2, x1.trans x2⟩
    · exact Sim.frzS s
theorem capD_at {K : PySem.W.Frag} {T : List Addr} {ρ : List (Option Addr)} {δ : Ds} {σ : L2.St} {H : Hp} (s : Sim K T ρ δ σ H) : ∀ {is : List Nat} {cs : List S}, capD δ is = some cs → ∃ ws : List V, is.map (NdefX.slotAt σ) = ws.map some ∧ Paired (SV K (hid T ρ H)) ws cs
  | [], cs, h => by
    cases h
    exact ⟨[], rfl, .nil⟩
  | i :: is, cs, h => by
    unfold capD at h
    split at h
    · cases h
    · rename_i u hno hu
      cases e : capD δ is with
      | none => rw [e] at h; cases h
      | some r =>
        rw [e] at h
        cases h
        obtain ⟨ws, e1, e2⟩ := capD_at s e
        obtain ⟨v, f1, f2⟩ := s.slot i u (slot_some hu)
        refine ⟨v :: ws, by rw [List.map_cons, List.map_cons, e1, NdefX.slotAt_of f1], .cons ?_ e2⟩
        cases u with
        | o c => exact (hno c rfl).elim
        | d x => exact f2
        | t x => exact f2
        | z x => exact f2
        | p x => exact f2
    · cases h
end DL

namespace DL
open PySem PySem.Spec PyProof.Rows L2 LamX NdefX
variable [TB]
/-! ### a lambda is made -/
section
variable {X : Cx} {pins : List (Addr × Obj)} {σ : L2.St} {H : Hp} {s : Shared}
/-- the lambda is made: its code object is new, or found in the table; all but the table stays -/
theorem lam_make3 {T : List (Addr × Str)} {c P : Addr} {params : Arguments} {body : Expr} {scope : Scope} {pos : Pos} {E : Value → Shared → Prop} {Q : Value → Shared → Prop} (I : Inv X pins σ H s) (TB : TabB X.base X.mg c P) (hcode : X.env.code = .ref c)
    (hm : (P, X.env.qual ++ "<lambda>") ∈ T) (hu : ∀ p ∈ T, p.1 = P → p.2 = X.env.qual ++ "<lambda>") (hT : Tabs T H) (hdef : defaultsOf params X.env = ([], [])) (hfree : ∀ y ∈ scope.names, y.2 = .free → ∃ c, X.env.cells.lookup y.1 = some c)
    (h : ∀ (f c' : Addr) (pm ctv : Value) (H1 : Hp) (s' : Shared), Inv X pins σ H1 s' → (∀ b o, b ≠ P → H b = some o → H1 b = some o) → (∃ ps, H1 P = some (.tbl ps)) → Tabs T H1 →
      s'.heap.get? f = some (PySem.W.kla_obj "<lambda>" (X.env.qual ++ "<lambda>") params body scope (cloFrom X.env.cells scope.names []) pm c' ctv) → H1 f = none → f ∉ frs X.stack → H1 c' = some (CodeO c' (X.env.qual ++ "<lambda>")) → Q (.ref f) s') :
    wpAny (model X.prog X.w) X.A (eval (.Lambda params body scope pos) X.env) Q E s := by
  obtain ⟨ps, hP, ht, ha⟩ := hT _ hm
  refine PySem.W.kla_eval hdef ?_
  have bP : s.heap.BuiltinsAt X.mg P := TB.bm.keeps I.bk
  have hP' : s.heap.get? P = some { cls := .none, data := .fields ps } := I.hok P _ hP
  have nofr : ∀ f, s.heap.objs.size ≤ f → f ∉ frs X.stack := fun f hf z => by
    rcases List.mem_cons.mp (I.stkSub _ z) with e | e
    · have h1 := I.lt
      rw [← e] at h1
      exact Nat.lt_irrefl _ (Nat.lt_of_lt_of_le h1 hf)
    · exact I.nofs hf e
  cases hc : codeAmong pos ps.toList with
  | none =>
    refine PySem.W.kla_makeFunction (mg := X.mg) (c := c) (P := P) (ps := ps) (closure_ok hfree) I.ok.glob (I.mod.glob.keeps I.bk) hcode (TB.code.keeps I.bk) hP' ht hc TB.gP bP fun c' ctv h' tk hx hge hlt hrec htb => ?_
    obtain ⟨c2, oc, vs, t, e2, hoc, hd, hv⟩ := hrec
    cases e2
    have hsz : s.heap.objs.size ≤ h'.objs.size := Nat.le_trans hge (Nat.le_of_lt hlt)
    have nC : H c' = none := I.hok.fresh hge
    have I1 := inv_table (t' := tk) (more := #[rawInt pos.line, rawInt pos.col, .ref c']) (h' := h'.push (PySem.W.kla_obj "<lambda>" (X.env.qual ++ "<lambda>") params body scope (cloFrom X.env.cells scope.names []) ((X.mg "__name__").getD .none) c' ctv)) I hP
      (fun b o hb e => Heap.get?_push_of_some _ (hx b o hb e)) (Heap.get?_push_of_some _ htb) hge ⟨oc, vs, t, Heap.get?_push_of_some _ hoc, hd, hv⟩
    have hE : ∀ b o, b ≠ P → H b = some o → upd (upd H P (.tbl (ps ++ #[rawInt pos.line, rawInt pos.col, .ref c']))) c' (CodeO c' (X.env.qual ++ "<lambda>")) b = some o := fun b o hb e => by
      rw [upd_ne (ne_of_none e nC), upd_ne hb]
      exact e
    have hne : ∀ {c0 : Addr} {q : Str}, H c0 = some (CodeO c0 q) → c0 ≠ P := fun {c0 q} e z => by
      rw [z, hP] at e
      exact codeO_ne ps (Option.some.inj e).symm
    have eL : (ps ++ #[rawInt pos.line, rawInt pos.col, .ref c']).toList = ps.toList ++ [rawInt pos.line, rawInt pos.col, .ref c'] := by simp
    refine h h'.objs.size c' ((X.mg "__name__").getD .none) ctv _ _ I1 hE ⟨_, by rw [upd_ne (ne_of_none hP nC), upd_same]⟩ (fun p hp => ?_) (Heap.get?_push_size _ rfl) ?_ (nofr _ hsz) upd_same
    · by_cases hb : p.1 = P
      · rw [hu p hp hb, hb]
        refine ⟨_, by rw [upd_ne (ne_of_none hP nC), upd_same], by rw [eL]; exact PySem.TriplesOk_snoc _ _ _ _ ht, fun p' cv hcv => ?_⟩
        rw [eL] at hcv
        rcases among_app _ ht hcv with z | z
        · obtain ⟨c0, e1, e2⟩ := ha p' cv z
          exact ⟨c0, e1, hE _ _ (hne e2) e2⟩
        · exact ⟨c', z, upd_same⟩
      · obtain ⟨ps', a1, a2, a3⟩ := hT p hp
        refine ⟨ps', by rw [upd_ne (ne_of_none a1 nC), upd_ne hb]; exact a1, a2, fun p' cv hcv => ?_⟩
        obtain ⟨c0, e1, e2⟩ := a3 p' cv hcv
        exact ⟨c0, e1, hE _ _ (hne e2) e2⟩
    · have n1 : h'.objs.size ≠ c' := Nat.ne_of_gt hlt
      have n2 : h'.objs.size ≠ P := Nat.ne_of_gt (Nat.lt_of_lt_of_le (Heap.lt_size hP') hsz)
      rw [upd_ne n1, upd_ne n2]
      exact I.hok.fresh hsz
  | some cv =>
    obtain ⟨c', e, hco⟩ := ha pos cv hc
    subst e
    refine PySem.W.kla_makeFunctionHit (mg := X.mg) (c := c) (P := P) (ps := ps) (closure_ok hfree) I.ok.glob (I.mod.glob.keeps I.bk) hcode (TB.code.keeps I.bk) hP' ht hc bP fun ctv h' tk hx hsz => ?_
    have I1 : Inv X pins σ H { s with heap := h'.push (PySem.W.kla_obj "<lambda>" (X.env.qual ++ "<lambda>") params body scope (cloFrom X.env.cells scope.names []) ((X.mg "__name__").getD .none) c' ctv), toks := tk } := I.kept fun b o e => Heap.get?_push_of_some _ (hx b o e)
    exact h h'.objs.size c' ((X.mg "__name__").getD .none) ctv H _ I1 (fun _ _ _ e => e) ⟨ps, hP⟩ hT (Heap.get?_push_size _ rfl) (I.hok.fresh hsz) (nofr _ hsz) hco
end
/-- the tables have grown -/
theorem Sim.made {K : PySem.W.Frag} {T : List Addr} {ρ : List (Option Addr)} {δ : Ds} {σ : L2.St} {H H1 : Hp} {P : Addr} (s : Sim K T ρ δ σ H) (hP : P ∈ T) (e : ∀ b o, b ≠ P → H b = some o → H1 b = some o) (h0 : ∃ ps, H P = some (.tbl ps)) (h1 : ∃ ps, H1 P = some (.tbl ps)) (ht : Tabs TB.tb H1) : Sim K T ρ δ σ H1 ∧ Ext T ρ H ρ H1 := by
  have sm : Same (hid T ρ H) (hid T ρ H1) := fun b o hb => by
    obtain ⟨b1, b2, b3⟩ := hid_some.mp hb
    exact hid_some.mpr ⟨e b o (fun z => b2 (by rw [z]; exact hP)) b1, b2, b3⟩
  have kp : ∀ a, a ∈ T ∨ some a ∈ ρ → Kp (H a) (H1 a) := fun a ha => by
    by_cases hb : a = P
    · rw [hb]
      exact .inr ⟨h0, h1⟩
    · obtain ⟨o, ho, _⟩ := ha.elim (s.trk.tmp a) (s.trk.own a)
      exact .inl ((e a o hb ho).trans ho.symm)
  exact ⟨s.keep sm kp ht, sm, fun a ha => kp a (.inl ha), fun _ => ht⟩
/-- what a def that makes a lambda must show of itself -/
structure Maker (X : Cx) (c P : Addr) : Prop where
  tab : TabB X.base X.mg c P
  code : X.env.code = .ref c
  mem : (P, X.env.qual ++ "<lambda>") ∈ TB.tb
  uniq : ∀ p ∈ TB.tb, p.1 = P → p.2 = X.env.qual ++ "<lambda>"
/-- the words of the lambda, as they stand in the text -/
structure LamW (X : Cx) (N ps fr : List Str) (js : List Nat) (params : Arguments) (scope : Scope) : Prop where
  sc : CScope N ps fr scope
  def0 : defaultsOf params X.env = ([], [])
  bind : ∀ (q : Str) (b : Expr) (cl : List (Str × Addr)) (pm cv ctv : Value) (us : List Value), us.length = ps.length → bindArgs (PySem.W.kla_fn "<lambda>" q params b scope cl pm cv ctv) ⟨us, []⟩ = pure (ps.zip us)
  free : ∀ y ∈ scope.names, y.2 = .free → X.env.scope.names.lookup y.1 = some .cell ∨ X.env.scope.names.lookup y.1 = some .free
  frs : ∀ y ∈ fr, (y, NameKind.free) ∈ scope.names
  at_ : js.map (fun j => X.N[j]?) = fr.map some
section
variable {X : Cx} {pins : List (Addr × Obj)} {σ : L2.St} {H : Hp} {s : Shared}
theorem LamW.hf {N ps fr : List Str} {js : List Nat} {params : Arguments} {scope : Scope} (L : LamW X N ps fr js params scope) (ok : X.Ok) : ∀ y ∈ scope.names, y.2 = .free → ∃ c, X.env.cells.lookup y.1 = some c := fun y hy e => (L.free y hy e).elim (fun z => ok.has _ (.inl z)) fun z => ok.has _ (.inr z)
/-- a lambda made here is called by a built-in: x is the item, css what it captured -/
theorem lam_call {N ps fr : List Str} {js : List Nat} {params : Arguments} {body : Expr} {scope : Scope} {k : Nat} {fE : EV} {f c' : Addr} {pm ctv : Value} {A' : Around} {T : List Addr} {ρ : List (Option Addr)} {δ : Ds} {us : List Value} {vs : List V} {ds css : List S} {y : PyData} {zs : List (Option C)}
    (L : LamW X N ps fr js params scope)
    (hbody : ∀ (f c' : Addr) (A : Around) (outer : List Env) (s : Shared) (H : Hp), A.guards = some [] → Room k (A.deeper (PySem.W.envX (X.env.qual ++ "<lambda>") scope s.heap.objs.size f (.ref c') (cellsFrom (s.heap.objs.size + 1) scope.names (cloFrom X.env.cells scope.names [])))) →
      DE (ccx CX0 X.prog X.w X.K X.mg X.base N (X.env.qual ++ "<lambda>") scope f (.ref c') (cloFrom X.env.cells scope.names []) A outer s H E0) body fE)
    (I : Inv X pins σ H s) (hr : Room (k + 1) A') (hG : A'.guards = some []) (hfr : A'.frames = X.A.frames)
    (ho : s.heap.get? f = some (PySem.W.kla_obj "<lambda>" (X.env.qual ++ "<lambda>") params body scope (cloFrom X.env.cells scope.names []) pm c' ctv)) (hc : H c' = some (CodeO c' (X.env.qual ++ "<lambda>")))
    (sm : Sim X.K T ρ δ σ H) (hv : Paired (SV X.K (hid T ρ H)) vs ds) (rv : Vals vs us) (hl : vs.length = ps.length) (hcap : capD δ js = some css) (hF : runF [] N.length (retS fE) (ds ++ css) = some (.d y, zs)) :
    wpAny (model X.prog X.w) A' (call (.ref f) us) (fun r s'' => ∃ v' H'', Inv X pins σ H'' s'' ∧ RelV v' r ∧ (∀ b o, s.heap.get? b = some o → H b = none → b ∉ frs X.stack → s''.heap.get? b = some o ∧ H'' b = none) ∧ Sim X.K T ρ δ σ H'' ∧ DL.Ext T ρ H ρ H'' ∧ Dq X.K (hid T ρ H'') v' y) (fun _ _ => False) s := by
  obtain ⟨ws, hw1, hw2⟩ := capD_at sm hcap
  have C := cells_of I (Caps.made (fr := fr) (js := js) I.ok L.free L.frs L.at_)
  rw [hw1] at C
  have wlen : ws.length = fr.length := by have := C.len; simpa using this
  have e0 : Env0 X.prog X.w X.K X.mg X.base A' X.stack s H := by
    have := I.env0
    exact ⟨hfr.trans this.frames, this.mod, this.bs, this.bsz, this.funs, this.frf, this.hok, this.bare⟩
  have app : ∀ {xs : List V} {ys : List S} {xs' : List V} {ys' : List S}, Paired (SV X.K (hid T ρ H)) xs ys → Paired (SV X.K (hid T ρ H)) xs' ys' → Paired (SV X.K (hid T ρ H)) (xs ++ xs') (ys ++ ys') := by
    intro xs ys xs' ys' h h'
    induction h with
    | nil => exact h'
    | cons a b ih => exact .cons a ih
  have all := app hv hw2
  have sa := sm.args all
  have hsp : spF X.K (ps.length + fr.length) (runF [] N.length (retS fE)) (vs ++ ws) H (fun v' H'' => Sim X.K T ρ δ σ H'' ∧ DL.Ext T ρ H ρ H'' ∧ Dq X.K (hid T ρ H'') v' y) E0 := by
    refine ⟨T ++ ρ.filterMap id, List.replicate (ds ++ css).length none, ds ++ css, .d y, zs, sa, ?_, hF, ?_⟩
    · have h1 := Paired.length hv
      have h2 := Paired.length hw2
      rw [List.length_append, ← h1, ← h2, hl, wlen]
    · intro v' H'' _ hx hv'
      obtain ⟨b1, b2⟩ := sm.argsBack hx
      refine ⟨b1, b2, ?_⟩
      have hv'' : Dq X.K (hid (T ++ ρ.filterMap id) (List.replicate (ds ++ css).length none) H'') v' y := hv'
      rw [hid_all] at hv''
      exact hv''
  refine wpAny_call (codeAny_mono (lam_run (ws := ws) L.sc (L.bind _ _ _ _ _ _ us (by rw [← rv.length]; exact hl)) (hbody f c' A' X.stack s H hG) hr e0 ho (codeO_at I.hok hc) C rv hl hsp) fun r s' hq => ?_)
  cases r with
  | error e => exact hq.elim
  | ok fl =>
    cases fl with
    | ret u =>
      have hq' : CE X.stack X.prog X.w H s _ u s' := hq
      obtain ⟨v', H'', os, bare, un, hok, rv', q⟩ := hq'
      obtain ⟨v2, H2, J, r2, q2⟩ := I.after (Q := fun v0 H0 => v0 = v' ∧ H0 = H'') ⟨v', H'', os, bare, un, hok, rv', rfl, rfl⟩
      obtain ⟨rfl, rfl⟩ := q2
      exact ⟨_, _, J, r2, fun b o e n m => ⟨un.keep b o e n m (by simp), un.free b o e n (by simp)⟩, q.1, q.2.1, q.2.2⟩
    | next => exact False.elim hq
    | brk => exact False.elim hq
    | cont => exact False.elim hq
end
end DL

namespace DL
open PySem PySem.Spec PyProof.Rows L2 LamX NdefX
variable [TB]
/-! ### sorted(xs, key=lambda ..), the keys whole numbers -/
def keysOf (F : FN) (cs : List S) : List PyData → Option (List Int)
  | [] => some []
  | x :: xs => match F (.d x :: cs) with
    | some (.d (.int k), _) => (keysOf F cs xs).map (k :: ·)
    | _ => none
def sortKeyE (F : FN) (js : List Nat) (fa : AEV) : EV := fun δ => (fa δ).bind fun x => match x.1 with
  | [.v (.d (.list xs))] => (capD (frzS x.2 js) js).bind fun cs => (keysOf F cs xs).bind fun ks => some (.o (.l (DLK.sortBy ks xs)), frzS x.2 js)
  | _ => none
theorem keysOf_spec {F : FN} {cs : List S} : ∀ {xs : List PyData} {ks : List Int}, keysOf F cs xs = some ks → ks.length = xs.length ∧ ∀ (i : Nat) (d : PyData) (k : Int), xs[i]? = some d → ks[i]? = some k → ∃ zs, F (.d d :: cs) = some (.d (.int k), zs)
  | [], ks, h => by
    cases h
    exact ⟨rfl, fun i d k e => by simp at e⟩
  | x :: xs, ks, h => by
    unfold keysOf at h
    split at h
    · rename_i k zs hk
      cases e : keysOf F cs xs with
      | none => rw [e] at h; cases h
      | some r =>
        rw [e] at h
        cases h
        obtain ⟨a, b⟩ := keysOf_spec e
        refine ⟨by simp [a], fun i d k' e1 e2 => ?_⟩
        cases i with
        | zero =>
          simp at e1 e2
          subst e1 e2
          exact ⟨zs, hk⟩
        | succ i => exact b i d k' (by simpa using e1) (by simpa using e2)
    · cases h
theorem zip_fst {α β : Type} : ∀ {xs : List α} {ys : List β}, xs.length = ys.length → (xs.zip ys).map Prod.fst = xs
  | [], _, _ => rfl
  | x :: xs, [], h => by cases h
  | x :: xs, y :: ys, h => by rw [List.zip_cons_cons, List.map_cons, zip_fst (by simpa using h)]
theorem zip_snd {α β : Type} : ∀ {xs : List α} {ys : List β}, xs.length = ys.length → (xs.zip ys).map Prod.snd = ys
  | [], [], _ => rfl
  | [], _ :: _, h => by cases h
  | x :: xs, [], h => by cases h
  | x :: xs, y :: ys, h => by rw [List.zip_cons_cons, List.map_cons, zip_snd (by simpa using h)]
theorem sortBy_map {α β : Type} (f : α → β) (ks : List Int) (xs : List α) : DLK.sortBy ks (xs.map f) = (DLK.sortBy ks xs).map f := by
  unfold DLK.sortBy
  have e : ks.zip (xs.map f) = (ks.zip xs).map fun p => (p.1, f p.2) := by
    rw [List.zip_map_right]
    rfl
  rw [e, ← List.map_mergeSort (r := fun a b : Int × α => decide (a.1 ≤ b.1)) (fun a _ b _ => rfl), List.map_map, List.map_map]
  rfl
theorem dq_sortBy {K : PySem.W.Frag} {G : Hp} {ks : List Int} {vs : List V} {ds : List PyData} (h : DqAll K G vs ds) (hk : ks.length = vs.length) : DqAll K G (DLK.sortBy ks vs) (DLK.sortBy ks ds) := by
  have hl := dpAll_len h
  have e1 : DLK.sortBy ks vs = (DLK.sortBy ks (vs.zip ds)).map Prod.fst := by rw [← sortBy_map, zip_fst hl]
  have e2 : DLK.sortBy ks ds = (DLK.sortBy ks (vs.zip ds)).map Prod.snd := by rw [← sortBy_map, zip_snd hl]
  rw [e1, e2]
  have mem : ∀ p ∈ vs.zip ds, Dq K G p.1 p.2 := fun p hp => by
    obtain ⟨i, hi⟩ := mem_ix hp
    rw [List.getElem?_zip_eq_some] at hi
    obtain ⟨d, b1, b2⟩ := dpAll_getV h hi.1
    rw [hi.2] at b1
    cases b1
    exact b2
  have mem2 : ∀ p ∈ DLK.sortBy ks (vs.zip ds), Dq K G p.1 p.2 := fun p hp => by
    unfold DLK.sortBy at hp
    obtain ⟨q, hq, rfl⟩ := List.mem_map.mp hp
    exact mem _ (List.of_mem_zip (a := q.1) (b := q.2) (List.mem_mergeSort.mp hq)).2
  generalize DLK.sortBy ks (vs.zip ds) = l at mem2
  induction l with
  | nil => exact .nil
  | cons p l ih => exact .cons (mem2 p List.mem_cons_self) (ih fun q hq => mem2 q (List.mem_cons_of_mem _ hq))
section
variable {X : Cx} {e : Expr} {p pos lpos kpos : Pos}
theorem de_sortKey {N ps fr : List Str} {js : List Nat} {params : Arguments} {body : Expr} {scope : Scope} {k j : Nat} {fE : EV} {fa : AEV} {c P : Addr} (hm : X.mg "sorted" = none) (hg : Gl X "sorted") (ha : DA X (e :: []) fa)
    (M : Maker X c P) (L : LamW X N ps fr js params scope) (hps : ps.length = 1) (hG : X.A.guards = some []) (hr : Room j X.A) (hj : k + 3 ≤ j)
    (hbody : ∀ (f c' : Addr) (A : Around) (outer : List Env) (s : Shared) (H : Hp), A.guards = some [] → Room k (A.deeper (PySem.W.envX (X.env.qual ++ "<lambda>") scope s.heap.objs.size f (.ref c') (cellsFrom (s.heap.objs.size + 1) scope.names (cloFrom X.env.cells scope.names [])))) →
      DE (ccx CX0 X.prog X.w X.K X.mg X.base N (X.env.qual ++ "<lambda>") scope f (.ref c') (cloFrom X.env.cells scope.names []) A outer s H E0) body fE)
    (he : backTo pos (starEach (e :: []) X.env) = (false, eval e X.env) :: backTo pos (starEach [] X.env) := by rfl) (hpl : (backTo pos (starEach (e :: []) X.env)).any (·.1) = false := by rfl) :
    DE X (.Call (.Name "sorted" p) [e] [⟨some "key", .Lambda params body scope lpos, kpos⟩] pos) (sortKeyE (runF [] N.length (retS fE)) js fa) := by
  have hr := hr.mono hj
  refine ⟨fun pins s σ H Q I h => ?_⟩
  obtain ⟨T, ρ, δ, s0, δ', hs, hf, hq⟩ := h
  unfold sortKeyE at hf
  cases ea : fa δ with
  | none => rw [ea] at hf; cases hf
  | some x =>
    obtain ⟨pvs, δ1⟩ := x
    rw [ea] at hf
    simp only [Option.bind_some] at hf
    split at hf
    case h_2 => cases hf
    rename_i xs
    cases ec : capD (frzS δ1 js) js with
    | none => rw [ec] at hf; cases hf
    | some cs =>
      rw [ec] at hf
      simp only [Option.bind_some] at hf
      cases ek : keysOf (runF [] N.length (retS fE)) cs xs with
      | none => rw [ek] at hf; cases hf
      | some ks =>
        rw [ek] at hf
        cases hf
        obtain ⟨klen, kspec⟩ := keysOf_spec ek
        refine wpAny_Call_Name_kw (ld_blt I hg hm (show bootBuiltins "sorted" = some (.builtin "sorted") from by decide +kernel) ?_ (by decide) (by decide))
        refine PyProof.Rows.callWith_kw (thn (ha.run pos pins s σ H (fun vs H1 => ∃ ρ1, Sim X.K T ρ1 δ1 σ H1 ∧ DL.Ext T ρ H ρ1 H1 ∧ Paired (PAt X.K T ρ1 H1 σ) vs [.v (.d (.list xs))]) I ⟨T, ρ, δ, _, _, hs, ea, fun ρ1 vs H1 s1 x1 p1 => ⟨ρ1, s1, x1, p1⟩⟩) fun us st1 ⟨vs, H1, I1, r1, ρ1, s1, x1, p1⟩ => ?_) he hpl rfl rfl
        show wpAny _ _ (evalAll [do let v ← eval (.Lambda params body scope lpos) X.env; standAt pos; pure v]) _ _ st1
        refine wpAny_evalAll_cons (wpAny_bind (lam_make3 I1 M.tab M.code M.mem M.uniq s1.tabs L.def0 (L.hf I1.ok) fun f c' pm ctv H2 st2 I2 e2 t2 T2 ho hf0 hnf hc => wpAny_bind (wpAny_standAt (wpAny_pure (wpAny_evalAll_nil ?_)))))
        obtain ⟨v1, rfl, hv1⟩ := paired1 p1
        have hv1 : Dq X.K (hid T ρ1 H1) v1 (.list xs) := hv1
        obtain ⟨u1, rfl, ru1⟩ : ∃ u1, us = [u1] ∧ RelV v1 u1 := by
          cases r1 with
          | cons a b =>
            cases b
            exact ⟨_, rfl, a⟩
        have hPT := s1.tabT _ M.mem
        obtain ⟨s2, x2⟩ := s1.made hPT e2 (let ⟨ps0, q, _⟩ := s1.tabs _ M.mem; ⟨ps0, q⟩) t2 T2
        obtain ⟨ρ3, s3, x3⟩ := s2.frzS (is := js)
        have x23 := x2.trans x3
        have hv2 := dpM x23.same _ hv1
        obtain ⟨l, vs', e0, hl, hall⟩ : ∃ l vs', v1 = V.ref l ∧ hid T ρ3 H2 l = some (.lst vs') ∧ DqAll X.K (hid T ρ3 H2) vs' xs := by
          cases hv2 with
          | lst a b => exact ⟨_, _, rfl, a, b⟩
        subst e0
        obtain rfl : u1 = Value.ref l := ru1
        obtain ⟨its, rv, hli, hz⟩ := I2.list (.inl (.inl (hid_same _ _ hl)))
        have hz : its.length ≤ sizeLine := by
          rw [← rv.length]
          exact hz
        have hc3 : ∀ {H' : Hp}, DL.Ext T ρ3 H2 ρ3 H' → H' c' = some (CodeO c' (X.env.qual ++ "<lambda>")) := fun {H'} x => by
          refine (hid_some.mp (x.same c' _ (hid_some.mpr ⟨hc, fun z => ?_, fun z => ?_⟩))).1
          · obtain ⟨o, ho, hn⟩ := s3.tmp c' z
            rw [hc] at ho
            cases ho
            exact hn
          · obtain ⟨o, ho, hn⟩ := s3.trk.own c' z
            rw [hc] at ho
            cases ho
            exact hn
        have hlen := dpAll_len hall
        refine DLK.sortkey_run (f := f) (its := its) (xs := vs') I2 hli.isList hz rv (by have := hr.un; omega)
          (fun i ks' H' => Sim X.K T ρ3 (DL.frzS δ1 js) σ H' ∧ DL.Ext T ρ3 H2 ρ3 H' ∧ ks' = ks.take i) ⟨s3, .refl, by simp⟩ ?_ ?_
        · rintro i x u ks' pins' st' H' hx ru I' kp ⟨w1, w2, w3⟩
          obtain ⟨d, hd, hdq⟩ := dpAll_getV hall hx
          obtain ⟨kk, hkk⟩ : ∃ kk, ks[i]? = some kk := by
            have hi : i < xs.length := (List.getElem?_eq_some_iff.mp hd).1
            exact ⟨_, List.getElem?_eq_getElem (by omega)⟩
          obtain ⟨zs, hF⟩ := kspec i d kk hd hkk
          refine wpAny_mono (lam_call (A' := X.A.in1.in1) (us := [u]) (vs := [x]) (ds := [.d d]) (css := cs) (y := .int kk) (zs := zs) L hbody I' (hr.in1.in1) hG rfl (kp f _ ho hf0 hnf) (hc3 w2) w1 (.cons (dpM w2.same _ hdq) .nil) (.cons ru .nil) hps.symm ec hF) (fun r st'' hh => ?_) fun _ _ hh => hh
          obtain ⟨v', H'', I'', rv', kp'', s'', x'', dq⟩ := hh
          cases dq
          obtain ⟨t, rfl⟩ := rv'
          refine ⟨kk, t, H'', rfl, I'', kp'', s'', w2.trans x'', ?_⟩
          rw [w3, List.take_add_one, hkk]
          rfl
        · rintro ks' H' p' ⟨w1, w2, w3⟩ kl hp
          have e3 : ks' = ks := by
            rw [w3, List.take_of_length_le (by omega)]
          subst e3
          exact hq ρ3 p' H' (.lst (DLK.sortBy ks' vs')) w1 (x1.trans (x23.trans w2)) hp ⟨_, rfl, dq_sortBy (dpAllM w2.same _ hall) (by omega)⟩
end
end DL

namespace DL
open PySem PySem.Spec PyProof.Rows L2
variable [TB]
/-! ### sorted(set(t)), t a tuple of whole numbers -/
section
omit [TB]
def insU (x : Int) : List Int → List Int
  | [] => [x]
  | y :: ys => if x < y then x :: y :: ys else if x = y then y :: ys else y :: insU x ys
def usort : List Int → List Int
  | [] => []
  | x :: xs => insU x (usort xs)
theorem insU_mem {x k : Int} : ∀ {ys : List Int}, k ∈ insU x ys ↔ k = x ∨ k ∈ ys
  | [] => by simp [insU]
  | y :: ys => by
    unfold insU
    split
    · simp
    · split
      · rename_i h
        subst h
        simp
      · rw [List.mem_cons, insU_mem, List.mem_cons]
        constructor
        · rintro (h | h | h)
          · exact .inr (.inl h)
          · exact .inl h
          · exact .inr (.inr h)
        · rintro (h | h | h)
          · exact .inr (.inl h)
          · exact .inl h
          · exact .inr (.inr h)
theorem insU_asc {x : Int} : ∀ {ys : List Int}, ys.Pairwise (· < ·) → (insU x ys).Pairwise (· < ·)
  | [], _ => by simp [insU]
  | y :: ys, h => by
    obtain ⟨h1, h2⟩ := List.pairwise_cons.mp h
    unfold insU
    split
    · rename_i hx
      refine List.pairwise_cons.mpr ⟨fun z hz => ?_, h⟩
      rcases List.mem_cons.mp hz with e | hz
      · rw [e]; exact hx
      · exact Int.lt_trans hx (h1 z hz)
    · split
      · exact h
      · rename_i n1 n2
        refine List.pairwise_cons.mpr ⟨fun z hz => ?_, insU_asc h2⟩
        rcases insU_mem.mp hz with e | hz
        · rw [e]; omega
        · exact h1 z hz
theorem usort_mem {k : Int} : ∀ {xs : List Int}, k ∈ usort xs ↔ k ∈ xs
  | [] => by simp [usort]
  | x :: xs => by
    unfold usort
    rw [insU_mem, usort_mem, List.mem_cons]
theorem usort_asc : ∀ (xs : List Int), (usort xs).Pairwise (· < ·)
  | [] => List.Pairwise.nil
  | x :: xs => insU_asc (usort_asc xs)
theorem asc_uniq : ∀ {xs ys : List Int}, xs.Pairwise (· < ·) → ys.Pairwise (· < ·) → (∀ k, k ∈ xs ↔ k ∈ ys) → xs = ys
  | [], [], _, _, _ => rfl
  | [], y :: ys, _, _, h => by
    have := (h y).mpr List.mem_cons_self
    simp at this
  | x :: xs, [], _, _, h => by
    have := (h x).mp List.mem_cons_self
    simp at this
  | x :: xs, y :: ys, h1, h2, h => by
    obtain ⟨a1, a2⟩ := List.pairwise_cons.mp h1
    obtain ⟨b1, b2⟩ := List.pairwise_cons.mp h2
    have e : x = y := by
      rcases List.mem_cons.mp ((h x).mp List.mem_cons_self) with e | e
      · exact e
      · rcases List.mem_cons.mp ((h y).mpr List.mem_cons_self) with e' | e'
        · exact e'.symm
        · have q1 := b1 x e
          have q2 := a1 y e'
          omega
    subst e
    rw [asc_uniq a2 b2 fun k => ?_]
    constructor
    · intro hk
      rcases List.mem_cons.mp ((h k).mp (List.mem_cons_of_mem _ hk)) with e | e
      · have := a1 k hk
        omega
      · exact e
    · intro hk
      rcases List.mem_cons.mp ((h k).mpr (List.mem_cons_of_mem _ hk)) with e | e
      · have := b1 k hk
        omega
      · exact e
theorem insU_len {x : Int} : ∀ {ys : List Int}, (insU x ys).length ≤ ys.length + 1
  | [] => by simp [insU]
  | y :: ys => by
    unfold insU
    split
    · simp
    · split
      · simp
      · simp only [List.length_cons]
        have := insU_len (x := x) (ys := ys)
        omega
theorem usort_len : ∀ {xs : List Int}, (usort xs).length ≤ xs.length
  | [] => by simp [usort]
  | x :: xs => by
    unfold usort
    have := usort_len (xs := xs)
    have := insU_len (x := x) (ys := usort xs)
    simp only [List.length_cons]
    omega
def intsU : List PyData → Option (List Int)
  | [] => some []
  | .int i :: r => (intsU r).map (i :: ·)
  | _ => none
theorem intsU_V {K : PySem.W.Frag} {G : Hp} : ∀ {vs : List V} {xs : List PyData} {ns : List Int}, DqAll K G vs xs → intsU xs = some ns → vs = ns.map V.int
  | _, [], _, h, e => by cases h; cases e; rfl
  | _, .int b :: r, ns, h, e => by
    have e' : (intsU r).map (b :: ·) = some ns := e
    cases h with
    | cons h1 h2 =>
      cases er : intsU r with
      | none => rw [er] at e'; cases e'
      | some cs =>
        rw [er] at e'
        cases e'
        cases h1
        rw [intsU_V h2 er]
        rfl
  | _, .none :: r, bs, h, e => by cases e
  | _, .bool _ :: r, bs, h, e => by cases e
  | _, .str _ :: r, bs, h, e => by cases e
  | _, .list _ :: r, bs, h, e => by cases e
  | _, .tuple _ :: r, bs, h, e => by cases e
  | _, .dict _ :: r, bs, h, e => by cases e
theorem intsU_map (ns : List Int) : intsU (ns.map PyData.int) = some ns := by
  induction ns with
  | nil => rfl
  | cons n ns ih =>
    show (intsU (ns.map PyData.int)).map (n :: ·) = _
    rw [ih]
    rfl
theorem dq_ints {K : PySem.W.Frag} {G : Hp} : ∀ (ns : List Int), DqAll K G (ns.map V.int) (ns.map PyData.int)
  | [] => .nil
  | n :: ns => .cons (.int n) (dq_ints ns)
end
def sortSetE (fa : PEV) : EV := fun δ => (fa δ).bind fun x => match x.1 with
  | .v (.d (.tuple xs)) => (intsU xs).bind fun ns => if ns.length < 64 then some (.o (.l ((usort ns).map PyData.int)), x.2) else none
  | _ => none
section
variable {X : Cx} {a : Expr} {p p2 q pos : Pos}
theorem de_sortSet {fa : PEV} (hc : X.calm = true) (hg : Gl X "sorted") (hm : X.mg "sorted" = none) (hg2 : Gl X "set") (hm2 : X.mg "set" = none) (ha : DP X a fa) (na : starEach [a] X.env = (false, eval a X.env) :: starEach [] X.env := by rfl) :
    DE X (.Call (.Name "sorted" p) [.Call (.Name "set" p2) [a] [] q] [] pos) (sortSetE fa) := by
  refine ⟨fun pins s σ H Q I h => ?_⟩
  obtain ⟨T, ρ, δ, s0, δ', hs, hf, hq⟩ := h
  unfold sortSetE at hf
  cases ea : fa δ with
  | none => rw [ea] at hf; cases hf
  | some x =>
    obtain ⟨pv, δ1⟩ := x
    rw [ea] at hf
    simp only [Option.bind_some] at hf
    split at hf
    case h_2 => cases hf
    rename_i xs
    cases en : intsU xs with
    | none => rw [en] at hf; cases hf
    | some ns =>
      rw [en] at hf
      simp only [Option.bind_some] at hf
      split at hf
      case isFalse => cases hf
      rename_i h64
      cases hf
      refine Call_ (ld_blt I hg hm (show bootBuiltins "sorted" = some (.builtin "sorted") from by decide +kernel) ?_)
      refine PyProof.Rows.callWith_builtin1 (PyProof.Rows.args_cons ?_ rfl) rfl rfl
      refine Call_ (ld_blt I hg2 hm2 (show bootBuiltins "set" = some (.type "set") from by decide +kernel) ?_)
      refine PyProof.Rows.callWith_type1 (PyProof.Rows.args_cons (thn (ha.run pins s σ H (fun v H1 => ∃ ρ1, Sim X.K T ρ1 δ' σ H1 ∧ Ext T ρ H ρ1 H1 ∧ SV X.K (hid T ρ1 H1) v (.d (.tuple xs))) I ⟨T, ρ, δ, _, _, hs, ea, fun ρ1 v H1 s1 x1 p1 => ⟨ρ1, s1, x1, p1⟩⟩) fun v s1 ⟨x, H1, I1, r1, ρ1, sm, x1, hv⟩ => PyProof.Rows.args_nil ?_) na) na rfl
      have hv : Dq X.K (hid T ρ1 H1) x (.tuple xs) := hv
      obtain ⟨l, vs, e0, hl, hall⟩ : ∃ l vs, x = V.ref l ∧ hid T ρ1 H1 l = some (.tup vs) ∧ DqAll X.K (hid T ρ1 H1) vs xs := by
        cases hv with
        | tup a b => exact ⟨_, _, rfl, a, b⟩
      subst e0
      obtain rfl : v = Value.ref l := r1
      have hvs := intsU_V hall en
      subst hvs
      obtain ⟨its, r, pt, hz⟩ := I1.tuple (.inl (.inl (hid_same _ _ hl)))
      have hl' : s1.heap.IsTuple l its.toArray := by
        exact pt
      refine call_set_tupI ns (I1.ok.hd hc) hl' (by simpa using RZ.intsAre_vals r) (by unfold scanBound; omega) fun h' tk c R hcn kept => PyProof.Rows.args_nil ?_
      have I2 : Inv X pins σ H1 { s1 with heap := h', toks := tk } := I1.kept kept
      refine sorted_set R (I2.ok.hd hc) (by omega) fun s' p' out c' ns' k g o hp hg hi hs' hm' hl => ?_
      have hlen : (ns'.map V.int).length ≤ sizeLine := by rw [List.length_map, hl, sizeLine_eq]; omega
      have hn : H1 p' = none := I2.hok.fresh hp
      have J : Inv X pins σ (upd H1 p' (.lst (ns'.map V.int))) { ({ s1 with heap := h', toks := tk } : Shared) with heap := s'.heap, gens := s'.gens, drawn := s'.drawn, toks := s'.toks } :=
        I2.call (ch := []) (Un.laid k hp hn) (I2.hok.laid k hp ⟨hlen, out.toList, c', vals_of_ints hi, hg⟩) (by rw [g]; exact I2.bare) (fun _ z => nomatch z)
      have e : s' = { ({ s1 with heap := h', toks := tk } : Shared) with heap := s'.heap, gens := s'.gens, drawn := s'.drawn, toks := s'.toks } := by
        cases s'
        cases s1
        cases o
        rfl
      have eu : ns' = usort ns := asc_uniq hs' (usort_asc ns) fun k => by rw [hm' k, usort_mem]; simp
      rw [e]
      refine ⟨.ref p', _, J, rfl, ?_⟩
      rw [eu]
      exact hq ρ1 p' H1 _ sm x1 hn ⟨_, rfl, dq_ints _⟩
end
end DL

namespace DL
open PySem PySem.Spec PyProof.Rows L2 LamX
/-! ### the end of a law whose defs make lambdas -/
section
theorem law_callG {P : Program} {w : World} {K : PySem.W.Frag} {mg mb : Str → Option Value} {k : Nat} {fa a : Addr} {cs : List (Addr × Addr)} {fd : FuncData} {x : Str} {sp : Sp} {s₁ : Shared} {vs : List Value} {ns : List Int}
    (KX : K.In s₁.heap) (hns : s₁.heap.Ns mainGlobals mg) (hb : s₁.heap.Ns builtinsNs mb) (hbb : ∀ x : Str, x ≠ "__name__" → mb x = bootBuiltins x) (hlim : s₁.heap.NoLimit) (hg : s₁.gens = #[])
    (hT : ∀ p ∈ cs, s₁.heap.get? p.2 = some { cls := .none, data := .fields #[] }) (nT : ∀ p ∈ cs, K.lookup p.2 = none) (C : ∀ p ∈ cs, PySem.W.CodeHd s₁.heap p.1 p.2)
    (hbm : ∃ (bm : Addr) (ob : Obj), mg "__builtins__" = some (.ref bm) ∧ bm ≠ builtinsNs ∧ s₁.heap.get? bm = some ob ∧ ob.cls = .type "module" ∧ ob.dict = some builtinsNs ∧ ob.data = .plain)
    (ha : s₁.heap.get? a = some { cls := .type "list", data := .seq vs.toArray }) (hi : IntsAre vs ns) (hl : ns.length ≤ sizeLine) (hr : Room k callerA)
    (hsm : ∃ mm, s₁.heap.Ns sysModules mm) (F : ∀ base : Heap, K.In base → base.Ns mainGlobals mg → (∃ o, base.get? sysModules = some o) → (∀ p ∈ cs, TabB base mg p.1 p.2) → FnG P w K mg base k fa fd [x] sp) (hbind : ∀ (s : Shared) (u : Value), BindsTo s fd ⟨[u], []⟩ [(x, u)])
    (hsp : ∀ H : Hp, (∀ p ∈ cs, H p.2 = some (.tbl #[])) → SqL K H a (ns.map V.int) → sp [.ref a] H (fun v _ => v = .bl true) fun _ _ _ => False) :
    codeAny (model P w) callerA (.call (.ref fa) ⟨[.ref a], []⟩) (fun r s' => r = .ok (.ret (.bool true)) ∧ OldK s₁.heap s'.heap ∧ s'.os = s₁.os ∧ AllBare s'.gens) s₁ := by
  have rv := vals_ints hi
  have lenV := hi.length
  have isT : ∀ b : Addr, b ∈ cs.map (·.2) → s₁.heap.get? b = some { cls := .none, data := .fields #[] } := fun b hb => by
    obtain ⟨p, hp, e⟩ := List.mem_map.mp hb
    rw [← e]
    exact hT p hp
  have aT : a ∉ cs.map (·.2) := fun z => by
    have q := isT a z
    rw [ha] at q
    have z' : Data.seq vs.toArray _ = Data.fields #[] := congrArg Obj.data (Option.some.inj q)
    cases z'
  have memT : ∀ p ∈ cs, p.2 ∈ cs.map (·.2) := fun p hp => List.mem_map.mpr ⟨p, hp, rfl⟩
  -- from an abstract heap in which nothing but the script and the tables may be tracked
  have core : ∀ H : Hp, (∀ p ∈ cs, H p.2 = some (.tbl #[])) → (∀ b, H b = none ∨ b ∈ cs.map (·.2) ∨ ∃ o xs, H b = some (.frz o (.lst xs))) → SqL K H a (ns.map V.int) → HOk P w H s₁.heap → (∀ b, H b ≠ none → b = a ∨ b ∈ cs.map (·.2)) → (H a ≠ none → K.lookup a = none) →
      codeAny (model P w) callerA (.call (.ref fa) ⟨[.ref a], []⟩) (fun r s' => r = .ok (.ret (.bool true)) ∧ OldK s₁.heap s'.heap ∧ s'.os = s₁.os ∧ AllBare s'.gens) s₁ := by
    intro H hH hO hS hok hA hK
    have base_of : ∀ {b : Addr} {o : Obj}, s₁.heap.get? b = some o → H b = none → (hidT s₁.heap H).get? b = some o := fun e n => hidT_get e n
    have noD : ∀ {b : Addr} {o : Obj}, s₁.heap.get? b = some o → (∀ vs n, o.data ≠ .seq vs n) → o.data ≠ .fields #[] → H b = none := fun {b o} e h1 h2 => by
      cases q : H b with
      | none => rfl
      | some u =>
        rcases hA b (by rw [q]; simp) with e' | e'
        · rw [e', ha] at e
          cases e
          exact (h1 _ _ rfl).elim
        · rw [isT b e'] at e
          cases e
          exact (h2 rfl).elim
    have noA : ∀ {b : Addr} {o : Obj} {es : Array DictEntry} {ep : Nat}, s₁.heap.get? b = some o → o.data = .dict es ep → H b = none := fun {b o es ep} e d => by
      refine noD e (fun vs n z => ?_) fun z => ?_
      · rw [d] at z
        cases z
      · rw [d] at z
        cases z
    have nsK : ∀ {b : Addr} {m : Str → Option Value}, s₁.heap.Ns b m → (hidT s₁.heap H).Ns b m := fun {b m} ⟨o, es, ep, e, d, r⟩ => ⟨o, es, ep, base_of e (noA e d), d, r⟩
    have hKb : K.In (hidT s₁.heap H) := fun b o e => base_of (KX b o e) (by
      cases q : H b with
      | none => rfl
      | some u =>
        rcases hA b (by rw [q]; simp) with e' | e'
        · rw [e'] at e q
          rw [hK (by rw [q]; simp)] at e
          cases e
        · obtain ⟨p, hp, ep⟩ := List.mem_map.mp e'
          rw [← ep, nT p hp] at e
          cases e)
    have hM : L2.Mod K mg (hidT s₁.heap H) := ⟨hKb, nsK hns, ⟨mb, nsK hb, hbb⟩, let ⟨mc, h1, h2⟩ := hlim; ⟨mc, nsK h1, h2⟩⟩
    have TB : ∀ p ∈ cs, TabB (hidT s₁.heap H) mg p.1 p.2 := fun p hp => by
      have hTp := hT p hp
      refine ⟨?_, ?_, fun z => ?_⟩
      · obtain ⟨o, us, file, tf, flags, tg, inF, text, tt, e1, r1, r2, r3, r4, r5, r6, r7, r8, hne⟩ := C p hp
        refine ⟨o, us, file, tf, flags, tg, inF, text, tt, base_of e1 (noD e1 (fun vs n z => ?_) fun z => ?_), r1, r2, r3, r4, r5, r6, r7, r8, hne⟩
        · rw [r2] at z
          cases z
        · rw [r2] at z
          cases z
          simp at r3
      · obtain ⟨bm, ob, b1, b2, b3, b4, b5, b6⟩ := hbm
        have nG : bm ≠ mainGlobals := fun q => by
          obtain ⟨o, es, ep, e, hd, _⟩ := hns
          rw [q, e] at b3
          cases b3
          rw [hd] at b6
          cases b6
        have nP : bm ≠ p.2 := fun q => by
          rw [q, hTp] at b3
          cases b3
          cases b6
        refine ⟨bm, ob, b1, b2, nG, nP, base_of b3 (noD b3 (fun vs n z => ?_) fun z => ?_), b4, b5, b6⟩
        · rw [b6] at z
          cases z
        · rw [b6] at z
          cases z
      · obtain ⟨o, es, ep, e, hd, _⟩ := hns
        rw [z, hTp] at e
        cases e
        cases hd
    have e0 : Env0 P w K mg (hidT s₁.heap H) callerA [] s₁ H := ⟨rfl, hM, fun b o e => of_hidT e, Nat.le_of_eq (hidT_size _ _), trivial, fun b hb => absurd (show b ∈ ([] : List Addr) from hb) (by simp), hok, .of_eq hg⟩
    have hsm2 : ∃ o, (hidT s₁.heap H).get? sysModules = some o := let ⟨_, z⟩ := hsm; let ⟨o, _, _, e, _⟩ := nsK z; ⟨o, e⟩
    refine codeAny_mono ((F _ hKb (nsK hns) hsm2 TB).run callerA [] s₁ H ⟨[.ref a], []⟩ [.ref a] [.ref a] _ _ rfl hr e0 (hbind s₁ (.ref a)) (.cons rfl .nil) (hsp H hH hS)) fun r s' h => ?_
    cases r with
    | error e => exact h.elim
    | ok fl =>
      cases fl with
      | next => exact False.elim h
      | brk => exact False.elim h
      | cont => exact False.elim h
      | ret u =>
        obtain ⟨v, H', os, bare, un, hok', r', q⟩ := h
        have q' : v = .bl true := q
        subst q'
        obtain rfl : u = Value.bool true := r'
        have key : ∀ b o, b ∉ cs.map (·.2) → s₁.heap.get? b = some o → s'.heap.get? b = some o := fun b o nb e => by
          cases q : H b with
          | none => exact un.keep b o e q (by intro z; exact absurd (show b ∈ ([] : List Addr) from z) (by simp)) (by simp)
          | some u =>
            rcases hO b with z | z | ⟨ob, xs, z⟩
            · rw [q] at z; cases z
            · exact absurd z nb
            · have z2 := un.frzs b ob _ z
              obtain ⟨e1, _⟩ := hok b _ z
              obtain ⟨e2, _⟩ := hok' b _ z2
              rw [e] at e1; cases e1
              exact e2
        have grown : ∀ p ∈ cs, ∃ more : Array Value, s'.heap.get? p.2 = some { cls := .none, data := .fields more } := fun p hp => by
          obtain ⟨more, z⟩ := un.tbls p.2 #[] (hH p hp)
          exact ⟨_, hok' p.2 _ z⟩
        refine ⟨rfl, ⟨fun b o e => ?_, fun b o e => ?_⟩, os, bare⟩
        · by_cases hb : b ∈ cs.map (·.2)
          · obtain ⟨p, hp, ep⟩ := List.mem_map.mp hb
            obtain ⟨more, hm⟩ := grown p hp
            rw [← ep] at e ⊢
            rw [hT p hp] at e
            cases e
            exact .inr (.inl ⟨((C p hp).tab (hT p hp)).isCodeTable, rfl, #[], more, rfl, by rw [Array.empty_append]; exact hm⟩)
          · exact .inl (key b o hb e)
        · by_cases hb : b ∈ cs.map (·.2)
          · obtain ⟨p, hp, ep⟩ := List.mem_map.mp hb
            obtain ⟨more, hm⟩ := grown p hp
            rw [← ep]
            exact ⟨_, hm⟩
          · exact ⟨o, key b o hb e⟩
  cases hk : K.lookup a with
  | some o =>
    have e := KX a o hk
    rw [ha] at e
    cases e
    refine core (fun b => if b ∈ cs.map (·.2) then some (.tbl #[]) else none) (fun p hp => if_pos (memT p hp)) (fun b => ?_) (.inr ⟨_, vs.toArray, _, hk, rfl, rfl, rfl, by rw [List.size_toArray, lenV]; exact hl, by simpa using rv⟩) (fun b u z => ?_) (fun b z => ?_) fun z => absurd (show (if a ∈ cs.map (·.2) then some (HO.tbl #[]) else none) = none from if_neg aT) z
    · by_cases hb : b ∈ cs.map (·.2)
      · exact .inr (.inl hb)
      · exact .inl (if_neg hb)
    · by_cases hb : b ∈ cs.map (·.2)
      · have z' := (if_pos hb).symm.trans z
        cases z'
        exact isT b hb
      · have z' := (if_neg hb).symm.trans z
        cases z'
    · by_cases hb : b ∈ cs.map (·.2)
      · exact .inr hb
      · exact absurd (if_neg hb) z
  | none =>
    refine core (fun b => if b = a then some (.frz { cls := .type "list", data := .seq vs.toArray } (.lst (ns.map V.int))) else if b ∈ cs.map (·.2) then some (.tbl #[]) else none) (fun p hp => (if_neg (show ¬ p.2 = a from fun z => aT (by rw [← z]; exact memT p hp))).trans (if_pos (memT p hp))) (fun b => ?_)
      (.inl (.inr ⟨{ cls := .type "list", data := .seq vs.toArray }, if_pos rfl⟩)) (fun b u z => ?_) (fun b z => ?_) fun _ => hk
    · by_cases hb : b = a
      · exact .inr (.inr ⟨_, _, if_pos hb⟩)
      · by_cases hb2 : b ∈ cs.map (·.2)
        · exact .inr (.inl hb2)
        · exact .inl ((if_neg hb).trans (if_neg hb2))
    · by_cases hb : b = a
      · have z' := (if_pos hb).symm.trans z
        cases z'
        rw [hb]
        exact ⟨ha, by rw [List.length_map]; exact hl, vs, _, rv, ha⟩
      · have z1 := (if_neg hb).symm.trans z
        by_cases hb2 : b ∈ cs.map (·.2)
        · have z' := (if_pos hb2).symm.trans z1
          cases z'
          exact isT b hb2
        · have z' := (if_neg hb2).symm.trans z1
          cases z'
    · by_cases hb : b = a
      · exact .inl hb
      · by_cases hb2 : b ∈ cs.map (·.2)
        · exact .inr hb2
        · exact absurd ((if_neg hb).trans (if_neg hb2)) z
end
/-- the tables of some defs, each with the name that its code objects bear -/
def csOf (K : PySem.W.Frag) (ms : List (Str × Str)) : List (Addr × Addr × Str) := ms.map fun m => match PySem.W.tabIn K m.1 with
  | some (c, P) => (c, P, m.2)
  | none => (0, 0, m.2)
def csOk (K : PySem.W.Frag) (cs : List (Addr × Addr × Str)) (ts : List Addr) : Bool := cs.all fun p => PySem.W.codeHdIn K p.1 p.2.1 && decide (p.2.1 ∈ ts) && (K.lookup p.2.1).isNone
abbrev tbOf (cs : List (Addr × Addr × Str)) : TB := ⟨cs.map fun p => (p.2.1, p.2.2)⟩
theorem cs_mem {cs : List (Addr × Addr × Str)} {p : Addr × Addr × Str} (h : cs.any (fun q => decide (q = p)) = true) : p ∈ cs := by
  obtain ⟨q, h1, h2⟩ := List.any_eq_true.mp h
  rw [← of_decide_eq_true h2]
  exact h1
theorem cs_uniq {cs : List (Addr × Addr × Str)} {P : Addr} {n : Str} (h : cs.all (fun q => !decide (q.2.1 = P) || decide (q.2.2 = n)) = true) : ∀ p ∈ cs, p.2.1 = P → p.2.2 = n := fun p hp e => by
  have := List.all_eq_true.mp h p hp
  simpa [e] using this
theorem tb_mem {cs : List (Addr × Addr × Str)} {c P : Addr} {n : Str} (h : (c, P, n) ∈ cs) : (P, n) ∈ (tbOf cs).tb := List.mem_map.mpr ⟨_, h, rfl⟩
theorem tb_uniq {cs : List (Addr × Addr × Str)} {P : Addr} {n : Str} (h : ∀ p ∈ cs, p.2.1 = P → p.2.2 = n) : ∀ p ∈ (tbOf cs).tb, p.1 = P → p.2 = n := fun p hp e => by
  obtain ⟨q, hq, rfl⟩ := List.mem_map.mp hp
  exact h q hq e
/-- the goal that the head leaves, from the law's meaning: it is True of every script -/
theorem walkLam {l : PySem.W.OpenLaw} {n k : Nat} {q : Program} {loose : List Str} {XP : (Str → Option Value) → Heap → Prop} {YP : World → Heap → Prop} {d : DefRec} {K : Params → PySem.W.Frag} {x : Str} {G : FN} {ts : List Addr} (ms : List (Str × Str))
    (hn : l.most = some n) (hn2 : n ≤ sizeLine) (hdf : d.params.defaults = []) (hr : Room k callerA) (himp : importsNone q = true) (hY : ∀ (w : World) (h : Heap), YP w h → (K w.params).In h)
    (hTs : ∀ (w : World) (h : Heap), YP w h → ∀ P ∈ ts, h.get? P = some (PySem.W.tabObj #[])) (hcs : ∀ w : World, csOk (K w.params) (csOf (K w.params) ms) ts = true)
    (F : ∀ (w : World) (mg : Str → Option Value) (fa : Addr) (h : Heap), (K w.params).In h → h.Ns mainGlobals mg → mg d.name = some (.ref fa) →
      ∃ fd : FuncData, (∀ (s : Shared) (u : Value), BindsTo s fd ⟨[u], []⟩ [(x, u)]) ∧
        ∀ base : Heap, (K w.params).In base → base.Ns mainGlobals mg → (∃ o, base.get? sysModules = some o) → (∀ p ∈ csOf (K w.params) ms, TabB base mg p.1 p.2.1) → FnG l.prog w (K w.params) mg base k fa fd [x] (@spF (tbOf (csOf (K w.params) ms)) (K w.params) 1 G))
    (hG : ∀ ns : List Int, ns.length ≤ n → ∃ cs, G [.z ns] = some (.d (.bool true), cs)) :
    PySem.W.WalkO q loose XP YP l.row.toRowW d [] (fun f vs => PySem.call f vs) := by
  refine Att.attach_call hn hdf fun w s₀ s₁ mg mb fa o pm cd doc a vs ns G' Y ho hd hcd hmg hobj hints hlen hg => ?_
  have KX := hY w _ Y
  obtain ⟨fd, hb, hF⟩ := F w mg fa _ KX G'.T.g hmg
  have hall : ∀ p ∈ csOf (K w.params) ms, PySem.W.codeHdIn (K w.params) p.1 p.2.1 = true ∧ p.2.1 ∈ ts ∧ (K w.params).lookup p.2.1 = none := fun p hp => by
    have := List.all_eq_true.mp (hcs w) p hp
    simp only [Bool.and_eq_true, decide_eq_true_eq, Option.isNone_iff_eq_none] at this
    exact ⟨this.1.1, this.1.2, this.2⟩
  generalize csOf (K w.params) ms = cs at hF hall
  refine law_callG (cs := cs.map fun p => (p.1, p.2.1)) KX G'.T.g G'.T.b G'.T.builtins G'.T.nolimit hg ?_ ?_ ?_ G'.T.bmain hobj hints (Nat.le_trans hlen hn2) hr (let ⟨mm, z, _⟩ := (G'.T.seer himp).mods; ⟨mm, z⟩) (fun base h1 h2 h3 h4 => hF base h1 h2 h3 fun p hp => h4 _ (List.mem_map.mpr ⟨p, hp, rfl⟩)) hb ?_
  · intro p hp
    obtain ⟨p', hp', rfl⟩ := List.mem_map.mp hp
    exact hTs w _ Y _ (hall p' hp').2.1
  · intro p hp
    obtain ⟨p', hp', rfl⟩ := List.mem_map.mp hp
    exact (hall p' hp').2.2
  · intro p hp
    obtain ⟨p', hp', rfl⟩ := List.mem_map.mp hp
    exact PySem.W.codeHd_of_K KX (hall p' hp').1
  intro H hH hS
  obtain ⟨rs, hrs⟩ := hG ns hlen
  have hT' : ∀ p ∈ cs, H p.2.1 = some (.tbl #[]) := fun p hp => hH (p.1, p.2.1) (List.mem_map.mpr ⟨p, hp, rfl⟩)
  have nz : ∀ b : Addr, some b ∉ ([none] : List (Option Addr)) := fun b z => by cases List.mem_singleton.mp z
  have hs : SqL (K w.params) (hid (cs.map fun p => p.2.1) [none] H) a (ns.map V.int) := by
    have nt : ∀ o, H a = some o → (∀ ps, o ≠ .tbl ps) → hid (cs.map fun p => p.2.1) [none] H a = some o := fun o ho hn => hid_some.mpr ⟨ho, fun z => by
      obtain ⟨p, hp, e⟩ := List.mem_map.mp z
      have := hT' p hp
      rw [e, ho] at this
      exact hn _ (Option.some.inj this), nz a⟩
    rcases hS with (h | ⟨o, h⟩) | h
    · exact .inl (.inl (nt _ h fun ps z => by cases z))
    · exact .inl (.inr ⟨o, nt _ h fun ps z => by cases z⟩)
    · exact .inr h
  refine ⟨cs.map fun p => p.2.1, [none], [.z ns], _, rs, @Sim.mk (tbOf cs) _ _ _ _ _ _ rfl rfl ?_ ?_ ?_ ?_ ?_ ?_ ?_ ?_, rfl, hrs, ?_⟩
  · intro i s hi
    cases i with
    | zero =>
      cases (show some (some (S.z ns)) = some (some s) from hi)
      exact ⟨.ref a, rfl, a, rfl, hs⟩
    | succ i => cases (show (none : Option (Option S)) = some (some s) from hi)
  · intro i c hi
    cases i with
    | zero => cases (show some (some (S.z ns)) = some (some (S.o c)) from hi)
    | succ i => cases (show (none : Option (Option S)) = some (some (S.o c)) from hi)
  · intro i b hi
    cases i with
    | zero => cases (show some (none : Option Addr) = some (some b) from hi)
    | succ i => cases (show (none : Option (Option Addr)) = some (some b) from hi)
  · intro i j b hi
    cases i with
    | zero => cases (show some (none : Option Addr) = some (some b) from hi)
    | succ i => cases (show (none : Option (Option Addr)) = some (some b) from hi)
  · intro i b hi
    cases i with
    | zero => cases (show some (none : Option Addr) = some (some b) from hi)
    | succ i => cases (show (none : Option (Option Addr)) = some (some b) from hi)
  · intro b hb
    obtain ⟨p, hp, e⟩ := List.mem_map.mp hb
    exact ⟨.tbl #[], by rw [← e]; exact hT' p hp, trivial⟩
  · intro p hp
    obtain ⟨p', hp', rfl⟩ := List.mem_map.mp hp
    exact List.mem_map.mpr ⟨p', hp', rfl⟩
  · intro p hp
    obtain ⟨p', hp', rfl⟩ := List.mem_map.mp hp
    exact TabS.nil (hT' p' hp')
  · intro v H' _ _ hv
    cases (show Dq _ _ v (.bool true) from hv)
    rfl
def tabC (K : PySem.W.Frag) (x : Str) : Addr := match PySem.W.tabIn K x with
  | some p => p.1
  | none => 0
def tabP (K : PySem.W.Frag) (x : Str) : Addr := match PySem.W.tabIn K x with
  | some p => p.2
  | none => 0
theorem tab_some {K : PySem.W.Frag} {x : Str} (h : (PySem.W.tabIn K x).isSome = true) : PySem.W.tabIn K x = some (tabC K x, tabP K x) := by
  unfold tabC tabP
  cases e : PySem.W.tabIn K x with
  | none => rw [e] at h; cases h
  | some p => rfl
/-- a def's code object is the one that tabIn tells -/
theorem maker_code {K : PySem.W.Frag} {x qual : Str} {st : Stmt} {f c P : Addr} {oc : Value} {od an : Option Addr} {osl : Array (Option Value)} {kV doc pm cdv ct : Value} (t : PySem.W.tabIn K x = some (c, P)) (a : PySem.W.nsIn K mainGlobals x = some (some (.ref f)))
    (l : K.lookup f = some ⟨oc, od, .func (PySem.W.fnOf x qual (defArgs st) (defBody st) (defScope st) .none kV doc pm an cdv ct), osl⟩) : cdv = .ref c := by
  unfold PySem.W.tabIn at t
  rw [a] at t
  simp only at t
  rw [l] at t
  simp only at t
  split at t
  · split at t
    · split at t
      · cases t
        rename_i h _ _ _ _ _ _
        first
          | rfl
          | assumption
      · cases t
    · cases t
  · cases t
/-! ### a def that makes lambdas: its code object is known -/
structure FunM (K : PySem.W.Frag) (x qual : Str) (st : Stmt) (f : Addr) (fd : FuncData) (c : Addr) : Prop where
  ex : ∃ (oc : Value) (od : Option Addr) (kV doc pm : Value) (an : Option Addr) (ct : Value) (osl : Array (Option Value)),
    fd = PySem.W.fnOf x qual (defArgs st) (defBody st) (defScope st) .none kV doc pm an (.ref c) ct ∧ K.lookup f = some ⟨oc, od, .func fd, osl⟩ ∧ PySem.W.codeIn K (.ref c) qual = true
  kp : PySem.W.keepIn K (.ref f) = true
theorem funM_mk {K : PySem.W.Frag} {x qual : Str} {st : Stmt} {f c : Addr} {oc : Value} {od an : Option Addr} {osl : Array (Option Value)} {kV doc pm cdv ct : Value} (l : K.lookup f = some ⟨oc, od, .func (PySem.W.fnOf x qual (defArgs st) (defBody st) (defScope st) .none kV doc pm an cdv ct), osl⟩)
    (e : cdv = .ref c) (h : PySem.W.codeIn K cdv qual = true) (k : PySem.W.keepIn K (.ref f) = true) : FunM K x qual st f (PySem.W.fnOf x qual (defArgs st) (defBody st) (defScope st) .none kV doc pm an cdv ct) c := by
  subst e
  exact ⟨⟨oc, od, kV, doc, pm, an, ct, osl, rfl, l, h⟩, k⟩
variable [TB]
theorem gfn_ofM {Pr : Program} {w : World} {K : PySem.W.Frag} {mg : Str → Option Value} {base : Heap} {x qual : Str} {st : Stmt} {f c : Addr} {fd : FuncData} {N ps : List Str} {k : Nat} {sp : Sp} (F : FunM K x qual st f fd c) (Sc : FnScope N ps (defScope st))
    (hlen : ∀ vs H Q E, sp vs H Q E → vs.length = ps.length)
    (hbody : ∀ (A : Around) (outer : List Env) (s : Shared) (H : Hp) (vs : List V) (Q : VK) (E : XK), A.guards = some [] → Room k (A.deeper (envOfC qual (defScope st) s.heap.objs.size f (.ref c))) → sp vs H Q E →
      ∃ t, PSs (cxOf CX0 Pr w K mg base N qual (defScope st) f (.ref c) A outer s H E).nox (defBody st) t ∧ t { nx := fun _ H' => Q .non H', rt := Q } (L2.start N vs) H) :
    FnG Pr w K mg base (k + 1) f fd ps sp := by
  obtain ⟨oc, od, kV, doc, pm, an, ct, osl, efd, lk, hcd⟩ := F.ex
  subst efd
  constructor
  · exact hlen
  intro A outer s H args us vs Q E hG hr e0 hb r hsp
  have vl := hlen _ _ _ _ hsp
  have kept : ∀ b o, base.get? b = some o → s.heap.get? b = some o := fun b o e => (e0.bs b o e).1
  have KX : K.In s.heap := e0.mod.kin.keeps kept
  have nl : s.heap.NoLimit := e0.mod.nolimit.keeps kept
  have kinds : ∀ y ∈ ps.zip us, (defScope st).names.lookup y.1 = some .local ∨
      ((defScope st).names.lookup y.1 = some .cell ∧
        ((cellsFrom (s.heap.objs.size + 1) (defScope st).names []).lookup y.1).isSome = true) := by
    intro y hy
    have hm : y.1 ∈ ps := (List.of_mem_zip (a := y.1) (b := y.2) hy).1
    rcases Sc.par y.1 hm with q | q
    · exact .inl q
    · refine .inr ⟨q, ?_⟩
      exact PySem.W.cellsFrom_some _ _ _ (.inl q)
  refine codeAny_call_function hr.depth (KX _ _ lk) rfl Sc.co Sc.gen rfl ?_ (hb _ _ _ _ ?_)
  · exact PySem.W.codeRec_of KX hcd
  refine wpAny_newFunctionEnv_cells Sc.kind kinds ?_
  intro env henv s1 x1
  subst henv
  refine ⟨nl.keeps x1.toInCall.keep, ?_⟩
  apply codeAny_func
  obtain ⟨t, ht, hq⟩ := hbody A outer s H vs Q E hG (hr.deeper _) hsp
  have I0 := inv_start (CX := CX0) (E := E) Sc hr.hd e0 vl r x1
  have W := ht.nox.run [] s1 (L2.start N vs) H _ I0 hq
  refine wpAny_mono W ?_ (fun _ _ z => z)
  intro fl s' hs
  cases fl with
  | ret u =>
    obtain ⟨v, σ', H', J, rv, q⟩ := hs
    exact ⟨v, H', J.os, J.bare, J.base, J.hok, rv, q⟩
  | next =>
    obtain ⟨σ', H', J, q⟩ := hs
    exact ⟨V.non, H', J.os, J.bare, J.base, J.hok, rfl, q⟩
  | brk => exact hs.elim fun _ z => z.elim fun _ z => z.2.elim
  | cont => exact hs.elim fun _ z => z.elim fun _ z => z.2.elim
theorem fn_okM {Pr : Program} {w : World} {K : PySem.W.Frag} {mg : Str → Option Value} {base : Heap} {x qual : Str} {st : Stmt} {f c : Addr} {fd : FuncData} {N ps : List Str} {k : Nat} {P : List Nat} {body : SEV} (F : FunM K x qual st f fd c) (Sc : FnScope N ps (defScope st))
    (hbody : ∀ (A : Around) (outer : List Env) (s : Shared) (H : Hp) (E : XK), A.guards = some [] → Room k (A.deeper (envOfC qual (defScope st) s.heap.objs.size f (.ref c))) → DSs (cxOf CX0 Pr w K mg base N qual (defScope st) f (.ref c) A outer s H E).nox P (defBody st) body) :
    FnG Pr w K mg base (k + 1) f fd ps (spF K ps.length (runF P N.length body)) := by
  refine gfn_ofM F Sc (fun vs H Q E h => ?_) (fun A outer s H vs Q E hG hr h => ⟨_, hbody A outer s H E hG hr, spF_lift h⟩)
  obtain ⟨T, as, ss, r, cs, hs, hl, _⟩ := h
  have := hs.slen
  simp at this
  omega
theorem def_mkM {Pr : Program} {w : World} {K : PySem.W.Frag} {mg : Str → Option Value} {base : Heap} {x : Str} {st : Stmt} {f c : Addr} {fd : FuncData} {N ps : List Str} {k : Nat} {P : List Nat} {body : SEV} (F : FunM K x x st f fd c) (gm : mg x = some (.ref f)) (b : Binds K fd ps []) (Sc : FnScope N ps (defScope st))
    (hbody : ∀ (A : Around) (outer : List Env) (s : Shared) (H : Hp) (E : XK), A.guards = some [] → Room k (A.deeper (envOfC x (defScope st) s.heap.objs.size f (.ref c))) → DSs (cxOf CX0 Pr w K mg base N x (defScope st) f (.ref c) A outer s H E).nox P (defBody st) body) :
    Def Pr w K mg base (k + 1) x ps (runF P N.length body) := ⟨f, fd, gm, F.kp, b, fn_okM F Sc hbody⟩
end DL

namespace DL
open PySem PySem.Spec PyProof.Rows L2
variable [TB]
/-! ### xs.remove(k), whole numbers -/
def gRem (xs ds : List PyData) : Option (S × List PyData) := match ds with
  | [.int k] => (intsU xs).bind fun ns => if k ∈ ns then some (.d .none, (ns.erase k).map PyData.int) else none
  | _ => none
theorem intsU_eq : ∀ {xs : List PyData} {ns : List Int}, intsU xs = some ns → xs = ns.map PyData.int
  | [], ns, h => by cases h; rfl
  | .int i :: r, ns, h => by
    have h' : (intsU r).map (i :: ·) = some ns := h
    cases e : intsU r with
    | none => rw [e] at h'; cases h'
    | some q =>
      rw [e] at h'
      cases h'
      rw [intsU_eq e]
      rfl
  | .none :: r, _, h => by cases h
  | .bool _ :: r, _, h => by cases h
  | .str _ :: r, _, h => by cases h
  | .list _ :: r, _, h => by cases h
  | .tuple _ :: r, _, h => by cases h
  | .dict _ :: r, _, h => by cases h
theorem idx_no {k : Int} : ∀ {ns : List Int} {m : Nat}, m < ns.idxOf k → ns[m]? ≠ some k
  | [], m, h => by simp at h
  | x :: xs, m, h => by
    rw [List.idxOf_cons] at h
    cases hx : x == k with
    | true => rw [hx] at h; simp at h
    | false =>
      rw [hx] at h
      simp only [cond_false] at h
      cases m with
      | zero =>
        intro e
        simp at e
        simp [e] at hx
      | succ m =>
        intro e
        exact idx_no (k := k) (ns := xs) (m := m) (by omega) (by simpa using e)
theorem md_rem {K : PySem.W.Frag} : MutD K rRemI gRem := fun T ρ H a ys xs ds vs s zs Q h1 h2 h3 h4 h5 => by
  unfold gRem at h4
  split at h4
  · rename_i k
    cases e : intsU xs with
    | none => rw [e] at h4; cases h4
    | some ns =>
      rw [e] at h4
      simp only [Option.bind_some] at h4
      split at h4
      · rename_i hk
        cases h4
        cases h3 with
        | cons q1 q2 =>
          cases q1
          cases q2
          have ev := intsU_V h2 e
          subst ev
          have hlt : ns.idxOf k < ns.length := List.idxOf_lt_length_iff.mpr hk
          refine ⟨a, ns, k, ns.idxOf k, rfl, rfl, h1, ?_, fun m hm he => ?_, ?_⟩
          · rw [List.getElem?_eq_getElem hlt, List.getElem_idxOf hlt]
          · exact idx_no hm he
          · rw [← List.erase_eq_eraseIdx_of_idxOf (a := k) (l := ns) rfl]
            exact h5 _ _ (dq_ints _) .non
      · cases h4
  · cases h4
section
variable {X : Cx} {pos p : Pos} {e : Expr} {es : List Expr} {fa : AEV}
theorem de_remove {x : Str} {opos apos cpos : Pos} {i : Nat} (q : PE X (.Name x opos) (tVar i)) (ha : DA X (e :: es) fa)
    (hbase : attributeBase (.Name x opos) "remove" X.env (eval (.Name x opos) X.env) = eval (.Name x opos) X.env := by rfl)
    (hfew : ((backTo cpos (starEach (e :: es) X.env)).all (fun x => !x.1) && (backToKw cpos (keywordEach [] X.env)).all (fun x => x.1.isSome)
      && decide ((e :: es).length + ([] : List Keyword).length + (if ([] : List Keyword).isEmpty then 0 else 1) < 30)) = true := by rfl)
    (hline : (apos.endLine == cpos.line) = true := by rfl) (hs : starEach (e :: es) X.env = (false, eval e X.env) :: starEach es X.env := by rfl) (hplain : (backTo cpos (starEach es X.env)).any (·.1) = false := by rfl) :
    DE X (.Call (.Attribute (.Name x opos) "remove" apos) (e :: es) [] cpos) (mutL i gRem fa) := de_mut PySem.F.plainAttrs_list PySem.F.slot_list_remove PySem.F.type_list_remove mt_remove md_rem q ha hbase hfew hline hs hplain
end
end DL

namespace DL
open PySem PySem.Spec PyProof.Rows L2
variable [TB]
/-! ### a comprehension over a name's own list, which stays its own -/
def lcDo (p : Nat) (vs : List Nat) (g : GEV) (tt : TEV) (te : EV) : Nat → Nat → Ds → Option (List PyData × Ds)
  | m, k, δ => match slot δ p with
    | some (.o (.l zs)) => match zs[k]?, m with
      | none, _ => some ([], δ)
      | some _, 0 => none
      | some x, m + 1 => (g x δ).bind fun δ1 => (tt δ1).bind fun b =>
        if b.1 then (te b.2).bind fun y => match frz y.1 with
          | .d d => if noOwn vs y.2 then (lcDo p vs g tt te m (k + 1) (wipeD y.2 vs)).map fun r => (d :: r.1, r.2) else none
          | _ => none
        else if noOwn vs b.2 then lcDo p vs g tt te m (k + 1) (wipeD b.2 vs) else none
    | _ => none
def lcO (p : Nat) (vs : List Nat) (g : GEV) (tt : TEV) (te : EV) : EV := fun δ => match slot δ p with
  | some (.o (.l xs)) => if noOwn vs δ then (lcDo p vs g tt te xs.length 0 (wipeD δ vs)).bind fun r => if r.1.length ≤ sizeLine then some (.o (.l r.1), restD δ r.2 vs) else none else none
  | _ => none
def iOwn (K : PySem.W.Frag) (p : Nat) : TI := fun σ H R => ∃ a ws, σ[p]? = some (some (.ref a)) ∧ SqL K H a ws ∧ R (Itl K a) H
section
variable {X : Cx} {tg : Expr}
theorem pi_own {p : Nat} {x : Str} {pos : Pos} (q : PE X (.Name x pos) (tVar p)) : PI X tg (.Name x pos) (iOwn X.K p) := pi_imp (pi_seq q) fun σ H R ⟨a, ws, h1, h2, h3⟩ => ⟨_, h1, a, rfl, .inl ⟨⟨ws, h2⟩, h3⟩⟩
theorem lco_ok {K : PySem.W.Frag} {p : Nat} {vs ws : List Nat} {g : GEV} {tt : TEV} {te : EV} (hw : ∀ j ∈ ws, j ∈ vs) (σ : L2.St) (H : Hp) (Q : VK) (h : lift K (lcO p vs g tt te) σ H Q) : tLc (iOwn K p) (liftG K ws g) (liftT K tt) (lift K te) vs σ H Q := by
  obtain ⟨T, ρ, δ, s, δ', hs, hf, hq⟩ := h
  unfold lcO at hf
  split at hf
  case h_2 => cases hf
  rename_i xs hsl
  obtain ⟨a0, o0, z1, z2, z3, z4⟩ := sim_owned hs hsl
  obtain ⟨ws0, rfl, z5⟩ := z4
  have hpv : ∀ {vs : List Nat}, noOwn vs δ = true → p ∉ vs := fun {vs} hn z => notOwn_no (noOwn_mem hn z) (slot_some hsl)
  by_cases hT : True
  case neg => exact absurd trivial hT
  case pos =>
    split at hf
    case isFalse => cases hf
    rename_i hno
    cases el : lcDo p vs g tt te xs.length 0 (wipeD δ vs) with
    | none => rw [el] at hf; cases hf
    | some r =>
      obtain ⟨out, δe⟩ := r
      rw [el] at hf
      simp only [Option.bind_some] at hf
      split at hf
      case isFalse => cases hf
      rename_i hsz
      cases hf
      have hpn := hpv hno
      refine ⟨a0, ws0, z1, SqL.of z3, ?_⟩
      have s1 := hs
      intro D hD
      refine ⟨fun i m H' => ∃ ρ' δ2 acc dn rs, Sim K (D :: T) ρ' δ2 (L2.wipe σ vs) H' ∧ Same (hid T ρ H) (hid (D :: T) ρ' H') ∧ (∀ a, a ∈ T → Kp (H a) (H' a)) ∧ H' D = some (.lst acc) ∧ DqAll K (hid (D :: T) ρ' H') acc dn ∧
        lcDo p vs g tt te m i δ2 = some (rs, δe) ∧ dn ++ rs = out, ⟨xs.length, ρ, wipeD δ vs, [], [], out, (s1.wipe hno).addTmp hD, ?_, ?_, upd_same, .nil, el, rfl⟩, ?_⟩
      · rw [hid_new hD]
        exact Same.refl _
      · intro a ha
        obtain ⟨o, ho, _⟩ := s1.tmp a ha
        rw [upd_ne (ne_of_none ho hD)]
        exact .refl
      rintro i m H2 ⟨ρ2, δ2, acc, dn, rs, s2, sm, tm, hacc, hdn, hl, hout⟩
      have alen : acc.length = dn.length := dpAll_len hdn
      unfold lcDo at hl
      split at hl
      case h_2 => cases hl
      rename_i zs hsl2
      obtain ⟨a2, o2, y1, y2, y3, y4⟩ := sim_owned s2 hsl2
      obtain ⟨ws2, rfl, y5⟩ := y4
      rw [wipe_ne hpn, z1] at y1
      cases y1
      split at hl
      case h_2 => cases hl
      case h_3 xi m hxi =>
        obtain ⟨vi, v1, v2⟩ := dpAll_get y5 hxi
        cases eg : g xi δ2 with
        | none => rw [eg] at hl; cases hl
        | some δ3 =>
          rw [eg] at hl
          simp only [Option.bind_some] at hl
          cases et : tt δ3 with
          | none => rw [et] at hl; cases hl
          | some b =>
            obtain ⟨b, δ4⟩ := b
            rw [et] at hl
            simp only [Option.bind_some] at hl
            refine .inr ⟨⟨ws2, vi, SqL.of y3, v1⟩, fun H' => ∃ ρ' δ2 acc dn rs, Sim K (D :: T) ρ' δ2 (L2.wipe σ vs) H' ∧ Same (hid T ρ H) (hid (D :: T) ρ' H') ∧ (∀ a, a ∈ T → Kp (H a) (H' a)) ∧ H' D = some (.lst acc) ∧ DqAll K (hid (D :: T) ρ' H') acc dn ∧
              lcDo p vs g tt te m (i + 1) δ2 = some (rs, δe) ∧ dn ++ rs = out, ?_, fun x H3 hy => ?_⟩
            · rintro H' ⟨ρ', δ5, acc', dn', rs', q1, q2, q3, q4, q5, q6, q7⟩
              exact ⟨m, Nat.lt_succ_self m, ρ', δ5, acc', dn', rs', q1, q2, q3, q4, q5, q6, q7⟩
            obtain ⟨rfl, fv⟩ := hy
            have hv1 := fv ws2 (SqL.of y3)
            rw [v1] at hv1
            cases hv1
            have y1 : Same H3 H3 := Same.refl _
            have e2 := s2.trk.extT y1
            refine ⟨D :: T, ρ2, δ2, xi, δ3, s2.mono y1, v2, eg, fun ρ4 σ4 H4 s4 x4 o4 => ?_⟩
            have hwp : L2.wipe σ4 vs = L2.wipe σ vs := by rw [wipe_only o4 hw, wipe_idem]
            refine ⟨hwp, D :: T, ρ4, δ3, b, δ4, s4, et, fun ρ5 H5 s5 x5 => ?_⟩
            have xx : Ext (D :: T) ρ2 H3 ρ5 H5 := e2.trans (x4.trans x5)
            -- a turn's end
            have fin : ∀ (ρ6 : List (Option Addr)) (δ6 : Ds) (H6 : Hp), Sim K (D :: T) ρ6 δ6 σ4 H6 → Ext (D :: T) ρ2 H3 ρ6 H6 → noOwn vs δ6 = true →
                Sim K (D :: T) ρ6 (wipeD δ6 vs) (L2.wipe σ vs) H6 ∧ Same (hid T ρ H) (hid (D :: T) ρ6 H6) ∧ (∀ a, a ∈ T → Kp (H a) (H6 a)) ∧ H6 D = some (.lst acc) ∧ DqAll K (hid (D :: T) ρ6 H6) acc dn := by
              intro ρ6 δ6 H6 s6 x6 n6
              have q := s6.wipe n6
              rw [hwp] at q
              exact ⟨q, sm.trans x6.same, fun a ha => (tm a ha).trans (x6.tmp a (List.mem_cons_of_mem _ ha)), x6.at List.mem_cons_self hacc, dpAllM x6.same _ hdn⟩
            cases b with
            | false =>
              refine L2.iteF ?_
              rw [if_neg Bool.false_ne_true] at hl
              split at hl
              case isFalse => cases hl
              rename_i n5
              obtain ⟨q1, q2, q3, q4, q5⟩ := fin ρ5 δ4 H5 s5 xx n5
              exact ⟨ρ5, _, acc, dn, rs, q1, q2, q3, q4, q5, hl, hout⟩
            | true =>
              refine L2.iteT ?_
              rw [if_pos rfl] at hl
              cases ey : te δ4 with
              | none => rw [ey] at hl; cases hl
              | some y =>
                obtain ⟨u, δ6⟩ := y
                rw [ey] at hl
                simp only [Option.bind_some] at hl
                split at hl
                case h_2 => cases hl
                rename_i d hd'
                split at hl
                case isFalse => cases hl
                rename_i n6
                cases er : lcDo p vs g tt te m (i + 1) (wipeD δ6 vs) with
                | none => rw [er] at hl; cases hl
                | some r =>
                  obtain ⟨rs', δz⟩ := r
                  rw [er] at hl
                  cases hl
                  have hlen : acc.length < sizeLine := by
                    rw [alen]
                    have : dn.length + (rs'.length + 1) ≤ sizeLine := by
                      have := hsz
                      rw [← hout, List.length_append, List.length_cons] at this
                      exact this
                    omega
                  -- the element
                  have each : ∀ (ρ7 : List (Option Addr)) (v : V) (H7 : Hp), Sim K (D :: T) ρ7 δ6 σ4 H7 → Ext (D :: T) ρ5 H5 ρ7 H7 → Dq K (hid (D :: T) ρ7 H7) v d →
                      ∃ acc, H7 D = some (.lst acc) ∧ acc.length < sizeLine ∧ (∃ ρ' δ2 acc' dn rs, Sim K (D :: T) ρ' δ2 (L2.wipe σ vs) (upd H7 D (.lst (acc ++ [v]))) ∧ Same (hid T ρ H) (hid (D :: T) ρ' (upd H7 D (.lst (acc ++ [v])))) ∧ (∀ a, a ∈ T → Kp (H a) ((upd H7 D (.lst (acc ++ [v]))) a)) ∧ (upd H7 D (.lst (acc ++ [v]))) D = some (.lst acc') ∧ DqAll K (hid (D :: T) ρ' (upd H7 D (.lst (acc ++ [v])))) acc' dn ∧
                        lcDo p vs g tt te m (i + 1) δ2 = some (rs, δz) ∧ dn ++ rs = out) := by
                    intro ρ7 v H7 s7 x7 hv
                    obtain ⟨q1, q2, q3, q4, q5⟩ := fin ρ7 δ6 H7 s7 (xx.trans x7) n6
                    refine ⟨acc, q4, hlen, ρ7, _, acc ++ [v], dn ++ [d], rs', q1.tmpW List.mem_cons_self (nb_of q4), ?_, ?_, upd_same, ?_, er, by rw [List.append_assoc]; exact hout⟩
                    · rw [hid_tmp List.mem_cons_self]
                      exact q2
                    · intro a ha
                      have ne : a ≠ D := fun z => by
                        subst z
                        exact (s1.trk.fresh hD).1 ha
                      rw [upd_ne ne]
                      exact q3 a ha
                    · rw [hid_tmp List.mem_cons_self]
                      exact dpAll_app q5 (.cons hv .nil)
                  refine ⟨D :: T, ρ5, δ4, u, δ6, s5, ey, ?_⟩
                  cases u with
                  | o c =>
                    intro ρ7 p H7 o s7 x7 hp hc
                    have hn := frz_new s7.trk hp hc
                    rw [hd'] at hn
                    exact each ρ7 (.ref p) _ (s7.mono (same_new hp)) (x7.trans (s7.trk.extT (same_new hp))) hn
                  | d c =>
                    cases hd'
                    exact fun ρ7 v H7 s7 x7 hv => each ρ7 v H7 s7 x7 hv
                  | t c => cases hd'
                  | z c => cases hd'
                  | p c => cases hd'
      case h_1 hxi =>
        cases hl
        rw [List.append_nil] at hout
        subst hout
        have hle : zs.length ≤ i := List.getElem?_eq_none_iff.mp hxi
        refine .inl ⟨⟨ws2, SqL.of y3, by rw [dpAll_len y5]; exact hle⟩, ?_⟩
        have hh : hid T ρ2 (rm H2 D) = hid (D :: T) ρ2 H2 := hid_rm
        rw [← rm_upd hacc]
        refine hq ρ2 D (rm H2 D) (.lst acc) ?_ ⟨by rw [hh]; exact sm, fun a ha => ?_, fun _ => tabs_rm s2.tabs (nb_of hacc)⟩ rm_self ⟨acc, rfl, by rw [hh]; exact hdn⟩
        · have lenE : δe.length = σ.length := by
            have := s2.slen
            rw [wipe_length] at this
            exact this.symm
          refine ⟨by rw [restD_len]; exact s2.len, by rw [restD_len]; exact lenE.symm, fun j u hj => ?_, fun j c hj => ?_, fun j a hj => ?_, s2.inj, fun j a hj hm => s2.nt j a hj (List.mem_cons_of_mem _ hm), fun a ha => ?_, s1.tabT, tabs_rm s2.tabs (nb_of hacc)⟩
          · by_cases hjv : j ∈ vs
            · have hjl : j < δe.length := by
                have := (List.getElem?_eq_some_iff.mp hj).1
                rw [restD_len] at this
                exact this
              rw [restD_in hjv hjl] at hj
              have hj' := slot_some (Option.some.inj hj)
              obtain ⟨v, e1, e2⟩ := s1.slot j u hj'
              refine ⟨v, e1, ?_⟩
              cases u with
              | o c => exact (notOwn_no (noOwn_mem hno hjv) hj').elim
              | d x => exact (show SV K (hid T ρ2 (rm H2 D)) v (.d x) by rw [hh]; exact svM (s := .d x) sm e2)
              | t x => exact (show SV K (hid T ρ2 (rm H2 D)) v (.t x) by rw [hh]; exact svM (s := .t x) sm e2)
              | z x => exact (show SV K (hid T ρ2 (rm H2 D)) v (.z x) by rw [hh]; exact svM (s := .z x) sm e2)
              | p x => exact (show SV K (hid T ρ2 (rm H2 D)) v (.p x) by rw [hh]; exact svM (s := .p x) sm e2)
            · rw [restD_ne hjv] at hj
              obtain ⟨v, e1, e2⟩ := s2.slot j u hj
              rw [wipe_ne hjv] at e1
              refine ⟨v, e1, ?_⟩
              cases u with
              | o c =>
                obtain ⟨b, f1, f2⟩ := s2.own j c hj
                rw [wipe_ne hjv, e1] at f2
                cases f2
                obtain ⟨a, x, z1, z2, z3⟩ := e2
                cases z1
                have ne : b ≠ D := fun z => by
                  subst z
                  exact s2.nt j b f1 List.mem_cons_self
                exact ⟨b, x, rfl, by rw [rm_ne ne]; exact z2, by rw [hh]; exact z3⟩
              | d x => exact (show SV K (hid T ρ2 (rm H2 D)) v (.d x) by rw [hh]; exact e2)
              | t x => exact (show SV K (hid T ρ2 (rm H2 D)) v (.t x) by rw [hh]; exact e2)
              | z x => exact (show SV K (hid T ρ2 (rm H2 D)) v (.z x) by rw [hh]; exact e2)
              | p x => exact (show SV K (hid T ρ2 (rm H2 D)) v (.p x) by rw [hh]; exact e2)
          · by_cases hjv : j ∈ vs
            · have hjl : j < δe.length := by
                have := (List.getElem?_eq_some_iff.mp hj).1
                rw [restD_len] at this
                exact this
              rw [restD_in hjv hjl] at hj
              exact (notOwn_no (noOwn_mem hno hjv) (slot_some (Option.some.inj hj))).elim
            · rw [restD_ne hjv] at hj
              obtain ⟨a, f1, f2⟩ := s2.own j c hj
              rw [wipe_ne hjv] at f2
              exact ⟨a, f1, f2⟩
          · obtain ⟨c, hc⟩ := s2.own' j a hj
            by_cases hjv : j ∈ vs
            · obtain ⟨b, f1, f2⟩ := s2.own j c hc
              have hjl : j < σ.length := by
                have := (List.getElem?_eq_some_iff.mp hc).1
                omega
              rw [wipe_in hjv hjl] at f2
              cases f2
            · exact ⟨c, by rw [restD_ne hjv]; exact hc⟩
          · have ne : a ≠ D := fun z => by
              subst z
              exact (s1.trk.fresh hD).1 ha
            rw [rm_ne ne]
            exact (tm a ha).nt (s1.tmp a ha)
        · have ne : a ≠ D := fun z => by
            subst z
            exact (s1.trk.fresh hD).1 ha
          rw [rm_ne ne]
          exact tm a ha
theorem de_lco {elt tg : Expr} {x : Str} {xpos : Pos} {p : Nat} {ifs : List Expr} {scope : Scope} {own : List (Str × Nat)} {pos : Pos} {ws : List Nat} {g : GEV} {tt : TEV} {te : EV} (hc : X.calm = true) (hN : X.N.Nodup) (hi : PE X (.Name x xpos) (tVar p)) (ok : BlkOk X.N X.env.scope scope own) (hw : ∀ j ∈ ws, j ∈ own.map (·.2))
    (hg : ∀ (s : Shared) (H : Hp) (C : Addr) (cl : List (Str × Addr)) (fp : List Addr), DG (X.blk s H scope (compEnvC scope cl C X.env) fp) ws tg g)
    (ht : ∀ (s : Shared) (H : Hp) (C : Addr) (cl : List (Str × Addr)) (fp : List Addr), DTs (X.blk s H scope (compEnvC scope cl C X.env) fp) ifs tt)
    (he : ∀ (s : Shared) (H : Hp) (C : Addr) (cl : List (Str × Addr)) (fp : List Addr), DE (X.blk s H scope (compEnvC scope cl C X.env) fp) elt te) (hs : ∀ y, foldedSetIterable (.Name x xpos) X.env y = pure y := by intro _; rfl) :
    DE X (.ListComp elt [⟨tg, .Name x xpos, ifs, 0⟩] scope pos) (lcO p (own.map (·.2)) g tt te) := pe_imp (pe_lc hc hN (pi_own hi) ok hg ht he hs) (lco_ok hw)
theorem ds_setLcO {P : List Nat} {i : Nat} {y : Str} {py : Pos} {elt tg : Expr} {x : Str} {xpos : Pos} {p : Nat} {ifs : List Expr} {scope : Scope} {own : List (Str × Nat)} {pos spos : Pos} {ws : List Nat} {g : GEV} {tt : TEV} {te : EV} (hc : X.calm = true) (hN : X.N.Nodup) (hy : X.N[i]? = some y) (hyl : X.env.scope.names.lookup y = some .local) (hP : i ∉ P)
    (hsw : swapsWith (.ListComp elt [⟨tg, .Name x xpos, ifs, 0⟩] scope pos) (some (.Name y py)) spos.line X.env = pure true) (hi : PE X (.Name x xpos) (tVar p)) (ok : BlkOk X.N X.env.scope scope own) (hw : ∀ j ∈ ws, j ∈ own.map (·.2))
    (hg : ∀ (s : Shared) (H : Hp) (C : Addr) (cl : List (Str × Addr)) (fp : List Addr), DG (X.blk s H scope (compEnvC scope cl C X.env) fp) ws tg g)
    (ht : ∀ (s : Shared) (H : Hp) (C : Addr) (cl : List (Str × Addr)) (fp : List Addr), DTs (X.blk s H scope (compEnvC scope cl C X.env) fp) ifs tt)
    (he : ∀ (s : Shared) (H : Hp) (C : Addr) (cl : List (Str × Addr)) (fp : List Addr), DE (X.blk s H scope (compEnvC scope cl C X.env) fp) elt te) (hs : ∀ y, foldedSetIterable (.Name x xpos) X.env y = pure y := by intro _; rfl) :
    DS X P (.Assign [.Name y py] (.ListComp elt [⟨tg, .Name x xpos, ifs, 0⟩] scope pos) spos) (setS i (lcO p (own.map (·.2)) g tt te)) := ps_imp (ps_setLc hc hN hy hyl hsw (pi_own hi) ok hg ht he hs) fun D σ H ⟨T, ρ, δ, o, hs, hf, hq⟩ => lco_ok hw σ H _ (set_ok hP ⟨T, ρ, δ, o, hs, hf, hq⟩)
end
/-! its value, where nothing is changed on the way -/
section
omit [TB]
variable {δ : Ds}
theorem lcDo_pure {i p : Nat} {tt : TEV} {te : EV} {zs : List PyData} (q : PyData → Bool) (h : PyData → PyData) (hp : slot δ p = some (.o (.l zs))) (hi : δ[i]? = some none) (h1 : ∀ x ∈ zs, tt (δ.set i (some (.d x))) = some (q x, δ.set i (some (.d x)))) (h2 : ∀ x ∈ zs, q x = true → te (δ.set i (some (.d x))) = some (.d (h x), δ.set i (some (.d x)))) :
    ∀ (m k : Nat), zs.length ≤ k + m → lcDo p [i] (nameG i) tt te m k δ = some (((zs.drop k).filter q).map h, δ)
  | m, k, hm => by
    unfold lcDo
    rw [hp]
    simp only
    cases e : zs[k]? with
    | none =>
      rw [List.drop_eq_nil_of_le (List.getElem?_eq_none_iff.mp e)]
      rfl
    | some x =>
      obtain ⟨hk, hx⟩ := List.getElem?_eq_some_iff.mp e
      cases m with
      | zero => omega
      | succ m =>
        have hx' : x ∈ zs := by
          rw [← hx]
          exact List.getElem_mem hk
        have hd : zs.drop k = x :: zs.drop (k + 1) := by rw [List.drop_eq_getElem_cons hk, hx]
        have ih := lcDo_pure q h hp hi h1 h2 m (k + 1) (by omega)
        have w : wipeD (δ.set i (some (.d x))) [i] = δ := by
          show (δ.set i (some (.d x))).set i none = δ
          rw [List.set_set, set_none_self hi]
        have hil : i < δ.length := (List.getElem?_eq_some_iff.mp hi).1
        have no : noOwn [i] (δ.set i (some (.d x))) = true := by
          show (notOwn (slot (δ.set i (some (.d x))) i) && true) = true
          unfold slot
          rw [List.getElem?_set_self hil]
          rfl
        have hg : nameG i x δ = some (δ.set i (some (.d x))) := rfl
        show (nameG i x δ).bind _ = _
        rw [hg]
        simp only [Option.bind_some]
        rw [h1 x hx']
        simp only [Option.bind_some]
        rw [hd]
        cases hq : q x with
        | true =>
          rw [if_pos rfl, h2 x hx' hq]
          simp only [Option.bind_some, frz]
          rw [if_pos no, w, ih, List.filter_cons_of_pos hq]
          rfl
        | false =>
          rw [if_neg Bool.false_ne_true, if_pos no, w, ih, List.filter_cons_of_neg (by rw [hq]; exact Bool.false_ne_true)]
theorem lcO_pure {i p : Nat} {tt : TEV} {te : EV} {zs : List PyData} (q : PyData → Bool) (h : PyData → PyData) (hp : slot δ p = some (.o (.l zs))) (hi : δ[i]? = some none) (h1 : ∀ x ∈ zs, tt (δ.set i (some (.d x))) = some (q x, δ.set i (some (.d x)))) (h2 : ∀ x ∈ zs, q x = true → te (δ.set i (some (.d x))) = some (.d (h x), δ.set i (some (.d x)))) (hl : zs.length ≤ sizeLine) :
    lcO p [i] (nameG i) tt te δ = some (.o (.l ((zs.filter q).map h)), δ) := by
  unfold lcO
  rw [hp]
  simp only
  have no : noOwn [i] δ = true := by
    show (notOwn (slot δ i) && true) = true
    rw [slot_none hi]
    rfl
  have w : wipeD δ [i] = δ := set_none_self hi
  rw [if_pos no, w, lcDo_pure q h hp hi h1 h2 zs.length 0 (by omega)]
  simp only [Option.bind_some]
  have hl2 : (((zs.drop 0).filter q).map h).length ≤ sizeLine := by
    rw [List.length_map]
    exact Nat.le_trans (List.length_filter_le _ _) hl
  rw [if_pos hl2]
  show some (_, δ.set i (slot δ i)) = _
  rw [slot_none hi, set_none_self hi]
  rfl
end
end DL

namespace K06
open PySem PySem.Spec PyProof.Rows L2 DL
def topS (i : Nat) : Stmt := PySem.Challenge.pw_everlater_k06_rows_turned_renamed_and_pa.main.body.getD i (.Pass ⟨0, 0, 0, 0⟩)
/-! _law_pot -/
abbrev st__law_pot : Stmt := topS 14
abbrev N__law_pot : List Str := ["_law_script", "_law_k", "_law_cell", "_law_own"]
def B__law_pot : SEV := (seqS (setS 2 (ifE (bl (bin (cmpI pLt) (pk 1) (frzP (callB fLen (consA (pk 0) nilA))))) (bin opIx (pk 0) (pk 1)) (cst (.int 0))))
  (seqS (setS 3 (bin opMul (frzP (bin (opI2 iMod) (frzP (callB fAbs (consA (pk 2) nilA))) (frzP (bin (opI2 iPow) (frzP (bin (opI2 iPow) (frzP (cst (.int 10))) (frzP (cst (.int 60))))) (frzP (cst (.int 5))))))) (frzP (callB fInt (consA (frzP (bin (cmpI pGe) (frzP (callB fAbs (consA (pk 2) nilA))) (frzP (bin (opI2 iPow) (frzP (cst (.int 10))) (frzP (cst (.int 18))))))) nilA)))))
  (retS (lstE (consA (frzP (vr 3)) (consA (frzP (bin (opI2 iMod) (frzP (bin opMul (frzP (bin opAdd (frzP (bin opAdd (frzP (bin (opI2 iMod) (pk 2) (frzP (cst (.int 2305843009213693951))))) (frzP (bin opMul (frzP (bin opMul (frzP (cst (.int 104729))) (pk 1))) (pk 1))))) (frzP (cst (.int 19))))) (frzP (cst (.int 48271))))) (frzP (cst (.int 2305843009213693921))))) (consA (frzP (cst (.int 0))) nilA)))))))
def F__law_pot : FN := runF [0, 1] (List.length N__law_pot) B__law_pot
/-! _law_take -/
abbrev st__law_take : Stmt := topS 15
abbrev N__law_take : List Str := ["_law_pot_here", "_law_size", "_law_turn", "_law_prime", "_law_mixed", "_law_digit"]
def B__law_take : SEV := (seqS (ifS (bl (bin (cmpI pGt) (frzP (bin opIx (pk 0) (frzP (cst (.int 0))))) (frzP (cst (.int 0))))) (seqS (setS 5 (bin (opI2 iMod) (frzP (bin opIx (pk 0) (frzP (cst (.int 0))))) (pk 1)))
  (seqS (setI 0 (frzP (bin (opI2 iDiv) (frzP (bin opIx (pk 0) (frzP (cst (.int 0))))) (pk 1))) (frzP (cst (.int 0))))
  (retS (vr 5)))) nxS)
  (seqS (setS 2 (bin opAdd (frzP (bin opIx (pk 0) (frzP (cst (.int 2))))) (frzP (cst (.int 1)))))
  (seqS (setI 0 (frzP (vr 2)) (frzP (cst (.int 2))))
  (seqS (setS 3 (bin opIx (frzP (lstE (consA (frzP (cst (.int 2305843009213693951))) (consA (frzP (cst (.int 2305843009213693921))) (consA (frzP (cst (.int 2305843009213693907))) (consA (frzP (cst (.int 67280421310721))) nilA)))))) (frzP (bin (opI2 iMod) (pk 2) (frzP (cst (.int 4)))))))
  (seqS (setS 4 (bin (opI2 iMod) (frzP (bin (opI2 iPow) (frzP (bin opAdd (frzP (bin opAdd (frzP (bin opIx (pk 0) (frzP (cst (.int 1))))) (frzP (bin opMul (frzP (bin opMul (frzP (cst (.int 7919))) (pk 2))) (pk 2))))) (frzP (bin opMul (frzP (cst (.int 65537))) (pk 2))))) (frzP (cst (.int 3))))) (pk 3)))
  (retS (bin (opI2 iMod) (frzP (bin (opI2 iDiv) (frzP (bin (opI2 iMod) (frzP (bin opMul (pk 4) (frzP (bin opAdd (frzP (bin (opI2 iMod) (pk 4) (frzP (cst (.int 10007))))) (frzP (bin opMul (frzP (cst (.int 97))) (pk 2))))))) (frzP (cst (.int 2305843009213693669))))) (frzP (cst (.int 4099))))) (pk 1))))))))
def F__law_take : FN := runF [0, 1] (List.length N__law_take) B__law_take
/-! _law_order -/
abbrev st__law_order : Stmt := topS 22
abbrev N__law_order : List Str := ["_law_pot_here", "_law_size", "_law_found", "_law_mark"]
def B__law_order : SEV := (seqS (setS 2 (lstE nilA))
  (seqS (forS (rngI1 (consA (pk 1) nilA)) (nameG 3) (exprS (mutL 2 gIns (consA (frzP (callE F__law_take 2 (consA (pk 0) (consA (frzP (bin opAdd (frzP (callB fLen (consA (pk 2) nilA))) (frzP (cst (.int 1))))) nilA)))) (consA (frzP (vr 3)) nilA)))))
  (retS (vr 2))))
def F__law_order : FN := runF [0, 1] (List.length N__law_order) B__law_order
/-! _law_called -/
abbrev st__law_called : Stmt := topS 23
abbrev N__law_called : List Str := ["_law_order_here", "_law_marks", "_law_mark"]
def B__law_called : SEV := (retS (callB fTuple (consA (frzP (lcE [2] (seqI (vr 1)) (nameG 2) yesT (bin opIx (pk 0) (pk 2)))) nilA)))
def F__law_called : FN := runF [0, 1] (List.length N__law_called) B__law_called
/-! later_table -/
abbrev st_later_table : Stmt := topS 8
abbrev N_later_table : List Str := ["lot", "pair"]
def B_later_table : SEV := (retS (dcE false [1] (seqI (bin opIx (pk 0) (frzP (cst (.int 1))))) (nameG 1) yesT (vr 1) (cst (.bool true))))
def F_later_table : FN := runF [0] (List.length N_later_table) B_later_table
/-! still_above -/
abbrev st_still_above : Stmt := topS 9
abbrev N_still_above : List Str := ["table", "high", "mark", "x"]
def B_still_above : SEV := (retS (callB fTuple (consA (frzP (lcE [3] (seqI (vr 1)) (nameG 3) (bl (bin (opInX false) (frzP (tupE (consA (frzP (vr 3)) (consA (frzP (vr 2)) nilA)))) (pk 0))) (vr 3))) nilA)))
def F_still_above : FN := runF [0, 1, 2] (List.length N_still_above) B_still_above
/-! grown -/
abbrev st_grown : Stmt := topS 10
abbrev N_grown : List Str := ["table", "found", "mark", "row", "high"]
def B_grown : SEV := (retS (lc2E [3, 4, 2] [2] (seqI (vr 1)) (tupG 2 (consG (nameG 3) (consG (nameG 4) nilG))) yesT (seqI (vr 4)) (nameG 2) yesT (tupE (consA (frzP (bin opAdd (pk 3) (frzP (tupE (consA (frzP (vr 2)) nilA))))) (consA (frzP (callE F_still_above 3 (consA (frzP (vr 0)) (consA (frzP (vr 4)) (consA (frzP (vr 2)) nilA))))) nilA)))))
def F_grown : FN := runF [0, 1] (List.length N_grown) B_grown
/-! rows_with_above -/
abbrev st_rows_with_above : Stmt := topS 11
abbrev N_rows_with_above : List Str := ["lot", "size", "table", "found", "step"]
def B_rows_with_above : SEV := (seqS (setS 2 (callE F_later_table 1 (consA (frzP (vr 0)) nilA)))
  (seqS (setS 3 (lstE (consA (frzP (tupE (consA (frzP (tupE nilA)) (consA (frzP (rgE1 (fun xs => .d (.tuple xs)) (frzP (bin opIx (pk 0) (frzP (cst (.int 0))))))) nilA)))) nilA)))
  (seqS (forS (rngI1 (consA (pk 1) nilA)) (nameG 4) (setS 3 (callE F_grown 2 (consA (frzP (vr 2)) (consA (frzP (vr 3)) nilA)))))
  (retS (vr 3)))))
def F_rows_with_above : FN := runF [0, 1] (List.length N_rows_with_above) B_rows_with_above
/-! rows -/
abbrev st_rows : Stmt := topS 12
abbrev N_rows : List Str := ["lot", "size", "row", "high"]
def B_rows : SEV := (retS (callB fTuple (consA (frzP (lcE [2, 3] (seqI (callE F_rows_with_above 2 (consA (frzP (vr 0)) (consA (frzP (vr 1)) nilA)))) (tupG 2 (consG (nameG 2) (consG (nameG 3) nilG))) yesT (vr 2))) nilA)))
def F_rows : FN := runF [0, 1] (List.length N_rows) B_rows
/-! is_later -/
abbrev st_is_later : Stmt := topS 3
abbrev N_is_later : List Str := ["lot", "x", "y"]
def B_is_later : SEV := (retS (bin (opIn false) (frzP (tupE (consA (frzP (vr 1)) (consA (frzP (vr 2)) nilA)))) (frzP (bin opIx (pk 0) (frzP (cst (.int 1)))))))
def F_is_later : FN := runF [0, 1, 2] (List.length N_is_later) B_is_later
/-! is_over -/
abbrev st_is_over : Stmt := topS 4
abbrev N_is_over : List Str := ["lot", "mark", "marks", "other"]
def B_is_over : SEV := (retS (callB fAll (consA (frzP (lcE [3] (seqI (vr 2)) (nameG 3) yesT (callE F_is_later 3 (consA (frzP (vr 0)) (consA (frzP (vr 1)) (consA (frzP (vr 3)) nilA)))))) nilA)))
def F_is_over : FN := runF [0, 1, 2] (List.length N_is_over) B_is_over
/-! above -/
abbrev st_above : Stmt := topS 6
abbrev N_above : List Str := ["lot", "marks", "mark"]
def B_above : SEV := (retS (callB fTuple (consA (frzP (lcE [2] (rngI1 (consA (frzP (bin opIx (pk 0) (frzP (cst (.int 0))))) nilA)) (nameG 2) (bl (callE F_is_over 3 (consA (frzP (vr 0)) (consA (frzP (vr 2)) (consA (frzP (vr 1)) nilA))))) (vr 2))) nilA)))
def F_above : FN := runF [0, 1] (List.length N_above) B_above
/-! _law_parts_of -/
abbrev st__law_parts_of : Stmt := topS 21
abbrev N__law_parts_of : List Str := ["_law_chain", "_law_at"]
def B__law_parts_of : SEV := (retS (lcE [1] (rngI1 (consA (frzP (callB fLen (consA (pk 0) nilA))) nilA)) (nameG 1) yesT (bin opAdd (frzP (slE (pk 0) noP (someP (pk 1)))) (frzP (slE (pk 0) (someP (frzP (bin opAdd (pk 1) (frzP (cst (.int 1)))))) noP)))))
def F__law_parts_of : FN := runF [0] (List.length N__law_parts_of) B__law_parts_of
/-! is_whole -/
abbrev st_is_whole : Stmt := topS 1
abbrev N_is_whole : List Str := ["thing"]
def B_is_whole : SEV := (retS (andV (isiE "int" (pk 0)) (notV (isiE "bool" (pk 0)))))
def F_is_whole : FN := runF [0] (List.length N_is_whole) B_is_whole
/-! is_below -/
abbrev st_is_below : Stmt := topS 2
abbrev N_is_below : List Str := ["many", "thing"]
def B_is_below : SEV := (retS (andV (callE F_is_whole 1 (consA (frzP (vr 1)) nilA)) (chn (cmpI pLe) (cmpI pLt) (frzP (cst (.int 0))) (pk 1) (pk 0))))
def F_is_below : FN := runF [0, 1] (List.length N_is_below) B_is_below
/-! is_row -/
abbrev st_is_row : Stmt := topS 5
abbrev N_is_row : List Str := ["lot", "thing", "at", "mark"]
def B_is_row : SEV := (seqS (ifS (notT (bl (isiE "tuple" (pk 1)))) (retS (cst (.bool false))) nxS)
  (seqS (forS (enumX (consA (frzP (vr 1)) nilA)) (tupG 2 (consG (nameG 2) (consG (nameG 3) nilG))) (ifS (orT (notT (bl (callE F_is_below 2 (consA (frzP (bin opIx (pk 0) (frzP (cst (.int 0))))) (consA (frzP (vr 3)) nilA))))) (notT (bl (callE F_is_over 3 (consA (frzP (vr 0)) (consA (frzP (vr 3)) (consA (frzP (slE (pk 1) noP (someP (pk 2)))) nilA))))))) (retS (cst (.bool false))) nxS))
  (retS (cst (.bool true)))))
def F_is_row : FN := runF [0, 1] (List.length N_is_row) B_is_row
/-! in_order -/
abbrev st_in_order : Stmt := topS 7
abbrev N_in_order : List Str := ["lot", "marks", "unlike", "row", "y"]
def B_in_order : SEV := (seqS (setS 2 (sortSetE (frzP (vr 1))))
  (seqS (setS 3 (callB fTuple (consA (frzP (sortKeyE (runF [] (List.length (α := Str) ["mark", "unlike", "lot", "y"]) (retS (callB fLen (consA (frzP (lcE [3] (seqI (vr 1)) (nameG 3) (bl (callE F_is_later 3 (consA (frzP (vr 2)) (consA (frzP (vr 0)) (consA (frzP (vr 3)) nilA))))) (vr 3))) nilA)))) [2, 0] (consA (frzP (vr 2)) nilA))) nilA)))
  (retS (ifE (bl (callE F_is_row 2 (consA (frzP (vr 0)) (consA (frzP (vr 3)) nilA)))) (vr 3) (cst .none)))))
def F_in_order : FN := runF [0, 1] (List.length N_in_order) B_in_order
/-! _law_right -/
abbrev st__law_right : Stmt := topS 24
abbrev N__law_right : List Str := ["_law_pot_here", "_law_lot_here", "_law_order_here", "_law_twin", "_law_back", "_law_shorter", "_law_size", "_law_some", "_law_longer", "_law_chain", "_law_pair", "_law_mark", "_law_short"]
def B__law_right : SEV := (seqS (setS 2 (callE F__law_order 2 (consA (pk 0) (consA (frzP (bin opIx (pk 1) (frzP (cst (.int 0))))) nilA))))
  (seqS (setS 3 (tupE (consA (frzP (bin opIx (pk 1) (frzP (cst (.int 0))))) (consA (frzP (callB fTuple (consA (frzP (callB fSortedT (consA (frzP (lcE [10] (seqI (bin opIx (pk 1) (frzP (cst (.int 1))))) (nameG 10) yesT (callE F__law_called 2 (consA (frzP (vr 2)) (consA (frzP (vr 10)) nilA))))) nilA))) nilA))) nilA))))
  (seqS (setS 4 (tupE (consA (frzP (bin opIx (pk 1) (frzP (cst (.int 0))))) (consA (frzP (callB fTuple (consA (frzP (callB fSortedT (consA (frzP (lcE [10] (seqI (bin opIx (pk 1) (frzP (cst (.int 1))))) (nameG 10) yesT (revE (pk 10)))) nilA))) nilA))) nilA))))
  (seqS (setS 5 (tupE (consA (frzP (tupE nilA)) nilA)))
  (seqS (forS (rngI2 (consA (frzP (cst (.int 1))) (consA (frzP (cst (.int 5))) nilA))) (nameG 6) (seqS (setS 7 (callE F_rows 2 (consA (frzP (vr 1)) (consA (frzP (vr 6)) nilA))))
  (seqS (ifS (bl (bin opNe (frzP (callB fTuple (consA (frzP (callB fSortedT (consA (frzP (lcE [9] (seqI (vr 7)) (nameG 9) yesT (callE F__law_called 2 (consA (frzP (vr 2)) (consA (frzP (vr 9)) nilA))))) nilA))) nilA))) (frzP (callE F_rows 2 (consA (frzP (vr 3)) (consA (frzP (vr 6)) nilA)))))) (retS (cst (.bool false))) nxS)
  (seqS (ifS (bl (bin opNe (frzP (callB fTuple (consA (frzP (callB fSortedT (consA (frzP (lcE [9] (seqI (vr 7)) (nameG 9) yesT (revE (pk 9)))) nilA))) nilA))) (frzP (callE F_rows 2 (consA (frzP (vr 4)) (consA (frzP (vr 6)) nilA)))))) (retS (cst (.bool false))) nxS)
  (seqS (setS 8 (lstE nilA))
  (seqS (forS (seqI (vr 5)) (nameG 9) (exprS (mutL 8 gExt (consA (frzP (lcE [11] (seqI (callE F_above 2 (consA (frzP (vr 1)) (consA (frzP (vr 9)) nilA)))) (nameG 11) yesT (bin opAdd (pk 9) (frzP (tupE (consA (frzP (vr 11)) nilA)))))) nilA))))
  (seqS (ifS (bl (bin opNe (frzP (callB fTuple (consA (pk 8) nilA))) (pk 7))) (retS (cst (.bool false))) nxS)
  (seqS (forS (seqI (slE (pk 7) noP (someP (frzP (cst (.int 40)))))) (nameG 9) (seqS (ifS (orT (notT (bl (callB fAll (consA (frzP (lcE [12] (seqI (callE F__law_parts_of 1 (consA (frzP (vr 9)) nilA))) (nameG 12) yesT (bin (opIn false) (pk 12) (pk 5)))) nilA)))) (bl (bin (opIs true) (frzP (callE F_is_row 2 (consA (frzP (vr 1)) (consA (frzP (vr 9)) nilA)))) (frzP (cst (.bool true)))))) (retS (cst (.bool false))) nxS)
  (ifS (bl (bin opNe (frzP (callE F_in_order 2 (consA (frzP (vr 3)) (consA (frzP (callE F__law_called 2 (consA (frzP (vr 2)) (consA (frzP (revE (pk 9))) nilA)))) nilA)))) (frzP (callE F__law_called 2 (consA (frzP (vr 2)) (consA (frzP (vr 9)) nilA)))))) (retS (cst (.bool false))) nxS)))
  (setS 5 (vr 7))))))))))
  (retS (cst (.bool true))))))))
def F__law_right : FN := runF [0, 1] (List.length N__law_right) B__law_right
/-! _law_circle -/
abbrev st__law_circle : Stmt := topS 18
abbrev N__law_circle : List Str := ["_law_size", "_law_steps", "_law_found", "_law_x", "_law_y"]
def B__law_circle : SEV := (seqS (setS 2 (lstE nilA))
  (seqS (forS (rngI1 (consA (pk 0) nilA)) (nameG 3) (exprS (mutL 2 gExt (consA (frzP (lcE [4] (rngI1 (consA (pk 0) nilA)) (nameG 4) (bl (bin (opIn false) (frzP (bin (opI2 iMod) (frzP (bin (opI2 iSub) (pk 3) (pk 4))) (pk 0))) (pk 1))) (tupE (consA (frzP (vr 3)) (consA (frzP (vr 4)) nilA))))) nilA))))
  (retS (tupE (consA (frzP (vr 0)) (consA (frzP (callB fTuple (consA (pk 2) nilA))) nilA))))))
def F__law_circle : FN := runF [0, 1] (List.length N__law_circle) B__law_circle
/-! _law_line -/
abbrev st__law_line : Stmt := topS 19
abbrev N__law_line : List Str := ["_law_size", "_law_found", "_law_x", "_law_y"]
def B__law_line : SEV := (seqS (setS 1 (lstE nilA))
  (seqS (forS (rngI1 (consA (pk 0) nilA)) (nameG 2) (exprS (mutL 1 gExt (consA (frzP (lcE [3] (rngI1 (consA (pk 2) nilA)) (nameG 3) yesT (tupE (consA (frzP (vr 2)) (consA (frzP (vr 3)) nilA))))) nilA))))
  (retS (tupE (consA (frzP (vr 0)) (consA (frzP (callB fTuple (consA (pk 1) nilA))) nilA))))))
def F__law_line : FN := runF [0] (List.length N__law_line) B__law_line
/-! _law_of -/
abbrev st__law_of : Stmt := topS 16
abbrev N__law_of : List Str := ["_law_pot_here", "_law_some"]
def B__law_of : SEV := (retS (bin opIx (pk 1) (frzP (callE F__law_take 2 (consA (pk 0) (consA (frzP (callB fLen (consA (pk 1) nilA))) nilA))))))
def F__law_of : FN := runF [0, 1] (List.length N__law_of) B__law_of
/-! _law_drawn -/
abbrev st__law_drawn : Stmt := topS 17
abbrev N__law_drawn : List Str := ["_law_pot_here", "_law_most", "_law_x", "_law_size", "_law_share", "_law_found", "_law_y", "_law_way"]
def B__law_drawn : SEV := (seqS (parS [3, 4, 5] (consF (callE F__law_take 2 (consA (pk 0) (consA (frzP (bin opAdd (pk 1) (frzP (cst (.int 1))))) nilA))) (consF (bin opAdd (frzP (cst (.int 2))) (frzP (callE F__law_take 2 (consA (pk 0) (consA (frzP (cst (.int 3))) nilA))))) (consF (lstE nilA) nilF))))
  (seqS (forS (rngI1 (consA (pk 3) nilA)) (nameG 2) (forS (rngI1 (consA (pk 2) nilA)) (nameG 6) (seqS (setS 7 (callE F__law_take 2 (consA (pk 0) (consA (frzP (vr 4)) nilA))))
  (exprS (mutL 5 gExt (consA (frzP (bin opAdd (frzP (bin opMul (frzP (lstE (consA (frzP (tupE (consA (frzP (vr 2)) (consA (frzP (vr 6)) nilA)))) nilA))) (frzP (callB fInt (consA (frzP (bin opEq (pk 7) (frzP (cst (.int 0))))) nilA))))) (frzP (bin opMul (frzP (lstE (consA (frzP (tupE (consA (frzP (vr 6)) (consA (frzP (vr 2)) nilA)))) nilA))) (frzP (callB fInt (consA (frzP (bin opEq (pk 7) (frzP (cst (.int 1))))) nilA))))))) nilA))))))
  (retS (tupE (consA (frzP (vr 3)) (consA (frzP (callB fTuple (consA (frzP (callB fSorted (consA (pk 5) nilA))) nilA))) nilA))))))
def F__law_drawn : FN := runF [0, 1] (List.length N__law_drawn) B__law_drawn
/-! _law_lot -/
abbrev st__law_lot : Stmt := topS 20
abbrev N__law_lot : List Str := ["_law_pot_here", "_law_most", "_law_known", "_law_lot_here"]
def B__law_lot : SEV := (seqS (setS 2 (lstE (consA (frzP (callE F__law_circle 2 (consA (frzP (cst (.int 3))) (consA (frzP (lstE (consA (frzP (cst (.int 1))) nilA))) nilA)))) (consA (frzP (callE F__law_circle 2 (consA (frzP (cst (.int 5))) (consA (frzP (lstE (consA (frzP (cst (.int 1))) (consA (frzP (cst (.int 2))) nilA)))) nilA)))) (consA (frzP (callE F__law_circle 2 (consA (frzP (cst (.int 7))) (consA (frzP (lstE (consA (frzP (cst (.int 1))) (consA (frzP (cst (.int 2))) (consA (frzP (cst (.int 4))) nilA))))) nilA)))) nilA)))))
  (seqS (exprS (mutL 2 gApp (consA (frzP (callE F__law_line 1 (consA (frzP (callE F__law_take 2 (consA (pk 0) (consA (frzP (bin opAdd (pk 1) (frzP (cst (.int 1))))) nilA)))) nilA))) nilA)))
  (seqS (setS 2 (lcE [3] (seqI (vr 2)) (nameG 3) (bl (bin (cmpI pLe) (frzP (bin opIx (pk 3) (frzP (cst (.int 0))))) (pk 1))) (vr 3)))
  (retS (callE F__law_of 2 (consA (pk 0) (consA (frzP (bin opAdd (frzP (bin opMul (frzP (lstE (consA (frzP (callE F__law_drawn 2 (consA (pk 0) (consA (frzP (vr 1)) nilA)))) nilA))) (frzP (cst (.int 4))))) (pk 2))) nilA)))))))
def F__law_lot : FN := runF [0, 1] (List.length N__law_lot) B__law_lot
/-! law -/
abbrev st_law : Stmt := topS 25
abbrev N_law : List Str := ["_law_script", "_law_k", "_law_pot_here", "_law_turn"]
def B_law : SEV := (seqS (forS (rngI1 (consA (frzP (callB fMax (consA (frzP (cst (.int 1))) (consA (frzP (callB fMin (consA (frzP (cst (.int 3))) (consA (frzP (callB fLen (consA (pk 0) nilA))) nilA)))) nilA)))) nilA)) (nameG 1) (seqS (setS 2 (callE F__law_pot 2 (consA (frzP (vr 0)) (consA (frzP (vr 1)) nilA))))
  (ifS (notT (bl (callB fAll (consA (frzP (lcE [3] (rngI1 (consA (frzP (cst (.int 2))) nilA)) (nameG 3) yesT (callE F__law_right 2 (consA (pk 2) (consA (frzP (callE F__law_lot 2 (consA (pk 2) (consA (frzP (cst (.int 7))) nilA)))) nilA))))) nilA)))) (retS (cst (.bool false))) nxS)))
  (retS (cst (.bool true))))
def F_law : FN := runF [0] (List.length N_law) B_law
section
variable [TB] {Pr : Program} {w : World} {K : PySem.W.Frag} {mg : Str → Option Value} {base : Heap}
theorem sc__law_pot : FnScope N__law_pot ["_law_script", "_law_k"] (defScope st__law_pot) := ⟨rfl, rfl, rfl, by decide +kernel, rfl, by decide +kernel, by decide +kernel⟩
theorem ok__law_pot {f : Addr} {fd : FuncData} (F : Fun K "_law_pot" "_law_pot" st__law_pot f fd) (gm : mg "_law_pot" = some (.ref f)) (b : Binds K fd ["_law_script", "_law_k"] []) (m_abs : mg "abs" = none) (m_int : mg "int" = none) (m_len : mg "len" = none) : Def Pr w K mg base 1 "_law_pot" ["_law_script", "_law_k"] F__law_pot := by
  have H : ∀ (cdv : Value) (A : Around) (outer : List Env) (s : Shared) (H : Hp) (E : XK), A.guards = some [] → Room 0 (A.deeper (envOfC "_law_pot" (defScope st__law_pot) s.heap.objs.size f cdv)) →
      DSs (cxOf CX0 Pr w K mg base N__law_pot "_law_pot" (defScope st__law_pot) f cdv A outer s H E).nox [0, 1] (defBody st__law_pot) B__law_pot := by
    intro cdv A outer s H E hG hr
    have nd := sc__law_pot.nd
    exact (dss_cons (ds_set (i := 2) nd rfl (by first | exact Or.inl rfl | exact Or.inr rfl) (by decide) (de_ifE (dt_lt (dp_var (pv 1)) (dp_of (de_len (by exact m_len) (by rfl) (da_cons (dp_var (pv 0)) da_nil)))) (de_item (dp_var (pv 0)) (dp_var (pv 1)) (fun _ _ => rfl)) de_int))
      (dss_cons (ds_set (i := 3) nd rfl (by first | exact Or.inl rfl | exact Or.inr rfl) (by decide) (de_mul (dp_of (de_mod (dp_of (de_abs (by exact m_abs) (by rfl) (da_cons (dp_var (pv 2)) da_nil))) (dp_of (de_pow (dp_of (de_pow (dp_of de_int) (dp_of de_int))) (dp_of de_int))))) (dp_of (de_int1 (by exact m_int) (by rfl) (da_cons (dp_of (de_ge (dp_of (de_abs (by exact m_abs) (by rfl) (da_cons (dp_var (pv 2)) da_nil))) (dp_of (de_pow (dp_of de_int) (dp_of de_int))))) da_nil)))))
      (dss_one (ds_ret (de_lst (da_cons (dp_of (de_var (pv 3))) (da_cons (dp_of (de_mod (dp_of (de_mul (dp_of (de_add (dp_of (de_add (dp_of (de_mod (dp_var (pv 2)) (dp_of de_int))) (dp_of (de_mul (dp_of (de_mul (dp_of de_int) (dp_var (pv 1)))) (dp_var (pv 1)))))) (dp_of de_int))) (dp_of de_int))) (dp_of de_int))) (da_cons (dp_of de_int) da_nil))))))))
  exact def_mk F gm b sc__law_pot H
theorem sc__law_take : FnScope N__law_take ["_law_pot_here", "_law_size"] (defScope st__law_take) := ⟨rfl, rfl, rfl, by decide +kernel, rfl, by decide +kernel, by decide +kernel⟩
theorem ok__law_take {f : Addr} {fd : FuncData} (F : Fun K "_law_take" "_law_take" st__law_take f fd) (gm : mg "_law_take" = some (.ref f)) (b : Binds K fd ["_law_pot_here", "_law_size"] []) : Def Pr w K mg base 1 "_law_take" ["_law_pot_here", "_law_size"] F__law_take := by
  have H : ∀ (cdv : Value) (A : Around) (outer : List Env) (s : Shared) (H : Hp) (E : XK), A.guards = some [] → Room 0 (A.deeper (envOfC "_law_take" (defScope st__law_take) s.heap.objs.size f cdv)) →
      DSs (cxOf CX0 Pr w K mg base N__law_take "_law_take" (defScope st__law_take) f cdv A outer s H E).nox [0, 1] (defBody st__law_take) B__law_take := by
    intro cdv A outer s H E hG hr
    have nd := sc__law_take.nd
    exact (dss_cons (ds_if (dt_gt (dp_of (de_item (dp_var (pv 0)) (dp_of de_int) (fun _ _ => rfl))) (dp_of de_int)) (dss_cons (ds_set (i := 5) nd rfl (by first | exact Or.inl rfl | exact Or.inr rfl) (by decide) (de_mod (dp_of (de_item (dp_var (pv 0)) (dp_of de_int) (fun _ _ => rfl))) (dp_var (pv 1))))
      (dss_cons (ds_setI (dp_of (de_div (dp_of (de_item (dp_var (pv 0)) (dp_of de_int) (fun _ _ => rfl))) (dp_var (pv 1)))) (pv 0) (dp_of de_int))
      (dss_one (ds_ret (de_var (pv 5)))))) dss_nil)
      (dss_cons (ds_set (i := 2) nd rfl (by first | exact Or.inl rfl | exact Or.inr rfl) (by decide) (de_add (dp_of (de_item (dp_var (pv 0)) (dp_of de_int) (fun _ _ => rfl))) (dp_of de_int)))
      (dss_cons (ds_setI (dp_of (de_var (pv 2))) (pv 0) (dp_of de_int))
      (dss_cons (ds_set (i := 3) nd rfl (by first | exact Or.inl rfl | exact Or.inr rfl) (by decide) (de_item (dp_of (de_lst (da_cons (dp_of de_int) (da_cons (dp_of de_int) (da_cons (dp_of de_int) (da_cons (dp_of de_int) da_nil)))))) (dp_of (de_mod (dp_var (pv 2)) (dp_of de_int))) (fun _ _ => rfl)))
      (dss_cons (ds_set (i := 4) nd rfl (by first | exact Or.inl rfl | exact Or.inr rfl) (by decide) (de_mod (dp_of (de_pow (dp_of (de_add (dp_of (de_add (dp_of (de_item (dp_var (pv 0)) (dp_of de_int) (fun _ _ => rfl))) (dp_of (de_mul (dp_of (de_mul (dp_of de_int) (dp_var (pv 2)))) (dp_var (pv 2)))))) (dp_of (de_mul (dp_of de_int) (dp_var (pv 2)))))) (dp_of de_int))) (dp_var (pv 3))))
      (dss_one (ds_ret (de_mod (dp_of (de_div (dp_of (de_mod (dp_of (de_mul (dp_var (pv 4)) (dp_of (de_add (dp_of (de_mod (dp_var (pv 4)) (dp_of de_int))) (dp_of (de_mul (dp_of de_int) (dp_var (pv 2)))))))) (dp_of de_int))) (dp_of de_int))) (dp_var (pv 1))))))))))
  exact def_mk F gm b sc__law_take H
theorem sc__law_order : FnScope N__law_order ["_law_pot_here", "_law_size"] (defScope st__law_order) := ⟨rfl, rfl, rfl, by decide +kernel, rfl, by decide +kernel, by decide +kernel⟩
theorem ok__law_order {f : Addr} {fd : FuncData} (F : Fun K "_law_order" "_law_order" st__law_order f fd) (gm : mg "_law_order" = some (.ref f)) (b : Binds K fd ["_law_pot_here", "_law_size"] []) (D__law_take : Def Pr w K mg base 1 "_law_take" ["_law_pot_here", "_law_size"] F__law_take) (m_len : mg "len" = none) (m_range : mg "range" = none) : Def Pr w K mg base 2 "_law_order" ["_law_pot_here", "_law_size"] F__law_order := by
  have H : ∀ (cdv : Value) (A : Around) (outer : List Env) (s : Shared) (H : Hp) (E : XK), A.guards = some [] → Room 1 (A.deeper (envOfC "_law_order" (defScope st__law_order) s.heap.objs.size f cdv)) →
      DSs (cxOf CX0 Pr w K mg base N__law_order "_law_order" (defScope st__law_order) f cdv A outer s H E).nox [0, 1] (defBody st__law_order) B__law_order := by
    intro cdv A outer s H E hG hr
    have nd := sc__law_order.nd
    exact (dss_cons (ds_set (i := 2) nd rfl (by first | exact Or.inl rfl | exact Or.inr rfl) (by decide) (de_lst da_nil))
      (dss_cons (ds_for PassesOwn.never rfl (by decide) (di_range1 (by rfl) (by exact m_range) (da_cons (dp_var (pv 1)) da_nil)) (dg_name (i := 3) nd rfl (by first | exact Or.inl rfl | exact Or.inr rfl)) (dss_one (ds_expr (de_insert (pv 2) (da_cons (dp_of (de_own (by exact D__law_take) (by rfl) (by exact hG) (by exact hr) (by decide) (by rfl) (da_cons (dp_var (pv 0)) (da_cons (dp_of (de_add (dp_of (de_len (by exact m_len) (by rfl) (da_cons (dp_var (pv 2)) da_nil))) (dp_of de_int))) da_nil)))) (da_cons (dp_of (de_var (pv 3))) da_nil))))))
      (dss_one (ds_ret (de_var (pv 2))))))
  exact def_mk F gm b sc__law_order H
theorem sc__law_called : FnScope N__law_called ["_law_order_here", "_law_marks"] (defScope st__law_called) := ⟨rfl, rfl, rfl, by decide +kernel, rfl, by decide +kernel, by decide +kernel⟩
theorem ok__law_called {f : Addr} {fd : FuncData} (F : Fun K "_law_called" "_law_called" st__law_called f fd) (gm : mg "_law_called" = some (.ref f)) (b : Binds K fd ["_law_order_here", "_law_marks"] []) (m_tuple : mg "tuple" = none) : Def Pr w K mg base 1 "_law_called" ["_law_order_here", "_law_marks"] F__law_called := by
  have H : ∀ (cdv : Value) (A : Around) (outer : List Env) (s : Shared) (H : Hp) (E : XK), A.guards = some [] → Room 0 (A.deeper (envOfC "_law_called" (defScope st__law_called) s.heap.objs.size f cdv)) →
      DSs (cxOf CX0 Pr w K mg base N__law_called "_law_called" (defScope st__law_called) f cdv A outer s H E).nox [0, 1] (defBody st__law_called) B__law_called := by
    intro cdv A outer s H E hG hr
    have nd := sc__law_called.nd
    exact (dss_one (ds_ret (de_tuple (by exact m_tuple) (by rfl) (da_cons (dp_of (de_lc (own := [("_law_mark", 2)]) rfl nd (di_seq (de_var (pv 1))) (blkOk_by (own := [("_law_mark", 2)]) (N := N__law_called) (sc := defScope st__law_called) (by decide +kernel)) (by decide) (fun _ _ _ _ _ => (dg_name (i := 2) nd rfl (by first | exact Or.inl rfl | exact Or.inr rfl))) (fun _ _ _ _ _ => dts_nil) (fun _ _ _ _ _ => (de_item (dp_var (pv 0)) (dp_var (pv 2)) (fun _ _ => rfl))))) da_nil))))
  exact def_mk F gm b sc__law_called H
theorem sc_later_table : FnScope N_later_table ["lot"] (defScope st_later_table) := ⟨rfl, rfl, rfl, by decide +kernel, rfl, by decide +kernel, by decide +kernel⟩
theorem ok_later_table {f : Addr} {fd : FuncData} (F : Fun K "later_table" "later_table" st_later_table f fd) (gm : mg "later_table" = some (.ref f)) (b : Binds K fd ["lot"] []) : Def Pr w K mg base 1 "later_table" ["lot"] F_later_table := by
  have H : ∀ (cdv : Value) (A : Around) (outer : List Env) (s : Shared) (H : Hp) (E : XK), A.guards = some [] → Room 0 (A.deeper (envOfC "later_table" (defScope st_later_table) s.heap.objs.size f cdv)) →
      DSs (cxOf CX0 Pr w K mg base N_later_table "later_table" (defScope st_later_table) f cdv A outer s H E).nox [0] (defBody st_later_table) B_later_table := by
    intro cdv A outer s H E hG hr
    have nd := sc_later_table.nd
    exact (dss_one (ds_ret (de_dc false (own := [("pair", 1)]) (by exact hr) rfl nd (di_seq (de_item (dp_var (pv 0)) (dp_of de_int) (fun _ _ => rfl))) (blkOk_by (own := [("pair", 1)]) (N := N_later_table) (sc := defScope st_later_table) (by decide +kernel)) (by decide) (fun _ _ _ _ _ => (dg_name (i := 1) nd rfl (by first | exact Or.inl rfl | exact Or.inr rfl))) (fun _ _ _ _ _ => dts_nil) (fun _ _ _ _ _ => (de_var (pv 1))) (fun _ _ _ _ _ => de_bl))))
  exact def_mk F gm b sc_later_table H
theorem sc_still_above : FnScope N_still_above ["table", "high", "mark"] (defScope st_still_above) := ⟨rfl, rfl, rfl, by decide +kernel, rfl, by decide +kernel, by decide +kernel⟩
theorem ok_still_above {f : Addr} {fd : FuncData} (F : Fun K "still_above" "still_above" st_still_above f fd) (gm : mg "still_above" = some (.ref f)) (b : Binds K fd ["table", "high", "mark"] []) (m_tuple : mg "tuple" = none) : Def Pr w K mg base 1 "still_above" ["table", "high", "mark"] F_still_above := by
  have H : ∀ (cdv : Value) (A : Around) (outer : List Env) (s : Shared) (H : Hp) (E : XK), A.guards = some [] → Room 0 (A.deeper (envOfC "still_above" (defScope st_still_above) s.heap.objs.size f cdv)) →
      DSs (cxOf CX0 Pr w K mg base N_still_above "still_above" (defScope st_still_above) f cdv A outer s H E).nox [0, 1, 2] (defBody st_still_above) B_still_above := by
    intro cdv A outer s H E hG hr
    have nd := sc_still_above.nd
    exact (dss_one (ds_ret (de_tuple (by exact m_tuple) (by rfl) (da_cons (dp_of (de_lc (own := [("x", 3)]) rfl nd (di_seq (de_var (pv 1))) (blkOk_by (own := [("x", 3)]) (N := N_still_above) (sc := defScope st_still_above) (by decide +kernel)) (by decide) (fun _ _ _ _ _ => (dg_name (i := 3) nd rfl (by first | exact Or.inl rfl | exact Or.inr rfl))) (fun _ _ _ _ _ => (dts_one (dt_inX (by exact hr) (dp_of (de_tup (da_cons (dp_of (de_var (pv 3))) (da_cons (dp_of (de_var (pv 2))) da_nil)))) (dp_var (pv 0))))) (fun _ _ _ _ _ => (de_var (pv 3))))) da_nil))))
  exact def_mk F gm b sc_still_above H
theorem sc_grown : FnScope N_grown ["table", "found"] (defScope st_grown) := ⟨rfl, rfl, rfl, by decide +kernel, rfl, by decide +kernel, by decide +kernel⟩
theorem ok_grown {f : Addr} {fd : FuncData} (F : Fun K "grown" "grown" st_grown f fd) (gm : mg "grown" = some (.ref f)) (b : Binds K fd ["table", "found"] []) (D_still_above : Def Pr w K mg base 1 "still_above" ["table", "high", "mark"] F_still_above) : Def Pr w K mg base 2 "grown" ["table", "found"] F_grown := by
  have H : ∀ (cdv : Value) (A : Around) (outer : List Env) (s : Shared) (H : Hp) (E : XK), A.guards = some [] → Room 1 (A.deeper (envOfC "grown" (defScope st_grown) s.heap.objs.size f cdv)) →
      DSs (cxOf CX0 Pr w K mg base N_grown "grown" (defScope st_grown) f cdv A outer s H E).nox [0, 1] (defBody st_grown) B_grown := by
    intro cdv A outer s H E hG hr
    have nd := sc_grown.nd
    exact (dss_one (ds_ret (de_lc2 (own := [("row", 3), ("high", 4), ("mark", 2)]) (vs1 := [2]) rfl nd (di_seq (de_var (pv 1))) (blkOk_by (own := [("row", 3), ("high", 4), ("mark", 2)]) (N := N_grown) (sc := defScope st_grown) (by decide +kernel)) (by decide) (by decide) (by decide) (fun _ _ _ _ _ => (dg_tup rfl (dgs_cons (dg_name (i := 3) nd rfl (by first | exact Or.inl rfl | exact Or.inr rfl)) (dgs_cons (dg_name (i := 4) nd rfl (by first | exact Or.inl rfl | exact Or.inr rfl)) dgs_nil)))) (fun _ _ _ _ _ => dts_nil) (fun _ _ _ _ _ => (di_seq (de_var (pv 4)))) (fun _ _ _ _ _ => (dg_name (i := 2) nd rfl (by first | exact Or.inl rfl | exact Or.inr rfl))) (fun _ _ _ _ _ => dts_nil) (fun _ _ _ _ _ => (de_tup (da_cons (dp_of (de_add (dp_var (pv 3)) (dp_of (de_tup (da_cons (dp_of (de_var (pv 2))) da_nil))))) (da_cons (dp_of (de_own (by exact D_still_above) (by rfl) (by exact hG) (by exact hr) (by decide) (by rfl) (da_cons (dp_of (de_var (pv 0))) (da_cons (dp_of (de_var (pv 4))) (da_cons (dp_of (de_var (pv 2))) da_nil))))) da_nil)))))))
  exact def_mk F gm b sc_grown H
theorem sc_rows_with_above : FnScope N_rows_with_above ["lot", "size"] (defScope st_rows_with_above) := ⟨rfl, rfl, rfl, by decide +kernel, rfl, by decide +kernel, by decide +kernel⟩
theorem ok_rows_with_above {f : Addr} {fd : FuncData} (F : Fun K "rows_with_above" "rows_with_above" st_rows_with_above f fd) (gm : mg "rows_with_above" = some (.ref f)) (b : Binds K fd ["lot", "size"] []) (D_later_table : Def Pr w K mg base 1 "later_table" ["lot"] F_later_table) (D_grown : Def Pr w K mg base 2 "grown" ["table", "found"] F_grown) (m_range : mg "range" = none) (m_tuple : mg "tuple" = none) : Def Pr w K mg base 3 "rows_with_above" ["lot", "size"] F_rows_with_above := by
  have H : ∀ (cdv : Value) (A : Around) (outer : List Env) (s : Shared) (H : Hp) (E : XK), A.guards = some [] → Room 2 (A.deeper (envOfC "rows_with_above" (defScope st_rows_with_above) s.heap.objs.size f cdv)) →
      DSs (cxOf CX0 Pr w K mg base N_rows_with_above "rows_with_above" (defScope st_rows_with_above) f cdv A outer s H E).nox [0, 1] (defBody st_rows_with_above) B_rows_with_above := by
    intro cdv A outer s H E hG hr
    have nd := sc_rows_with_above.nd
    exact (dss_cons (ds_set (i := 2) nd rfl (by first | exact Or.inl rfl | exact Or.inr rfl) (by decide) (de_own (by exact D_later_table) (by rfl) (by exact hG) (by exact hr) (by decide) (by rfl) (da_cons (dp_of (de_var (pv 0))) da_nil)))
      (dss_cons (ds_set (i := 3) nd rfl (by first | exact Or.inl rfl | exact Or.inr rfl) (by decide) (de_lst (da_cons (dp_of (de_tup (da_cons (dp_of (de_tup da_nil)) (da_cons (dp_of (de_tupRg1 rfl (by rfl) (by exact m_tuple) (by rfl) (by exact m_range) (dp_of (de_item (dp_var (pv 0)) (dp_of de_int) (fun _ _ => rfl))))) da_nil)))) da_nil)))
      (dss_cons (ds_for PassesOwn.never rfl (by decide) (di_range1 (by rfl) (by exact m_range) (da_cons (dp_var (pv 1)) da_nil)) (dg_name (i := 4) nd rfl (by first | exact Or.inl rfl | exact Or.inr rfl)) (dss_one (ds_set (i := 3) nd rfl (by first | exact Or.inl rfl | exact Or.inr rfl) (by decide) (de_own (by exact D_grown) (by rfl) (by exact hG) (by exact hr) (by decide) (by rfl) (da_cons (dp_of (de_var (pv 2))) (da_cons (dp_of (de_var (pv 3))) da_nil))))))
      (dss_one (ds_ret (de_var (pv 3)))))))
  exact def_mk F gm b sc_rows_with_above H
theorem sc_rows : FnScope N_rows ["lot", "size"] (defScope st_rows) := ⟨rfl, rfl, rfl, by decide +kernel, rfl, by decide +kernel, by decide +kernel⟩
theorem ok_rows {f : Addr} {fd : FuncData} (F : Fun K "rows" "rows" st_rows f fd) (gm : mg "rows" = some (.ref f)) (b : Binds K fd ["lot", "size"] []) (D_rows_with_above : Def Pr w K mg base 3 "rows_with_above" ["lot", "size"] F_rows_with_above) (m_tuple : mg "tuple" = none) : Def Pr w K mg base 4 "rows" ["lot", "size"] F_rows := by
  have H : ∀ (cdv : Value) (A : Around) (outer : List Env) (s : Shared) (H : Hp) (E : XK), A.guards = some [] → Room 3 (A.deeper (envOfC "rows" (defScope st_rows) s.heap.objs.size f cdv)) →
      DSs (cxOf CX0 Pr w K mg base N_rows "rows" (defScope st_rows) f cdv A outer s H E).nox [0, 1] (defBody st_rows) B_rows := by
    intro cdv A outer s H E hG hr
    have nd := sc_rows.nd
    exact (dss_one (ds_ret (de_tuple (by exact m_tuple) (by rfl) (da_cons (dp_of (de_lc (own := [("row", 2), ("high", 3)]) rfl nd (di_seq (de_own (by exact D_rows_with_above) (by rfl) (by exact hG) (by exact hr) (by decide) (by rfl) (da_cons (dp_of (de_var (pv 0))) (da_cons (dp_of (de_var (pv 1))) da_nil)))) (blkOk_by (own := [("row", 2), ("high", 3)]) (N := N_rows) (sc := defScope st_rows) (by decide +kernel)) (by decide) (fun _ _ _ _ _ => (dg_tup rfl (dgs_cons (dg_name (i := 2) nd rfl (by first | exact Or.inl rfl | exact Or.inr rfl)) (dgs_cons (dg_name (i := 3) nd rfl (by first | exact Or.inl rfl | exact Or.inr rfl)) dgs_nil)))) (fun _ _ _ _ _ => dts_nil) (fun _ _ _ _ _ => (de_var (pv 2))))) da_nil))))
  exact def_mk F gm b sc_rows H
theorem sc_is_later : FnScope N_is_later ["lot", "x", "y"] (defScope st_is_later) := ⟨rfl, rfl, rfl, by decide +kernel, rfl, by decide +kernel, by decide +kernel⟩
theorem ok_is_later {f : Addr} {fd : FuncData} (F : Fun K "is_later" "is_later" st_is_later f fd) (gm : mg "is_later" = some (.ref f)) (b : Binds K fd ["lot", "x", "y"] []) : Def Pr w K mg base 1 "is_later" ["lot", "x", "y"] F_is_later := by
  have H : ∀ (cdv : Value) (A : Around) (outer : List Env) (s : Shared) (H : Hp) (E : XK), A.guards = some [] → Room 0 (A.deeper (envOfC "is_later" (defScope st_is_later) s.heap.objs.size f cdv)) →
      DSs (cxOf CX0 Pr w K mg base N_is_later "is_later" (defScope st_is_later) f cdv A outer s H E).nox [0, 1, 2] (defBody st_is_later) B_is_later := by
    intro cdv A outer s H E hG hr
    have nd := sc_is_later.nd
    exact (dss_one (ds_ret (de_in (by exact hr) (dp_of (de_tup (da_cons (dp_of (de_var (pv 1))) (da_cons (dp_of (de_var (pv 2))) da_nil)))) (dp_of (de_item (dp_var (pv 0)) (dp_of de_int) (fun _ _ => rfl))))))
  exact def_mk F gm b sc_is_later H
theorem sc_is_over : FnScope N_is_over ["lot", "mark", "marks"] (defScope st_is_over) := ⟨rfl, rfl, rfl, by decide +kernel, rfl, by decide +kernel, by decide +kernel⟩
theorem ok_is_over {f : Addr} {fd : FuncData} (F : Fun K "is_over" "is_over" st_is_over f fd) (gm : mg "is_over" = some (.ref f)) (b : Binds K fd ["lot", "mark", "marks"] []) (D_is_later : Def Pr w K mg base 1 "is_later" ["lot", "x", "y"] F_is_later) (m_all : mg "all" = none) : Def Pr w K mg base 2 "is_over" ["lot", "mark", "marks"] F_is_over := by
  have H : ∀ (cdv : Value) (A : Around) (outer : List Env) (s : Shared) (H : Hp) (E : XK), A.guards = some [] → Room 1 (A.deeper (envOfC "is_over" (defScope st_is_over) s.heap.objs.size f cdv)) →
      DSs (cxOf CX0 Pr w K mg base N_is_over "is_over" (defScope st_is_over) f cdv A outer s H E).nox [0, 1, 2] (defBody st_is_over) B_is_over := by
    intro cdv A outer s H E hG hr
    have nd := sc_is_over.nd
    exact (dss_one (ds_ret (de_all rfl (by exact m_all) (by rfl) (da_cons (dp_of (de_lc (own := [("other", 3)]) rfl nd (di_seq (de_var (pv 2))) (blkOk_by (own := [("other", 3)]) (N := N_is_over) (sc := defScope st_is_over) (by decide +kernel)) (by decide) (fun _ _ _ _ _ => (dg_name (i := 3) nd rfl (by first | exact Or.inl rfl | exact Or.inr rfl))) (fun _ _ _ _ _ => dts_nil) (fun _ _ _ _ _ => (de_own (by exact D_is_later) (by rfl) (by exact hG) (by exact hr) (by decide) (by rfl) (da_cons (dp_of (de_var (pv 0))) (da_cons (dp_of (de_var (pv 1))) (da_cons (dp_of (de_var (pv 3))) da_nil))))))) da_nil))))
  exact def_mk F gm b sc_is_over H
theorem sc_above : FnScope N_above ["lot", "marks"] (defScope st_above) := ⟨rfl, rfl, rfl, by decide +kernel, rfl, by decide +kernel, by decide +kernel⟩
theorem ok_above {f : Addr} {fd : FuncData} (F : Fun K "above" "above" st_above f fd) (gm : mg "above" = some (.ref f)) (b : Binds K fd ["lot", "marks"] []) (D_is_over : Def Pr w K mg base 2 "is_over" ["lot", "mark", "marks"] F_is_over) (m_range : mg "range" = none) (m_tuple : mg "tuple" = none) : Def Pr w K mg base 3 "above" ["lot", "marks"] F_above := by
  have H : ∀ (cdv : Value) (A : Around) (outer : List Env) (s : Shared) (H : Hp) (E : XK), A.guards = some [] → Room 2 (A.deeper (envOfC "above" (defScope st_above) s.heap.objs.size f cdv)) →
      DSs (cxOf CX0 Pr w K mg base N_above "above" (defScope st_above) f cdv A outer s H E).nox [0, 1] (defBody st_above) B_above := by
    intro cdv A outer s H E hG hr
    have nd := sc_above.nd
    exact (dss_one (ds_ret (de_tuple (by exact m_tuple) (by rfl) (da_cons (dp_of (de_lc (own := [("mark", 2)]) rfl nd (di_range1 (by rfl) (by exact m_range) (da_cons (dp_of (de_item (dp_var (pv 0)) (dp_of de_int) (fun _ _ => rfl))) da_nil)) (blkOk_by (own := [("mark", 2)]) (N := N_above) (sc := defScope st_above) (by decide +kernel)) (by decide) (fun _ _ _ _ _ => (dg_name (i := 2) nd rfl (by first | exact Or.inl rfl | exact Or.inr rfl))) (fun _ _ _ _ _ => (dts_one (dt_val (de_own (by exact D_is_over) (by rfl) (by exact hG) (by exact hr) (by decide) (by rfl) (da_cons (dp_of (de_var (pv 0))) (da_cons (dp_of (de_var (pv 2))) (da_cons (dp_of (de_var (pv 1))) da_nil))))))) (fun _ _ _ _ _ => (de_var (pv 2))))) da_nil))))
  exact def_mk F gm b sc_above H
theorem sc__law_parts_of : FnScope N__law_parts_of ["_law_chain"] (defScope st__law_parts_of) := ⟨rfl, rfl, rfl, by decide +kernel, rfl, by decide +kernel, by decide +kernel⟩
theorem ok__law_parts_of {f : Addr} {fd : FuncData} (F : Fun K "_law_parts_of" "_law_parts_of" st__law_parts_of f fd) (gm : mg "_law_parts_of" = some (.ref f)) (b : Binds K fd ["_law_chain"] []) (m_len : mg "len" = none) (m_range : mg "range" = none) : Def Pr w K mg base 1 "_law_parts_of" ["_law_chain"] F__law_parts_of := by
  have H : ∀ (cdv : Value) (A : Around) (outer : List Env) (s : Shared) (H : Hp) (E : XK), A.guards = some [] → Room 0 (A.deeper (envOfC "_law_parts_of" (defScope st__law_parts_of) s.heap.objs.size f cdv)) →
      DSs (cxOf CX0 Pr w K mg base N__law_parts_of "_law_parts_of" (defScope st__law_parts_of) f cdv A outer s H E).nox [0] (defBody st__law_parts_of) B__law_parts_of := by
    intro cdv A outer s H E hG hr
    have nd := sc__law_parts_of.nd
    exact (dss_one (ds_ret (de_lc (own := [("_law_at", 1)]) rfl nd (di_range1 (by rfl) (by exact m_range) (da_cons (dp_of (de_len (by exact m_len) (by rfl) (da_cons (dp_var (pv 0)) da_nil))) da_nil)) (blkOk_by (own := [("_law_at", 1)]) (N := N__law_parts_of) (sc := defScope st__law_parts_of) (by decide +kernel)) (by decide) (fun _ _ _ _ _ => (dg_name (i := 1) nd rfl (by first | exact Or.inl rfl | exact Or.inr rfl))) (fun _ _ _ _ _ => dts_nil) (fun _ _ _ _ _ => (de_add (dp_of (de_slice (dp_var (pv 0)) do_none (do_some (dp_var (pv 1))))) (dp_of (de_slice (dp_var (pv 0)) (do_some (dp_of (de_add (dp_var (pv 1)) (dp_of de_int)))) do_none)))))))
  exact def_mk F gm b sc__law_parts_of H
theorem sc_is_whole : FnScope N_is_whole ["thing"] (defScope st_is_whole) := ⟨rfl, rfl, rfl, by decide +kernel, rfl, by decide +kernel, by decide +kernel⟩
theorem ok_is_whole {f : Addr} {fd : FuncData} (F : Fun K "is_whole" "is_whole" st_is_whole f fd) (gm : mg "is_whole" = some (.ref f)) (b : Binds K fd ["thing"] []) (m_bool : mg "bool" = none) (m_int : mg "int" = none) (m_isinstance : mg "isinstance" = none) : Def Pr w K mg base 1 "is_whole" ["thing"] F_is_whole := by
  have H : ∀ (cdv : Value) (A : Around) (outer : List Env) (s : Shared) (H : Hp) (E : XK), A.guards = some [] → Room 0 (A.deeper (envOfC "is_whole" (defScope st_is_whole) s.heap.objs.size f cdv)) →
      DSs (cxOf CX0 Pr w K mg base N_is_whole "is_whole" (defScope st_is_whole) f cdv A outer s H E).nox [0] (defBody st_is_whole) B_is_whole := by
    intro cdv A outer s H E hG hr
    have nd := sc_is_whole.nd
    exact (dss_one (ds_ret (de_and (de_isi (cn := "int") rfl (by decide) (by exact m_isinstance) (by rfl) (by exact m_int) (by rfl) (by decide +kernel) (by decide) (by decide) (dp_var (pv 0))) (de_one (de_not (de_isi (cn := "bool") rfl (by decide) (by exact m_isinstance) (by rfl) (by exact m_bool) (by rfl) (by decide +kernel) (by decide) (by decide) (dp_var (pv 0))))))))
  exact def_mk F gm b sc_is_whole H
theorem sc_is_below : FnScope N_is_below ["many", "thing"] (defScope st_is_below) := ⟨rfl, rfl, rfl, by decide +kernel, rfl, by decide +kernel, by decide +kernel⟩
theorem ok_is_below {f : Addr} {fd : FuncData} (F : Fun K "is_below" "is_below" st_is_below f fd) (gm : mg "is_below" = some (.ref f)) (b : Binds K fd ["many", "thing"] []) (D_is_whole : Def Pr w K mg base 1 "is_whole" ["thing"] F_is_whole) : Def Pr w K mg base 2 "is_below" ["many", "thing"] F_is_below := by
  have H : ∀ (cdv : Value) (A : Around) (outer : List Env) (s : Shared) (H : Hp) (E : XK), A.guards = some [] → Room 1 (A.deeper (envOfC "is_below" (defScope st_is_below) s.heap.objs.size f cdv)) →
      DSs (cxOf CX0 Pr w K mg base N_is_below "is_below" (defScope st_is_below) f cdv A outer s H E).nox [0, 1] (defBody st_is_below) B_is_below := by
    intro cdv A outer s H E hG hr
    have nd := sc_is_below.nd
    exact (dss_one (ds_ret (de_and (de_own (by exact D_is_whole) (by rfl) (by exact hG) (by exact hr) (by decide) (by rfl) (da_cons (dp_of (de_var (pv 1))) da_nil)) (de_one (de_chain or_le od_cmp or_lt od_cmp (dp_of de_int) (dp_var (pv 1)) (dp_var (pv 0)))))))
  exact def_mk F gm b sc_is_below H
theorem sc_is_row : FnScope N_is_row ["lot", "thing"] (defScope st_is_row) := ⟨rfl, rfl, rfl, by decide +kernel, rfl, by decide +kernel, by decide +kernel⟩
theorem ok_is_row {f : Addr} {fd : FuncData} (F : Fun K "is_row" "is_row" st_is_row f fd) (gm : mg "is_row" = some (.ref f)) (b : Binds K fd ["lot", "thing"] []) (D_is_below : Def Pr w K mg base 2 "is_below" ["many", "thing"] F_is_below) (D_is_over : Def Pr w K mg base 2 "is_over" ["lot", "mark", "marks"] F_is_over) (m_enumerate : mg "enumerate" = none) (m_isinstance : mg "isinstance" = none) (m_tuple : mg "tuple" = none) : Def Pr w K mg base 3 "is_row" ["lot", "thing"] F_is_row := by
  have H : ∀ (cdv : Value) (A : Around) (outer : List Env) (s : Shared) (H : Hp) (E : XK), A.guards = some [] → Room 2 (A.deeper (envOfC "is_row" (defScope st_is_row) s.heap.objs.size f cdv)) →
      DSs (cxOf CX0 Pr w K mg base N_is_row "is_row" (defScope st_is_row) f cdv A outer s H E).nox [0, 1] (defBody st_is_row) B_is_row := by
    intro cdv A outer s H E hG hr
    have nd := sc_is_row.nd
    exact (dss_cons (ds_if (dt_not (dt_val (de_isi (cn := "tuple") rfl (by decide) (by exact m_isinstance) (by rfl) (by exact m_tuple) (by rfl) (by decide +kernel) (by decide) (by decide) (dp_var (pv 1))))) (dss_one (ds_ret de_bl)) dss_nil)
      (dss_cons (ds_for PassesOwn.never rfl (by decide) (di_enumX (by rfl) (by exact m_enumerate) (da_cons (dp_of (de_var (pv 1))) da_nil)) (dg_tup rfl (dgs_cons (dg_name (i := 2) nd rfl (by first | exact Or.inl rfl | exact Or.inr rfl)) (dgs_cons (dg_name (i := 3) nd rfl (by first | exact Or.inl rfl | exact Or.inr rfl)) dgs_nil))) (dss_one (ds_if (PW.pt (dw_or (dt_not (dt_val (de_own (by exact D_is_below) (by rfl) (by exact hG) (by exact hr) (by decide) (by rfl) (da_cons (dp_of (de_item (dp_var (pv 0)) (dp_of de_int) (fun _ _ => rfl))) (da_cons (dp_of (de_var (pv 3))) da_nil))))) (dw_or1 (dt_not (dt_val (de_own (by exact D_is_over) (by rfl) (by exact hG) (by exact hr) (by decide) (by rfl) (da_cons (dp_of (de_var (pv 0))) (da_cons (dp_of (de_var (pv 3))) (da_cons (dp_of (de_slice (dp_var (pv 1)) do_none (do_some (dp_var (pv 2))))) da_nil))))))))) (dss_one (ds_ret de_bl)) dss_nil)))
      (dss_one (ds_ret de_bl))))
  exact def_mk F gm b sc_is_row H
theorem sc_in_order : FnScope N_in_order ["lot", "marks"] (defScope st_in_order) := ⟨rfl, rfl, rfl, by decide +kernel, rfl, by decide +kernel, by decide +kernel⟩
theorem ok_in_order {f c P : Addr} {fd : FuncData} (F : FunM K "in_order" "in_order" st_in_order f fd c) (tb : LamX.TabB base mg c P) (me : (P, ((("in_order" : Str) ++ (".<locals>." : Str)) ++ ("<lambda>" : Str))) ∈ TB.tb) (un : ∀ p ∈ TB.tb, p.1 = P → p.2 = ((("in_order" : Str) ++ (".<locals>." : Str)) ++ ("<lambda>" : Str))) (gm : mg "in_order" = some (.ref f)) (b : Binds K fd ["lot", "marks"] []) (D_is_later : Def Pr w K mg base 1 "is_later" ["lot", "x", "y"] F_is_later) (D_is_row : Def Pr w K mg base 3 "is_row" ["lot", "thing"] F_is_row) (m_len : mg "len" = none) (m_set : mg "set" = none) (m_sorted : mg "sorted" = none) (m_tuple : mg "tuple" = none) : Def Pr w K mg base 5 "in_order" ["lot", "marks"] F_in_order := by
  have H : ∀ (A : Around) (outer : List Env) (s : Shared) (H : Hp) (E : XK), A.guards = some [] → Room 4 (A.deeper (envOfC "in_order" (defScope st_in_order) s.heap.objs.size f (.ref c))) →
      DSs (cxOf CX0 Pr w K mg base N_in_order "in_order" (defScope st_in_order) f (.ref c) A outer s H E).nox [0, 1] (defBody st_in_order) B_in_order := by
    intro A outer s H E hG hr
    have nd := sc_in_order.nd
    exact (dss_cons (ds_set (i := 2) nd rfl (by first | exact Or.inl rfl | exact Or.inr rfl) (by decide) (de_sortSet rfl (by rfl) (by exact m_sorted) (by rfl) (by exact m_set) (dp_of (de_var (pv 1)))))
      (dss_cons (ds_set (i := 3) nd rfl (by first | exact Or.inl rfl | exact Or.inr rfl) (by decide) (de_tuple (by exact m_tuple) (by rfl) (da_cons (dp_of (de_sortKey (N := ["mark", "unlike", "lot", "y"]) (ps := ["mark"]) (fr := ["unlike", "lot"]) (js := [2, 0]) (k := 1) (by exact m_sorted) (by rfl) (da_cons (dp_of (de_var (pv 2))) da_nil) ⟨by exact tb, rfl, by exact me, by exact un⟩ ⟨cscope_by (by decide +kernel), rfl, fun _ _ _ _ _ _ us hl => match us, hl with | [_], _ => rfl, NdefX.ndef_free (sc := defScope st_in_order) (fr := ["unlike", "lot"]) (by decide +kernel), NdefX.ndef_fr (sc := defScope st_in_order) (by decide +kernel), rfl⟩ rfl (by exact hG) (by exact hr) (by decide) (fun f c' A outer s H hG hr => by
        have nd : List.Nodup (["mark", "unlike", "lot", "y"] : List Str) := by decide
        exact (de_len (by exact m_len) (by rfl) (da_cons (dp_of (de_lc (own := [("y", 3)]) rfl nd (di_seq (de_var (pv 1))) (blkOk_by (own := [("y", 3)]) (by rfl)) (by decide) (fun _ _ _ _ _ => (dg_name (i := 3) nd rfl (by first | exact Or.inl rfl | exact Or.inr rfl))) (fun _ _ _ _ _ => (dts_one (dt_val (de_own (by exact D_is_later) (by rfl) (by exact hG) (by exact hr) (by decide) (by rfl) (da_cons (dp_of (de_var (pv 2))) (da_cons (dp_of (de_var (pv 0))) (da_cons (dp_of (de_var (pv 3))) da_nil))))))) (fun _ _ _ _ _ => (de_var (pv 3))))) da_nil))))) da_nil)))
      (dss_one (ds_ret (de_ifE (dt_val (de_own (by exact D_is_row) (by rfl) (by exact hG) (by exact hr) (by decide) (by rfl) (da_cons (dp_of (de_var (pv 0))) (da_cons (dp_of (de_var (pv 3))) da_nil)))) (de_var (pv 3)) de_non)))))
  exact def_mkM F gm b sc_in_order H
theorem sc__law_right : FnScope N__law_right ["_law_pot_here", "_law_lot_here"] (defScope st__law_right) := ⟨rfl, rfl, rfl, by decide +kernel, rfl, by decide +kernel, by decide +kernel⟩
theorem ok__law_right {f : Addr} {fd : FuncData} (F : Fun K "_law_right" "_law_right" st__law_right f fd) (gm : mg "_law_right" = some (.ref f)) (b : Binds K fd ["_law_pot_here", "_law_lot_here"] []) (D__law_order : Def Pr w K mg base 2 "_law_order" ["_law_pot_here", "_law_size"] F__law_order) (D__law_called : Def Pr w K mg base 1 "_law_called" ["_law_order_here", "_law_marks"] F__law_called) (D_rows : Def Pr w K mg base 4 "rows" ["lot", "size"] F_rows) (D_above : Def Pr w K mg base 3 "above" ["lot", "marks"] F_above) (D__law_parts_of : Def Pr w K mg base 1 "_law_parts_of" ["_law_chain"] F__law_parts_of) (D_is_row : Def Pr w K mg base 3 "is_row" ["lot", "thing"] F_is_row) (D_in_order : Def Pr w K mg base 5 "in_order" ["lot", "marks"] F_in_order) (m_all : mg "all" = none) (m_range : mg "range" = none) (m_sorted : mg "sorted" = none) (m_tuple : mg "tuple" = none) : Def Pr w K mg base 6 "_law_right" ["_law_pot_here", "_law_lot_here"] F__law_right := by
  have H : ∀ (cdv : Value) (A : Around) (outer : List Env) (s : Shared) (H : Hp) (E : XK), A.guards = some [] → Room 5 (A.deeper (envOfC "_law_right" (defScope st__law_right) s.heap.objs.size f cdv)) →
      DSs (cxOf CX0 Pr w K mg base N__law_right "_law_right" (defScope st__law_right) f cdv A outer s H E).nox [0, 1] (defBody st__law_right) B__law_right := by
    intro cdv A outer s H E hG hr
    have nd := sc__law_right.nd
    exact (dss_cons (ds_set (i := 2) nd rfl (by first | exact Or.inl rfl | exact Or.inr rfl) (by decide) (de_own (by exact D__law_order) (by rfl) (by exact hG) (by exact hr) (by decide) (by rfl) (da_cons (dp_var (pv 0)) (da_cons (dp_of (de_item (dp_var (pv 1)) (dp_of de_int) (fun _ _ => rfl))) da_nil))))
      (dss_cons (ds_set (i := 3) nd rfl (by first | exact Or.inl rfl | exact Or.inr rfl) (by decide) (de_tup (da_cons (dp_of (de_item (dp_var (pv 1)) (dp_of de_int) (fun _ _ => rfl))) (da_cons (dp_of (de_tuple (by exact m_tuple) (by rfl) (da_cons (dp_of (de_sortedT (by exact m_sorted) (by rfl) (da_cons (dp_of (de_lc (own := [("_law_pair", 10)]) rfl nd (di_seq (de_item (dp_var (pv 1)) (dp_of de_int) (fun _ _ => rfl))) (blkOk_by (own := [("_law_pair", 10)]) (N := N__law_right) (sc := defScope st__law_right) (by decide +kernel)) (by decide) (fun _ _ _ _ _ => (dg_name (i := 10) nd rfl (by first | exact Or.inl rfl | exact Or.inr rfl))) (fun _ _ _ _ _ => dts_nil) (fun _ _ _ _ _ => (de_own (by exact D__law_called) (by rfl) (by exact hG) (by exact hr) (by decide) (by rfl) (da_cons (dp_of (de_var (pv 2))) (da_cons (dp_of (de_var (pv 10))) da_nil)))))) da_nil))) da_nil))) da_nil))))
      (dss_cons (ds_set (i := 4) nd rfl (by first | exact Or.inl rfl | exact Or.inr rfl) (by decide) (de_tup (da_cons (dp_of (de_item (dp_var (pv 1)) (dp_of de_int) (fun _ _ => rfl))) (da_cons (dp_of (de_tuple (by exact m_tuple) (by rfl) (da_cons (dp_of (de_sortedT (by exact m_sorted) (by rfl) (da_cons (dp_of (de_lc (own := [("_law_pair", 10)]) rfl nd (di_seq (de_item (dp_var (pv 1)) (dp_of de_int) (fun _ _ => rfl))) (blkOk_by (own := [("_law_pair", 10)]) (N := N__law_right) (sc := defScope st__law_right) (by decide +kernel)) (by decide) (fun _ _ _ _ _ => (dg_name (i := 10) nd rfl (by first | exact Or.inl rfl | exact Or.inr rfl))) (fun _ _ _ _ _ => dts_nil) (fun _ _ _ _ _ => (de_rev (dp_var (pv 10)))))) da_nil))) da_nil))) da_nil))))
      (dss_cons (ds_set (i := 5) nd rfl (by first | exact Or.inl rfl | exact Or.inr rfl) (by decide) (de_tup (da_cons (dp_of (de_tup da_nil)) da_nil)))
      (dss_cons (ds_for PassesOwn.never rfl (by decide) (di_range2 (by rfl) (by exact m_range) (da_cons (dp_of de_int) (da_cons (dp_of de_int) da_nil))) (dg_name (i := 6) nd rfl (by first | exact Or.inl rfl | exact Or.inr rfl)) (dss_cons (ds_set (i := 7) nd rfl (by first | exact Or.inl rfl | exact Or.inr rfl) (by decide) (de_own (by exact D_rows) (by rfl) (by exact hG) (by exact hr) (by decide) (by rfl) (da_cons (dp_of (de_var (pv 1))) (da_cons (dp_of (de_var (pv 6))) da_nil))))
      (dss_cons (ds_if (dt_ne (by exact hr) (dp_of (de_tuple (by exact m_tuple) (by rfl) (da_cons (dp_of (de_sortedT (by exact m_sorted) (by rfl) (da_cons (dp_of (de_lc (own := [("_law_chain", 9)]) rfl nd (di_seq (de_var (pv 7))) (blkOk_by (own := [("_law_chain", 9)]) (N := N__law_right) (sc := defScope st__law_right) (by decide +kernel)) (by decide) (fun _ _ _ _ _ => (dg_name (i := 9) nd rfl (by first | exact Or.inl rfl | exact Or.inr rfl))) (fun _ _ _ _ _ => dts_nil) (fun _ _ _ _ _ => (de_own (by exact D__law_called) (by rfl) (by exact hG) (by exact hr) (by decide) (by rfl) (da_cons (dp_of (de_var (pv 2))) (da_cons (dp_of (de_var (pv 9))) da_nil)))))) da_nil))) da_nil))) (dp_of (de_own (by exact D_rows) (by rfl) (by exact hG) (by exact hr) (by decide) (by rfl) (da_cons (dp_of (de_var (pv 3))) (da_cons (dp_of (de_var (pv 6))) da_nil))))) (dss_one (ds_ret de_bl)) dss_nil)
      (dss_cons (ds_if (dt_ne (by exact hr) (dp_of (de_tuple (by exact m_tuple) (by rfl) (da_cons (dp_of (de_sortedT (by exact m_sorted) (by rfl) (da_cons (dp_of (de_lc (own := [("_law_chain", 9)]) rfl nd (di_seq (de_var (pv 7))) (blkOk_by (own := [("_law_chain", 9)]) (N := N__law_right) (sc := defScope st__law_right) (by decide +kernel)) (by decide) (fun _ _ _ _ _ => (dg_name (i := 9) nd rfl (by first | exact Or.inl rfl | exact Or.inr rfl))) (fun _ _ _ _ _ => dts_nil) (fun _ _ _ _ _ => (de_rev (dp_var (pv 9)))))) da_nil))) da_nil))) (dp_of (de_own (by exact D_rows) (by rfl) (by exact hG) (by exact hr) (by decide) (by rfl) (da_cons (dp_of (de_var (pv 4))) (da_cons (dp_of (de_var (pv 6))) da_nil))))) (dss_one (ds_ret de_bl)) dss_nil)
      (dss_cons (ds_set (i := 8) nd rfl (by first | exact Or.inl rfl | exact Or.inr rfl) (by decide) (de_lst da_nil))
      (dss_cons (ds_for PassesOwn.never rfl (by decide) (di_seq (de_var (pv 5))) (dg_name (i := 9) nd rfl (by first | exact Or.inl rfl | exact Or.inr rfl)) (dss_one (ds_expr (de_extend (pv 8) (da_cons (dp_of (de_lc (own := [("_law_mark", 11)]) rfl nd (di_seq (de_own (by exact D_above) (by rfl) (by exact hG) (by exact hr) (by decide) (by rfl) (da_cons (dp_of (de_var (pv 1))) (da_cons (dp_of (de_var (pv 9))) da_nil)))) (blkOk_by (own := [("_law_mark", 11)]) (N := N__law_right) (sc := defScope st__law_right) (by decide +kernel)) (by decide) (fun _ _ _ _ _ => (dg_name (i := 11) nd rfl (by first | exact Or.inl rfl | exact Or.inr rfl))) (fun _ _ _ _ _ => dts_nil) (fun _ _ _ _ _ => (de_add (dp_var (pv 9)) (dp_of (de_tup (da_cons (dp_of (de_var (pv 11))) da_nil))))))) da_nil)))))
      (dss_cons (ds_if (dt_ne (by exact hr) (dp_of (de_tuple (by exact m_tuple) (by rfl) (da_cons (dp_var (pv 8)) da_nil))) (dp_var (pv 7))) (dss_one (ds_ret de_bl)) dss_nil)
      (dss_cons (ds_for PassesOwn.never rfl (by decide) (di_seq (de_slice (dp_var (pv 7)) do_none (do_some (dp_of de_int)))) (dg_name (i := 9) nd rfl (by first | exact Or.inl rfl | exact Or.inr rfl)) (dss_cons (ds_if (PW.pt (dw_or (dt_not (dt_val (de_all rfl (by exact m_all) (by rfl) (da_cons (dp_of (de_lc (own := [("_law_short", 12)]) rfl nd (di_seq (de_own (by exact D__law_parts_of) (by rfl) (by exact hG) (by exact hr) (by decide) (by rfl) (da_cons (dp_of (de_var (pv 9))) da_nil))) (blkOk_by (own := [("_law_short", 12)]) (N := N__law_right) (sc := defScope st__law_right) (by decide +kernel)) (by decide) (fun _ _ _ _ _ => (dg_name (i := 12) nd rfl (by first | exact Or.inl rfl | exact Or.inr rfl))) (fun _ _ _ _ _ => dts_nil) (fun _ _ _ _ _ => (de_in (by exact hr) (dp_var (pv 12)) (dp_var (pv 5)))))) da_nil)))) (dw_or1 (dt_isNot (dp_of (de_own (by exact D_is_row) (by rfl) (by exact hG) (by exact hr) (by decide) (by rfl) (da_cons (dp_of (de_var (pv 1))) (da_cons (dp_of (de_var (pv 9))) da_nil)))) (dp_of de_bl))))) (dss_one (ds_ret de_bl)) dss_nil)
      (dss_one (ds_if (dt_ne (by exact hr) (dp_of (de_own (by exact D_in_order) (by rfl) (by exact hG) (by exact hr) (by decide) (by rfl) (da_cons (dp_of (de_var (pv 3))) (da_cons (dp_of (de_own (by exact D__law_called) (by rfl) (by exact hG) (by exact hr) (by decide) (by rfl) (da_cons (dp_of (de_var (pv 2))) (da_cons (dp_of (de_rev (dp_var (pv 9)))) da_nil)))) da_nil)))) (dp_of (de_own (by exact D__law_called) (by rfl) (by exact hG) (by exact hr) (by decide) (by rfl) (da_cons (dp_of (de_var (pv 2))) (da_cons (dp_of (de_var (pv 9))) da_nil))))) (dss_one (ds_ret de_bl)) dss_nil))))
      (dss_one (ds_set (i := 5) nd rfl (by first | exact Or.inl rfl | exact Or.inr rfl) (by decide) (de_var (pv 7))))))))))))
      (dss_one (ds_ret de_bl)))))))
  exact def_mk F gm b sc__law_right H
theorem sc__law_circle : FnScope N__law_circle ["_law_size", "_law_steps"] (defScope st__law_circle) := ⟨rfl, rfl, rfl, by decide +kernel, rfl, by decide +kernel, by decide +kernel⟩
theorem ok__law_circle {f : Addr} {fd : FuncData} (F : Fun K "_law_circle" "_law_circle" st__law_circle f fd) (gm : mg "_law_circle" = some (.ref f)) (b : Binds K fd ["_law_size", "_law_steps"] []) (m_range : mg "range" = none) (m_tuple : mg "tuple" = none) : Def Pr w K mg base 1 "_law_circle" ["_law_size", "_law_steps"] F__law_circle := by
  have H : ∀ (cdv : Value) (A : Around) (outer : List Env) (s : Shared) (H : Hp) (E : XK), A.guards = some [] → Room 0 (A.deeper (envOfC "_law_circle" (defScope st__law_circle) s.heap.objs.size f cdv)) →
      DSs (cxOf CX0 Pr w K mg base N__law_circle "_law_circle" (defScope st__law_circle) f cdv A outer s H E).nox [0, 1] (defBody st__law_circle) B__law_circle := by
    intro cdv A outer s H E hG hr
    have nd := sc__law_circle.nd
    exact (dss_cons (ds_set (i := 2) nd rfl (by first | exact Or.inl rfl | exact Or.inr rfl) (by decide) (de_lst da_nil))
      (dss_cons (ds_for PassesOwn.never rfl (by decide) (di_range1 (by rfl) (by exact m_range) (da_cons (dp_var (pv 0)) da_nil)) (dg_name (i := 3) nd rfl (by first | exact Or.inl rfl | exact Or.inr rfl)) (dss_one (ds_expr (de_extend (pv 2) (da_cons (dp_of (de_lc (own := [("_law_y", 4)]) rfl nd (di_range1 (by rfl) (by exact m_range) (da_cons (dp_var (pv 0)) da_nil)) (blkOk_by (own := [("_law_y", 4)]) (N := N__law_circle) (sc := defScope st__law_circle) (by decide +kernel)) (by decide) (fun _ _ _ _ _ => (dg_name (i := 4) nd rfl (by first | exact Or.inl rfl | exact Or.inr rfl))) (fun _ _ _ _ _ => (dts_one (dt_in (by exact hr) (dp_of (de_mod (dp_of (de_sub (dp_var (pv 3)) (dp_var (pv 4)))) (dp_var (pv 0)))) (dp_var (pv 1))))) (fun _ _ _ _ _ => (de_tup (da_cons (dp_of (de_var (pv 3))) (da_cons (dp_of (de_var (pv 4))) da_nil)))))) da_nil)))))
      (dss_one (ds_ret (de_tup (da_cons (dp_of (de_var (pv 0))) (da_cons (dp_of (de_tuple (by exact m_tuple) (by rfl) (da_cons (dp_var (pv 2)) da_nil))) da_nil)))))))
  exact def_mk F gm b sc__law_circle H
theorem sc__law_line : FnScope N__law_line ["_law_size"] (defScope st__law_line) := ⟨rfl, rfl, rfl, by decide +kernel, rfl, by decide +kernel, by decide +kernel⟩
theorem ok__law_line {f : Addr} {fd : FuncData} (F : Fun K "_law_line" "_law_line" st__law_line f fd) (gm : mg "_law_line" = some (.ref f)) (b : Binds K fd ["_law_size"] []) (m_range : mg "range" = none) (m_tuple : mg "tuple" = none) : Def Pr w K mg base 1 "_law_line" ["_law_size"] F__law_line := by
  have H : ∀ (cdv : Value) (A : Around) (outer : List Env) (s : Shared) (H : Hp) (E : XK), A.guards = some [] → Room 0 (A.deeper (envOfC "_law_line" (defScope st__law_line) s.heap.objs.size f cdv)) →
      DSs (cxOf CX0 Pr w K mg base N__law_line "_law_line" (defScope st__law_line) f cdv A outer s H E).nox [0] (defBody st__law_line) B__law_line := by
    intro cdv A outer s H E hG hr
    have nd := sc__law_line.nd
    exact (dss_cons (ds_set (i := 1) nd rfl (by first | exact Or.inl rfl | exact Or.inr rfl) (by decide) (de_lst da_nil))
      (dss_cons (ds_for PassesOwn.never rfl (by decide) (di_range1 (by rfl) (by exact m_range) (da_cons (dp_var (pv 0)) da_nil)) (dg_name (i := 2) nd rfl (by first | exact Or.inl rfl | exact Or.inr rfl)) (dss_one (ds_expr (de_extend (pv 1) (da_cons (dp_of (de_lc (own := [("_law_y", 3)]) rfl nd (di_range1 (by rfl) (by exact m_range) (da_cons (dp_var (pv 2)) da_nil)) (blkOk_by (own := [("_law_y", 3)]) (N := N__law_line) (sc := defScope st__law_line) (by decide +kernel)) (by decide) (fun _ _ _ _ _ => (dg_name (i := 3) nd rfl (by first | exact Or.inl rfl | exact Or.inr rfl))) (fun _ _ _ _ _ => dts_nil) (fun _ _ _ _ _ => (de_tup (da_cons (dp_of (de_var (pv 2))) (da_cons (dp_of (de_var (pv 3))) da_nil)))))) da_nil)))))
      (dss_one (ds_ret (de_tup (da_cons (dp_of (de_var (pv 0))) (da_cons (dp_of (de_tuple (by exact m_tuple) (by rfl) (da_cons (dp_var (pv 1)) da_nil))) da_nil)))))))
  exact def_mk F gm b sc__law_line H
theorem sc__law_of : FnScope N__law_of ["_law_pot_here", "_law_some"] (defScope st__law_of) := ⟨rfl, rfl, rfl, by decide +kernel, rfl, by decide +kernel, by decide +kernel⟩
theorem ok__law_of {f : Addr} {fd : FuncData} (F : Fun K "_law_of" "_law_of" st__law_of f fd) (gm : mg "_law_of" = some (.ref f)) (b : Binds K fd ["_law_pot_here", "_law_some"] []) (D__law_take : Def Pr w K mg base 1 "_law_take" ["_law_pot_here", "_law_size"] F__law_take) (m_len : mg "len" = none) : Def Pr w K mg base 2 "_law_of" ["_law_pot_here", "_law_some"] F__law_of := by
  have H : ∀ (cdv : Value) (A : Around) (outer : List Env) (s : Shared) (H : Hp) (E : XK), A.guards = some [] → Room 1 (A.deeper (envOfC "_law_of" (defScope st__law_of) s.heap.objs.size f cdv)) →
      DSs (cxOf CX0 Pr w K mg base N__law_of "_law_of" (defScope st__law_of) f cdv A outer s H E).nox [0, 1] (defBody st__law_of) B__law_of := by
    intro cdv A outer s H E hG hr
    have nd := sc__law_of.nd
    exact (dss_one (ds_ret (de_item (dp_var (pv 1)) (dp_of (de_own (by exact D__law_take) (by rfl) (by exact hG) (by exact hr) (by decide) (by rfl) (da_cons (dp_var (pv 0)) (da_cons (dp_of (de_len (by exact m_len) (by rfl) (da_cons (dp_var (pv 1)) da_nil))) da_nil)))) (fun _ _ => rfl))))
  exact def_mk F gm b sc__law_of H
theorem sc__law_drawn : FnScope N__law_drawn ["_law_pot_here", "_law_most"] (defScope st__law_drawn) := ⟨rfl, rfl, rfl, by decide +kernel, rfl, by decide +kernel, by decide +kernel⟩
theorem ok__law_drawn {f : Addr} {fd : FuncData} (F : Fun K "_law_drawn" "_law_drawn" st__law_drawn f fd) (gm : mg "_law_drawn" = some (.ref f)) (b : Binds K fd ["_law_pot_here", "_law_most"] []) (D__law_take : Def Pr w K mg base 1 "_law_take" ["_law_pot_here", "_law_size"] F__law_take) (m_int : mg "int" = none) (m_range : mg "range" = none) (m_sorted : mg "sorted" = none) (m_tuple : mg "tuple" = none) : Def Pr w K mg base 2 "_law_drawn" ["_law_pot_here", "_law_most"] F__law_drawn := by
  have H : ∀ (cdv : Value) (A : Around) (outer : List Env) (s : Shared) (H : Hp) (E : XK), A.guards = some [] → Room 1 (A.deeper (envOfC "_law_drawn" (defScope st__law_drawn) s.heap.objs.size f cdv)) →
      DSs (cxOf CX0 Pr w K mg base N__law_drawn "_law_drawn" (defScope st__law_drawn) f cdv A outer s H E).nox [0, 1] (defBody st__law_drawn) B__law_drawn := by
    intro cdv A outer s H E hG hr
    have nd := sc__law_drawn.nd
    exact (dss_cons (ds_par3 rfl nd rfl rfl rfl (by decide) (by decide) (by decide) rfl rfl rfl (by decide) (df_cons (de_own (by exact D__law_take) (by rfl) (by exact hG) (by exact hr) (by decide) (by rfl) (da_cons (dp_var (pv 0)) (da_cons (dp_of (de_add (dp_var (pv 1)) (dp_of de_int))) da_nil))) (df_cons (de_add (dp_of de_int) (dp_of (de_own (by exact D__law_take) (by rfl) (by exact hG) (by exact hr) (by decide) (by rfl) (da_cons (dp_var (pv 0)) (da_cons (dp_of de_int) da_nil))))) (df_cons (de_lst da_nil) df_nil))) rfl)
      (dss_cons (ds_for PassesOwn.never rfl (by decide) (di_range1 (by rfl) (by exact m_range) (da_cons (dp_var (pv 3)) da_nil)) (dg_name (i := 2) nd rfl (by first | exact Or.inl rfl | exact Or.inr rfl)) (dss_one (ds_for PassesOwn.never rfl (by decide) (di_range1 (by rfl) (by exact m_range) (da_cons (dp_var (pv 2)) da_nil)) (dg_name (i := 6) nd rfl (by first | exact Or.inl rfl | exact Or.inr rfl)) (dss_cons (ds_set (i := 7) nd rfl (by first | exact Or.inl rfl | exact Or.inr rfl) (by decide) (de_own (by exact D__law_take) (by rfl) (by exact hG) (by exact hr) (by decide) (by rfl) (da_cons (dp_var (pv 0)) (da_cons (dp_of (de_var (pv 4))) da_nil))))
      (dss_one (ds_expr (de_extend (pv 5) (da_cons (dp_of (de_add (dp_of (de_mul (dp_of (de_lst (da_cons (dp_of (de_tup (da_cons (dp_of (de_var (pv 2))) (da_cons (dp_of (de_var (pv 6))) da_nil)))) da_nil))) (dp_of (de_int1 (by exact m_int) (by rfl) (da_cons (dp_of (de_eq (by exact hr) (dp_var (pv 7)) (dp_of de_int))) da_nil))))) (dp_of (de_mul (dp_of (de_lst (da_cons (dp_of (de_tup (da_cons (dp_of (de_var (pv 6))) (da_cons (dp_of (de_var (pv 2))) da_nil)))) da_nil))) (dp_of (de_int1 (by exact m_int) (by rfl) (da_cons (dp_of (de_eq (by exact hr) (dp_var (pv 7)) (dp_of de_int))) da_nil))))))) da_nil))))))))
      (dss_one (ds_ret (de_tup (da_cons (dp_of (de_var (pv 3))) (da_cons (dp_of (de_tuple (by exact m_tuple) (by rfl) (da_cons (dp_of (de_sorted (by exact m_sorted) (by rfl) (da_cons (dp_var (pv 5)) da_nil))) da_nil))) da_nil)))))))
  exact def_mk F gm b sc__law_drawn H
theorem sc__law_lot : FnScope N__law_lot ["_law_pot_here", "_law_most"] (defScope st__law_lot) := ⟨rfl, rfl, rfl, by decide +kernel, rfl, by decide +kernel, by decide +kernel⟩
theorem ok__law_lot {f : Addr} {fd : FuncData} (F : Fun K "_law_lot" "_law_lot" st__law_lot f fd) (gm : mg "_law_lot" = some (.ref f)) (b : Binds K fd ["_law_pot_here", "_law_most"] []) (D__law_circle : Def Pr w K mg base 1 "_law_circle" ["_law_size", "_law_steps"] F__law_circle) (D__law_line : Def Pr w K mg base 1 "_law_line" ["_law_size"] F__law_line) (D__law_take : Def Pr w K mg base 1 "_law_take" ["_law_pot_here", "_law_size"] F__law_take) (D__law_of : Def Pr w K mg base 2 "_law_of" ["_law_pot_here", "_law_some"] F__law_of) (D__law_drawn : Def Pr w K mg base 2 "_law_drawn" ["_law_pot_here", "_law_most"] F__law_drawn) : Def Pr w K mg base 3 "_law_lot" ["_law_pot_here", "_law_most"] F__law_lot := by
  have H : ∀ (cdv : Value) (A : Around) (outer : List Env) (s : Shared) (H : Hp) (E : XK), A.guards = some [] → Room 2 (A.deeper (envOfC "_law_lot" (defScope st__law_lot) s.heap.objs.size f cdv)) →
      DSs (cxOf CX0 Pr w K mg base N__law_lot "_law_lot" (defScope st__law_lot) f cdv A outer s H E).nox [0, 1] (defBody st__law_lot) B__law_lot := by
    intro cdv A outer s H E hG hr
    have nd := sc__law_lot.nd
    exact (dss_cons (ds_set (i := 2) nd rfl (by first | exact Or.inl rfl | exact Or.inr rfl) (by decide) (de_lst (da_cons (dp_of (de_own (by exact D__law_circle) (by rfl) (by exact hG) (by exact hr) (by decide) (by rfl) (da_cons (dp_of de_int) (da_cons (dp_of (de_lst (da_cons (dp_of de_int) da_nil))) da_nil)))) (da_cons (dp_of (de_own (by exact D__law_circle) (by rfl) (by exact hG) (by exact hr) (by decide) (by rfl) (da_cons (dp_of de_int) (da_cons (dp_of (de_lst (da_cons (dp_of de_int) (da_cons (dp_of de_int) da_nil)))) da_nil)))) (da_cons (dp_of (de_own (by exact D__law_circle) (by rfl) (by exact hG) (by exact hr) (by decide) (by rfl) (da_cons (dp_of de_int) (da_cons (dp_of (de_lst (da_cons (dp_of de_int) (da_cons (dp_of de_int) (da_cons (dp_of de_int) da_nil))))) da_nil)))) da_nil)))))
      (dss_cons (ds_expr (de_append (pv 2) (da_cons (dp_of (de_own (by exact D__law_line) (by rfl) (by exact hG) (by exact hr) (by decide) (by rfl) (da_cons (dp_of (de_own (by exact D__law_take) (by rfl) (by exact hG) (by exact hr) (by decide) (by rfl) (da_cons (dp_var (pv 0)) (da_cons (dp_of (de_add (dp_var (pv 1)) (dp_of de_int))) da_nil)))) da_nil))) da_nil)))
      (dss_cons (ds_setLc (own := [("_law_lot_here", 3)]) rfl nd rfl rfl (by decide) (sw_true rfl rfl rfl (by decide +kernel)) (di_seq (de_var (pv 2))) (blkOk_by (own := [("_law_lot_here", 3)]) (N := N__law_lot) (sc := defScope st__law_lot) (by decide +kernel)) (by decide) (fun _ _ _ _ _ => (dg_name (i := 3) nd rfl (by first | exact Or.inl rfl | exact Or.inr rfl))) (fun _ _ _ _ _ => (dts_one (dt_le (dp_of (de_item (dp_var (pv 3)) (dp_of de_int) (fun _ _ => rfl))) (dp_var (pv 1))))) (fun _ _ _ _ _ => (de_var (pv 3))))
      (dss_one (ds_ret (de_own (by exact D__law_of) (by rfl) (by exact hG) (by exact hr) (by decide) (by rfl) (da_cons (dp_var (pv 0)) (da_cons (dp_of (de_add (dp_of (de_mul (dp_of (de_lst (da_cons (dp_of (de_own (by exact D__law_drawn) (by rfl) (by exact hG) (by exact hr) (by decide) (by rfl) (da_cons (dp_var (pv 0)) (da_cons (dp_of (de_var (pv 1))) da_nil)))) da_nil))) (dp_of de_int))) (dp_var (pv 2)))) da_nil))))))))
  exact def_mk F gm b sc__law_lot H
theorem sc_law : FnScope N_law ["_law_script"] (defScope st_law) := ⟨rfl, rfl, rfl, by decide +kernel, rfl, by decide +kernel, by decide +kernel⟩
theorem ok_law {f : Addr} {fd : FuncData} (F : Fun K "law" "law" st_law f fd) (D__law_pot : Def Pr w K mg base 1 "_law_pot" ["_law_script", "_law_k"] F__law_pot) (D__law_right : Def Pr w K mg base 6 "_law_right" ["_law_pot_here", "_law_lot_here"] F__law_right) (D__law_lot : Def Pr w K mg base 3 "_law_lot" ["_law_pot_here", "_law_most"] F__law_lot) (m_all : mg "all" = none) (m_len : mg "len" = none) (m_max : mg "max" = none) (m_min : mg "min" = none) (m_range : mg "range" = none) : FnG Pr w K mg base 7 f fd ["_law_script"] (spF K 1 F_law) := by
  have H : ∀ (cdv : Value) (A : Around) (outer : List Env) (s : Shared) (H : Hp) (E : XK), A.guards = some [] → Room 6 (A.deeper (envOfC "law" (defScope st_law) s.heap.objs.size f cdv)) →
      DSs (cxOf CX0 Pr w K mg base N_law "law" (defScope st_law) f cdv A outer s H E).nox [0] (defBody st_law) B_law := by
    intro cdv A outer s H E hG hr
    have nd := sc_law.nd
    exact (dss_cons (ds_for PassesOwn.never rfl (by decide) (di_range1 (by rfl) (by exact m_range) (da_cons (dp_of (de_max rfl (by exact m_max) (by rfl) (da_cons (dp_of de_int) (da_cons (dp_of (de_min rfl (by exact m_min) (by rfl) (da_cons (dp_of de_int) (da_cons (dp_of (de_len (by exact m_len) (by rfl) (da_cons (dp_var (pv 0)) da_nil))) da_nil)))) da_nil)))) da_nil)) (dg_name (i := 1) nd rfl (by first | exact Or.inl rfl | exact Or.inr rfl)) (dss_cons (ds_set (i := 2) nd rfl (by first | exact Or.inl rfl | exact Or.inr rfl) (by decide) (de_own (by exact D__law_pot) (by rfl) (by exact hG) (by exact hr) (by decide) (by rfl) (da_cons (dp_of (de_var (pv 0))) (da_cons (dp_of (de_var (pv 1))) da_nil))))
      (dss_one (ds_if (dt_not (dt_val (de_all rfl (by exact m_all) (by rfl) (da_cons (dp_of (de_lc (own := [("_law_turn", 3)]) rfl nd (di_range1 (by rfl) (by exact m_range) (da_cons (dp_of de_int) da_nil)) (blkOk_by (own := [("_law_turn", 3)]) (N := N_law) (sc := defScope st_law) (by decide +kernel)) (by decide) (fun _ _ _ _ _ => (dg_name (i := 3) nd rfl (by first | exact Or.inl rfl | exact Or.inr rfl))) (fun _ _ _ _ _ => dts_nil) (fun _ _ _ _ _ => (de_own (by exact D__law_right) (by rfl) (by exact hG) (by exact hr) (by decide) (by rfl) (da_cons (dp_var (pv 2)) (da_cons (dp_of (de_own (by exact D__law_lot) (by rfl) (by exact hG) (by exact hr) (by decide) (by rfl) (da_cons (dp_var (pv 2)) (da_cons (dp_of de_int) da_nil)))) da_nil)))))) da_nil)))) (dss_one (ds_ret de_bl)) dss_nil))))
      (dss_one (ds_ret de_bl)))
  exact fn_ok F sc_law H
omit [TB] in
theorem all_mk {cs : List (Addr × Addr × Str)} {h : Heap} {fa : Addr} (X : K.In h) (G : h.Ns mainGlobals mg) (hfa : mg "law" = some (.ref fa))
    {f0 : Addr} {od0 an0 : Option Addr} {sl0 : Array (Option Value)} {oc0 kV0 dc0 pm0 cd0 ct0 : Value}
    (a0 : PySem.W.nsIn K mainGlobals "_law_pot" = some (some (.ref f0)))
    (l0 : K.lookup f0 = some ⟨oc0, od0, .func (PySem.W.fnOf "_law_pot" "_law_pot" (defArgs st__law_pot) (defBody st__law_pot) (defScope st__law_pot) .none kV0 dc0 pm0 an0 cd0 ct0), sl0⟩)
    (c0 : PySem.W.codeIn K cd0 "_law_pot" = true) (k0 : PySem.W.keepIn K (.ref f0) = true)
    {f1 : Addr} {od1 an1 : Option Addr} {sl1 : Array (Option Value)} {oc1 kV1 dc1 pm1 cd1 ct1 : Value}
    (a1 : PySem.W.nsIn K mainGlobals "_law_take" = some (some (.ref f1)))
    (l1 : K.lookup f1 = some ⟨oc1, od1, .func (PySem.W.fnOf "_law_take" "_law_take" (defArgs st__law_take) (defBody st__law_take) (defScope st__law_take) .none kV1 dc1 pm1 an1 cd1 ct1), sl1⟩)
    (c1 : PySem.W.codeIn K cd1 "_law_take" = true) (k1 : PySem.W.keepIn K (.ref f1) = true)
    {f2 : Addr} {od2 an2 : Option Addr} {sl2 : Array (Option Value)} {oc2 kV2 dc2 pm2 cd2 ct2 : Value}
    (a2 : PySem.W.nsIn K mainGlobals "_law_order" = some (some (.ref f2)))
    (l2 : K.lookup f2 = some ⟨oc2, od2, .func (PySem.W.fnOf "_law_order" "_law_order" (defArgs st__law_order) (defBody st__law_order) (defScope st__law_order) .none kV2 dc2 pm2 an2 cd2 ct2), sl2⟩)
    (c2 : PySem.W.codeIn K cd2 "_law_order" = true) (k2 : PySem.W.keepIn K (.ref f2) = true)
    {f3 : Addr} {od3 an3 : Option Addr} {sl3 : Array (Option Value)} {oc3 kV3 dc3 pm3 cd3 ct3 : Value}
    (a3 : PySem.W.nsIn K mainGlobals "_law_called" = some (some (.ref f3)))
    (l3 : K.lookup f3 = some ⟨oc3, od3, .func (PySem.W.fnOf "_law_called" "_law_called" (defArgs st__law_called) (defBody st__law_called) (defScope st__law_called) .none kV3 dc3 pm3 an3 cd3 ct3), sl3⟩)
    (c3 : PySem.W.codeIn K cd3 "_law_called" = true) (k3 : PySem.W.keepIn K (.ref f3) = true)
    {f4 : Addr} {od4 an4 : Option Addr} {sl4 : Array (Option Value)} {oc4 kV4 dc4 pm4 cd4 ct4 : Value}
    (a4 : PySem.W.nsIn K mainGlobals "later_table" = some (some (.ref f4)))
    (l4 : K.lookup f4 = some ⟨oc4, od4, .func (PySem.W.fnOf "later_table" "later_table" (defArgs st_later_table) (defBody st_later_table) (defScope st_later_table) .none kV4 dc4 pm4 an4 cd4 ct4), sl4⟩)
    (c4 : PySem.W.codeIn K cd4 "later_table" = true) (k4 : PySem.W.keepIn K (.ref f4) = true)
    {f5 : Addr} {od5 an5 : Option Addr} {sl5 : Array (Option Value)} {oc5 kV5 dc5 pm5 cd5 ct5 : Value}
    (a5 : PySem.W.nsIn K mainGlobals "still_above" = some (some (.ref f5)))
    (l5 : K.lookup f5 = some ⟨oc5, od5, .func (PySem.W.fnOf "still_above" "still_above" (defArgs st_still_above) (defBody st_still_above) (defScope st_still_above) .none kV5 dc5 pm5 an5 cd5 ct5), sl5⟩)
    (c5 : PySem.W.codeIn K cd5 "still_above" = true) (k5 : PySem.W.keepIn K (.ref f5) = true)
    {f6 : Addr} {od6 an6 : Option Addr} {sl6 : Array (Option Value)} {oc6 kV6 dc6 pm6 cd6 ct6 : Value}
    (a6 : PySem.W.nsIn K mainGlobals "grown" = some (some (.ref f6)))
    (l6 : K.lookup f6 = some ⟨oc6, od6, .func (PySem.W.fnOf "grown" "grown" (defArgs st_grown) (defBody st_grown) (defScope st_grown) .none kV6 dc6 pm6 an6 cd6 ct6), sl6⟩)
    (c6 : PySem.W.codeIn K cd6 "grown" = true) (k6 : PySem.W.keepIn K (.ref f6) = true)
    {f7 : Addr} {od7 an7 : Option Addr} {sl7 : Array (Option Value)} {oc7 kV7 dc7 pm7 cd7 ct7 : Value}
    (a7 : PySem.W.nsIn K mainGlobals "rows_with_above" = some (some (.ref f7)))
    (l7 : K.lookup f7 = some ⟨oc7, od7, .func (PySem.W.fnOf "rows_with_above" "rows_with_above" (defArgs st_rows_with_above) (defBody st_rows_with_above) (defScope st_rows_with_above) .none kV7 dc7 pm7 an7 cd7 ct7), sl7⟩)
    (c7 : PySem.W.codeIn K cd7 "rows_with_above" = true) (k7 : PySem.W.keepIn K (.ref f7) = true)
    {f8 : Addr} {od8 an8 : Option Addr} {sl8 : Array (Option Value)} {oc8 kV8 dc8 pm8 cd8 ct8 : Value}
    (a8 : PySem.W.nsIn K mainGlobals "rows" = some (some (.ref f8)))
    (l8 : K.lookup f8 = some ⟨oc8, od8, .func (PySem.W.fnOf "rows" "rows" (defArgs st_rows) (defBody st_rows) (defScope st_rows) .none kV8 dc8 pm8 an8 cd8 ct8), sl8⟩)
    (c8 : PySem.W.codeIn K cd8 "rows" = true) (k8 : PySem.W.keepIn K (.ref f8) = true)
    {f9 : Addr} {od9 an9 : Option Addr} {sl9 : Array (Option Value)} {oc9 kV9 dc9 pm9 cd9 ct9 : Value}
    (a9 : PySem.W.nsIn K mainGlobals "is_later" = some (some (.ref f9)))
    (l9 : K.lookup f9 = some ⟨oc9, od9, .func (PySem.W.fnOf "is_later" "is_later" (defArgs st_is_later) (defBody st_is_later) (defScope st_is_later) .none kV9 dc9 pm9 an9 cd9 ct9), sl9⟩)
    (c9 : PySem.W.codeIn K cd9 "is_later" = true) (k9 : PySem.W.keepIn K (.ref f9) = true)
    {f10 : Addr} {od10 an10 : Option Addr} {sl10 : Array (Option Value)} {oc10 kV10 dc10 pm10 cd10 ct10 : Value}
    (a10 : PySem.W.nsIn K mainGlobals "is_over" = some (some (.ref f10)))
    (l10 : K.lookup f10 = some ⟨oc10, od10, .func (PySem.W.fnOf "is_over" "is_over" (defArgs st_is_over) (defBody st_is_over) (defScope st_is_over) .none kV10 dc10 pm10 an10 cd10 ct10), sl10⟩)
    (c10 : PySem.W.codeIn K cd10 "is_over" = true) (k10 : PySem.W.keepIn K (.ref f10) = true)
    {f11 : Addr} {od11 an11 : Option Addr} {sl11 : Array (Option Value)} {oc11 kV11 dc11 pm11 cd11 ct11 : Value}
    (a11 : PySem.W.nsIn K mainGlobals "above" = some (some (.ref f11)))
    (l11 : K.lookup f11 = some ⟨oc11, od11, .func (PySem.W.fnOf "above" "above" (defArgs st_above) (defBody st_above) (defScope st_above) .none kV11 dc11 pm11 an11 cd11 ct11), sl11⟩)
    (c11 : PySem.W.codeIn K cd11 "above" = true) (k11 : PySem.W.keepIn K (.ref f11) = true)
    {f12 : Addr} {od12 an12 : Option Addr} {sl12 : Array (Option Value)} {oc12 kV12 dc12 pm12 cd12 ct12 : Value}
    (a12 : PySem.W.nsIn K mainGlobals "_law_parts_of" = some (some (.ref f12)))
    (l12 : K.lookup f12 = some ⟨oc12, od12, .func (PySem.W.fnOf "_law_parts_of" "_law_parts_of" (defArgs st__law_parts_of) (defBody st__law_parts_of) (defScope st__law_parts_of) .none kV12 dc12 pm12 an12 cd12 ct12), sl12⟩)
    (c12 : PySem.W.codeIn K cd12 "_law_parts_of" = true) (k12 : PySem.W.keepIn K (.ref f12) = true)
    {f13 : Addr} {od13 an13 : Option Addr} {sl13 : Array (Option Value)} {oc13 kV13 dc13 pm13 cd13 ct13 : Value}
    (a13 : PySem.W.nsIn K mainGlobals "is_whole" = some (some (.ref f13)))
    (l13 : K.lookup f13 = some ⟨oc13, od13, .func (PySem.W.fnOf "is_whole" "is_whole" (defArgs st_is_whole) (defBody st_is_whole) (defScope st_is_whole) .none kV13 dc13 pm13 an13 cd13 ct13), sl13⟩)
    (c13 : PySem.W.codeIn K cd13 "is_whole" = true) (k13 : PySem.W.keepIn K (.ref f13) = true)
    {f14 : Addr} {od14 an14 : Option Addr} {sl14 : Array (Option Value)} {oc14 kV14 dc14 pm14 cd14 ct14 : Value}
    (a14 : PySem.W.nsIn K mainGlobals "is_below" = some (some (.ref f14)))
    (l14 : K.lookup f14 = some ⟨oc14, od14, .func (PySem.W.fnOf "is_below" "is_below" (defArgs st_is_below) (defBody st_is_below) (defScope st_is_below) .none kV14 dc14 pm14 an14 cd14 ct14), sl14⟩)
    (c14 : PySem.W.codeIn K cd14 "is_below" = true) (k14 : PySem.W.keepIn K (.ref f14) = true)
    {f15 : Addr} {od15 an15 : Option Addr} {sl15 : Array (Option Value)} {oc15 kV15 dc15 pm15 cd15 ct15 : Value}
    (a15 : PySem.W.nsIn K mainGlobals "is_row" = some (some (.ref f15)))
    (l15 : K.lookup f15 = some ⟨oc15, od15, .func (PySem.W.fnOf "is_row" "is_row" (defArgs st_is_row) (defBody st_is_row) (defScope st_is_row) .none kV15 dc15 pm15 an15 cd15 ct15), sl15⟩)
    (c15 : PySem.W.codeIn K cd15 "is_row" = true) (k15 : PySem.W.keepIn K (.ref f15) = true)
    {f16 : Addr} {od16 an16 : Option Addr} {sl16 : Array (Option Value)} {oc16 kV16 dc16 pm16 cd16 ct16 : Value}
    (a16 : PySem.W.nsIn K mainGlobals "in_order" = some (some (.ref f16)))
    (l16 : K.lookup f16 = some ⟨oc16, od16, .func (PySem.W.fnOf "in_order" "in_order" (defArgs st_in_order) (defBody st_in_order) (defScope st_in_order) .none kV16 dc16 pm16 an16 cd16 ct16), sl16⟩)
    (c16 : PySem.W.codeIn K cd16 "in_order" = true) (k16 : PySem.W.keepIn K (.ref f16) = true)
    (t16 : (PySem.W.tabIn K "in_order").isSome = true) (y16 : (tabC K "in_order", tabP K "in_order", ((("in_order" : Str) ++ (".<locals>." : Str)) ++ ("<lambda>" : Str))) ∈ cs) (u16 : ∀ p ∈ cs, p.2.1 = tabP K "in_order" → p.2.2 = ((("in_order" : Str) ++ (".<locals>." : Str)) ++ ("<lambda>" : Str)))
    {f17 : Addr} {od17 an17 : Option Addr} {sl17 : Array (Option Value)} {oc17 kV17 dc17 pm17 cd17 ct17 : Value}
    (a17 : PySem.W.nsIn K mainGlobals "_law_right" = some (some (.ref f17)))
    (l17 : K.lookup f17 = some ⟨oc17, od17, .func (PySem.W.fnOf "_law_right" "_law_right" (defArgs st__law_right) (defBody st__law_right) (defScope st__law_right) .none kV17 dc17 pm17 an17 cd17 ct17), sl17⟩)
    (c17 : PySem.W.codeIn K cd17 "_law_right" = true) (k17 : PySem.W.keepIn K (.ref f17) = true)
    {f18 : Addr} {od18 an18 : Option Addr} {sl18 : Array (Option Value)} {oc18 kV18 dc18 pm18 cd18 ct18 : Value}
    (a18 : PySem.W.nsIn K mainGlobals "_law_circle" = some (some (.ref f18)))
    (l18 : K.lookup f18 = some ⟨oc18, od18, .func (PySem.W.fnOf "_law_circle" "_law_circle" (defArgs st__law_circle) (defBody st__law_circle) (defScope st__law_circle) .none kV18 dc18 pm18 an18 cd18 ct18), sl18⟩)
    (c18 : PySem.W.codeIn K cd18 "_law_circle" = true) (k18 : PySem.W.keepIn K (.ref f18) = true)
    {f19 : Addr} {od19 an19 : Option Addr} {sl19 : Array (Option Value)} {oc19 kV19 dc19 pm19 cd19 ct19 : Value}
    (a19 : PySem.W.nsIn K mainGlobals "_law_line" = some (some (.ref f19)))
    (l19 : K.lookup f19 = some ⟨oc19, od19, .func (PySem.W.fnOf "_law_line" "_law_line" (defArgs st__law_line) (defBody st__law_line) (defScope st__law_line) .none kV19 dc19 pm19 an19 cd19 ct19), sl19⟩)
    (c19 : PySem.W.codeIn K cd19 "_law_line" = true) (k19 : PySem.W.keepIn K (.ref f19) = true)
    {f20 : Addr} {od20 an20 : Option Addr} {sl20 : Array (Option Value)} {oc20 kV20 dc20 pm20 cd20 ct20 : Value}
    (a20 : PySem.W.nsIn K mainGlobals "_law_of" = some (some (.ref f20)))
    (l20 : K.lookup f20 = some ⟨oc20, od20, .func (PySem.W.fnOf "_law_of" "_law_of" (defArgs st__law_of) (defBody st__law_of) (defScope st__law_of) .none kV20 dc20 pm20 an20 cd20 ct20), sl20⟩)
    (c20 : PySem.W.codeIn K cd20 "_law_of" = true) (k20 : PySem.W.keepIn K (.ref f20) = true)
    {f21 : Addr} {od21 an21 : Option Addr} {sl21 : Array (Option Value)} {oc21 kV21 dc21 pm21 cd21 ct21 : Value}
    (a21 : PySem.W.nsIn K mainGlobals "_law_drawn" = some (some (.ref f21)))
    (l21 : K.lookup f21 = some ⟨oc21, od21, .func (PySem.W.fnOf "_law_drawn" "_law_drawn" (defArgs st__law_drawn) (defBody st__law_drawn) (defScope st__law_drawn) .none kV21 dc21 pm21 an21 cd21 ct21), sl21⟩)
    (c21 : PySem.W.codeIn K cd21 "_law_drawn" = true) (k21 : PySem.W.keepIn K (.ref f21) = true)
    {f22 : Addr} {od22 an22 : Option Addr} {sl22 : Array (Option Value)} {oc22 kV22 dc22 pm22 cd22 ct22 : Value}
    (a22 : PySem.W.nsIn K mainGlobals "_law_lot" = some (some (.ref f22)))
    (l22 : K.lookup f22 = some ⟨oc22, od22, .func (PySem.W.fnOf "_law_lot" "_law_lot" (defArgs st__law_lot) (defBody st__law_lot) (defScope st__law_lot) .none kV22 dc22 pm22 an22 cd22 ct22), sl22⟩)
    (c22 : PySem.W.codeIn K cd22 "_law_lot" = true) (k22 : PySem.W.keepIn K (.ref f22) = true)
    {f23 : Addr} {od23 an23 : Option Addr} {sl23 : Array (Option Value)} {oc23 kV23 dc23 pm23 cd23 ct23 : Value}
    (a23 : PySem.W.nsIn K mainGlobals "law" = some (some (.ref f23)))
    (l23 : K.lookup f23 = some ⟨oc23, od23, .func (PySem.W.fnOf "law" "law" (defArgs st_law) (defBody st_law) (defScope st_law) .none kV23 dc23 pm23 an23 cd23 ct23), sl23⟩)
    (c23 : PySem.W.codeIn K cd23 "law" = true) (k23 : PySem.W.keepIn K (.ref f23) = true)
    (z_abs : PySem.W.nsIn K mainGlobals "abs" = some none)
    (z_int : PySem.W.nsIn K mainGlobals "int" = some none)
    (z_len : PySem.W.nsIn K mainGlobals "len" = some none)
    (z_range : PySem.W.nsIn K mainGlobals "range" = some none)
    (z_tuple : PySem.W.nsIn K mainGlobals "tuple" = some none)
    (z_all : PySem.W.nsIn K mainGlobals "all" = some none)
    (z_bool : PySem.W.nsIn K mainGlobals "bool" = some none)
    (z_isinstance : PySem.W.nsIn K mainGlobals "isinstance" = some none)
    (z_enumerate : PySem.W.nsIn K mainGlobals "enumerate" = some none)
    (z_set : PySem.W.nsIn K mainGlobals "set" = some none)
    (z_sorted : PySem.W.nsIn K mainGlobals "sorted" = some none)
    (z_max : PySem.W.nsIn K mainGlobals "max" = some none)
    (z_min : PySem.W.nsIn K mainGlobals "min" = some none)
    : ∃ fd : FuncData, (∀ (s : Shared) (u : Value), BindsTo s fd ⟨[u], []⟩ [("_law_script", u)]) ∧ ∀ base : Heap, K.In base → base.Ns mainGlobals mg → (∃ o, base.get? sysModules = some o) → (∀ p ∈ cs, LamX.TabB base mg p.1 p.2.1) → FnG Pr w K mg base 7 fa fd ["_law_script"] (@spF (tbOf cs) K 1 F_law) := by
  letI : TB := tbOf cs
  have m_abs := PySem.W.mg_none_of X G z_abs
  have m_int := PySem.W.mg_none_of X G z_int
  have m_len := PySem.W.mg_none_of X G z_len
  have m_range := PySem.W.mg_none_of X G z_range
  have m_tuple := PySem.W.mg_none_of X G z_tuple
  have m_all := PySem.W.mg_none_of X G z_all
  have m_bool := PySem.W.mg_none_of X G z_bool
  have m_isinstance := PySem.W.mg_none_of X G z_isinstance
  have m_enumerate := PySem.W.mg_none_of X G z_enumerate
  have m_set := PySem.W.mg_none_of X G z_set
  have m_sorted := PySem.W.mg_none_of X G z_sorted
  have m_max := PySem.W.mg_none_of X G z_max
  have m_min := PySem.W.mg_none_of X G z_min
  have g0 := PySem.W.mg_of X G a0
  have F0 := fun_mk (st := st__law_pot) l0 c0 k0
  have b0 := F0.binds (ps := ["_law_script", "_law_k"]) fun _ _ _ _ _ _ us hl => match us, hl with | [_, _], _ => rfl
  have g1 := PySem.W.mg_of X G a1
  have F1 := fun_mk (st := st__law_take) l1 c1 k1
  have b1 := F1.binds (ps := ["_law_pot_here", "_law_size"]) fun _ _ _ _ _ _ us hl => match us, hl with | [_, _], _ => rfl
  have g2 := PySem.W.mg_of X G a2
  have F2 := fun_mk (st := st__law_order) l2 c2 k2
  have b2 := F2.binds (ps := ["_law_pot_here", "_law_size"]) fun _ _ _ _ _ _ us hl => match us, hl with | [_, _], _ => rfl
  have g3 := PySem.W.mg_of X G a3
  have F3 := fun_mk (st := st__law_called) l3 c3 k3
  have b3 := F3.binds (ps := ["_law_order_here", "_law_marks"]) fun _ _ _ _ _ _ us hl => match us, hl with | [_, _], _ => rfl
  have g4 := PySem.W.mg_of X G a4
  have F4 := fun_mk (st := st_later_table) l4 c4 k4
  have b4 := F4.binds (ps := ["lot"]) fun _ _ _ _ _ _ us hl => match us, hl with | [_], _ => rfl
  have g5 := PySem.W.mg_of X G a5
  have F5 := fun_mk (st := st_still_above) l5 c5 k5
  have b5 := F5.binds (ps := ["table", "high", "mark"]) fun _ _ _ _ _ _ us hl => match us, hl with | [_, _, _], _ => rfl
  have g6 := PySem.W.mg_of X G a6
  have F6 := fun_mk (st := st_grown) l6 c6 k6
  have b6 := F6.binds (ps := ["table", "found"]) fun _ _ _ _ _ _ us hl => match us, hl with | [_, _], _ => rfl
  have g7 := PySem.W.mg_of X G a7
  have F7 := fun_mk (st := st_rows_with_above) l7 c7 k7
  have b7 := F7.binds (ps := ["lot", "size"]) fun _ _ _ _ _ _ us hl => match us, hl with | [_, _], _ => rfl
  have g8 := PySem.W.mg_of X G a8
  have F8 := fun_mk (st := st_rows) l8 c8 k8
  have b8 := F8.binds (ps := ["lot", "size"]) fun _ _ _ _ _ _ us hl => match us, hl with | [_, _], _ => rfl
  have g9 := PySem.W.mg_of X G a9
  have F9 := fun_mk (st := st_is_later) l9 c9 k9
  have b9 := F9.binds (ps := ["lot", "x", "y"]) fun _ _ _ _ _ _ us hl => match us, hl with | [_, _, _], _ => rfl
  have g10 := PySem.W.mg_of X G a10
  have F10 := fun_mk (st := st_is_over) l10 c10 k10
  have b10 := F10.binds (ps := ["lot", "mark", "marks"]) fun _ _ _ _ _ _ us hl => match us, hl with | [_, _, _], _ => rfl
  have g11 := PySem.W.mg_of X G a11
  have F11 := fun_mk (st := st_above) l11 c11 k11
  have b11 := F11.binds (ps := ["lot", "marks"]) fun _ _ _ _ _ _ us hl => match us, hl with | [_, _], _ => rfl
  have g12 := PySem.W.mg_of X G a12
  have F12 := fun_mk (st := st__law_parts_of) l12 c12 k12
  have b12 := F12.binds (ps := ["_law_chain"]) fun _ _ _ _ _ _ us hl => match us, hl with | [_], _ => rfl
  have g13 := PySem.W.mg_of X G a13
  have F13 := fun_mk (st := st_is_whole) l13 c13 k13
  have b13 := F13.binds (ps := ["thing"]) fun _ _ _ _ _ _ us hl => match us, hl with | [_], _ => rfl
  have g14 := PySem.W.mg_of X G a14
  have F14 := fun_mk (st := st_is_below) l14 c14 k14
  have b14 := F14.binds (ps := ["many", "thing"]) fun _ _ _ _ _ _ us hl => match us, hl with | [_, _], _ => rfl
  have g15 := PySem.W.mg_of X G a15
  have F15 := fun_mk (st := st_is_row) l15 c15 k15
  have b15 := F15.binds (ps := ["lot", "thing"]) fun _ _ _ _ _ _ us hl => match us, hl with | [_, _], _ => rfl
  have g16 := PySem.W.mg_of X G a16
  have F16 := fun_mk (st := st_in_order) l16 c16 k16
  have b16 := F16.binds (ps := ["lot", "marks"]) fun _ _ _ _ _ _ us hl => match us, hl with | [_, _], _ => rfl
  have g17 := PySem.W.mg_of X G a17
  have F17 := fun_mk (st := st__law_right) l17 c17 k17
  have b17 := F17.binds (ps := ["_law_pot_here", "_law_lot_here"]) fun _ _ _ _ _ _ us hl => match us, hl with | [_, _], _ => rfl
  have g18 := PySem.W.mg_of X G a18
  have F18 := fun_mk (st := st__law_circle) l18 c18 k18
  have b18 := F18.binds (ps := ["_law_size", "_law_steps"]) fun _ _ _ _ _ _ us hl => match us, hl with | [_, _], _ => rfl
  have g19 := PySem.W.mg_of X G a19
  have F19 := fun_mk (st := st__law_line) l19 c19 k19
  have b19 := F19.binds (ps := ["_law_size"]) fun _ _ _ _ _ _ us hl => match us, hl with | [_], _ => rfl
  have g20 := PySem.W.mg_of X G a20
  have F20 := fun_mk (st := st__law_of) l20 c20 k20
  have b20 := F20.binds (ps := ["_law_pot_here", "_law_some"]) fun _ _ _ _ _ _ us hl => match us, hl with | [_, _], _ => rfl
  have g21 := PySem.W.mg_of X G a21
  have F21 := fun_mk (st := st__law_drawn) l21 c21 k21
  have b21 := F21.binds (ps := ["_law_pot_here", "_law_most"]) fun _ _ _ _ _ _ us hl => match us, hl with | [_, _], _ => rfl
  have g22 := PySem.W.mg_of X G a22
  have F22 := fun_mk (st := st__law_lot) l22 c22 k22
  have b22 := F22.binds (ps := ["_law_pot_here", "_law_most"]) fun _ _ _ _ _ _ us hl => match us, hl with | [_, _], _ => rfl
  have g23 := PySem.W.mg_of X G a23
  have F23 := fun_mk (st := st_law) l23 c23 k23
  have b23 := F23.binds (ps := ["_law_script"]) fun _ _ _ _ _ _ us hl => match us, hl with | [_], _ => rfl
  cases hfa.symm.trans g23
  refine ⟨PySem.W.fnOf "law" "law" (defArgs st_law) (defBody st_law) (defScope st_law) .none kV23 dc23 pm23 an23 cd23 ct23, fun s v => .of_eq rfl, fun base _ _ hsm hT => ?_⟩
  have D__law_pot : Def Pr w K mg base 1 "_law_pot" ["_law_script", "_law_k"] F__law_pot := ok__law_pot F0 g0 b0 m_abs m_int m_len
  have D__law_take : Def Pr w K mg base 1 "_law_take" ["_law_pot_here", "_law_size"] F__law_take := ok__law_take F1 g1 b1 
  have D__law_order : Def Pr w K mg base 2 "_law_order" ["_law_pot_here", "_law_size"] F__law_order := ok__law_order F2 g2 b2 D__law_take m_len m_range
  have D__law_called : Def Pr w K mg base 1 "_law_called" ["_law_order_here", "_law_marks"] F__law_called := ok__law_called F3 g3 b3 m_tuple
  have D_later_table : Def Pr w K mg base 1 "later_table" ["lot"] F_later_table := ok_later_table F4 g4 b4 
  have D_still_above : Def Pr w K mg base 1 "still_above" ["table", "high", "mark"] F_still_above := ok_still_above F5 g5 b5 m_tuple
  have D_grown : Def Pr w K mg base 2 "grown" ["table", "found"] F_grown := ok_grown F6 g6 b6 D_still_above
  have D_rows_with_above : Def Pr w K mg base 3 "rows_with_above" ["lot", "size"] F_rows_with_above := ok_rows_with_above F7 g7 b7 D_later_table D_grown m_range m_tuple
  have D_rows : Def Pr w K mg base 4 "rows" ["lot", "size"] F_rows := ok_rows F8 g8 b8 D_rows_with_above m_tuple
  have D_is_later : Def Pr w K mg base 1 "is_later" ["lot", "x", "y"] F_is_later := ok_is_later F9 g9 b9 
  have D_is_over : Def Pr w K mg base 2 "is_over" ["lot", "mark", "marks"] F_is_over := ok_is_over F10 g10 b10 D_is_later m_all
  have D_above : Def Pr w K mg base 3 "above" ["lot", "marks"] F_above := ok_above F11 g11 b11 D_is_over m_range m_tuple
  have D__law_parts_of : Def Pr w K mg base 1 "_law_parts_of" ["_law_chain"] F__law_parts_of := ok__law_parts_of F12 g12 b12 m_len m_range
  have D_is_whole : Def Pr w K mg base 1 "is_whole" ["thing"] F_is_whole := ok_is_whole F13 g13 b13 m_bool m_int m_isinstance
  have D_is_below : Def Pr w K mg base 2 "is_below" ["many", "thing"] F_is_below := ok_is_below F14 g14 b14 D_is_whole
  have D_is_row : Def Pr w K mg base 3 "is_row" ["lot", "thing"] F_is_row := ok_is_row F15 g15 b15 D_is_below D_is_over m_enumerate m_isinstance m_tuple
  have FM16 := funM_mk (st := st_in_order) l16 (maker_code (tab_some t16) a16 l16) c16 k16
  have D_in_order : Def Pr w K mg base 5 "in_order" ["lot", "marks"] F_in_order := ok_in_order FM16 (hT _ y16) (tb_mem y16) (tb_uniq u16) g16 b16 D_is_later D_is_row m_len m_set m_sorted m_tuple
  have D__law_right : Def Pr w K mg base 6 "_law_right" ["_law_pot_here", "_law_lot_here"] F__law_right := ok__law_right F17 g17 b17 D__law_order D__law_called D_rows D_above D__law_parts_of D_is_row D_in_order m_all m_range m_sorted m_tuple
  have D__law_circle : Def Pr w K mg base 1 "_law_circle" ["_law_size", "_law_steps"] F__law_circle := ok__law_circle F18 g18 b18 m_range m_tuple
  have D__law_line : Def Pr w K mg base 1 "_law_line" ["_law_size"] F__law_line := ok__law_line F19 g19 b19 m_range m_tuple
  have D__law_of : Def Pr w K mg base 2 "_law_of" ["_law_pot_here", "_law_some"] F__law_of := ok__law_of F20 g20 b20 D__law_take m_len
  have D__law_drawn : Def Pr w K mg base 2 "_law_drawn" ["_law_pot_here", "_law_most"] F__law_drawn := ok__law_drawn F21 g21 b21 D__law_take m_int m_range m_sorted m_tuple
  have D__law_lot : Def Pr w K mg base 3 "_law_lot" ["_law_pot_here", "_law_most"] F__law_lot := ok__law_lot F22 g22 b22 D__law_circle D__law_line D__law_take D__law_of D__law_drawn
  exact ok_law F23 D__law_pot D__law_right D__law_lot m_all m_len m_max m_min m_range
end
end K06

namespace K06
open PySem PySem.Spec PyProof.Rows L2 DL

/-! pairs that rise -/
def ltP (p q : Int × Int) : Prop := p.1 < q.1 ∨ (p.1 = q.1 ∧ p.2 < q.2)
def Asc (ps : List (Int × Int)) : Prop := ps.Pairwise ltP
theorem ltP_irr (p : Int × Int) : ¬ ltP p p := by unfold ltP; omega
theorem ltP_as {p q : Int × Int} (h : ltP p q) : ¬ ltP q p := by unfold ltP at *; omega
theorem asc_ext : ∀ {as bs : List (Int × Int)}, Asc as → Asc bs → (∀ p, p ∈ as ↔ p ∈ bs) → as = bs
  | [], [], _, _, _ => rfl
  | [], b :: bs, _, _, h => absurd ((h b).mpr List.mem_cons_self) (by simp)
  | a :: as, [], _, _, h => absurd ((h a).mp List.mem_cons_self) (by simp)
  | a :: as, b :: bs, h1, h2, h => by
    obtain ⟨p1, q1⟩ := List.pairwise_cons.mp h1
    obtain ⟨p2, q2⟩ := List.pairwise_cons.mp h2
    have e : a = b := by
      rcases List.mem_cons.mp ((h a).mp List.mem_cons_self) with e | e
      · exact e
      · rcases List.mem_cons.mp ((h b).mpr List.mem_cons_self) with e' | e'
        · exact e'.symm
        · exact absurd (p1 b e') (ltP_as (p2 a e))
    subst e
    rw [asc_ext q1 q2 fun p => ⟨fun hp => ?_, fun hp => ?_⟩]
    · rcases List.mem_cons.mp ((h p).mp (List.mem_cons_of_mem _ hp)) with e | e
      · rw [e] at hp
        exact absurd (p1 a hp) (ltP_irr a)
      · exact e
    · rcases List.mem_cons.mp ((h p).mpr (List.mem_cons_of_mem _ hp)) with e | e
      · rw [e] at hp
        exact absurd (p2 a hp) (ltP_irr a)
      · exact e
theorem mem_sort (ps : List (Int × Int)) (p : Int × Int) : p ∈ sortP ps ↔ p ∈ ps := (isort_perm ps).mem_iff
theorem sort_asc {ps : List (Int × Int)} (h : ps.Nodup) : Asc (sortP ps) := by
  have h1 := isort_sorted lexB_as lexB_tr ps
  have h2 : (sortP ps).Nodup := (isort_perm ps).nodup_iff.mpr h
  refine List.Pairwise.imp₂ (fun a b h3 h4 => ?_) h1 h2
  have h5 := SrtO.lexB_no.mp h3
  have h6 : ¬ (a.1 = b.1 ∧ a.2 = b.2) := fun z => h4 (Prod.ext z.1 z.2)
  unfold ltP
  omega
theorem asc_nodup {ps : List (Int × Int)} (h : Asc ps) : ps.Nodup := by
  refine List.Pairwise.imp (S := fun a b => a ≠ b) (fun {a b} h e => ?_) h
  subst e
  exact ltP_irr a h
abbrev swp (p : Int × Int) : Int × Int := (p.2, p.1)
def sw (ps : List (Int × Int)) : List (Int × Int) := sortP (ps.map swp)
theorem swp_nodup {ps : List (Int × Int)} (h : ps.Nodup) : (ps.map swp).Nodup := by
  refine List.Pairwise.map swp (fun a b e z => e ?_) h
  have z1 := congrArg Prod.fst z
  have z2 := congrArg Prod.snd z
  exact Prod.ext z2 z1
theorem mem_swp {ps : List (Int × Int)} (p : Int × Int) : p ∈ ps.map swp ↔ swp p ∈ ps := by
  rw [List.mem_map]
  constructor
  · rintro ⟨q, hq, rfl⟩
    exact hq
  · intro h
    exact ⟨_, h, rfl⟩
theorem mem_sw {ps : List (Int × Int)} (p : Int × Int) : p ∈ sw ps ↔ swp p ∈ ps := (mem_sort _ _).trans (mem_swp p)
theorem sw_asc {ps : List (Int × Int)} (h : Asc ps) : Asc (sw ps) := sort_asc (swp_nodup (asc_nodup h))
theorem sw_sw {ps : List (Int × Int)} (h : Asc ps) : sw (sw ps) = ps := asc_ext (sw_asc (sw_asc h)) h fun p => by
  rw [mem_sw, mem_sw]
theorem sw_len (ps : List (Int × Int)) : (sw ps).length = ps.length := by
  unfold sw
  rw [(isort_perm _).length_eq, List.length_map]
/-- a lot, as it is told -/
structure Lot (n : Int) (ps : List (Int × Int)) : Prop where
  n0 : 0 ≤ n
  n1 : n ≤ 24
  asc : Asc ps
  rng : ∀ p ∈ ps, 0 ≤ p.1 ∧ p.1 < n ∧ 0 ≤ p.2 ∧ p.2 < n
  anti : ∀ p ∈ ps, (p.2, p.1) ∉ ps
  len : ps.length ≤ 1000
theorem Lot.ne {n : Int} {ps : List (Int × Int)} (h : Lot n ps) {p : Int × Int} (hp : p ∈ ps) : p.1 ≠ p.2 := fun e => h.anti p hp (by
  have : (p.2, p.1) = p := Prod.ext e.symm e
  rw [this]
  exact hp)
theorem Lot.sw {n : Int} {ps : List (Int × Int)} (h : Lot n ps) : Lot n (sw ps) := ⟨h.n0, h.n1, sw_asc h.asc, fun p hp => by
  have := h.rng _ ((mem_sw p).mp hp)
  exact ⟨this.2.2.1, this.2.2.2, this.1, this.2.1⟩, fun p hp hq => h.anti _ ((mem_sw p).mp hp) ((mem_sw _).mp hq), by
  rw [sw_len]
  exact h.len⟩
/-! marks that rise, and where each stands -/
structure Up (n : Int) (ms : List Int) : Prop where
  asc : ms.Pairwise (· < ·)
  rng : ∀ m ∈ ms, 0 ≤ m ∧ m < n
def ix (ms : List Int) (m : Int) : Int := (ms.idxOf m : Nat)
theorem Up.nodup {n : Int} {ms : List Int} (h : Up n ms) : ms.Nodup := List.Pairwise.imp (fun {a b} h e => by omega) h.asc
theorem ix_get {ms : List Int} {a : Int} (h : a ∈ ms) : ms[ms.idxOf a]? = some a := by
  have hl := List.idxOf_lt_length_iff.mpr h
  rw [List.getElem?_eq_getElem hl]
  exact congrArg some (List.getElem_idxOf hl)
theorem get_ix {ms : List Int} (hn : ms.Nodup) {k : Nat} {a : Int} (h : ms[k]? = some a) : ms.idxOf a = k := by
  obtain ⟨hk, e⟩ := List.getElem?_eq_some_iff.mp h
  rw [← e]
  exact hn.idxOf_getElem k hk
theorem get_mono {ms : List Int} (h : ms.Pairwise (· < ·)) {i j : Nat} {a b : Int} (ha : ms[i]? = some a) (hb : ms[j]? = some b) (hij : i < j) : a < b := by
  obtain ⟨h1, rfl⟩ := List.getElem?_eq_some_iff.mp ha
  obtain ⟨h2, rfl⟩ := List.getElem?_eq_some_iff.mp hb
  exact List.pairwise_iff_getElem.mp h i j h1 h2 hij
theorem ix_lt {ms : List Int} (h : ms.Pairwise (· < ·)) {a b : Int} (ha : a ∈ ms) (hb : b ∈ ms) (hab : a < b) : ix ms a < ix ms b := by
  unfold ix
  have h1 := ix_get ha
  have h2 := ix_get hb
  rcases Nat.lt_trichotomy (ms.idxOf a) (ms.idxOf b) with c | c | c
  · omega
  · rw [c, h2] at h1
    cases h1
    omega
  · have := get_mono h h2 h1 c
    omega
theorem ix_rng {ms : List Int} {a : Int} (h : a ∈ ms) : 0 ≤ ix ms a ∧ ix ms a < ms.length := by
  have hl := List.idxOf_lt_length_iff.mpr h
  unfold ix
  omega
/-! the part of a lot -/
def inP (ms : List Int) (p : Int × Int) : Bool := ms.contains p.1 && ms.contains p.2
def cutP (ps : List (Int × Int)) (ms : List Int) : List (Int × Int) := (ps.filter (inP ms)).map fun p => (ix ms p.1, ix ms p.2)
theorem inP_iff {ms : List Int} {p : Int × Int} : inP ms p = true ↔ p.1 ∈ ms ∧ p.2 ∈ ms := by
  unfold inP
  rw [Bool.and_eq_true, List.contains_iff_mem, List.contains_iff_mem]
theorem mem_cut {ps : List (Int × Int)} {ms : List Int} {p : Int × Int} : p ∈ cutP ps ms ↔ ∃ q ∈ ps, q.1 ∈ ms ∧ q.2 ∈ ms ∧ p = (ix ms q.1, ix ms q.2) := by
  unfold cutP
  rw [List.mem_map]
  constructor
  · rintro ⟨q, hq, rfl⟩
    obtain ⟨h1, h2⟩ := List.mem_filter.mp hq
    obtain ⟨h3, h4⟩ := inP_iff.mp h2
    exact ⟨q, h1, h3, h4, rfl⟩
  · rintro ⟨q, h1, h3, h4, rfl⟩
    exact ⟨q, List.mem_filter.mpr ⟨h1, inP_iff.mpr ⟨h3, h4⟩⟩, rfl⟩
theorem cut_asc {ps : List (Int × Int)} {ms : List Int} (h : Asc ps) (hm : ms.Pairwise (· < ·)) : Asc (cutP ps ms) := by
  have h1 : (ps.filter (inP ms)).Pairwise ltP := h.filter _
  unfold cutP Asc
  rw [List.pairwise_map]
  refine List.Pairwise.imp_of_mem (fun {a b} ha hb hab => ?_) h1
  obtain ⟨a1, a2⟩ := inP_iff.mp (List.mem_filter.mp ha).2
  obtain ⟨b1, b2⟩ := inP_iff.mp (List.mem_filter.mp hb).2
  rcases hab with c | ⟨c, d⟩
  · exact .inl (ix_lt hm a1 b1 c)
  · exact .inr ⟨congrArg (ix ms) c, ix_lt hm a2 b2 d⟩
theorem ix_inj {ms : List Int} {a b : Int} (ha : a ∈ ms) (hb : b ∈ ms) (h : ix ms a = ix ms b) : a = b := by
  have h1 := ix_get ha
  have h2 := ix_get hb
  have : ms.idxOf a = ms.idxOf b := by unfold ix at h; omega
  rw [this, h2] at h1
  exact (Option.some.inj h1).symm
theorem Lot.cut {n : Int} {ps : List (Int × Int)} {ms : List Int} (h : Lot n ps) (hm : Up n ms) (hl : ms.length ≤ 24) : Lot ms.length (cutP ps ms) := ⟨by omega, by omega, cut_asc h.asc hm.asc, fun p hp => by
  obtain ⟨q, h1, h2, h3, rfl⟩ := mem_cut.mp hp
  exact ⟨(ix_rng h2).1, (ix_rng h2).2, (ix_rng h3).1, (ix_rng h3).2⟩, fun p hp hq => by
  obtain ⟨q, h1, h2, h3, rfl⟩ := mem_cut.mp hp
  obtain ⟨r, k1, k2, k3, e⟩ := mem_cut.mp hq
  have e1 : ix ms q.2 = ix ms r.1 := congrArg Prod.fst e
  have e2 : ix ms q.1 = ix ms r.2 := congrArg Prod.snd e
  have f1 := ix_inj h3 k2 e1
  have f2 := ix_inj h2 k3 e2
  refine h.anti q h1 ?_
  rw [f1, f2]
  exact k1, by
  unfold cutP
  rw [List.length_map]
  exact Nat.le_trans (List.length_filter_le _ _) h.len⟩
theorem cut_sw {ps : List (Int × Int)} {ms : List Int} (h : Asc ps) (hm : ms.Pairwise (· < ·)) : cutP (sw ps) ms = sw (cutP ps ms) := asc_ext (cut_asc (sw_asc h) hm) (sw_asc (cut_asc h hm)) fun p => by
  rw [mem_sw, mem_cut, mem_cut]
  constructor
  · rintro ⟨q, h1, h2, h3, rfl⟩
    exact ⟨swp q, (mem_sw q).mp h1, h3, h2, rfl⟩
  · rintro ⟨q, h1, h2, h3, e⟩
    have e1 : p.2 = ix ms q.1 := congrArg Prod.fst e
    have e2 : p.1 = ix ms q.2 := congrArg Prod.snd e
    exact ⟨swp q, (mem_sw _).mpr h1, h3, h2, Prod.ext e2 e1⟩
def gt (ms : List Int) (i : Int) : Int := (ms[i.toNat]?).getD 0
theorem gt_some {ms : List Int} {i : Int} (h : 0 ≤ i ∧ i < ms.length) : ms[i.toNat]? = some (gt ms i) := by
  have hl : i.toNat < ms.length := by omega
  unfold gt
  rw [List.getElem?_eq_getElem hl]
  rfl
theorem gt_mem {ms : List Int} {i : Int} (h : 0 ≤ i ∧ i < ms.length) : gt ms i ∈ ms := List.mem_of_getElem? (gt_some h)
theorem ix_gt {ms : List Int} (hn : ms.Nodup) {i : Int} (h : 0 ≤ i ∧ i < ms.length) : ix ms (gt ms i) = i := by
  have := get_ix hn (gt_some h)
  unfold ix
  omega
theorem gt_ix {ms : List Int} {a : Int} (h : a ∈ ms) : gt ms (ix ms a) = a := by
  have := ix_get h
  unfold gt ix
  rw [Int.toNat_natCast, this]
  rfl
theorem gt_lt {ms : List Int} (h : ms.Pairwise (· < ·)) {i j : Int} (hi : 0 ≤ i ∧ i < ms.length) (hj : 0 ≤ j ∧ j < ms.length) (hij : i < j) : gt ms i < gt ms j := get_mono h (gt_some hi) (gt_some hj) (by omega)
theorem Up.map {n : Int} {ms is : List Int} (h : Up n ms) (hi : Up ms.length is) : Up n (is.map (gt ms)) := ⟨by
  rw [List.pairwise_map]
  exact List.Pairwise.imp_of_mem (fun {a b} ha hb hab => gt_lt h.asc (hi.rng a ha) (hi.rng b hb) hab) hi.asc, fun m hm => by
  obtain ⟨i, h1, rfl⟩ := List.mem_map.mp hm
  exact h.rng _ (gt_mem (hi.rng i h1))⟩
theorem ix_map {n : Int} {ms is : List Int} (h : Up n ms) (hi : Up ms.length is) {i : Int} (hm : i ∈ is) : ix (is.map (gt ms)) (gt ms i) = ix is i := by
  have h1 := ix_get hm
  have h2 : (is.map (gt ms))[is.idxOf i]? = some (gt ms i) := by rw [List.getElem?_map, h1]; rfl
  have := get_ix (h.map hi).nodup h2
  unfold ix
  omega
theorem cut_cut {n : Int} {ps : List (Int × Int)} {ms is : List Int} (hp : Asc ps) (h : Up n ms) (hi : Up ms.length is) : cutP (cutP ps ms) is = cutP ps (is.map (gt ms)) := asc_ext (cut_asc (cut_asc hp h.asc) hi.asc) (cut_asc hp (h.map hi).asc) fun p => by
  rw [mem_cut, mem_cut]
  constructor
  · rintro ⟨q, h1, h2, h3, rfl⟩
    obtain ⟨r, k1, k2, k3, rfl⟩ := mem_cut.mp h1
    have e1 := ix_map h hi h2
    have e2 := ix_map h hi h3
    have f1 := gt_ix k2
    have f2 := gt_ix k3
    have m1 := List.mem_map.mpr ⟨_, h2, f1⟩
    have m2 := List.mem_map.mpr ⟨_, h3, f2⟩
    simp only at e1 e2 f1 f2
    rw [f1] at e1
    rw [f2] at e2
    exact ⟨r, k1, m1, m2, Prod.ext e1.symm e2.symm⟩
  · rintro ⟨r, k1, k2, k3, rfl⟩
    obtain ⟨i, h1, e1⟩ := List.mem_map.mp k2
    obtain ⟨j, h2, e2⟩ := List.mem_map.mp k3
    have f1 : ix ms r.1 = i := by rw [← e1]; exact ix_gt h.nodup (hi.rng i h1)
    have f2 : ix ms r.2 = j := by rw [← e2]; exact ix_gt h.nodup (hi.rng j h2)
    refine ⟨(ix ms r.1, ix ms r.2), mem_cut.mpr ⟨r, k1, ?_, ?_, rfl⟩, ?_, ?_, ?_⟩
    · rw [← e1]; exact gt_mem (hi.rng i h1)
    · rw [← e2]; exact gt_mem (hi.rng j h2)
    · show ix ms r.1 ∈ is
      rw [f1]; exact h1
    · show ix ms r.2 ∈ is
      rw [f2]; exact h2
    · show (_, _) = (ix is (ix ms r.1), ix is (ix ms r.2))
      rw [f1, f2, ← e1, ← e2, ix_map h hi h1, ix_map h hi h2]
def upto (n : Int) : List Int := (List.range n.toNat).map fun k => (0 : Int) + (k : Nat)
theorem upto_mem {n m : Int} : m ∈ upto n ↔ 0 ≤ m ∧ m < n := by
  unfold upto
  rw [List.mem_map]
  constructor
  · rintro ⟨k, hk, rfl⟩
    have := List.mem_range.mp hk
    omega
  · intro h
    exact ⟨m.toNat, List.mem_range.mpr (by omega), by omega⟩
theorem upto_asc (n : Int) : (upto n).Pairwise (· < ·) := by
  unfold upto
  rw [List.pairwise_map]
  exact List.pairwise_lt_range.imp fun h => by omega
theorem upto_up (n : Int) : Up n (upto n) := ⟨upto_asc n, fun m h => upto_mem.mp h⟩
theorem upto_len (n : Int) : (upto n).length = n.toNat := by
  unfold upto
  rw [List.length_map, List.length_range]
theorem ix_upto {n m : Int} (h : 0 ≤ m ∧ m < n) : ix (upto n) m = m := by
  have h1 : (upto n)[m.toNat]? = some m := by
    unfold upto
    rw [List.getElem?_map, List.getElem?_range (by omega)]
    show some ((0 : Int) + (m.toNat : Nat)) = _
    congr 1
    omega
  have := get_ix (upto_up n).nodup h1
  unfold ix
  omega
theorem cut_all {n : Int} {ps : List (Int × Int)} (h : Lot n ps) : cutP ps (upto n) = ps := asc_ext (cut_asc h.asc (upto_asc n)) h.asc fun p => by
  rw [mem_cut]
  constructor
  · rintro ⟨q, h1, h2, h3, rfl⟩
    rw [ix_upto (upto_mem.mp h2), ix_upto (upto_mem.mp h3)]
    exact h1
  · intro hp
    have := h.rng p hp
    exact ⟨p, hp, upto_mem.mpr ⟨this.1, this.2.1⟩, upto_mem.mpr this.2.2, by rw [ix_upto ⟨this.1, this.2.1⟩, ix_upto this.2.2]⟩
theorem cut_nil (ps : List (Int × Int)) : cutP ps [] = [] := by
  unfold cutP
  have : ps.filter (inP []) = [] := List.filter_eq_nil_iff.mpr fun p _ => by simp [inP]
  rw [this]
  rfl
end K06

namespace K06
open PySem PySem.Spec PyProof.Rows L2 DL DLS

abbrev pot (a b c : Int) : C := .l [.int a, .int b, .int c]
theorem prime_at (t : Int) (h : 0 ≤ t) : ∃ p : Int, 0 < p ∧ p < 2 ^ 61 ∧ opIx (.d (.list [.int 2305843009213693951, .int 2305843009213693921, .int 2305843009213693907, .int 67280421310721])) (.d (.int (t % 4))) = some (.d (.int p)) := by
  have h1 : t % 4 = 0 ∨ t % 4 = 1 ∨ t % 4 = 2 ∨ t % 4 = 3 := by omega
  rcases h1 with e | e | e | e <;> rw [e]
  · exact ⟨2305843009213693951, by decide, by decide, rfl⟩
  · exact ⟨2305843009213693921, by decide, by decide, rfl⟩
  · exact ⟨2305843009213693907, by decide, by decide, rfl⟩
  · exact ⟨67280421310721, by decide, by decide, rfl⟩
theorem take_spec {n a b c : Int} (hn : 0 < n) (hn2 : n < 2 ^ 60) (ha : 0 ≤ a) (hb : 0 ≤ b) (hb2 : b < 2 ^ 62) (hc : 0 ≤ c) (hc2 : c < 2 ^ 40) :
    ∃ r a' c', F__law_take [.o (pot a b c), .d (.int n)] = some (.d (.int r), [some (pot a' b c'), none]) ∧ 0 ≤ r ∧ r < n ∧ 0 ≤ a' ∧ 0 ≤ c' ∧ c' ≤ c + 1 := by
  by_cases h : a > 0
  · refine ⟨a % n, a / n, c, runF_rt (δ := [some (.o (pot (a / n) b c)), some (.d (.int n)), none, none, none, some (.d (.int (a % n)))]) ?_ rfl, Int.emod_nonneg _ (by omega), Int.emod_lt_of_pos _ hn, Int.ediv_nonneg ha (by omega), hc, by omega⟩
    refine seqS_rt (ifS_t (δ1 := [some (.o (pot a b c)), some (.d (.int n)), none, none, none, none]) ?_ ?_)
    · refine bl_of ?_
      have : pGt a 0 = true := decide_eq_true h
      rw [← this]
      exact bin_cmp rfl rfl
    · refine seqS_of (setS_of (bin_I rfl rfl (iMod_ok hn))) ?_
      refine seqS_of (setI_of (frzP_of (bin_I rfl rfl (iDiv_ok hn (lt_pow_of (n := 60) (by omega) hn2) (by decide) (by decide)))) rfl rfl rfl rfl) ?_
      rfl
  · have ht : 0 ≤ c + 1 := by omega
    obtain ⟨p, p0, p1, pe⟩ := prime_at (c + 1) ht
    generalize et : c + 1 = t at pe ht
    have t1 : t < 2 ^ 41 := by omega
    have x0 : (7919 * t * t : Int) < 2 ^ 96 := by
      have := Int.mul_le_mul_of_nonneg_left (a := t) (b := 2 ^ 41) (c := 7919 * t) (by omega) (by omega)
      omega
    have x00 : (0 : Int) ≤ 7919 * t * t := Int.mul_nonneg (by omega) ht
    generalize ex : b + 7919 * t * t + 65537 * t = x
    have xb : x < 2 ^ 100 := by omega
    have xn : 0 ≤ x := by omega
    generalize em : x ^ (3 : Int).toNat % p = m
    have m0 : 0 ≤ m := by rw [← em]; exact Int.emod_nonneg _ (by omega)
    have m1 : m < 2 ^ 61 := by
      have := Int.emod_lt_of_pos (x ^ (3 : Int).toNat) p0
      omega
    have q0 : 0 ≤ m % 10007 + 97 * t := by
      have := Int.emod_nonneg m (b := 10007) (by decide)
      omega
    have q1 : m % 10007 + 97 * t < 2 ^ 60 := by
      have := Int.emod_lt_of_pos m (b := 10007) (by decide)
      omega
    refine ⟨m * (m % 10007 + 97 * t) % 2305843009213693669 / 4099 % n, a, t, runF_rt (δ := [some (.o (pot a b t)), some (.d (.int n)), some (.d (.int t)), some (.d (.int p)), some (.d (.int m)), none]) ?_ rfl, Int.emod_nonneg _ (by omega), Int.emod_lt_of_pos _ hn, ha, ht, by omega⟩
    refine seqS_of (δ1 := [some (.o (pot a b c)), some (.d (.int n)), none, none, none, none]) (ifS_f (δ1 := [some (.o (pot a b c)), some (.d (.int n)), none, none, none, none]) ?_ rfl) ?_
    · refine bl_of ?_
      have : pGt a 0 = false := decide_eq_false h
      rw [← this]
      exact bin_cmp rfl rfl
    · refine seqS_of (setS_of (bin_add rfl rfl)) ?_
      rw [et]
      refine seqS_of (setI_of rfl rfl rfl rfl rfl) ?_
      show seqS _ _ [some (.o (pot a b t)), some (.d (.int n)), some (.d (.int t)), none, none, none] = _
      refine seqS_of (setS_of (bin_of rfl (frzP_of (bin_I rfl rfl (iMod_ok (by decide)))) rfl rfl pe)) ?_
      show seqS _ _ [some (.o (pot a b t)), some (.d (.int n)), some (.d (.int t)), some (.d (.int p)), none, none] = _
      have hm : setS 4 (bin (opI2 iMod) (frzP (bin (opI2 iPow) (frzP (bin opAdd (frzP (bin opAdd (frzP (bin opIx (pk 0) (frzP (cst (.int 1))))) (frzP (bin opMul (frzP (bin opMul (frzP (cst (.int 7919))) (pk 2))) (pk 2))))) (frzP (bin opMul (frzP (cst (.int 65537))) (pk 2))))) (frzP (cst (.int 3))))) (pk 3)) [some (.o (pot a b t)), some (.d (.int n)), some (.d (.int t)), some (.d (.int p)), none, none] = some (.nx (List.set [some (.o (pot a b t)), some (.d (.int n)), some (.d (.int t)), some (.d (.int p)), none, none] 4 (some (.d (.int m))))) := by
        have hx : frzP (bin opAdd (frzP (bin opAdd (frzP (bin opIx (pk 0) (frzP (cst (.int 1))))) (frzP (bin opMul (frzP (bin opMul (frzP (cst (.int 7919))) (pk 2))) (pk 2))))) (frzP (bin opMul (frzP (cst (.int 65537))) (pk 2)))) [some (.o (pot a b t)), some (.d (.int n)), some (.d (.int t)), some (.d (.int p)), none, none] = some (.v (.d (.int x)), [some (.o (pot a b t)), some (.d (.int n)), some (.d (.int t)), some (.d (.int p)), none, none]) := by
          rw [← ex]
          exact frzP_of (bin_add (frzP_of (bin_add rfl (frzP_of (bin_mul (frzP_of (bin_mul rfl rfl (iMul_ok (a := 13) (b := 41) (by decide) (lt_pow_of ht t1) (by decide) (by decide) (by decide)))) rfl (iMul_ok (a := 54) (b := 41) (lt_pow_of (by omega) (by omega)) (lt_pow_of ht t1) (by decide) (by decide) (by decide)))))) (frzP_of (bin_mul rfl rfl (iMul_ok (a := 17) (b := 41) (by decide) (lt_pow_of ht t1) (by decide) (by decide) (by decide)))))
        rw [← em]
        exact setS_of (bin_I (frzP_of (bin_I hx rfl (iPow_ok (i := x) (j := 3) (a := 100) (lt_pow_of xn xb) (by decide) (by decide) (by decide)))) rfl (iMod_ok p0))
      refine seqS_of hm ?_
      show retS _ [some (.o (pot a b t)), some (.d (.int n)), some (.d (.int t)), some (.d (.int p)), some (.d (.int m)), none] = _
      · refine retS_of (bin_I (frzP_of (bin_I (frzP_of (bin_I (frzP_of (bin_mul rfl (frzP_of (bin_add (frzP_of (bin_I rfl rfl (iMod_ok (by decide)))) (frzP_of (bin_mul rfl rfl (iMul_ok (a := 7) (b := 41) (by decide) (lt_pow_of ht t1) (by decide) (by decide) (by decide)))))) (iMul_ok (a := 61) (b := 60) (lt_pow_of m0 m1) (lt_pow_of q0 q1) (by decide) (by decide) (by decide)))) rfl (iMod_ok (by decide)))) rfl (iDiv_ok (b := 13) (by decide) (by decide) (by decide) (by decide)))) rfl (iMod_ok hn))

/-! what a pot may hold, after at most m draws -/
structure Pot (m : Nat) (c : C) : Prop where
  ex : ∃ a b t : Int, c = pot a b t ∧ 0 ≤ a ∧ 0 ≤ b ∧ b < 2 ^ 62 ∧ 0 ≤ t ∧ t ≤ m
theorem Pot.mono {m n : Nat} {c : C} (h : Pot m c) (e : m ≤ n) : Pot n c := by
  obtain ⟨a, b, t, h1, h2, h3, h4, h5, h6⟩ := h.ex
  exact ⟨a, b, t, h1, h2, h3, h4, h5, by omega⟩
theorem take_pot {n : Int} {m : Nat} {c : C} (hp : Pot m c) (hm : m < 2 ^ 39) (hn : 0 < n) (hn2 : n < 2 ^ 60) : ∃ r c', F__law_take [.o c, .d (.int n)] = some (.d (.int r), [some c', none]) ∧ 0 ≤ r ∧ r < n ∧ Pot (m + 1) c' := by
  obtain ⟨a, b, t, rfl, h2, h3, h4, h5, h6⟩ := hp.ex
  obtain ⟨r, a', t', e, r0, r1, a0, t0, t1⟩ := take_spec (n := n) (a := a) (b := b) (c := t) hn hn2 h2 h3 h4 h5 (by omega)
  exact ⟨r, _, e, r0, r1, ⟨a', b, t', rfl, a0, h3, h4, t0, by omega⟩⟩
theorem get_cell (ns : List Int) (k : Nat) (h : k < ns.length) : ∃ v : Int, opIx (.z ns) (.d (.int k)) = some (.d (.int v)) := by
  refine ⟨ns[k], ?_⟩
  show (atI ns (k : Int)).map _ = _
  have : atI ns (k : Int) = some ns[k] := atI_nat (List.getElem?_eq_getElem h)
  rw [this]
  rfl
theorem pot_spec (ns : List Int) (k : Nat) (hk : k ≤ 2) : ∃ c, F__law_pot [.z ns, .d (.int k)] = some (.o c, [none, none]) ∧ Pot 0 c := by
  have hcell : ∃ v : Int, ifE (bl (bin (cmpI pLt) (pk 1) (frzP (callB fLen (consA (pk 0) nilA))))) (bin opIx (pk 0) (pk 1)) (cst (.int 0)) [some (.z ns), some (.d (.int k)), none, none] = some (.d (.int v), [some (.z ns), some (.d (.int k)), none, none]) := by
    by_cases h : k < ns.length
    · obtain ⟨v, hv⟩ := get_cell ns k h
      refine ⟨v, ifE_t (δ1 := [some (.z ns), some (.d (.int k)), none, none]) (bl_of ?_) (bin_ix rfl rfl hv)⟩
      have : pLt (k : Int) (ns.length : Int) = true := decide_eq_true (by omega)
      rw [← this]
      exact bin_cmp rfl (frzP_d (callB_of rfl rfl rfl))
    · refine ⟨0, ifE_f (bl_of ?_) rfl⟩
      have : pLt (k : Int) (ns.length : Int) = false := decide_eq_false (by omega)
      rw [← this]
      exact bin_cmp rfl (frzP_d (callB_of rfl rfl rfl))
  obtain ⟨v, hv⟩ := hcell
  generalize eN : ((10 : Int) ^ (60 : Int).toNat) ^ (5 : Int).toNat = N
  have N0 : 0 < N := by rw [← eN]; decide
  have N1 : N < 2 ^ 1000 := by rw [← eN]; decide +kernel
  have hN : bin (opI2 iPow) (frzP (bin (opI2 iPow) (frzP (cst (.int 10))) (frzP (cst (.int 60))))) (frzP (cst (.int 5))) [some (.z ns), some (.d (.int k)), some (.d (.int v)), none] = some (.d (.int N), [some (.z ns), some (.d (.int k)), some (.d (.int v)), none]) := by
    rw [← eN]
    exact bin_I (frzP_d (bin_I rfl rfl (iPow_ok (i := 10) (j := 60) (a := 4) (by decide) (by decide) (by decide) (by decide)))) rfl (iPow_ok (i := 10 ^ (60 : Int).toNat) (j := 5) (a := 200) (by decide) (by decide) (by decide) (by decide))
  generalize ev : (if v < 0 then -v else v) = av
  have av0 : 0 ≤ av := by rw [← ev]; split <;> omega
  generalize eo : av % N = o
  have o0 : 0 ≤ o := by rw [← eo]; exact Int.emod_nonneg _ (by omega)
  have o1 : o < 2 ^ 1000 := by
    have := Int.emod_lt_of_pos av N0
    omega
  generalize ef : (if decide ((10 : Int) ^ (18 : Int).toNat ≤ av) = true then (1 : Int) else 0) = fl
  have f0 : 0 ≤ fl ∧ fl ≤ 1 := by rw [← ef]; split <;> omega
  generalize ek : (k : Int) = kk at *
  have kk0 : 0 ≤ kk ∧ kk ≤ 2 := by omega
  have k2 : 0 ≤ 104729 * kk * kk ∧ 104729 * kk * kk ≤ 500000 := by
    have : kk = 0 ∨ kk = 1 ∨ kk = 2 := by omega
    rcases this with e | e | e <;> rw [e] <;> decide
  generalize ew : v % 2305843009213693951 = w at *
  have w0 : 0 ≤ w := by rw [← ew]; exact Int.emod_nonneg _ (by decide)
  have w1 : w < 2305843009213693951 := by rw [← ew]; exact Int.emod_lt_of_pos _ (by decide)
  refine ⟨pot (o * fl) ((w + 104729 * kk * kk + 19) * 48271 % 2305843009213693921) 0, runF_rt (δ := [some (.z ns), some (.d (.int kk)), some (.d (.int v)), some (.d (.int (o * fl)))]) ?_ rfl, ⟨_, _, _, rfl, Int.mul_nonneg o0 f0.1, Int.emod_nonneg _ (by decide), ?_, by decide, by decide⟩⟩
  · refine seqS_of (setS_of hv) ?_
    show seqS _ _ [some (.z ns), some (.d (.int kk)), some (.d (.int v)), none] = _
    have ho : setS 3 (bin opMul (frzP (bin (opI2 iMod) (frzP (callB fAbs (consA (pk 2) nilA))) (frzP (bin (opI2 iPow) (frzP (bin (opI2 iPow) (frzP (cst (.int 10))) (frzP (cst (.int 60))))) (frzP (cst (.int 5))))))) (frzP (callB fInt (consA (frzP (bin (cmpI pGe) (frzP (callB fAbs (consA (pk 2) nilA))) (frzP (bin (opI2 iPow) (frzP (cst (.int 10))) (frzP (cst (.int 18))))))) nilA)))) [some (.z ns), some (.d (.int kk)), some (.d (.int v)), none] = some (.nx (List.set [some (.z ns), some (.d (.int kk)), some (.d (.int v)), none] 3 (some (.d (.int (o * fl)))))) := by
      rw [← eo, ← ef, ← ev]
      refine setS_of (bin_mul (frzP_d (bin_I (frzP_d (callB_of rfl rfl rfl)) (frzP_d hN) (iMod_ok N0))) (frzP_d (callB_of (consA_of (frzP_d (bin_cmp (frzP_d (callB_of rfl rfl rfl)) (frzP_d (bin_I rfl rfl (iPow_ok (i := 10) (j := 18) (a := 4) (by decide) (by decide) (by decide) (by decide)))))) rfl) rfl rfl)) ?_)
      rw [ev, eo]
      have : (if pGe av (10 ^ (18 : Int).toNat) = true then (1 : Int) else 0) = fl := ef
      rw [this]
      exact iMul_ok (a := 1000) (b := 1) (lt_pow_of o0 o1) (lt_pow_of f0.1 (by omega)) (by decide) (by decide) (by decide)
    refine seqS_of ho ?_
    show retS _ [some (.z ns), some (.d (.int kk)), some (.d (.int v)), some (.d (.int (o * fl)))] = _
    rw [← ew]
    refine retS_of (lstE_of (consA_of rfl (consA_of (frzP_d (bin_I (frzP_d (bin_mul (frzP_d (bin_add (frzP_d (bin_add (frzP_d (bin_I rfl rfl (iMod_ok (by decide)))) (frzP_d (bin_mul (frzP_d (bin_mul rfl rfl (iMul_ok (a := 17) (b := 2) (by decide) (lt_pow_of kk0.1 (by omega)) (by decide) (by decide) (by decide)))) rfl (iMul_ok (a := 20) (b := 2) (lt_pow_of (by omega) (by omega)) (lt_pow_of kk0.1 (by omega)) (by decide) (by decide) (by decide)))))) rfl)) rfl (iMul_ok (a := 63) (b := 16) (lt_pow_of ?_ ?_) (by decide) (by decide) (by decide) (by decide)))) rfl (iMod_ok (by decide)))) rfl)) rfl (show 3 ≤ sizeLine by decide))
    · rw [ew]; omega
    · rw [ew]; omega
  · have := Int.emod_lt_of_pos ((w + 104729 * kk * kk + 19) * 48271) (b := 2305843009213693921) (by decide)
    omega
/-! pairs as they are drawn, one of each two marks at the most -/
structure OkP (x y : Int) (ps : List (Int × Int)) : Prop where
  mem : ∀ p ∈ ps, ∃ a b : Int, b < a ∧ (a < x ∨ (a = x ∧ b < y)) ∧ (p = (a, b) ∨ p = (b, a))
  anti : ∀ p ∈ ps, (p.2, p.1) ∉ ps
  lo : ∀ p ∈ ps, 0 ≤ p.1 ∧ 0 ≤ p.2
  nd : ps.Nodup
theorem OkP.nil (x y : Int) : OkP x y [] := ⟨(fun p hp => nomatch hp), (fun p hp => nomatch hp), (fun p hp => nomatch hp), List.nodup_nil⟩
theorem OkP.next {x : Int} {ps : List (Int × Int)} (h : OkP x x ps) : OkP (x + 1) 0 ps := ⟨fun p hp => by
  obtain ⟨a, b, h1, h2, h3⟩ := h.mem p hp
  exact ⟨a, b, h1, .inl (by omega), h3⟩, h.anti, h.lo, h.nd⟩
def OneOf (x y : Int) (qs : List (Int × Int)) : Prop := qs = [] ∨ qs = [(x, y)] ∨ qs = [(y, x)]
theorem OkP.add {x y : Int} {ps qs : List (Int × Int)} (h : OkP x y ps) (hy : y < x) (y0 : 0 ≤ y) (hq : OneOf x y qs) : OkP x (y + 1) (ps ++ qs) := by
  have old : ∀ p ∈ ps, ∃ a b : Int, b < a ∧ (a < x ∨ (a = x ∧ b < y + 1)) ∧ (p = (a, b) ∨ p = (b, a)) := fun p hp => by
    obtain ⟨a, b, h1, h2, h3⟩ := h.mem p hp
    exact ⟨a, b, h1, by omega, h3⟩
  have nw : ∀ p ∈ ps, p ≠ (x, y) ∧ p ≠ (y, x) := fun p hp => by
    obtain ⟨a, b, h1, h2, h3⟩ := h.mem p hp
    rcases h3 with rfl | rfl
    · constructor
      · intro z
        have z1 := congrArg Prod.fst z
        have z2 := congrArg Prod.snd z
        simp only at z1 z2
        omega
      · intro z
        have z1 := congrArg Prod.fst z
        have z2 := congrArg Prod.snd z
        simp only at z1 z2
        omega
    · constructor
      · intro z
        have z1 := congrArg Prod.fst z
        have z2 := congrArg Prod.snd z
        simp only at z1 z2
        omega
      · intro z
        have z1 := congrArg Prod.fst z
        have z2 := congrArg Prod.snd z
        simp only at z1 z2
        omega
  have one : ∀ e : Int × Int, (e = (x, y) ∨ e = (y, x)) → OkP x (y + 1) (ps ++ [e]) := fun e he => by
    have hs : (e.2, e.1) = (x, y) ∨ (e.2, e.1) = (y, x) := by
      rcases he with rfl | rfl
      · exact .inr rfl
      · exact .inl rfl
    have ne : ∀ p ∈ ps, p ≠ e := fun p hp z => by
      rcases he with rfl | rfl
      · exact (nw p hp).1 z
      · exact (nw p hp).2 z
    refine ⟨fun p hp => ?_, fun p hp hm => ?_, fun p hp => ?_, ?_⟩
    · rcases List.mem_append.mp hp with hp | hp
      · exact old p hp
      · rw [List.mem_singleton.mp hp]
        exact ⟨x, y, hy, .inr ⟨rfl, by omega⟩, he⟩
    · rcases List.mem_append.mp hp with hp | hp
      · rcases List.mem_append.mp hm with hm | hm
        · exact h.anti p hp hm
        · have z := List.mem_singleton.mp hm
          have zp : p = (e.2, e.1) := by rw [← z]
          rcases hs with hs | hs
          · exact (nw p hp).1 (zp.trans hs)
          · exact (nw p hp).2 (zp.trans hs)
      · have z := List.mem_singleton.mp hp
        subst z
        rcases List.mem_append.mp hm with hm | hm
        · rcases hs with hs | hs
          · exact (nw _ hm).1 hs
          · exact (nw _ hm).2 hs
        · have z := List.mem_singleton.mp hm
          have z1 : p.2 = p.1 := congrArg Prod.fst z
          rcases he with rfl | rfl
          · simp only at z1
            omega
          · simp only at z1
            omega
    · rcases List.mem_append.mp hp with hp | hp
      · exact h.lo p hp
      · rw [List.mem_singleton.mp hp]
        rcases he with rfl | rfl
        · exact ⟨by show 0 ≤ x; omega, y0⟩
        · exact ⟨y0, by show 0 ≤ x; omega⟩
    · refine List.nodup_append.mpr ⟨h.nd, List.pairwise_singleton _ _, fun a ha b hb => ?_⟩
      rw [List.mem_singleton.mp hb]
      exact ne a ha
  rcases hq with rfl | rfl | rfl
  · rw [List.append_nil]
    exact ⟨old, h.anti, h.lo, h.nd⟩
  · exact one _ (.inl rfl)
  · exact one _ (.inr rfl)
theorem oneOf_len {x y : Int} {qs : List (Int × Int)} (h : OneOf x y qs) : qs.length ≤ 1 := by
  rcases h with rfl | rfl | rfl <;> simp
def lotD (n : Int) (ps : List (Int × Int)) : PyData := .tuple [.int n, .tuple (ps.map pr)]
theorem OkP.rng {x y : Int} {ps : List (Int × Int)} (h : OkP x y ps) (hy : y ≤ 0) : ∀ p ∈ ps, 0 ≤ p.1 ∧ p.1 < x ∧ 0 ≤ p.2 ∧ p.2 < x := fun p hp => by
  obtain ⟨a, b, h1, h2, h3⟩ := h.mem p hp
  have h4 := h.lo p hp
  rcases h3 with e | e
  · subst e
    simp only at *
    omega
  · subst e
    simp only at *
    omega
theorem good_of {x n : Int} {ps : List (Int × Int)} (h : OkP n 0 ps) (h0 : 0 ≤ n) (h1 : n ≤ 24) (hl : ps.length ≤ 1000) : Lot n (sortP ps) := ⟨h0, h1, sort_asc h.nd, fun p hp => h.rng (Int.le_refl 0) p ((mem_sort ps p).mp hp), fun p hp hq => h.anti p ((mem_sort ps p).mp hp) ((mem_sort ps _).mp hq), by
  rw [(isort_perm ps).length_eq]
  exact hl⟩
theorem good_raw {n : Int} {ps : List (Int × Int)} (h : OkP n 0 ps) (ha : Asc ps) (h0 : 0 ≤ n) (h1 : n ≤ 24) (hl : ps.length ≤ 1000) : Lot n ps := ⟨h0, h1, ha, h.rng (Int.le_refl 0), h.anti, hl⟩
theorem asc_line {ps : List (Int × Int)} {x : Int} (h : Asc ps) (hx : ∀ p ∈ ps, p.1 < x) (j : Nat) : Asc (ps ++ (List.range j).map fun (i : Nat) => ((x, (0 : Int) + (i : Nat)) : Int × Int)) := by
  refine List.pairwise_append.mpr ⟨h, ?_, fun a ha b hb => ?_⟩
  · rw [List.pairwise_map]
    exact List.pairwise_lt_range.imp fun h => .inr ⟨rfl, by show _ < _; omega⟩
  · obtain ⟨i, _, rfl⟩ := List.mem_map.mp hb
    exact .inl (hx a ha)
def IsG (d : PyData) : Prop := ∃ n ps, d = lotD n ps ∧ Lot n ps
theorem rng_at {a : Int} {n k : Nat} {x : PyData} (h : (DL.rng a n)[k]? = some x) : k < n ∧ x = .int (a + (k : Nat)) := by
  obtain ⟨hk, ex⟩ := List.getElem?_eq_some_iff.mp h
  have hk' : k < n := by simpa [DL.rng] using hk
  exact ⟨hk', by rw [← ex]; simp [DL.rng]⟩
theorem rng_len (n : Nat) : (DL.rng 0 n).length = n := by simp [DL.rng]
theorem OkP.addAll {x : Int} {ps : List (Int × Int)} (h : OkP x 0 ps) : ∀ j : Nat, (j : Int) ≤ x → OkP x j (ps ++ (List.range j).map fun (i : Nat) => ((x, (0 : Int) + (i : Nat)) : Int × Int))
  | 0, _ => by simpa using h
  | j + 1, hj => by
    have ih := OkP.addAll h j (by omega)
    rw [List.range_succ, List.map_append, ← List.append_assoc]
    have := ih.add (qs := [(x, (j : Int))]) (by omega) (by omega) (.inr (.inl rfl))
    rw [show ((j + 1 : Nat) : Int) = (j : Int) + 1 by omega]
    simpa using this
theorem of_spec {m : Nat} {c : C} {xs : List PyData} (hp : Pot m c) (hm : m < 2 ^ 39) (h0 : 0 < xs.length) (h1 : xs.length < 1000) : ∃ x c', x ∈ xs ∧ F__law_of [.o c, .d (.list xs)] = some (.d x, [some c', none]) ∧ Pot (m + 1) c' := by
  obtain ⟨r, c', e, r0, r1, hc⟩ := take_pot (n := (xs.length : Int)) hp hm (by omega) (by omega)
  have hr : r.toNat < xs.length := by omega
  refine ⟨xs[r.toNat], c', List.getElem_mem hr, runF_rt (δ := [some (.o c), some (.d (.list xs))].set 0 (some (.o c'))) ?_ rfl, hc⟩
  have hix : opIx (.d (.list xs)) (.d (.int r)) = some (.d xs[r.toNat]) := by
    show (atI xs r).map _ = _
    have : atI xs r = some xs[r.toNat] := by
      have := atI_nat (List.getElem?_eq_getElem hr)
      rw [Int.toNat_of_nonneg r0] at this
      exact this
    rw [this]
    rfl
  refine retS_of (bin_ix (a := .d (.list xs)) (δ1 := [some (.o c), some (.d (.list xs))]) rfl (frzP_d (callE_own (i := 0) (δ' := [some (.o c), some (.d (.list xs))]) [.d (.int (xs.length : Int))] (consA_of rfl (consA_of (frzP_d (callB_of rfl rfl rfl)) rfl)) rfl rfl e (Nat.le_refl 1))) hix)
end K06

namespace K06
open PySem PySem.Spec PyProof.Rows L2 DL DLS
def IsM (most : Int) (d : PyData) : Prop := ∃ n ps, d = lotD n ps ∧ Lot n ps ∧ n ≤ most

theorem line_spec {n : Int} (h0 : 0 ≤ n) (h1 : n ≤ 24) : ∃ d, F__law_line [.d (.int n)] = some (.d d, [none]) ∧ IsG d := by
  let I : Nat → Ds → Prop := fun k δ => ∃ (ps : List (Int × Int)) (v : Option S), notOwn v = true ∧ δ = [some (.d (.int n)), some (.o (.l (ps.map pr))), v, none] ∧ OkP k 0 ps ∧ ps.length ≤ 24 * k ∧ Asc ps ∧ ∀ p ∈ ps, p.1 < (k : Nat)
  have step : ∀ (k : Nat) (x : PyData) (δ : Ds), (rng 0 n.toNat)[k]? = some x → I (0 + k) δ → ∃ δ1 δ2, nameG 2 x δ = some δ1 ∧ (exprS (mutL 1 gExt (consA (frzP (lcE [3] (rngI1 (consA (pk 2) nilA)) (nameG 3) yesT (tupE (consA (frzP (vr 2)) (consA (frzP (vr 3)) nilA))))) nilA))) δ1 = some (.nx δ2) ∧ I (0 + k + 1) δ2 := by
    rintro k x δ hx ⟨ps, v, hv, rfl, h2, h3, h4, h5⟩
    rw [Nat.zero_add] at *
    obtain ⟨hk, ex⟩ := List.getElem?_eq_some_iff.mp hx
    have hk' : k < n.toNat := by simpa [rng] using hk
    have ex' : x = .int (0 + (k : Nat)) := by rw [← ex]; simp [rng]
    subst ex'
    generalize ek : (0 : Int) + ((k : Nat) : Int) = kk
    have kk0 : 0 ≤ kk ∧ kk < 24 := by omega
    have hlc : lcE [3] (rngI1 (consA (pk 2) nilA)) (nameG 3) yesT (tupE (consA (frzP (vr 2)) (consA (frzP (vr 3)) nilA))) [some (.d (.int n)), some (.o (.l (ps.map pr))), some (.d (.int kk)), none]
        = some (.o (.l ((rng 0 kk.toNat).map fun y => .tuple [.int kk, y])), [some (.d (.int n)), some (.o (.l (ps.map pr))), some (.d (.int kk)), none]) := by
      refine lcE_map (fun y => .tuple [.int kk, y]) rfl (rngI1_of rfl ⟨by omega, by omega⟩) (fun y hy => rfl) ?_
      have : (rng 0 kk.toNat).length ≤ 24 := by
        simp [rng]
        omega
      exact Nat.le_trans this (by decide)
    have hmap : (rng 0 kk.toNat).map (fun y => PyData.tuple [.int kk, y]) = ((List.range kk.toNat).map fun (j : Nat) => ((kk, (0 : Int) + (j : Nat)) : Int × Int)).map pr := by
      unfold rng
      rw [List.map_map, List.map_map]
      rfl
    rw [hmap] at hlc
    refine ⟨_, _, rfl, exprS_of (mutL_of rfl (consA_of (frzP_l hlc) rfl) rfl rfl (zs := ps.map pr ++ ((List.range kk.toNat).map fun (j : Nat) => ((kk, (0 : Int) + (j : Nat)) : Int × Int)).map pr) (s := .d .none) ?_), ps ++ ((List.range kk.toNat).map fun (j : Nat) => ((kk, (0 : Int) + (j : Nat)) : Int × Int)), some (.d (.int kk)), rfl, ?_, ?_, ?_, ?_, ?_⟩
    · refine if_pos ?_
      rw [List.length_map, List.length_map, List.length_map, List.length_range]
      have : ps.length + kk.toNat ≤ 1000 := by omega
      exact Nat.le_trans this (by decide)
    · rw [List.map_append]
      rfl
    · have hk2 : kk = (k : Int) := by omega
      have := h2.addAll k (by omega)
      rw [hk2, Int.toNat_natCast]
      have := this.next
      rw [show ((k : Int) + 1) = ((k + 1 : Nat) : Int) by omega] at this
      exact this
    · rw [List.length_append, List.length_map, List.length_range]
      omega
    · have hk2 : kk = (k : Int) := by omega
      rw [hk2]
      exact asc_line h4 h5 _
    · intro p hp
      rcases List.mem_append.mp hp with hp | hp
      · have := h5 p hp
        omega
      · obtain ⟨i, _, rfl⟩ := List.mem_map.mp hp
        show kk < _
        omega
  obtain ⟨δ', e, ps, v, hv, rfl, h2, h3, h4, h5⟩ := forD_inv (I := I) (xs := rng 0 n.toNat) (δ := [some (.d (.int n)), some (.o (.l [])), none, none]) 0 ⟨[], none, rfl, rfl, .nil _ _, Nat.le_refl 0, List.Pairwise.nil, fun p hp => nomatch hp⟩ step
  rw [rng_len, Nat.zero_add] at h2 h3
  refine ⟨lotD n ps, runF_rt (δ := [some (.d (.int n)), some (.o (.l (ps.map pr))), v, none]) ?_ rfl, n, ps, rfl, good_raw (by rw [Int.toNat_of_nonneg h0] at h2; exact h2) h4 h0 h1 (by omega)⟩
  refine seqS_of (setS_of (lstE_of rfl rfl (by decide))) ?_
  refine seqS_of (forS_of (rngI1_of rfl ⟨by omega, by omega⟩) e) ?_
  exact retS_of (tupE_of (consA_of rfl (consA_of (frzP_d (callB_of rfl rfl rfl)) rfl)) rfl (show 2 ≤ sizeLine by decide))
def ascB : List (Int × Int) → Bool
  | p :: q :: r => (decide (p.1 < q.1) || (decide (p.1 = q.1) && decide (p.2 < q.2))) && ascB (q :: r)
  | _ => true
theorem ltP_tr {p q r : Int × Int} (h : ltP p q) (k : ltP q r) : ltP p r := by unfold ltP at *; omega
theorem ascB_asc : ∀ {ps : List (Int × Int)}, ascB ps = true → Asc ps
  | [], _ => List.Pairwise.nil
  | [p], _ => List.pairwise_singleton _ _
  | p :: q :: r, h => by
    unfold ascB at h
    rw [Bool.and_eq_true] at h
    have h1 : ltP p q := by
      have := h.1
      simp only [Bool.or_eq_true, Bool.and_eq_true, decide_eq_true_eq] at this
      exact this
    have h2 := ascB_asc h.2
    refine List.pairwise_cons.mpr ⟨fun z hz => ?_, h2⟩
    rcases List.mem_cons.mp hz with e | e
    · rw [e]; exact h1
    · exact ltP_tr h1 ((List.pairwise_cons.mp h2).1 z e)
def okB (n : Int) (ps : List (Int × Int)) : Bool := decide (0 ≤ n) && decide (n ≤ 24) && ascB ps && (ps.all fun p => decide (0 ≤ p.1 ∧ p.1 < n ∧ 0 ≤ p.2 ∧ p.2 < n)) && (ps.all fun p => decide ((p.2, p.1) ∉ ps)) && decide (ps.length ≤ 1000)
theorem okRaw {n : Int} {ps : List (Int × Int)} (h : okB n ps = true) : Lot n ps := by
  unfold okB at h
  simp only [Bool.and_eq_true, decide_eq_true_eq, List.all_eq_true] at h
  obtain ⟨⟨⟨⟨⟨h0, h1⟩, h2⟩, h3⟩, h4⟩, h5⟩ := h
  exact ⟨h0, h1, ascB_asc h2, fun p hp => h3 p hp, fun p hp => h4 p hp, h5⟩
theorem circle3 : F__law_circle [.d (.int 3), .d (.list [.int 1])] = some (.d (lotD 3 [(0, 2), (1, 0), (2, 1)]), [none, none]) := rfl
theorem circle5 : ∃ ps, F__law_circle [.d (.int 5), .d (.list [.int 1, .int 2])] = some (.d (lotD 5 ps), [none, none]) ∧ Lot 5 ps := ⟨[(0, 3), (0, 4), (1, 0), (1, 4), (2, 0), (2, 1), (3, 1), (3, 2), (4, 2), (4, 3)], rfl, okRaw (by decide +kernel)⟩
theorem circle7 : ∃ ps, F__law_circle [.d (.int 7), .d (.list [.int 1, .int 2, .int 4])] = some (.d (lotD 7 ps), [none, none]) ∧ Lot 7 ps := ⟨[(0, 3), (0, 5), (0, 6), (1, 0), (1, 4), (1, 6), (2, 0), (2, 1), (2, 5), (3, 1), (3, 2), (3, 6), (4, 0), (4, 2), (4, 3), (5, 1), (5, 3), (5, 4), (6, 2), (6, 4), (6, 5)], rfl, okRaw (by decide +kernel)⟩
abbrev eA (i j : Nat) (k : Int) : EV := bin opMul (frzP (lstE (consA (frzP (tupE (consA (frzP (vr i)) (consA (frzP (vr j)) nilA)))) nilA))) (frzP (callB fInt (consA (frzP (bin opEq (pk 7) (frzP (cst (.int k))))) nilA)))
theorem eA_val {δ : Ds} {i j : Nat} {k x y r : Int} (hi : vr i δ = some (.d (.int x), δ)) (hj : vr j δ = some (.d (.int y), δ)) (h7 : pk 7 δ = some (.v (.d (.int r)), δ)) :
    eA i j k δ = some (.o (.l ((if r = k then [(x, y)] else []).map pr)), δ) := by
  have hl : lstE (consA (frzP (tupE (consA (frzP (vr i)) (consA (frzP (vr j)) nilA)))) nilA) δ = some (.o (.l [pr (x, y)]), δ) :=
    lstE_of (consA_of (frzP_d (tupE_of (consA_of (frzP_d hi) (consA_of (frzP_d hj) rfl)) rfl (show 2 ≤ sizeLine by decide))) rfl) rfl (show 1 ≤ sizeLine by decide)
  have hq : bin opEq (pk 7) (frzP (cst (.int k))) δ = some (.d (.bool (r == k)), δ) := bin_of h7 rfl rfl rfl rfl
  by_cases h : r = k
  · rw [if_pos h]
    rw [show (r == k) = true by simpa using h] at hq
    exact bin_of (frzP_l hl) (frzP_d (callB_of (consA_of (frzP_d hq) rfl) rfl rfl)) rfl rfl rfl
  · rw [if_neg h]
    rw [show (r == k) = false by simpa using h] at hq
    exact bin_of (frzP_l hl) (frzP_d (callB_of (consA_of (frzP_d hq) rfl) rfl rfl)) rfl rfl rfl
abbrev bodyIn : SEV := seqS (setS 7 (callE F__law_take 2 (consA (pk 0) (consA (frzP (vr 4)) nilA)))) (exprS (mutL 5 gExt (consA (frzP (bin opAdd (frzP (eA 2 6 0)) (frzP (eA 6 2 1)))) nilA)))
theorem in_step {M : Nat} {c : C} {most x y size share : Int} {ps : List (Int × Int)} {v7 : Option S} (hp : Pot M c) (hM : M < 2 ^ 38) (hs : 2 ≤ share ∧ share ≤ 4) (hxy : y < x) (y0 : 0 ≤ y) (hl : ps.length ≤ 1900) (ok : OkP x y ps) :
    ∃ (c' : C) (qs : List (Int × Int)) (v : Option S), bodyIn [some (.o c), some (.d (.int most)), some (.d (.int x)), some (.d (.int size)), some (.d (.int share)), some (.o (.l (ps.map pr))), some (.d (.int y)), v7] = some (.nx [some (.o c'), some (.d (.int most)), some (.d (.int x)), some (.d (.int size)), some (.d (.int share)), some (.o (.l (qs.map pr))), some (.d (.int y)), v]) ∧ Pot (M + 1) c' ∧ qs.length ≤ ps.length + 1 ∧ OkP x (y + 1) qs := by
  obtain ⟨r, c', e, r0, r1, hc⟩ := take_pot (n := share) hp (by omega) (by omega) (by omega)
  let δ : Ds := [some (.o c'), some (.d (.int most)), some (.d (.int x)), some (.d (.int size)), some (.d (.int share)), some (.o (.l (ps.map pr))), some (.d (.int y)), some (.d (.int r))]
  have a1 := eA_val (δ := δ) (i := 2) (j := 6) (k := 0) (x := x) (y := y) (r := r) rfl rfl rfl
  have b1 := eA_val (δ := δ) (i := 6) (j := 2) (k := 1) (x := y) (y := x) (r := r) rfl rfl rfl
  generalize eq1 : (if r = 0 then [(x, y)] else []) = q1 at a1
  generalize eq2 : (if r = 1 then [(y, x)] else []) = q2 at b1
  have hone : OneOf x y (q1 ++ q2) := by
    rw [← eq1, ← eq2]
    by_cases h0 : r = 0
    · rw [if_pos h0, if_neg (by omega)]
      exact .inr (.inl rfl)
    · rw [if_neg h0]
      by_cases h1 : r = 1
      · rw [if_pos h1]
        exact .inr (.inr rfl)
      · rw [if_neg h1]
        exact .inl rfl
  have hq := oneOf_len hone
  refine ⟨c', ps ++ (q1 ++ q2), some (.d (.int r)), seqS_of (setS_of (callE_own (i := 0) (δ' := [some (.o c), some (.d (.int most)), some (.d (.int x)), some (.d (.int size)), some (.d (.int share)), some (.o (.l (ps.map pr))), some (.d (.int y)), v7]) [.d (.int share)] rfl rfl rfl e (Nat.le_refl 1))) ?_, hc, ?_, ok.add hxy y0 hone⟩
  · show exprS _ δ = _
    have hadd : opAdd (.d (.list (q1.map pr))) (.d (.list (q2.map pr))) = some (.o (.l ((q1 ++ q2).map pr))) := by
      rw [List.map_append]
      refine if_pos ?_
      rw [List.length_map, List.length_map]
      rw [List.length_append] at hq
      exact Nat.le_trans (show q1.length + q2.length ≤ 2 by omega) (by decide)
    have hm : gExt (ps.map pr) [.list ((q1 ++ q2).map pr)] = some (.d .none, (ps ++ (q1 ++ q2)).map pr) := by
      rw [List.map_append (l₁ := ps)]
      refine if_pos ?_
      rw [List.length_map, List.length_map]
      exact Nat.le_trans (show ps.length + (q1 ++ q2).length ≤ 2000 by omega) (by decide)
    have h5 : exprS (mutL 5 gExt (consA (frzP (bin opAdd (frzP (eA 2 6 0)) (frzP (eA 6 2 1)))) nilA)) δ = some (.nx (δ.set 5 (some (.o (.l ((ps ++ (q1 ++ q2)).map pr)))))) := exprS_of (mutL_of rfl (consA_of (frzP_l (bin_of (frzP_l a1) (frzP_l b1) rfl rfl hadd)) rfl) rfl rfl hm)
    exact h5
  · rw [List.length_append]
    omega
theorem drawn_spec {m : Nat} {c : C} {most : Int} (hp : Pot m c) (hm : m < 2 ^ 30) (h0 : 0 ≤ most) (h1 : most ≤ 24) : ∃ d c', F__law_drawn [.o c, .d (.int most)] = some (.d d, [some c', none]) ∧ IsM most d ∧ Pot (m + 1000) c' := by
  obtain ⟨size, c1, e1, r0, r1, hc1⟩ := take_pot (n := most + 1) hp (by omega) (by omega) (by omega)
  obtain ⟨s2, c2, e2, q0, q1, hc2⟩ := take_pot (n := 3) hc1 (by omega) (by omega) (by omega)
  let I : Nat → Ds → Prop := fun k δ => ∃ (c : C) (ps : List (Int × Int)) (v2 v6 v7 : Option S), δ = [some (.o c), some (.d (.int most)), v2, some (.d (.int size)), some (.d (.int (2 + s2))), some (.o (.l (ps.map pr))), v6, v7] ∧ Pot (m + 2 + 24 * k) c ∧ ps.length ≤ 24 * k ∧ OkP k 0 ps
  have step : ∀ (k : Nat) (x : PyData) (δ : Ds), (rng 0 size.toNat)[k]? = some x → I (0 + k) δ → ∃ δ1 δ2, nameG 2 x δ = some δ1 ∧ (forS (rngI1 (consA (pk 2) nilA)) (nameG 6) bodyIn) δ1 = some (.nx δ2) ∧ I (0 + k + 1) δ2 := by
    rintro k x δ hx ⟨c, ps, v2, v6, v7, rfl, hpc, hl, ok⟩
    obtain ⟨hk, rfl⟩ := rng_at hx
    rw [Nat.zero_add] at *
    rw [Int.zero_add]
    have hk24 : k < 24 := by omega
    let J : Nat → Ds → Prop := fun j δ => ∃ (c : C) (qs : List (Int × Int)) (v6 v7 : Option S), δ = [some (.o c), some (.d (.int most)), some (.d (.int (k : Nat))), some (.d (.int size)), some (.d (.int (2 + s2))), some (.o (.l (qs.map pr))), v6, v7] ∧ Pot (m + 2 + 24 * k + j) c ∧ qs.length ≤ 24 * k + 1 * j ∧ OkP k j qs
    have inner : ∀ (j : Nat) (y : PyData) (δ : Ds), (rng 0 ((k : Nat) : Int).toNat)[j]? = some y → J (0 + j) δ → ∃ δ1 δ2, nameG 6 y δ = some δ1 ∧ bodyIn δ1 = some (.nx δ2) ∧ J (0 + j + 1) δ2 := by
      rintro j y δ hy ⟨c, qs, w6, w7, rfl, hpc, hl, ok⟩
      obtain ⟨hj, rfl⟩ := rng_at hy
      rw [Nat.zero_add] at *
      rw [Int.zero_add]
      have hj' : j < k := by omega
      obtain ⟨c', qs', v, e, hc', hl', ok'⟩ := in_step (most := most) (x := (k : Nat)) (y := (j : Nat)) (size := size) (share := 2 + s2) (v7 := w7) hpc (by omega) (by omega) (by omega) (by omega) (by omega) ok
      rw [show ((j : Int) + 1) = ((j + 1 : Nat) : Int) by omega] at ok'
      exact ⟨_, _, rfl, e, c', qs', _, v, rfl, hc'.mono (by omega), by omega, ok'⟩
    obtain ⟨δ', e, c', qs, w6, w7, rfl, hc', hl', ok'⟩ := forD_inv (I := J) (xs := rng 0 ((k : Nat) : Int).toNat) (δ := [some (.o c), some (.d (.int most)), some (.d (.int (k : Nat))), some (.d (.int size)), some (.d (.int (2 + s2))), some (.o (.l (ps.map pr))), v6, v7]) 0 ⟨c, ps, v6, v7, rfl, by simpa using hpc, by omega, ok⟩ inner
    rw [rng_len, Nat.zero_add, Int.toNat_natCast] at hc' hl' ok'
    have ok'' := ok'.next
    rw [show ((k : Int) + 1) = ((k + 1 : Nat) : Int) by omega] at ok''
    exact ⟨_, _, rfl, forS_of (rngI1_of rfl ⟨by omega, by omega⟩) e, c', qs, _, w6, w7, rfl, hc'.mono (by omega), by omega, ok''⟩
  obtain ⟨δ', e, c', ps, v2, v6, v7, rfl, hc', hl, ok⟩ := forD_inv (I := I) (xs := rng 0 size.toNat) (δ := [some (.o c2), some (.d (.int most)), none, some (.d (.int size)), some (.d (.int (2 + s2))), some (.o (.l [])), none, none]) 0 ⟨c2, [], none, none, none, rfl, hc2.mono (by omega), Nat.le_refl 0, .nil _ _⟩ step
  rw [rng_len, Nat.zero_add] at hc' hl ok
  refine ⟨lotD size (sortP ps), c', runF_rt (δ := [some (.o c'), some (.d (.int most)), v2, some (.d (.int size)), some (.d (.int (2 + s2))), some (.o (.l (ps.map pr))), v6, v7]) ?_ rfl, ⟨size, sortP ps, rfl, good_of (x := 0) (by rw [Int.toNat_of_nonneg r0] at ok; exact ok) r0 (by omega) (by omega), by omega⟩, hc'.mono (by omega)⟩
  have hpar : parS [3, 4, 5] (consF (callE F__law_take 2 (consA (pk 0) (consA (frzP (bin opAdd (pk 1) (frzP (cst (.int 1))))) nilA))) (consF (bin opAdd (frzP (cst (.int 2))) (frzP (callE F__law_take 2 (consA (pk 0) (consA (frzP (cst (.int 3))) nilA))))) (consF (lstE nilA) nilF))) [some (.o c), some (.d (.int most)), none, none, none, none, none, none]
      = some (.nx (setsD [3, 4, 5] [.d (.int size), .d (.int (2 + s2)), .o (.l [])] [some (.o c2), some (.d (.int most)), none, none, none, none, none, none])) := by
    refine parS_of (consF_of (callE_own (i := 0) (δ' := [some (.o c), some (.d (.int most)), none, none, none, none, none, none]) [.d (.int (most + 1))] (consA_of rfl (consA_of (frzP_d (bin_add rfl rfl)) rfl)) rfl rfl e1 (Nat.le_refl 1)) ?_) rfl
    show consF _ _ [some (.o c1), some (.d (.int most)), none, none, none, none, none, none] = _
    have h2 : bin opAdd (frzP (cst (.int 2))) (frzP (callE F__law_take 2 (consA (pk 0) (consA (frzP (cst (.int 3))) nilA)))) [some (.o c1), some (.d (.int most)), none, none, none, none, none, none] = some (.d (.int (2 + s2)), [some (.o c2), some (.d (.int most)), none, none, none, none, none, none]) :=
      bin_add (i := 2) (j := s2) rfl (frzP_d (callE_own (i := 0) (δ' := [some (.o c1), some (.d (.int most)), none, none, none, none, none, none]) [.d (.int 3)] rfl rfl rfl e2 (Nat.le_refl 1)))
    exact consF_of h2 (consF_of (lstE_of rfl rfl (by decide)) rfl)
  refine seqS_of hpar ?_
  refine seqS_of (forS_of (rngI1_of rfl ⟨by omega, by omega⟩) e) ?_
  have hs : callB fSorted (consA (pk 5) nilA) [some (.o c'), some (.d (.int most)), v2, some (.d (.int size)), some (.d (.int (2 + s2))), some (.o (.l (ps.map pr))), v6, v7] = some (.o (.l ((sortP ps).map pr)), [some (.o c'), some (.d (.int most)), v2, some (.d (.int size)), some (.d (.int (2 + s2))), some (.o (.l (ps.map pr))), v6, v7]) := by
    refine callB_of rfl rfl ?_
    show (prs (ps.map pr)).map _ = _
    rw [prs_map]
    rfl
  exact retS_of (tupE_of (consA_of rfl (consA_of (frzP_d (callB_of (consA_of (frzP_l hs) rfl) rfl rfl)) rfl)) rfl (show 2 ≤ sizeLine by decide))
theorem lot_spec {m : Nat} {c : C} {most : Int} (hp : Pot m c) (hm : m < 2 ^ 29) (h0 : 0 ≤ most) (h1 : most ≤ 24) : ∃ d c', F__law_lot [.o c, .d (.int most)] = some (.d d, [some c', none]) ∧ IsM most d ∧ Pot (m + 2000) c' := by
  obtain ⟨p5, e5, ok5⟩ := circle5
  obtain ⟨p7, e7, ok7⟩ := circle7
  obtain ⟨r, c1, e1, r0, r1, hc1⟩ := take_pot (n := most + 1) hp (by omega) (by omega) (by omega)
  obtain ⟨ld, el, hld⟩ := line_spec (n := r) r0 (by omega)
  obtain ⟨dd, c2, ed, hdd, hc2⟩ := drawn_spec (most := most) hc1 (by omega) h0 h1
  let L3 := lotD 3 [(0, 2), (1, 0), (2, 1)]
  have is3 : IsG L3 := ⟨3, _, rfl, okRaw (by decide +kernel)⟩
  have is5 : IsG (lotD 5 p5) := ⟨5, _, rfl, ok5⟩
  have is7 : IsG (lotD 7 p7) := ⟨7, _, rfl, ok7⟩
  let xs : List PyData := [L3, lotD 5 p5, lotD 7 p7, ld]
  have isx : ∀ x ∈ xs, IsG x := fun x hx => by
    rcases List.mem_cons.mp hx with e | hx
    · rw [e]; exact is3
    · rcases List.mem_cons.mp hx with e | hx
      · rw [e]; exact is5
      · rcases List.mem_cons.mp hx with e | hx
        · rw [e]; exact is7
        · rw [List.mem_singleton.mp hx]; exact hld
  let le : PyData → Bool := fun x => match x with
    | .tuple (.int n :: _) => pLe n most
    | _ => false
  let ys := (xs.filter le).map id
  have ysl : ys.length ≤ 4 := by
    show ((xs.filter le).map id).length ≤ 4
    rw [List.length_map]
    exact List.length_filter_le _ _
  have ysm : ∀ x ∈ ys, IsM most x := fun x hx => by
    obtain ⟨y, hy, rfl⟩ := List.mem_map.mp hx
    obtain ⟨h1, h2⟩ := List.mem_filter.mp hy
    obtain ⟨n, ps, rfl, hl⟩ := isx _ h1
    exact ⟨n, ps, rfl, hl, of_decide_eq_true h2⟩
  obtain ⟨x, c3, hx, eo, hc3⟩ := of_spec (xs := [dd, dd, dd, dd] ++ ys) hc2 (by omega) (by rw [List.length_append]; show 0 < 4 + _; omega) (by rw [List.length_append]; show 4 + _ < 1000; omega)
  have isr : IsM most x := by
    rcases List.mem_append.mp hx with hx | hx
    · have : x = dd := by simpa using hx
      rw [this]; exact hdd
    · exact ysm x hx
  refine ⟨x, c3, runF_rt (δ := [some (.o c2), some (.d (.int most)), some (.o (.l ys)), none].set 0 (some (.o c3))) ?_ rfl, isr, hc3.mono (by omega)⟩
  have s1 : setS 2 (lstE (consA (frzP (callE F__law_circle 2 (consA (frzP (cst (.int 3))) (consA (frzP (lstE (consA (frzP (cst (.int 1))) nilA))) nilA)))) (consA (frzP (callE F__law_circle 2 (consA (frzP (cst (.int 5))) (consA (frzP (lstE (consA (frzP (cst (.int 1))) (consA (frzP (cst (.int 2))) nilA)))) nilA)))) (consA (frzP (callE F__law_circle 2 (consA (frzP (cst (.int 7))) (consA (frzP (lstE (consA (frzP (cst (.int 1))) (consA (frzP (cst (.int 2))) (consA (frzP (cst (.int 4))) nilA))))) nilA)))) nilA)))) [some (.o c), some (.d (.int most)), none, none]
      = some (.nx ([some (.o c), some (.d (.int most)), none, none].set 2 (some (.o (.l [L3, lotD 5 p5, lotD 7 p7]))))) := by
    refine setS_of (lstE_of (consA_of (frzP_d (callE_data [.d (.int 3), .d (.list [.int 1])] rfl rfl circle3 (Nat.le_refl 2))) (consA_of (frzP_d (callE_data [.d (.int 5), .d (.list [.int 1, .int 2])] rfl rfl e5 (Nat.le_refl 2))) (consA_of (frzP_d (callE_data [.d (.int 7), .d (.list [.int 1, .int 2, .int 4])] rfl rfl e7 (Nat.le_refl 2))) rfl))) rfl (show 3 ≤ sizeLine by decide))
  refine seqS_of s1 ?_
  have s2 : exprS (mutL 2 gApp (consA (frzP (callE F__law_line 1 (consA (frzP (callE F__law_take 2 (consA (pk 0) (consA (frzP (bin opAdd (pk 1) (frzP (cst (.int 1))))) nilA)))) nilA))) nilA)) [some (.o c), some (.d (.int most)), some (.o (.l [L3, lotD 5 p5, lotD 7 p7])), none]
      = some (.nx ([some (.o c1), some (.d (.int most)), some (.o (.l [L3, lotD 5 p5, lotD 7 p7])), none].set 2 (some (.o (.l xs))))) := by
    have ht : callE F__law_take 2 (consA (pk 0) (consA (frzP (bin opAdd (pk 1) (frzP (cst (.int 1))))) nilA)) [some (.o c), some (.d (.int most)), some (.o (.l [L3, lotD 5 p5, lotD 7 p7])), none] = some (.d (.int r), [some (.o c1), some (.d (.int most)), some (.o (.l [L3, lotD 5 p5, lotD 7 p7])), none]) :=
      callE_own (i := 0) (δ' := [some (.o c), some (.d (.int most)), some (.o (.l [L3, lotD 5 p5, lotD 7 p7])), none]) [.d (.int (most + 1))] (consA_of rfl (consA_of (frzP_d (bin_add rfl rfl)) rfl)) rfl rfl e1 (Nat.le_refl 1)
    exact exprS_of (mutL_of rfl (consA_of (frzP_d (callE_data [.d (.int r)] (consA_of (frzP_d ht) rfl) rfl el (Nat.le_refl 1))) rfl) rfl rfl rfl)
  refine seqS_of s2 ?_
  have s3 : setS 2 (lcE [3] (seqI (vr 2)) (nameG 3) (bl (bin (cmpI pLe) (frzP (bin opIx (pk 3) (frzP (cst (.int 0))))) (pk 1))) (vr 3)) [some (.o c1), some (.d (.int most)), some (.o (.l xs)), none]
      = some (.nx ([some (.o c1), some (.d (.int most)), some (.d (.list xs)), none].set 2 (some (.o (.l ys))))) := by
    refine setS_of (lcE_pure1 le id rfl rfl (fun z hz => ?_) (fun z hz _ => rfl) (show 4 ≤ sizeLine by decide))
    obtain ⟨n, ps, rfl, _⟩ := isx z hz
    exact bl_of (bin_cmp (frzP_d (bin_ix rfl rfl rfl)) rfl)
  refine seqS_of s3 ?_
  show retS _ [some (.o c1), some (.d (.int most)), some (.o (.l ys)), none] = _
  have hdr : callE F__law_drawn 2 (consA (pk 0) (consA (frzP (vr 1)) nilA)) [some (.o c1), some (.d (.int most)), some (.o (.l ys)), none] = some (.d dd, [some (.o c2), some (.d (.int most)), some (.o (.l ys)), none]) :=
    callE_own (i := 0) (δ' := [some (.o c1), some (.d (.int most)), some (.o (.l ys)), none]) [.d (.int most)] rfl rfl rfl ed (Nat.le_refl 1)
  have hadd : opAdd (.d (.list [dd, dd, dd, dd])) (.o (.l ys)) = some (.o (.l ([dd, dd, dd, dd] ++ ys))) := by
    refine if_pos ?_
    show 4 + ys.length ≤ sizeLine
    have : 4 + ys.length ≤ 8 := by omega
    exact Nat.le_trans this (by decide)
  have harg : bin opAdd (frzP (bin opMul (frzP (lstE (consA (frzP (callE F__law_drawn 2 (consA (pk 0) (consA (frzP (vr 1)) nilA)))) nilA))) (frzP (cst (.int 4))))) (pk 2) [some (.o c1), some (.d (.int most)), some (.o (.l ys)), none] = some (.o (.l ([dd, dd, dd, dd] ++ ys)), [some (.o c2), some (.d (.int most)), some (.o (.l ys)), none]) := by
    have hmul : bin opMul (frzP (lstE (consA (frzP (callE F__law_drawn 2 (consA (pk 0) (consA (frzP (vr 1)) nilA)))) nilA))) (frzP (cst (.int 4))) [some (.o c1), some (.d (.int most)), some (.o (.l ys)), none] = some (.o (.l [dd, dd, dd, dd]), [some (.o c2), some (.d (.int most)), some (.o (.l ys)), none]) :=
      bin_of (frzP_l (lstE_of (consA_of (frzP_d hdr) rfl) rfl (show 1 ≤ sizeLine by decide))) rfl rfl rfl rfl
    exact bin_of (frzP_l hmul) rfl rfl rfl hadd
  exact retS_of (callE_own (i := 0) (δ' := [some (.o c2), some (.d (.int most)), some (.o (.l ys)), none]) [.d (.list ([dd, dd, dd, dd] ++ ys))] (consA_of rfl (consA_of (frzP_l harg) rfl)) rfl rfl eo (Nat.le_refl 1))
end K06

namespace K06
open PySem PySem.Spec PyProof.Rows L2 DL

def later (ps : List (Int × Int)) (x y : Int) : Bool := ps.any fun p => decide (p.1 = x ∧ p.2 = y)
abbrev intsD (ms : List Int) : List PyData := ms.map PyData.int
abbrev tupD (ms : List Int) : PyData := .tuple (intsD ms)
def intOf : PyData → Int
  | .int i => i
  | _ => 0
def intsOf : PyData → List Int
  | .tuple ds => ds.map intOf
  | _ => []
theorem intsOf_tup (ms : List Int) : intsOf (tupD ms) = ms := by
  show (ms.map PyData.int).map intOf = ms
  rw [List.map_map]
  exact List.map_id ms
def aboveL (n : Int) (ps : List (Int × Int)) (ms : List Int) : List Int := (upto n).filter fun m => ms.all (later ps m)
/-! the pairs as a table -/
def kfI (x : PyData) : List Key := keyI (intsOf x)
def tabL (ps : List (Int × Int)) : Tb := putAll kfI (fun _ => .bool true) (ps.map pr) []
theorem tab_has (ps : List (Int × Int)) (x y : Int) : hasK (tabL ps) (keyI [x, y]) = later ps x y := by
  unfold tabL later
  rw [putAll_has, List.any_map]
  show (false || _) = _
  rw [Bool.false_or]
  congr 1
  funext p
  show decide (keyI (intsOf (pr p)) = keyI [x, y]) = _
  have e : intsOf (pr p) = [p.1, p.2] := rfl
  rw [e]
  by_cases h : p.1 = x ∧ p.2 = y
  · rw [decide_eq_true h, h.1, h.2, decide_eq_true rfl]
  · rw [decide_eq_false h, decide_eq_false]
    intro z
    have := keyI_inj z
    exact h ⟨(List.cons.inj this).1, (List.cons.inj (List.cons.inj this).2).1⟩
theorem later_table_eq (n : Int) (ps : List (Int × Int)) (hl : ps.length ≤ sizeLine) : F_later_table [.d (lotD n ps)] = some (.o (.t ⟨false, tabL ps⟩), [none]) := by
  refine runF_rt (δ := [some (.d (lotD n ps)), none]) ?_ rfl
  refine retS_of (dcE_gen kfI (fun _ => .bool true) (seqI_of (bin_ix rfl rfl rfl) (.inr rfl)) rfl rfl (fun x hx => ?_) (by rw [List.length_map]; exact hl))
  obtain ⟨p, _, rfl⟩ := List.mem_map.mp hx
  exact ⟨_, pr p, .d (.bool true), rfl, rfl, rfl, rfl, rfl, rfl, rfl⟩
theorem still_above_eq (ps : List (Int × Int)) (hs : List Int) (m : Int) (hl : hs.length ≤ sizeLine) : F_still_above [.t ⟨false, tabL ps⟩, .d (tupD hs), .d (.int m)] = some (.d (tupD (hs.filter fun x => later ps x m)), [none, none, none]) := by
  refine runF_rt (δ := [some (.t ⟨false, tabL ps⟩), some (.d (tupD hs)), some (.d (.int m)), none]) ?_ rfl
  have hlc := lcE_pure (i := 3) (fi := seqI (vr 1)) (tt := bl (bin (opInX false) (frzP (tupE (consA (frzP (vr 3)) (consA (frzP (vr 2)) nilA)))) (pk 0))) (te := vr 3) (δ := [some (.t ⟨false, tabL ps⟩), some (.d (tupD hs)), some (.d (.int m)), none]) (xs := intsD hs) (fun x => later ps (intOf x) m) id rfl rfl (fun x hx => by
    obtain ⟨y, _, rfl⟩ := List.mem_map.mp hx
    have e : opInX false (.d (.tuple [.int y, .int m])) (.t ⟨false, tabL ps⟩) = some (.d (.bool (later ps y m))) := by
      have := in_tab (neg := false) (r := [y, m]) (s := .t ⟨false, tabL ps⟩) rfl
      rw [tab_has, Bool.false_xor] at this
      exact this
    exact bl_of (bin_of (frzP_d (tupE_of rfl rfl (show 2 ≤ sizeLine by decide))) rfl rfl rfl e)) (fun x hx _ => rfl) (by rw [List.length_map]; exact hl)
  have e2 : ((intsD hs).filter fun x => later ps (intOf x) m).map id = intsD (hs.filter fun x => later ps x m) := by
    rw [List.map_id, List.filter_map]
    rfl
  rw [e2] at hlc
  exact retS_of (callB_of (consA_of (frzP_of hlc) rfl) rfl rfl)
/-! rows, each with what is above it -/
abbrev RA := List Int × List Int
def enc (p : RA) : PyData := .tuple [tupD p.1, tupD p.2]
def dec : PyData → RA
  | .tuple [a, b] => (intsOf a, intsOf b)
  | _ => ([], [])
theorem dec_enc (p : RA) : dec (enc p) = p := by
  show (intsOf (tupD p.1), intsOf (tupD p.2)) = p
  rw [intsOf_tup, intsOf_tup]
def grow (ps : List (Int × Int)) (p : RA) : List RA := p.2.map fun m => (p.1 ++ [m], p.2.filter fun x => later ps x m)
def rowsA (n : Int) (ps : List (Int × Int)) : Nat → List RA
  | 0 => [([], upto n)]
  | s + 1 => (rowsA n ps s).flatMap (grow ps)
theorem grown_eq (ps : List (Int × Int)) (fs : List RA) (h1 : ∀ p ∈ fs, p.1.length < 1000 ∧ p.2.length ≤ 1000) (hl : (fs.flatMap (grow ps)).length ≤ sizeLine) :
    F_grown [.t ⟨false, tabL ps⟩, .d (.list (fs.map enc))] = some (.o (.l ((fs.flatMap (grow ps)).map enc)), [none, none]) := by
  refine runF_rt (δ := [some (.t ⟨false, tabL ps⟩), some (.d (.list (fs.map enc))), none, none, none]) ?_ rfl
  have e : (fs.map enc).flatMap (fun x => (grow ps (dec x)).map enc) = (fs.flatMap (grow ps)).map enc := by
    rw [List.flatMap_map, List.map_flatMap]
    congr 1
    funext p
    rw [dec_enc]
  rw [← e]
  refine retS_of (lc2E_gen (fun x => (grow ps (dec x)).map enc) (δ1 := [some (.t ⟨false, tabL ps⟩), some (.d (.list (fs.map enc))), none, none, none]) rfl rfl rfl (fun x hx => ?_) (by rw [e, List.length_map]; exact hl))
  obtain ⟨p, hp, rfl⟩ := List.mem_map.mp hx
  obtain ⟨l1, l2⟩ := h1 p hp
  refine ⟨[some (.t ⟨false, tabL ps⟩), some (.d (.list (fs.map enc))), none, some (.d (tupD p.1)), some (.d (tupD p.2))], intsD p.2, [some (.t ⟨false, tabL ps⟩), some (.d (.list (fs.map enc))), none, some (.d (tupD p.1)), some (.d (tupD p.2))], rfl, rfl, rfl, ?_, rfl, rfl⟩
  have := lcD_gen (vs := [2]) (g := nameG 2) (tt := yesT) (te := tupE (consA (frzP (bin opAdd (pk 3) (frzP (tupE (consA (frzP (vr 2)) nilA))))) (consA (frzP (callE F_still_above 3 (consA (frzP (vr 0)) (consA (frzP (vr 4)) (consA (frzP (vr 2)) nilA))))) nilA))) (δ := [some (.t ⟨false, tabL ps⟩), some (.d (.list (fs.map enc))), none, some (.d (tupD p.1)), some (.d (tupD p.2))]) (p := fun _ => true) (h := fun y => enc (p.1 ++ [intOf y], p.2.filter fun x => later ps x (intOf y))) (xs := intsD p.2) (fun y hy => by
    obtain ⟨m, _, rfl⟩ := List.mem_map.mp hy
    refine ⟨[some (.t ⟨false, tabL ps⟩), some (.d (.list (fs.map enc))), some (.d (.int m)), some (.d (tupD p.1)), some (.d (tupD p.2))], rfl, rfl, rfl, rfl, fun _ => ⟨.d (enc (p.1 ++ [m], p.2.filter fun x => later ps x m)), ?_, rfl⟩⟩
    have ha : opAdd (.d (tupD p.1)) (.d (.tuple [.int m])) = some (.d (tupD (p.1 ++ [m]))) := by
      show (if (intsD p.1).length + [PyData.int m].length ≤ sizeLine then some (S.d (.tuple (intsD p.1 ++ [.int m]))) else none) = _
      rw [if_pos (by rw [List.length_map]; exact Nat.le_trans (show p.1.length + 1 ≤ 1000 by omega) (by decide))]
      show _ = some (S.d (.tuple ((p.1 ++ [m]).map PyData.int)))
      rw [List.map_append]
      rfl
    exact tupE_of (consA_of (frzP_d (bin_of rfl (frzP_d (tupE_of rfl rfl (show 1 ≤ sizeLine by decide))) rfl rfl ha)) (consA_of (frzP_d (callE_data [.t ⟨false, tabL ps⟩, .d (tupD p.2), .d (.int m)] rfl rfl (still_above_eq ps p.2 m (Nat.le_trans l2 (by decide))) (Nat.le_refl 3))) rfl)) rfl (show 2 ≤ sizeLine by decide))
  have e3 : (intsD p.2).filter (fun _ => true) = intsD p.2 := List.filter_eq_self.mpr fun _ _ => rfl
  rw [e3] at this
  have e4 : (intsD p.2).map (fun y => enc (p.1 ++ [intOf y], p.2.filter fun x => later ps x (intOf y))) = (grow ps (dec (enc p))).map enc := by
    rw [dec_enc]
    unfold grow
    rw [List.map_map, List.map_map]
    rfl
  rw [e4] at this
  exact this
end K06

namespace K06
open PySem PySem.Spec PyProof.Rows L2 DL

theorem rng_ints (n : Int) : rng 0 n.toNat = intsD (upto n) := by
  unfold rng upto intsD
  rw [List.map_map]
  rfl
/-! what rowsA has -/
theorem rows_above (n : Int) (ps : List (Int × Int)) : ∀ (s : Nat), ∀ p ∈ rowsA n ps s, p.2 = aboveL n ps p.1 ∧ p.1.length = s ∧ p.1.Pairwise (fun a b => later ps b a = true)
  | 0, p, hp => by
    rw [List.mem_singleton.mp hp]
    refine ⟨?_, rfl, .nil⟩
    show upto n = (upto n).filter fun m => ([] : List Int).all (later ps m)
    exact (List.filter_eq_self.mpr fun _ _ => rfl).symm
  | s + 1, p, hp => by
    obtain ⟨q, hq, hp⟩ := List.mem_flatMap.mp hp
    obtain ⟨h1, h2, h3⟩ := rows_above n ps s q hq
    obtain ⟨m, hm, rfl⟩ := List.mem_map.mp hp
    refine ⟨?_, by simp [h2], ?_⟩
    · show q.2.filter (fun x => later ps x m) = (upto n).filter fun x => (q.1 ++ [m]).all (later ps x)
      rw [h1]
      unfold aboveL
      rw [List.filter_filter]
      congr 1
      funext x
      rw [List.all_append, Bool.and_comm]
      simp
    · refine List.pairwise_append.mpr ⟨h3, List.pairwise_singleton _ _, fun a ha b hb => ?_⟩
      rw [List.mem_singleton.mp hb]
      rw [h1] at hm
      exact List.all_eq_true.mp (List.mem_filter.mp hm).2 a ha
theorem rows_all (n : Int) (ps : List (Int × Int)) : ∀ (s : Nat) (r : List Int), r.length = s → (∀ a ∈ r, a ∈ upto n) → r.Pairwise (fun a b => later ps b a = true) → ∃ p ∈ rowsA n ps s, p.1 = r
  | 0, r, hl, _, _ => by
    have : r = [] := List.length_eq_zero_iff.mp hl
    subst this
    exact ⟨_, List.mem_singleton.mpr rfl, rfl⟩
  | s + 1, r, hl, hm, hr => by
    have hne : r ≠ [] := fun z => by rw [z] at hl; cases hl
    have er := List.dropLast_concat_getLast hne
    generalize r.dropLast = q at er
    generalize r.getLast hne = m at er
    subst er
    obtain ⟨h1, h2, h3⟩ := List.pairwise_append.mp hr
    obtain ⟨p, hp, rfl⟩ := rows_all n ps s q (by simpa using hl) (fun a ha => hm a (List.mem_append_left _ ha)) h1
    refine ⟨(p.1 ++ [m], p.2.filter fun x => later ps x m), List.mem_flatMap.mpr ⟨p, hp, List.mem_map.mpr ⟨m, ?_, rfl⟩⟩, rfl⟩
    rw [(rows_above n ps s p hp).1]
    exact List.mem_filter.mpr ⟨hm m (by simp), List.all_eq_true.mpr fun a ha => h3 a ha m (by simp)⟩
theorem above_le (n : Int) (ps : List (Int × Int)) (r : List Int) : (aboveL n ps r).length ≤ n.toNat := by
  have := List.length_filter_le (fun m => r.all (later ps m)) (upto n)
  rw [upto_len] at this
  exact this
theorem rows_len (n : Int) (ps : List (Int × Int)) : ∀ s : Nat, (rowsA n ps s).length ≤ n.toNat ^ s
  | 0 => Nat.le_refl _
  | s + 1 => by
    have ih := rows_len n ps s
    have : ∀ l : List RA, (∀ p ∈ l, p.2.length ≤ n.toNat) → (l.flatMap (grow ps)).length ≤ l.length * n.toNat := by
      intro l
      induction l with
      | nil => intro _; simp
      | cons p l ihl =>
        intro h
        have h1 := h p List.mem_cons_self
        have h2 := ihl fun q hq => h q (List.mem_cons_of_mem _ hq)
        rw [List.flatMap_cons, List.length_append, List.length_cons, Nat.add_mul, Nat.one_mul]
        have h3 : (grow ps p).length = p.2.length := by simp [grow]
        omega
    have h1 := this (rowsA n ps s) fun p hp => by
      rw [(rows_above n ps s p hp).1]
      exact above_le n ps p.1
    show ((rowsA n ps s).flatMap (grow ps)).length ≤ _
    rw [Nat.pow_succ]
    exact Nat.le_trans h1 (Nat.mul_le_mul_right _ ih)
theorem rows_with_above_eq (n : Int) (ps : List (Int × Int)) (s : Nat) (hp : ps.length ≤ sizeLine) (h0 : 0 ≤ n) (h1 : n ≤ 1000) (hs : s < 900) (hz : ∀ k, k ≤ s → (rowsA n ps k).length ≤ sizeLine) :
    F_rows_with_above [.d (lotD n ps), .d (.int s)] = some (.d (.list ((rowsA n ps s).map enc)), [none, none]) := by
  let I : Nat → Ds → Prop := fun k δ => ∃ (s2 : S) (v4 : Option S), (s2 = .o (.t ⟨false, tabL ps⟩) ∨ s2 = .t ⟨false, tabL ps⟩) ∧ notOwn v4 = true ∧ δ = [some (.d (lotD n ps)), some (.d (.int s)), some s2, some (.o (.l ((rowsA n ps k).map enc))), v4]
  have step : ∀ (k : Nat) (x : PyData) (δ : Ds), (rng 0 (s : Int).toNat)[k]? = some x → I (0 + k) δ → ∃ δ1 δ2, nameG 4 x δ = some δ1 ∧ (setS 3 (callE F_grown 2 (consA (frzP (vr 2)) (consA (frzP (vr 3)) nilA)))) δ1 = some (.nx δ2) ∧ I (0 + k + 1) δ2 := by
    rintro k x δ hx ⟨s2, v4, hs2, hv, rfl⟩
    obtain ⟨hk, rfl⟩ := rng_at hx
    rw [Nat.zero_add]
    have hg := grown_eq ps (rowsA n ps k) (fun p hp => by
      obtain ⟨e1, e2, _⟩ := rows_above n ps k p hp
      have := above_le n ps p.1
      rw [← e1] at this
      exact ⟨by omega, by omega⟩) (hz (k + 1) (by omega))
    refine ⟨[some (.d (lotD n ps)), some (.d (.int s)), some s2, some (.o (.l ((rowsA n ps k).map enc))), some (.d (.int (0 + (k : Nat))))], [some (.d (lotD n ps)), some (.d (.int s)), some (.t ⟨false, tabL ps⟩), some (.o (.l ((rowsA n ps (k + 1)).map enc))), some (.d (.int (0 + (k : Nat))))], rfl, ?_, .t ⟨false, tabL ps⟩, _, .inr rfl, rfl, rfl⟩
    have hc : callE F_grown 2 (consA (frzP (vr 2)) (consA (frzP (vr 3)) nilA)) [some (.d (lotD n ps)), some (.d (.int s)), some s2, some (.o (.l ((rowsA n ps k).map enc))), some (.d (.int (0 + (k : Nat))))] = some (.o (.l ((rowsA n ps (k + 1)).map enc)), [some (.d (lotD n ps)), some (.d (.int s)), some (.t ⟨false, tabL ps⟩), some (.d (.list ((rowsA n ps k).map enc))), some (.d (.int (0 + (k : Nat))))]) := by
      rcases hs2 with rfl | rfl
      · exact callE_data [.t ⟨false, tabL ps⟩, .d (.list ((rowsA n ps k).map enc))] rfl rfl hg (Nat.le_refl 2)
      · exact callE_data [.t ⟨false, tabL ps⟩, .d (.list ((rowsA n ps k).map enc))] rfl rfl hg (Nat.le_refl 2)
    exact setS_of hc
  obtain ⟨δ', e, s2, v4, hs2, hv, rfl⟩ := forD_inv (I := I) (xs := rng 0 (s : Int).toNat) (δ := [some (.d (lotD n ps)), some (.d (.int s)), some (.o (.t ⟨false, tabL ps⟩)), some (.o (.l ((rowsA n ps 0).map enc))), none]) 0 ⟨_, none, .inl rfl, rfl, rfl⟩ step
  rw [rng_len, Nat.zero_add, Int.toNat_natCast] at e
  refine runF_rt (δ := [some (.d (lotD n ps)), some (.d (.int s)), some s2, some (.d (.list ((rowsA n ps s).map enc))), v4]) ?_ rfl
  have hr : rgE1 (fun xs => .d (.tuple xs)) (frzP (bin opIx (pk 0) (frzP (cst (.int 0))))) [some (.d (lotD n ps)), some (.d (.int s)), some (.o (.t ⟨false, tabL ps⟩)), none, none] = some (.d (tupD (upto n)), [some (.d (lotD n ps)), some (.d (.int s)), some (.o (.t ⟨false, tabL ps⟩)), none, none]) := by
    have := rgE1_of (mk := fun xs => S.d (.tuple xs)) (f := frzP (bin opIx (pk 0) (frzP (cst (.int 0))))) (δ := [some (.d (lotD n ps)), some (.d (.int s)), some (.o (.t ⟨false, tabL ps⟩)), none, none]) (n := n) rfl rfl rfl ⟨by omega, by omega, by omega, by omega, by omega⟩
    rw [Int.sub_zero, rng_ints] at this
    exact this
  refine seqS_of (setS_of (callE_data [.d (lotD n ps)] rfl rfl (later_table_eq n ps hp) (Nat.le_refl 1))) ?_
  refine seqS_of (setS_of (lstE_of (consA_of (frzP_d (tupE_of (consA_of rfl (consA_of (frzP_d hr) rfl)) rfl (show 2 ≤ sizeLine by decide))) rfl) rfl (show 1 ≤ sizeLine by decide))) ?_
  exact seqS_of (forS_of (rngI1_of rfl ⟨by omega, by omega⟩) e) rfl
/-! leavings -/
theorem cut_lo (xs : List PyData) (k : Nat) (hk : k ≤ xs.length) : DL.cutD xs none (some (k : Int)) = xs.take k := by
  unfold DL.cutD
  rw [HT.sIx_none, HT.sIx_nat, Nat.min_eq_left hk]
  simp
theorem cut_hi (xs : List PyData) (k : Nat) (hk : k ≤ xs.length) : DL.cutD xs (some (k : Int)) none = xs.drop k := by
  unfold DL.cutD
  rw [HT.sIx_none, HT.sIx_nat, Nat.min_eq_left hk]
  refine List.take_of_length_le ?_
  rw [List.length_drop]
  exact Nat.le_refl _
end K06

namespace K06
open PySem PySem.Spec PyProof.Rows L2 DL DLS

theorem rows_in (n : Int) (ps : List (Int × Int)) : ∀ (s : Nat), ∀ p ∈ rowsA n ps s, ∀ a ∈ p.1, a ∈ upto n
  | 0, p, hp, a, ha => by
    rw [List.mem_singleton.mp hp] at ha
    cases ha
  | s + 1, p, hp, a, ha => by
    obtain ⟨q, hq, hp⟩ := List.mem_flatMap.mp hp
    obtain ⟨m, hm, rfl⟩ := List.mem_map.mp hp
    rcases List.mem_append.mp ha with ha | ha
    · exact rows_in n ps s q hq a ha
    · rw [List.mem_singleton.mp ha]
      rw [(rows_above n ps s q hq).1] at hm
      exact (List.mem_filter.mp hm).1
abbrev Rs (n : Int) (ps : List (Int × Int)) (s : Nat) : List (List Int) := (rowsA n ps s).map (·.1)
theorem lay0 : ∀ ms : List Int, PyData.canLayAll0 (intsD ms) = true
  | [] => rfl
  | i :: ms => by
    show (PyData.canLay0 (.int i) && PyData.canLayAll0 (intsD ms)) = true
    rw [lay0 ms]
    rfl
theorem lay1 : ∀ rs : List (List Int), PyData.canLayAll0 (rs.map tupD) = true
  | [] => rfl
  | r :: rs => by
    show (PyData.canLayAll0 (intsD r) && PyData.canLayAll0 (rs.map tupD)) = true
    rw [lay1 rs, lay0 r]
    rfl
theorem depth0 : ∀ ms : List Int, PyData.depthAll (intsD ms) = 0
  | [] => rfl
  | i :: ms => by
    show max (PyData.depth (.int i)) (PyData.depthAll (intsD ms)) = 0
    rw [depth0 ms]
    rfl
theorem depth1 : ∀ rs : List (List Int), PyData.depthAll (rs.map tupD) ≤ 1
  | [] => Nat.zero_le _
  | r :: rs => by
    show max (PyData.depthAll (intsD r) + 1) (PyData.depthAll (rs.map tupD)) ≤ 1
    rw [depth0 r]
    have := depth1 rs
    omega
theorem shaped1 (rs : List (List Int)) : SeqAt.shaped (.tuple (rs.map tupD)) = true := by
  unfold SeqAt.shaped
  show (PyData.canLayAll0 (rs.map tupD) && decide (PyData.depthAll (rs.map tupD) + 1 ≤ 64)) = true
  have := depth1 rs
  rw [lay1, decide_eq_true (by omega)]
  rfl
theorem eqv_pr (p : Int × Int) (x y : Int) : PyData.eqv (pr p) (.tuple [.int x, .int y]) = decide (p.1 = x ∧ p.2 = y) := by
  show (p.1 == x && (p.2 == y && true)) = _
  rw [Bool.and_true]
  by_cases h1 : p.1 = x <;> by_cases h2 : p.2 = y <;> simp [h1, h2]
theorem lay_pr : ∀ ps : List (Int × Int), PyData.canLayAll0 (ps.map pr) = true
  | [] => rfl
  | p :: ps => by
    show (PyData.canLay0 (pr p) && PyData.canLayAll0 (ps.map pr)) = true
    rw [lay_pr ps]
    rfl
theorem in_pairs (ps : List (Int × Int)) (x y : Int) : opIn false (.d (.tuple [.int x, .int y])) (.d (.tuple (ps.map pr))) = some (.d (.bool (later ps x y))) := by
  unfold opIn
  show (if (SeqAt.shaped (.tuple [.int x, .int y]) && PyData.canLayAll0 (ps.map pr)) = true then _ else _) = _
  rw [lay_pr, show SeqAt.shaped (.tuple [.int x, .int y]) = true from rfl]
  simp only [Bool.and_self, if_true, Bool.false_xor, List.any_map]
  congr 4
  funext p
  exact eqv_pr p x y
theorem rs_succ (n : Int) (ps : List (Int × Int)) (s : Nat) : Rs n ps (s + 1) = (Rs n ps s).flatMap fun ch => (aboveL n ps ch).map fun z => ch ++ [z] := by
  show ((rowsA n ps s).flatMap (grow ps)).map (·.1) = _
  rw [List.map_flatMap, List.flatMap_map]
  have : ∀ l : List RA, (∀ p ∈ l, p.2 = aboveL n ps p.1) → (l.flatMap fun p => (grow ps p).map (·.1)) = l.flatMap fun p => (aboveL n ps p.1).map fun z => p.1 ++ [z] := by
    intro l
    induction l with
    | nil => intro _; rfl
    | cons p l ih =>
      intro h
      rw [List.flatMap_cons, List.flatMap_cons, ih fun q hq => h q (List.mem_cons_of_mem _ hq)]
      congr 1
      unfold grow
      rw [List.map_map, h p List.mem_cons_self]
      rfl
  exact this _ fun p hp => (rows_above n ps s p hp).1
def stepC (n : Int) (ps : List (Int × Int)) (ch : List Int) : List (List Int) := (aboveL n ps ch).map fun z => ch ++ [z]
theorem mem_sortT (rs : List (List Int)) (r : List Int) : r ∈ sortT rs ↔ r ∈ rs := (isort_perm rs).mem_iff
theorem rs_iff {n : Int} {ps : List (Int × Int)} {s : Nat} {r : List Int} : r ∈ Rs n ps s ↔ r.length = s ∧ (∀ a ∈ r, a ∈ upto n) ∧ r.Pairwise (fun a b => later ps b a = true) := by
  constructor
  · intro h
    obtain ⟨p, hp, rfl⟩ := List.mem_map.mp h
    exact ⟨(rows_above n ps s p hp).2.1, rows_in n ps s p hp, (rows_above n ps s p hp).2.2⟩
  · rintro ⟨h1, h2, h3⟩
    obtain ⟨p, hp, e⟩ := rows_all n ps s r h1 h2 h3
    exact List.mem_map.mpr ⟨p, hp, e⟩
def LtP (a b : List Int) : Prop := lexL a b = true
theorem lexL_app {a b x y : List Int} (h : a.length = b.length) (hl : lexL a b = true) : lexL (a ++ x) (b ++ y) = true := by
  induction a generalizing b with
  | nil => cases b with
    | nil => cases hl
    | cons c b => cases h
  | cons c a ih => cases b with
    | nil => cases h
    | cons d b =>
      unfold lexL at hl
      show lexL (c :: (a ++ x)) (d :: (b ++ y)) = true
      unfold lexL
      split at hl
      · rename_i e
        rw [if_pos e]
        exact ih (by simpa using h) hl
      · rename_i e
        rw [if_neg e]
        exact hl
theorem lexL_pre {a : List Int} {x y : Int} (h : x < y) : lexL (a ++ [x]) (a ++ [y]) = true := by
  induction a with
  | nil =>
    show lexL [x] [y] = true
    unfold lexL
    rw [if_neg (by omega)]
    exact decide_eq_true h
  | cons c a ih =>
    show lexL (c :: (a ++ [x])) (c :: (a ++ [y])) = true
    unfold lexL
    rw [if_pos rfl]
    exact ih
theorem upto_sorted (n : Int) : (upto n).Pairwise (· < ·) := by
  unfold upto
  rw [List.pairwise_map]
  exact List.pairwise_lt_range.imp fun h => by omega
theorem rs_sorted (n : Int) (ps : List (Int × Int)) : ∀ s, (Rs n ps s).Pairwise LtP
  | 0 => List.pairwise_singleton _ _
  | s + 1 => by
    rw [rs_succ]
    have ih := rs_sorted n ps s
    rw [List.pairwise_flatMap]
    refine ⟨fun ch _ => ?_, ?_⟩
    · rw [List.pairwise_map]
      exact ((upto_sorted n).sublist List.filter_sublist).imp fun {a b} h => lexL_pre (a := ch) h
    · refine ih.imp_of_mem fun {a b} ha hb h => ?_
      intro x hx y hy
      obtain ⟨z, _, rfl⟩ := List.mem_map.mp hx
      obtain ⟨w, _, rfl⟩ := List.mem_map.mp hy
      exact lexL_app (by rw [(rs_iff.mp ha).1, (rs_iff.mp hb).1]) h
theorem lt_ne {a b : List Int} (h : LtP a b) : a ≠ b := fun e => by
  subst e
  have h' : lexL a a = true := h
  have := lexL_asym a a h'
  rw [h'] at this
  cases this
theorem rs_nodup (n : Int) (ps : List (Int × Int)) (s : Nat) : (Rs n ps s).Nodup := (rs_sorted n ps s).imp fun h => lt_ne h
theorem sort_of {rs fs : List (List Int)} (h : rs.Pairwise LtP) (hf : fs.Nodup) (hm : ∀ r, r ∈ fs ↔ r ∈ rs) : sortT fs = rs := by
  have hp : fs.Perm rs := (List.perm_ext_iff_of_nodup hf (h.imp fun h => lt_ne h)).mpr hm
  refine perm_uniq (R := fun a b => lexL b a = false) (fun a b h1 h2 => lexL_anti a b h2 h1) ((isort_perm fs).trans hp) (isort_sorted (fun a b => lexL_asym a b) (fun a b c => lexL_tr a b c) _) (h.imp fun h => lexL_asym _ _ h)
theorem rs_grow {n : Int} {ps : List (Int × Int)} {s c : Nat} (h : ∀ r ∈ Rs n ps s, (aboveL n ps r).length ≤ c) : (Rs n ps (s + 1)).length ≤ (Rs n ps s).length * c := by
  rw [rs_succ, List.length_flatMap]
  have : ∀ l : List (List Int), (∀ r ∈ l, (aboveL n ps r).length ≤ c) → (l.map fun ch => ((aboveL n ps ch).map fun z => ch ++ [z]).length).sum ≤ l.length * c := by
    intro l
    induction l with
    | nil => intro _; simp
    | cons r l ih =>
      intro h
      have h1 := h r List.mem_cons_self
      have h2 := ih fun q hq => h q (List.mem_cons_of_mem _ hq)
      rw [List.map_cons, List.sum_cons, List.length_map, List.length_cons, Nat.succ_mul]
      omega
  exact this _ h

theorem nodup_le {α : Type} [DecidableEq α] : ∀ (l m : List α), l.Nodup → (∀ x ∈ l, x ∈ m) → l.length ≤ m.length
  | [], m, _, _ => Nat.zero_le _
  | x :: l, m, h, hs => by
    have h' := List.nodup_cons.mp h
    have hx := hs x List.mem_cons_self
    have ih := nodup_le l (m.erase x) h'.2 fun y hy => (List.mem_erase_of_ne (a := y) (b := x) (fun e => h'.1 (by rw [← e]; exact hy))).mpr (hs y (List.mem_cons_of_mem _ hy))
    have hl := List.length_erase_of_mem hx
    have hp : 0 < m.length := List.length_pos_of_mem hx
    rw [List.length_cons]
    omega
end K06

namespace K06
open PySem PySem.Spec PyProof.Rows L2 DL DLS

theorem fAll_map (f : PyData → Bool) (xs : List PyData) : fAll [.d (.list (xs.map fun x => .bool (f x)))] = some (.d (.bool (xs.all f))) := by
  show ((bools (xs.map fun x => .bool (f x))).map fun bs => S.d (.bool (bs.all id))) = _
  rw [bools_map]
  show some (S.d (.bool ((xs.map f).all id))) = _
  rw [List.all_map]
  rfl
theorem take_le {α : Type} (l : List α) (k : Nat) : (l.take k).length ≤ l.length := by
  rw [List.length_take]
  exact Nat.min_le_right _ _
theorem add_mark (r : List Int) (m : Int) (hl : r.length < 1000) : opAdd (.d (tupD r)) (.d (.tuple [.int m])) = some (.d (tupD (r ++ [m]))) := by
  show (if (intsD r).length + [PyData.int m].length ≤ sizeLine then some (S.d (.tuple (intsD r ++ [.int m]))) else none) = _
  rw [if_pos (by rw [List.length_map]; exact Nat.le_trans (show r.length + 1 ≤ 1000 by omega) (by decide))]
  show _ = some (S.d (.tuple ((r ++ [m]).map PyData.int)))
  rw [List.map_append]
  rfl
theorem ne_self (x : PyData) (hs : SeqAt.shaped x = true) (hx : ∀ t, x ≠ .str t) : opNe (.d x) (.d x) = some (.d (.bool false)) := by
  have hl : PyData.canLay0 x = true := by
    unfold SeqAt.shaped at hs
    rw [Bool.and_eq_true] at hs
    exact hs.1
  have e : opNe (.d x) (.d x) = (if (SeqAt.shaped x && SeqAt.shaped x) = true then some (S.d (.bool (!PyData.eqv x x))) else none) := by
    cases x with
    | str t => exact absurd rfl (hx t)
    | none => rfl
    | bool b => rfl
    | int i => rfl
    | list xs => rfl
    | tuple xs => rfl
    | dict xs => rfl
  rw [e, hs, SeqAt.eqv_refl x hl]
  rfl
theorem forD_first {tg : GEV} {body : SEV} {P : PyData → Bool} {v : S} {A : Ds → Prop} : ∀ {xs : List PyData} {δ : Ds}, A δ → (∀ x ∈ xs, ∀ δ, A δ → ∃ δ1 δ2, tg x δ = some δ1 ∧ A δ2 ∧ body δ1 = some (if P x = true then .rt v δ2 else .nx δ2)) →
    ∃ δ', A δ' ∧ forD tg body xs δ = some (if xs.any P = true then .rt v δ' else .nx δ')
  | [], δ, a, _ => ⟨δ, a, rfl⟩
  | x :: xs, δ, a, H => by
    obtain ⟨δ1, δ2, e1, e2, e3⟩ := H x List.mem_cons_self δ a
    by_cases h : P x = true
    · rw [if_pos h] at e3
      refine ⟨δ2, e2, ?_⟩
      unfold forD
      rw [e1]
      simp only [Option.bind_some]
      rw [e3, List.any_cons, h, Bool.true_or, if_pos rfl]
      rfl
    · rw [if_neg h] at e3
      obtain ⟨δ', e4, e5⟩ := forD_first (xs := xs) e2 fun y hy => H y (List.mem_cons_of_mem _ hy)
      refine ⟨δ', e4, ?_⟩
      unfold forD
      rw [e1]
      simp only [Option.bind_some]
      rw [e3, List.any_cons, show P x = false by simpa using h, Bool.false_or]
      exact e5
theorem opEq_int (a b : Int) : opEq (.d (.int a)) (.d (.int b)) = some (.d (.bool (a == b))) := rfl
theorem line_big : 2000000 < sizeLine := by decide
theorem size_big : sizeLine = 16777216 := by decide
section
variable {n : Int} {ps : List (Int × Int)}
theorem rs_small (L : Lot n ps) {s : Nat} (hs : s ≤ 5) : (rowsA n ps s).length ≤ sizeLine := by
  have h1 := rows_len n ps s
  have h2 : n.toNat ^ s ≤ 24 ^ s := Nat.pow_le_pow_left (by have := L.n1; omega) s
  have h3 : 24 ^ s ≤ 24 ^ 5 := Nat.pow_le_pow_right (by decide) hs
  have h4 : 24 ^ 5 ≤ sizeLine := by decide
  omega
/-! rows -/
theorem rows_eq (L : Lot n ps) {s : Nat} (hs : s ≤ 5) : F_rows [.d (lotD n ps), .d (.int (s : Int))] = some (.d (.tuple ((Rs n ps s).map tupD)), [none, none]) := by
  have hb := line_big
  have n0 := L.n0
  have n1 := L.n1
  have pl := L.len
  let δ : Ds := [some (.d (lotD n ps)), some (.d (.int (s : Int))), none, none]
  have hr : callE F_rows_with_above 2 (consA (frzP (vr 0)) (consA (frzP (vr 1)) nilA)) δ = some (.d (.list ((rowsA n ps s).map enc)), δ) := callE_data [.d (lotD n ps), .d (.int (s : Int))] rfl rfl (rows_with_above_eq n ps s (by omega) n0 (by omega) (by omega) fun k hk => rs_small L (by omega)) (Nat.le_refl _)
  have hlc := lcE_all (vs := [2, 3]) (fi := seqI (callE F_rows_with_above 2 (consA (frzP (vr 0)) (consA (frzP (vr 1)) nilA)))) (g := tupG 2 (consG (nameG 2) (consG (nameG 3) nilG))) (te := vr 2) (δ := δ) (δ1 := δ) (fun x => tupD (dec x).1) (seqI_of hr (.inl rfl)) rfl rfl (fun x hx => by
    obtain ⟨p, _, rfl⟩ := List.mem_map.mp hx
    refine ⟨[some (.d (lotD n ps)), some (.d (.int (s : Int))), some (.d (tupD p.1)), some (.d (tupD p.2))], rfl, rfl, rfl, .d (tupD p.1), rfl, ?_⟩
    rw [dec_enc]
    rfl) (by rw [List.length_map]; exact rs_small L hs)
  have hm : ((rowsA n ps s).map enc).map (fun x => tupD (dec x).1) = (Rs n ps s).map tupD := by
    rw [List.map_map, List.map_map]
    refine List.map_congr_left fun p _ => ?_
    show tupD (dec (enc p)).1 = _
    rw [dec_enc]
    rfl
  rw [hm] at hlc
  exact runF_rt (δ := δ) (retS_of (callB_of (g := fTuple) (consA_of (frzP_l hlc) (rfl : nilA δ = some ([], δ))) rfl rfl)) rfl
theorem later_irr (L : Lot n ps) (a : Int) : later ps a a = false := by
  cases e : later ps a a with
  | false => rfl
  | true =>
    obtain ⟨p, hp, ep⟩ := List.any_eq_true.mp e
    obtain ⟨e1, e2⟩ := of_decide_eq_true ep
    exact absurd (show (p.2, p.1) ∈ ps by rw [show (p.2, p.1) = p from Prod.ext (e2.trans e1.symm) (e1.trans e2.symm)]; exact hp) (L.anti p hp)
/-! a row looked at as a chain -/
def chB (ps : List (Int × Int)) (r : List Int) : Bool := (enumF 0 (intsD r)).all fun x => match x with
  | .tuple [.int k, .int m] => (r.take k.toNat).all (later ps m)
  | _ => false
theorem chB_iff (r : List Int) : chB ps r = true ↔ r.Pairwise fun a b => later ps b a = true := by
  unfold chB
  rw [List.all_eq_true, List.pairwise_iff_getElem]
  constructor
  · intro h i j hi hj hij
    have hx : PyData.tuple [.int (j : Int), .int r[j]] ∈ enumF 0 (intsD r) := by
      refine List.mem_iff_getElem?.mpr ⟨j, ?_⟩
      rw [enumF_at, Nat.zero_add, List.getElem?_map, List.getElem?_eq_getElem hj]
      rfl
    have := h _ hx
    have h2 : (r.take (j : Int).toNat).all (later ps r[j]) = true := this
    rw [Int.toNat_natCast] at h2
    exact List.all_eq_true.mp h2 _ (List.mem_iff_getElem?.mpr ⟨i, by rw [List.getElem?_take, if_pos hij, List.getElem?_eq_getElem hi]⟩)
  · intro h x hx
    obtain ⟨j, hj⟩ := List.mem_iff_getElem?.mp hx
    rw [enumF_at, Nat.zero_add, List.getElem?_map] at hj
    obtain ⟨y, hy, rfl⟩ := Option.map_eq_some_iff.mp hj
    obtain ⟨m, hm, rfl⟩ := Option.map_eq_some_iff.mp hy
    obtain ⟨hjl, rfl⟩ := List.getElem?_eq_some_iff.mp hm
    show (r.take (j : Int).toNat).all (later ps r[j]) = true
    rw [Int.toNat_natCast, List.all_eq_true]
    intro a ha
    obtain ⟨i, hi⟩ := List.mem_iff_getElem?.mp ha
    rw [List.getElem?_take] at hi
    split at hi
    case isFalse => cases hi
    rename_i hij
    obtain ⟨hil, rfl⟩ := List.getElem?_eq_some_iff.mp hi
    exact h i j hil hjl hij
end
end K06

namespace K06
open PySem PySem.Spec PyProof.Rows L2 DL DLS
theorem andT_f {f g : TEV} {δ δ1 : Ds} (h : f δ = some (false, δ1)) : andT f g δ = some (false, δ1) := by unfold andT; rw [h]; rfl
theorem orT_t {f g : TEV} {δ δ1 : Ds} (h : f δ = some (true, δ1)) : orT f g δ = some (true, δ1) := by unfold orT; rw [h]; rfl
theorem andV_f {f g : EV} {δ δ1 : Ds} (h : f δ = some (.d (.bool false), δ1)) : andV f g δ = some (.d (.bool false), δ1) := by unfold andV; rw [h]; rfl
theorem add_tup (a b : List PyData) (h : a.length + b.length ≤ 2000000) : opAdd (.d (.tuple a)) (.d (.tuple b)) = some (.d (.tuple (a ++ b))) := by
  show (if a.length + b.length ≤ sizeLine then some (S.d (.tuple (a ++ b))) else none) = _
  rw [if_pos (Nat.le_trans h (by decide))]
theorem add_lst (a b : List PyData) {u w : S} (hu : asI u = none) (h1 : asL u = some a) (h2 : asL w = some b) (h : a.length + b.length ≤ 2000000) : opAdd u w = some (.o (.l (a ++ b))) := by
  unfold opAdd
  rw [hu, h1, h2]
  simp only
  rw [if_pos (Nat.le_trans h (by decide))]
theorem cut_sub (xs : List PyData) (lo hi : Option Int) : (DL.cutD xs lo hi).Sublist xs := (List.take_sublist _ _).trans (List.drop_sublist _ _)
end K06

namespace K06
open PySem PySem.Spec PyProof.Rows L2 DL DLS
theorem is_later_eq (n : Int) (ps : List (Int × Int)) (x y : Int) : F_is_later [.d (lotD n ps), .d (.int x), .d (.int y)] = some (.d (.bool (later ps x y)), [none, none, none]) :=
  runF_rt (δ := [some (.d (lotD n ps)), some (.d (.int x)), some (.d (.int y))]) (retS_of (bin_of (frzP_d (tupE_of rfl rfl (show 2 ≤ sizeLine by decide))) (frzP_d (bin_ix rfl rfl rfl)) rfl rfl (in_pairs ps x y))) rfl
theorem is_over_eq (n : Int) (ps : List (Int × Int)) (m : Int) (ms : List Int) (hl : ms.length ≤ sizeLine) : F_is_over [.d (lotD n ps), .d (.int m), .d (tupD ms)] = some (.d (.bool (ms.all (later ps m))), [none, none, none]) := by
  refine runF_rt (δ := [some (.d (lotD n ps)), some (.d (.int m)), some (.d (tupD ms)), none]) ?_ rfl
  refine retS_of (callB_of (consA_of (frzP_l (lcE_map (fun x => .bool (later ps m (intOf x))) rfl (seqI_of rfl (.inr rfl)) (fun x hx => ?_) (by rw [List.length_map]; exact hl))) rfl) rfl ?_)
  · obtain ⟨y, _, rfl⟩ := List.mem_map.mp hx
    exact callE_data [.d (lotD n ps), .d (.int m), .d (.int y)] rfl rfl (is_later_eq n ps m y) (Nat.le_refl _)
  · have := fAll_map (fun x => later ps m (intOf x)) (intsD ms)
    rw [List.all_map] at this
    exact this
def isI : PyData → Bool
  | .int _ => true
  | _ => false
def okM (n : Int) : PyData → Bool
  | .int m => pLe 0 m && pLt m n
  | _ => false
theorem is_whole_any (x : PyData) : F_is_whole [.d x] = some (.d (.bool (isI x)), [none]) := by
  cases x <;> exact runF_rt (δ := [some (.d _)]) (retS_of rfl) rfl
theorem chn_ints {δ : Ds} {fa fb fc : PEV} {a b c : Int} (ha : fa δ = some (.v (.d (.int a)), δ)) (hb : fb δ = some (.v (.d (.int b)), δ)) (hc : fc δ = some (.v (.d (.int c)), δ)) : chn (cmpI pLe) (cmpI pLt) fa fb fc δ = some (.d (.bool (pLe a b && pLt b c)), δ) := by
  unfold chn
  rw [ha]
  simp only [Option.bind_some]
  rw [hb]
  simp only [Option.bind_some, res]
  have k1 : cmpI pLe (.d (.int a)) (.d (.int b)) = some (.d (.bool (pLe a b))) := rfl
  have k2 : cmpI pLt (.d (.int b)) (.d (.int c)) = some (.d (.bool (pLt b c))) := rfl
  rw [k1]
  simp only [Option.bind_some]
  cases pLe a b with
  | false => rfl
  | true =>
    simp only [Bool.true_and]
    rw [hc]
    simp only [Option.bind_some]
    rw [k2]
    rfl
theorem is_below_any (n : Int) (x : PyData) : F_is_below [.d (.int n), .d x] = some (.d (.bool (okM n x)), [none, none]) := by
  have hw : callE F_is_whole 1 (consA (frzP (vr 1)) nilA) [some (.d (.int n)), some (.d x)] = some (.d (.bool (isI x)), [some (.d (.int n)), some (.d x)]) := callE_data [.d x] rfl rfl (is_whole_any x) (Nat.le_refl 1)
  refine runF_rt (δ := [some (.d (.int n)), some (.d x)]) (retS_of ?_) rfl
  cases x with
  | int m => exact andV_t hw (chn_ints rfl rfl rfl)
  | none => exact andV_f hw
  | bool b => exact andV_f hw
  | str t => exact andV_f hw
  | list t => exact andV_f hw
  | tuple t => exact andV_f hw
  | dict t => exact andV_f hw
section
variable {n : Int} {ps : List (Int × Int)}
def okH (n : Int) (ps : List (Int × Int)) (ah : List Int) : PyData → Bool
  | .int m => (pLe 0 m && pLt m n) && ah.all (later ps m)
  | _ => false
def rowG (n : Int) (ps : List (Int × Int)) : List Int → List PyData → Bool
  | _, [] => true
  | ah, x :: xs => okH n ps ah x && rowG n ps (ah ++ [intOf x]) xs
def rowB (n : Int) (ps : List (Int × Int)) : PyData → Bool
  | .tuple xs => rowG n ps [] xs
  | _ => false
theorem okH_int {ah : List Int} {x : PyData} (h : okH n ps ah x = true) : x = .int (intOf x) := by
  cases x with
  | int m => rfl
  | none => cases h
  | bool b => cases h
  | str t => cases h
  | list t => cases h
  | tuple t => cases h
  | dict t => cases h
theorem row_for {tg : GEV} {body : SEV} {I : Option S → Option S → Ds} {x : PyData} {all : List PyData} (hx : x = .tuple all)
    (hg : ∀ (k : Nat) (y : PyData) (a b : Option S), notOwn a = true → notOwn b = true → tg (.tuple [.int (k : Int), y]) (I a b) = some (I (some (.d (.int (k : Int)))) (some (.d y))))
    (hb : ∀ (ah : List Int) (y : PyData) (zs : List PyData), all = intsD ah ++ y :: zs → body (I (some (.d (.int (ah.length : Int)))) (some (.d y))) = some (if okH n ps ah y = true then .nx (I (some (.d (.int (ah.length : Int)))) (some (.d y))) else .rt (.d (.bool false)) (I (some (.d (.int (ah.length : Int)))) (some (.d y))))) :
    ∀ (zs : List PyData) (ah : List Int) (a b : Option S), notOwn a = true → notOwn b = true → all = intsD ah ++ zs → ∃ a' b', notOwn a' = true ∧ notOwn b' = true ∧ forD tg body (enumF ah.length zs) (I a b) = some (if rowG n ps ah zs = true then .nx (I a' b') else .rt (.d (.bool false)) (I a' b'))
  | [], ah, a, b, ha, hb', _ => ⟨a, b, ha, hb', rfl⟩
  | y :: zs, ah, a, b, ha, hb', e => by
    have e1 := hg ah.length y a b ha hb'
    have e2 := hb ah y zs e
    by_cases h : okH n ps ah y = true
    · rw [if_pos h] at e2
      have ey := okH_int h
      obtain ⟨a', b', h1, h2, h3⟩ := row_for hx hg hb zs (ah ++ [intOf y]) (some (.d (.int (ah.length : Int)))) (some (.d y)) rfl rfl (by
        rw [e]
        show _ = (ah ++ [intOf y]).map PyData.int ++ zs
        rw [List.map_append, List.append_assoc]
        show intsD ah ++ y :: zs = intsD ah ++ (PyData.int (intOf y) :: zs)
        rw [← ey])
      refine ⟨a', b', h1, h2, ?_⟩
      rw [List.length_append, List.length_singleton] at h3
      show forD tg body (.tuple [.int (ah.length : Nat), y] :: enumF (ah.length + 1) zs) (I a b) = _
      unfold forD
      rw [e1]
      simp only [Option.bind_some]
      rw [e2]
      show forD tg body (enumF (ah.length + 1) zs) _ = _
      rw [h3]
      show _ = some (if (okH n ps ah y && rowG n ps (ah ++ [intOf y]) zs) = true then _ else _)
      rw [h, Bool.true_and]
    · rw [if_neg h] at e2
      refine ⟨some (.d (.int (ah.length : Int))), some (.d y), rfl, rfl, ?_⟩
      show forD tg body (.tuple [.int (ah.length : Nat), y] :: enumF (ah.length + 1) zs) (I a b) = _
      unfold forD
      rw [e1]
      simp only [Option.bind_some]
      rw [e2]
      show some (Out.rt _ _) = some (if (okH n ps ah y && rowG n ps (ah ++ [intOf y]) zs) = true then _ else _)
      rw [Bool.not_eq_true] at h
      rw [h]
      rfl
theorem cut_ahead (ah : List Int) (zs : List PyData) : DL.cutD (intsD ah ++ zs) none (some (ah.length : Int)) = intsD ah := by
  rw [cut_lo _ _ (by rw [List.length_append, List.length_map]; omega)]
  rw [List.take_append_of_le_length (by rw [List.length_map]; omega), List.take_of_length_le (by rw [List.length_map]; omega)]
abbrev I4 (n : Int) (ps : List (Int × Int)) (x : PyData) (a b : Option S) : Ds := [some (.d (lotD n ps)), some (.d x), a, b]
theorem tg4 (k : Nat) (x y : PyData) (a b : Option S) (ha : notOwn a = true) (hb : notOwn b = true) : tupG 2 (consG (nameG 2) (consG (nameG 3) nilG)) (.tuple [.int (k : Int), y]) (I4 n ps x a b) = some (I4 n ps x (some (.d (.int (k : Int)))) (some (.d y))) := by
  cases a with
  | none =>
    cases b with
    | none => rfl
    | some b => cases b <;> first | rfl | cases hb
  | some a =>
    cases b with
    | none => cases a <;> first | rfl | cases ha
    | some b => cases a <;> first | (cases ha; done) | (cases b <;> first | rfl | cases hb)
theorem is_row_eq {x : PyData} (hl : ∀ xs, x = .tuple xs → xs.length ≤ 2000000) : F_is_row [.d (lotD n ps), .d x] = some (.d (.bool (rowB n ps x)), [none, none]) := by
  have hbg := line_big
  by_cases ht : ∃ xs, x = .tuple xs
  · obtain ⟨xs, rfl⟩ := ht
    have hl' := hl xs rfl
    obtain ⟨a', b', ha, hb, e⟩ := row_for (n := n) (ps := ps) (tg := tupG 2 (consG (nameG 2) (consG (nameG 3) nilG))) (body := ifS (orT (notT (bl (callE F_is_below 2 (consA (frzP (bin opIx (pk 0) (frzP (cst (.int 0))))) (consA (frzP (vr 3)) nilA))))) (notT (bl (callE F_is_over 3 (consA (frzP (vr 0)) (consA (frzP (vr 3)) (consA (frzP (slE (pk 1) noP (someP (pk 2)))) nilA))))))) (retS (cst (.bool false))) nxS) (I := I4 n ps (.tuple xs)) (x := .tuple xs) (all := xs) rfl (fun k y a b ha hb => tg4 k _ y a b ha hb) (fun ah y zs hz => by
      let δ : Ds := I4 n ps (.tuple xs) (some (.d (.int (ah.length : Int)))) (some (.d y))
      have c1 : callE F_is_below 2 (consA (frzP (bin opIx (pk 0) (frzP (cst (.int 0))))) (consA (frzP (vr 3)) nilA)) δ = some (.d (.bool (okM n y)), δ) := callE_data [.d (.int n), .d y] (consA_of (frzP_d (bin_of rfl rfl rfl rfl rfl)) rfl) rfl (is_below_any n y) (Nat.le_refl 2)
      show _ = some (if okH n ps ah y = true then Out.nx δ else Out.rt (.d (.bool false)) δ)
      cases hm : okM n y with
      | false =>
        rw [hm] at c1
        have : okH n ps ah y = false := by
          cases y with
          | int m =>
            show ((pLe 0 m && pLt m n) && _) = false
            rw [show (pLe 0 m && pLt m n) = false from hm, Bool.false_and]
          | _ => rfl
        rw [if_neg (by rw [this]; decide)]
        exact ifS_t (orT_t (notT_of (b := false) (bl_of c1))) (retS_of rfl)
      | true =>
        rw [hm] at c1
        cases y with
        | int m =>
          have hcut : slE (pk 1) noP (someP (pk 2)) δ = some (.d (tupD ah), δ) := by
            show some (S.d (.tuple (DL.cutD xs none (some (ah.length : Int)))), _) = _
            rw [hz, cut_ahead]
          have hal : ah.length ≤ sizeLine := by
            have : (intsD ah ++ PyData.int m :: zs).length ≤ 2000000 := by rw [← hz]; exact hl'
            rw [List.length_append, List.length_map] at this
            omega
          have c2 : callE F_is_over 3 (consA (frzP (vr 0)) (consA (frzP (vr 3)) (consA (frzP (slE (pk 1) noP (someP (pk 2)))) nilA))) δ = some (.d (.bool (ah.all (later ps m))), δ) := callE_data [.d (lotD n ps), .d (.int m), .d (tupD ah)] (consA_of rfl (consA_of rfl (consA_of (frzP_d hcut) rfl))) rfl (is_over_eq n ps m ah hal) (Nat.le_refl 3)
          have hk : okH n ps ah (.int m) = ah.all (later ps m) := by
            show ((pLe 0 m && pLt m n) && _) = _
            rw [show (pLe 0 m && pLt m n) = true from hm, Bool.true_and]
          rw [hk]
          cases hv : ah.all (later ps m) with
          | false =>
            rw [hv] at c2
            rw [if_neg (by decide)]
            exact ifS_t (orT_f (notT_of (b := true) (bl_of c1)) (notT_of (b := false) (bl_of c2))) (retS_of rfl)
          | true =>
            rw [hv] at c2
            rw [if_pos rfl]
            exact ifS_f (orT_f (notT_of (b := true) (bl_of c1)) (notT_of (b := true) (bl_of c2))) rfl
        | _ => cases hm) xs [] none none rfl rfl rfl
    have t0 : notT (bl (isiE "tuple" (pk 1))) (I4 n ps (.tuple xs) none none) = some (false, I4 n ps (.tuple xs) none none) := notT_of (b := true) (bl_of rfl)
    have hen : enumX (consA (frzP (vr 1)) nilA) (I4 n ps (.tuple xs) none none) = some (enumF 0 xs, I4 n ps (.tuple xs) none none) := rfl
    have ho : ownC [0, 1] 0 [S.d (lotD n ps), S.d (.tuple xs)] (I4 n ps (.tuple xs) a' b') = some [none, none] := rfl
    show _ = some (S.d (.bool (rowG n ps [] xs)), _)
    by_cases h : rowG n ps [] xs = true
    · rw [if_pos h] at e
      rw [h]
      exact runF_rt (δ := I4 n ps (.tuple xs) a' b') (seqS_of (ifS_f t0 rfl) (seqS_of (forS_of hen e) (retS_of rfl))) ho
    · rw [if_neg h] at e
      rw [Bool.not_eq_true] at h
      rw [h]
      exact runF_rt (δ := I4 n ps (.tuple xs) a' b') (seqS_of (ifS_f t0 rfl) (seqS_rt (forS_of hen e))) ho
  · have hk : rowB n ps x = false := by
      cases x with
      | tuple xs => exact absurd ⟨xs, rfl⟩ ht
      | _ => rfl
    rw [hk]
    refine runF_rt (δ := I4 n ps x none none) (seqS_rt (ifS_t (δ1 := I4 n ps x none none) (notT_of (b := false) (bl_of ?_)) (retS_of rfl))) rfl
    cases x with
    | tuple xs => exact absurd ⟨xs, rfl⟩ ht
    | _ => rfl
theorem okM_int {n : Int} {x : PyData} (h : okM n x = true) : x = .int (intOf x) ∧ 0 ≤ intOf x ∧ intOf x < n := by
  cases x with
  | int m =>
    obtain ⟨a, b⟩ := Bool.and_eq_true_iff.mp (show (pLe 0 m && pLt m n) = true from h)
    exact ⟨rfl, of_decide_eq_true a, of_decide_eq_true b⟩
  | _ => cases h
theorem opNe_int (a b : Int) : opNe (.d (.int a)) (.d (.int b)) = some (.d (.bool (!(a == b)))) := rfl
theorem rowG_iff : ∀ (zs : List PyData) (ah : List Int), ah.Pairwise (fun a b => later ps b a = true) → (∀ a ∈ ah, a ∈ upto n) → rowG n ps ah zs = true → ∃ r, zs = intsD r ∧ (ah ++ r).Pairwise (fun a b => later ps b a = true) ∧ ∀ a ∈ ah ++ r, a ∈ upto n
  | [], ah, h1, h2, _ => ⟨[], rfl, by rw [List.append_nil]; exact h1, by rw [List.append_nil]; exact h2⟩
  | y :: zs, ah, h1, h2, h => by
    obtain ⟨ha, hb⟩ := Bool.and_eq_true_iff.mp (show (okH n ps ah y && rowG n ps (ah ++ [intOf y]) zs) = true from h)
    have ey := okH_int ha
    rw [ey] at ha
    obtain ⟨hm, hall⟩ := Bool.and_eq_true_iff.mp (show ((pLe 0 (intOf y) && pLt (intOf y) n) && ah.all (later ps (intOf y))) = true from ha)
    obtain ⟨m0, m1⟩ := Bool.and_eq_true_iff.mp hm
    have m0' : 0 ≤ intOf y := of_decide_eq_true m0
    have m1' : intOf y < n := of_decide_eq_true m1
    have hup : intOf y ∈ upto n := List.mem_map.mpr ⟨(intOf y).toNat, List.mem_range.mpr (by omega), by omega⟩
    obtain ⟨r, er, p1, p2⟩ := rowG_iff zs (ah ++ [intOf y]) (List.pairwise_append.mpr ⟨h1, List.pairwise_singleton _ _, fun a hx b hb' => by
      cases List.mem_singleton.mp hb'
      exact List.all_eq_true.mp hall a hx⟩) (fun a hx => (List.mem_append.mp hx).elim (h2 a) fun z => by
        cases List.mem_singleton.mp z
        exact hup) hb
    refine ⟨intOf y :: r, ?_, ?_, ?_⟩
    · rw [er, ey]
      rfl
    · rw [List.append_assoc] at p1
      exact p1
    · rw [List.append_assoc] at p2
      exact p2
theorem rowG_of : ∀ (r ah : List Int), (ah ++ r).Pairwise (fun a b => later ps b a = true) → (∀ i ∈ r, 0 ≤ i ∧ i < n) → rowG n ps ah (intsD r) = true
  | [], ah, _, _ => rfl
  | m :: r, ah, h, hr => by
    obtain ⟨m0, m1⟩ := hr m List.mem_cons_self
    have hall : ah.all (later ps m) = true := List.all_eq_true.mpr fun a ha => (List.pairwise_append.mp h).2.2 a ha m List.mem_cons_self
    have ih := rowG_of r (ah ++ [m]) (by rw [List.append_assoc]; exact h) fun i hi => hr i (List.mem_cons_of_mem _ hi)
    show (((pLe 0 m && pLt m n) && ah.all (later ps m)) && rowG n ps (ah ++ [m]) (intsD r)) = true
    rw [show pLe 0 m = true from decide_eq_true m0, show pLt m n = true from decide_eq_true m1, hall, ih]
    rfl
theorem row_is {xs : List PyData} {r : List Int} (e : xs = intsD r) (hr : ∀ i ∈ r, 0 ≤ i ∧ i < n) : rowB n ps (.tuple xs) = chB ps r := by
  subst e
  rw [Bool.eq_iff_iff, chB_iff]
  constructor
  · intro h
    obtain ⟨q, e, h1, _⟩ := rowG_iff (n := n) (ps := ps) (intsD r) [] .nil (fun _ z => nomatch z) h
    have : r = q := List.map_inj_right (fun a b e => PyData.int.inj e) |>.mp e
    rw [this]
    exact h1
  · intro h
    exact rowG_of r [] h hr
theorem row_no {xs : List PyData} (h : xs.all (okM n) = false) : rowB n ps (.tuple xs) = false := by
  cases e : rowB n ps (.tuple xs) with
  | false => rfl
  | true =>
    obtain ⟨q, rfl, _, h2⟩ := rowG_iff (n := n) (ps := ps) xs [] .nil (fun _ z => nomatch z) e
    have : (intsD q).all (okM n) = true := List.all_eq_true.mpr fun x hx => by
      obtain ⟨i, hi, rfl⟩ := List.mem_map.mp hx
      have := upto_mem.mp (h2 i hi)
      show (pLe 0 i && pLt i n) = true
      rw [show pLe 0 i = true from decide_eq_true this.1, show pLt i n = true from decide_eq_true this.2]
      rfl
    rw [this] at h
    cases h
end
end K06

namespace K06
open PySem PySem.Spec PyProof.Rows L2 DL DLS
def nestP : List (Int × Int) := [(0, 2), (0, 6), (0, 7), (0, 8), (1, 0), (1, 6), (1, 7), (1, 8), (2, 1), (2, 6), (2, 7), (2, 8), (3, 0), (3, 1), (3, 2), (3, 5), (4, 0), (4, 1), (4, 2), (4, 3), (5, 0), (5, 1), (5, 2), (5, 4), (6, 3), (6, 4), (6, 5), (6, 8), (7, 3), (7, 4), (7, 5), (7, 6), (8, 3), (8, 4), (8, 5), (8, 7)]
theorem nest_lot : Lot 9 nestP := okRaw (by decide +kernel)
structure OkT (k : Nat) (r : List Int) : Prop where
  len : r.length ≤ k
  rng : ∀ i ∈ r, i.natAbs ≤ 30
theorem okT_it {k : Nat} {r : List Int} (h : OkT k r) : It 1 (7 * k + 3) 30 (tupD r) := by
  have sq : ∀ q : List Int, (∀ i ∈ q, i.natAbs ≤ 30) → SqI 0 (7 * q.length) 30 (intsD q) := fun q => by
    induction q with
    | nil => exact fun _ => SqI.nil 0 30
    | cons a q ih =>
      intro h
      have := (It.int (d := 0) (B := 30) (h a List.mem_cons_self) (by decide)).one.app (ih fun i hi => h i (List.mem_cons_of_mem _ hi))
      exact this.mono (Nat.le_refl _) (by rw [List.length_cons]; omega) (Nat.le_refl _)
  have hl := h.len
  exact (sq r h.rng).tup.mono (Nat.le_refl _) (by omega) (Nat.le_refl _)
theorem eq_str (t : Str) : opEq (.d (.str t)) (.d (.str t)) = some (.d (.bool true)) := by
  show some (S.d (.bool (decide (t = t)))) = _
  rw [decide_eq_true rfl]
theorem all_true (xs : List PyData) : fAll [.d (.list (xs.map fun _ => .bool true))] = some (.d (.bool true)) := by
  have := fAll_map (fun _ => true) xs
  rw [List.all_eq_true.mpr fun _ _ => rfl] at this
  exact this
theorem ne_none (r : List Int) : opNe (.o (.l (intsD r))) (.d (.list [])) = some (.d (.bool (!r.isEmpty))) := by
  show (if (SeqAt.shaped (.list (intsD r)) && SeqAt.shaped (.list [])) = true then some (S.d (.bool (!PyData.eqv (.list (intsD r)) (.list [])))) else none) = _
  have h1 : SeqAt.shaped (.list (intsD r)) = true := by
    unfold SeqAt.shaped
    show (PyData.canLayAll0 (intsD r) && decide (PyData.depthAll (intsD r) + 1 ≤ 64)) = true
    rw [lay0, depth0]
    rfl
  rw [h1]
  cases r <;> rfl
end K06

namespace K06
open PySem PySem.Spec PyProof.Rows L2 DL DLS
/-! ## the one order -/
theorem perm_keys {α : Type} (key : α → Int) : ∀ {l1 l2 : List α}, l1.Perm l2 → l1.Pairwise (fun a b => key a ≤ key b) → l2.Pairwise (fun a b => key a < key b) → l1 = l2
  | l1, [], p, _, _ => List.Perm.eq_nil p
  | [], x :: xs, p, _, _ => by
    have := List.Perm.length_eq p
    simp at this
  | y :: ys, x :: xs, p, h1, h2 => by
    obtain ⟨a1, a2⟩ := List.pairwise_cons.mp h1
    obtain ⟨b1, b2⟩ := List.pairwise_cons.mp h2
    have e : y = x := by
      rcases List.mem_cons.mp (p.mem_iff.mp List.mem_cons_self) with e | e
      · exact e
      · rcases List.mem_cons.mp (p.mem_iff.mpr List.mem_cons_self) with e' | e'
        · exact e'.symm
        · have q1 := b1 y e
          have q2 := a1 x e'
          omega
    subst e
    rw [perm_keys key (List.Perm.cons_inv p) a2 b2]
section
variable {n : Int} {ps : List (Int × Int)}
theorem later_mem {x y : Int} : later ps x y = true ↔ (x, y) ∈ ps := by
  unfold later
  rw [List.any_eq_true]
  constructor
  · rintro ⟨p, hp, h⟩
    obtain ⟨h1, h2⟩ := of_decide_eq_true h
    rw [← h1, ← h2]
    exact hp
  · exact fun h => ⟨_, h, decide_eq_true ⟨rfl, rfl⟩⟩
theorem later_anti (L : Lot n ps) {x y : Int} (h : later ps x y = true) : later ps y x = false := by
  cases e : later ps y x with
  | false => rfl
  | true => exact absurd (later_mem.mp e) (L.anti _ (later_mem.mp h))
abbrev Ch (ps : List (Int × Int)) (r : List Int) : Prop := r.Pairwise fun a b => later ps b a = true
theorem key_at (L : Lot n ps) {r : List Int} (c : Ch ps r) {i : Nat} {m : Int} (h : r[i]? = some m) : (r.filter (later ps m)).length = i := by
  obtain ⟨hi, e⟩ := List.getElem?_eq_some_iff.mp h
  have er : r = r.take i ++ m :: r.drop (i + 1) := by
    rw [← e, ← List.drop_eq_getElem_cons hi, List.take_append_drop]
  have c' := c
  rw [er] at c'
  obtain ⟨_, c2, c3⟩ := List.pairwise_append.mp c'
  obtain ⟨c4, _⟩ := List.pairwise_cons.mp c2
  have e1 : (r.take i).filter (later ps m) = r.take i := List.filter_eq_self.mpr fun a ha => c3 a ha m List.mem_cons_self
  have e2 : (r.drop (i + 1)).filter (later ps m) = [] := List.filter_eq_nil_iff.mpr fun a ha => by
    rw [later_anti L (c4 a ha)]
    exact Bool.false_ne_true
  have e3 : r.filter (later ps m) = r.take i := by
    conv => lhs; rw [er]
    rw [List.filter_append, List.filter_cons_of_neg (by rw [later_irr L]; exact Bool.false_ne_true), e1, e2, List.append_nil]
  rw [e3, List.length_take]
  omega
def keyOf (ps : List (Int × Int)) (U : List Int) (m : Int) : Int := ((U.filter (later ps m)).length : Nat)
theorem sortBy_perm (ks : List Int) (xs : List Int) (h : ks.length = xs.length) : (DLK.sortBy ks xs).Perm xs := by
  unfold DLK.sortBy
  have := (List.mergeSort_perm (ks.zip xs) fun a b => decide (a.1 ≤ b.1)).map (·.2)
  rw [zip_snd h] at this
  exact this
theorem sortBy_chain (L : Lot n ps) {U r : List Int} (p : r.Perm U) (c : Ch ps r) : DLK.sortBy (U.map (keyOf ps U)) U = r := by
  have ez : (U.map (keyOf ps U)).zip U = U.map fun m => (keyOf ps U m, m) := by
    have : ∀ l : List Int, (l.map (keyOf ps U)).zip l = l.map fun m => (keyOf ps U m, m) := fun l => by
      induction l with
      | nil => rfl
      | cons a l ih => rw [List.map_cons, List.zip_cons_cons, ih, List.map_cons]
    exact this U
  have hk : ∀ {i : Nat} {m : Int}, r[i]? = some m → keyOf ps U m = (i : Int) := fun {i m} h => by
    unfold keyOf
    rw [← (p.filter (later ps m)).length_eq, key_at L c h]
  unfold DLK.sortBy
  rw [ez]
  have q : ((U.map fun m => (keyOf ps U m, m)).mergeSort fun a b => decide (a.1 ≤ b.1)) = r.map fun m => (keyOf ps U m, m) := by
    refine perm_keys Prod.fst ((List.mergeSort_perm _ _).trans (p.map _).symm) ?_ ?_
    · have := List.pairwise_mergeSort (le := fun a b : Int × Int => decide (a.1 ≤ b.1)) (fun a b c h1 h2 => decide_eq_true (Int.le_trans (of_decide_eq_true h1) (of_decide_eq_true h2))) (fun a b => by
        rcases Int.le_total a.1 b.1 with h | h
        · simp [h]
        · simp [h]) (U.map fun m => (keyOf ps U m, m))
      exact this.imp fun {a b} h => of_decide_eq_true h
    · rw [List.pairwise_map, List.pairwise_iff_getElem]
      intro i j hi hj hij
      show keyOf ps U r[i] < keyOf ps U r[j]
      rw [hk (List.getElem?_eq_getElem hi), hk (List.getElem?_eq_getElem hj)]
      omega
  rw [q, List.map_map]
  exact List.map_id r
/-! the law's own laying -/
def firsts (ps : List (Int × Int)) (left : List Int) : List Int := left.filter fun m => (left.filter fun o => !(o == m)).all fun o => later ps o m
def laidG (ps : List (Int × Int)) : Nat → List Int → List Int → Option (List Int)
  | _, [], found => some found
  | 0, _ :: _, _ => none
  | k + 1, x :: xs, found => match firsts ps (x :: xs) with
    | [] => none
    | m :: _ => laidG ps k ((x :: xs).erase m) (found ++ [m])
theorem firsts_mem {left : List Int} {m : Int} (h : m ∈ firsts ps left) : m ∈ left ∧ ∀ o ∈ left, o ≠ m → later ps o m = true := by
  obtain ⟨h1, h2⟩ := List.mem_filter.mp h
  refine ⟨h1, fun o ho hn => List.all_eq_true.mp h2 o (List.mem_filter.mpr ⟨ho, by simpa using hn⟩)⟩
theorem laid_some : ∀ (k : Nat) {left found r : List Int}, left.Nodup → (∀ a ∈ found, ∀ b ∈ left, later ps b a = true) → Ch ps found → laidG ps k left found = some r → r.Perm (found ++ left) ∧ Ch ps r
  | k, [], found, r, _, _, c, h => by
    have h' : some found = some r := by
      cases k <;> exact h
    cases h'
    rw [List.append_nil]
    exact ⟨.refl _, c⟩
  | 0, _ :: _, _, _, _, _, _, h => by cases h
  | k + 1, x :: xs, found, r, nd, hf, c, h => by
    unfold laidG at h
    split at h
    · cases h
    · rename_i m ms hm
      obtain ⟨m1, m2⟩ := firsts_mem (ps := ps) (left := x :: xs) (m := m) (by rw [hm]; exact List.mem_cons_self)
      have ne : ∀ b ∈ (x :: xs).erase m, b ∈ x :: xs ∧ b ≠ m := fun b hb => ⟨List.mem_of_mem_erase hb, fun z => by
        rw [z] at hb
        exact (List.Nodup.mem_erase_iff nd).mp hb |>.1 rfl⟩
      obtain ⟨a1, a2⟩ := laid_some k (nd.erase m) (fun a ha b hb => by
        rcases List.mem_append.mp ha with ha | ha
        · exact hf a ha b (ne b hb).1
        · rw [List.mem_singleton.mp ha]
          exact m2 b (ne b hb).1 (ne b hb).2) (List.pairwise_append.mpr ⟨c, List.pairwise_singleton _ _, fun a ha b hb => by
            rw [List.mem_singleton.mp hb]
            exact hf a ha m m1⟩) h
      refine ⟨a1.trans ?_, a2⟩
      rw [List.append_assoc]
      exact List.Perm.append_left found (List.perm_cons_erase m1).symm
theorem laid_none : ∀ (k : Nat) {left found : List Int}, left.length ≤ k → left.Nodup → laidG ps k left found = none → ¬ ∃ r, r.Perm left ∧ Ch ps r
  | k, [], found, _, _, h => by
    have h' : some found = none := by
      cases k <;> exact h
    cases h'
  | 0, _ :: _, _, hl, _, _ => by simp at hl
  | k + 1, x :: xs, found, hl, nd, h => by
    rintro ⟨r, p, c⟩
    unfold laidG at h
    split at h
    · rename_i hm
      cases r with
      | nil =>
        have := p.length_eq
        simp at this
      | cons y ys =>
        have hy : y ∈ firsts ps (x :: xs) := by
          refine List.mem_filter.mpr ⟨p.mem_iff.mp List.mem_cons_self, List.all_eq_true.mpr fun o ho => ?_⟩
          obtain ⟨o1, o2⟩ := List.mem_filter.mp ho
          have on : o ≠ y := by simpa using o2
          rcases List.mem_cons.mp (p.mem_iff.mpr o1) with e | e
          · exact absurd e on
          · exact (List.pairwise_cons.mp c).1 o e
        rw [hm] at hy
        cases hy
    · rename_i m ms hm
      obtain ⟨m1, m2⟩ := firsts_mem (ps := ps) (left := x :: xs) (m := m) (by rw [hm]; exact List.mem_cons_self)
      refine laid_none k ?_ (nd.erase m) h ⟨r.erase m, p.erase m, c.sublist (List.erase_sublist)⟩
      rw [List.length_erase_of_mem m1]
      simp only [List.length_cons] at hl ⊢
      omega
def ordR (ps : List (Int × Int)) (U : List Int) : Option (List Int) := laidG ps U.length U []
theorem ord_some {U r : List Int} (nd : U.Nodup) (h : ordR ps U = some r) : r.Perm U ∧ Ch ps r := by
  have := laid_some U.length nd (found := []) (fun a ha => nomatch ha) List.Pairwise.nil h
  rwa [List.nil_append] at this
theorem ord_none {U : List Int} (nd : U.Nodup) (h : ordR ps U = none) : ¬ ∃ r, r.Perm U ∧ Ch ps r := laid_none U.length (Nat.le_refl _) nd h
theorem asc_nd {U : List Int} (h : U.Pairwise (· < ·)) : U.Nodup := h.imp fun {a b} q e => by omega
theorem chB_ch {r : List Int} : chB ps r = true ↔ Ch ps r := chB_iff r
end
end K06

namespace K06
open PySem PySem.Spec PyProof.Rows L2 DL DLS
section
variable {n : Int} {ps : List (Int × Int)}
abbrev lamF : FN := runF [] (List.length (α := Str) ["mark", "unlike", "lot", "y"]) (retS (callB fLen (consA (frzP (lcE [3] (seqI (vr 1)) (nameG 3) (bl (callE F_is_later 3 (consA (frzP (vr 2)) (consA (frzP (vr 0)) (consA (frzP (vr 3)) nilA))))) (vr 3))) nilA)))
theorem lam_eq (U : List Int) (m : Int) (hl : U.length ≤ 1000) : lamF [.d (.int m), .d (.list (intsD U)), .d (lotD n ps)] = some (.d (.int (keyOf ps U m)), [none, none, none]) := by
  have hb := line_big
  let δ : Ds := [some (.d (.int m)), some (.d (.list (intsD U))), some (.d (lotD n ps)), none]
  have hlc : lcE [3] (seqI (vr 1)) (nameG 3) (bl (callE F_is_later 3 (consA (frzP (vr 2)) (consA (frzP (vr 0)) (consA (frzP (vr 3)) nilA))))) (vr 3) δ = some (.o (.l (intsD (U.filter (later ps m)))), δ) := by
    have := lcE_pure (i := 3) (fi := seqI (vr 1)) (tt := bl (callE F_is_later 3 (consA (frzP (vr 2)) (consA (frzP (vr 0)) (consA (frzP (vr 3)) nilA))))) (te := vr 3) (δ := δ) (xs := intsD U) (fun x => later ps m (intOf x)) id rfl (seqI_of rfl (.inl rfl)) (fun x hx => by
      obtain ⟨y, _, rfl⟩ := List.mem_map.mp hx
      exact bl_of (callE_data [.d (lotD n ps), .d (.int m), .d (.int y)] rfl rfl (is_later_eq n ps m y) (Nat.le_refl _))) (fun x hx _ => rfl) (by rw [List.length_map]; omega)
    have e : ((intsD U).filter fun x => later ps m (intOf x)).map id = intsD (U.filter (later ps m)) := by
      rw [List.map_id, List.filter_map]
      rfl
    rw [e] at this
    exact this
  refine runF_rt (δ := δ) (retS_of (callB_of (g := fLen) (consA_of (frzP_l hlc) (rfl : nilA δ = some ([], δ))) rfl ?_)) rfl
  show some (S.d (.int (((intsD (U.filter (later ps m))).length : Nat) : Int))) = _
  rw [List.length_map]
  rfl
theorem keys_eq (U : List Int) (hl : U.length ≤ 1000) : ∀ V : List Int, keysOf lamF [.d (.list (intsD U)), .d (lotD n ps)] (intsD V) = some (V.map (keyOf ps U))
  | [] => rfl
  | m :: V => by
    show keysOf lamF _ (.int m :: intsD V) = _
    unfold keysOf
    rw [lam_eq U m hl]
    simp only
    rw [keys_eq U hl V]
    rfl
abbrev ordD (r : Option (List Int)) : PyData := match r with
  | some r => tupD r
  | none => .none
theorem row_ord (L : Lot n ps) {U : List Int} (hU : U.Pairwise (· < ·)) (hr : ∀ m ∈ U, 0 ≤ m ∧ m < n) :
    let r := DLK.sortBy (U.map (keyOf ps U)) U
    (if rowB n ps (tupD r) = true then tupD r else .none) = ordD (ordR ps U) := by
  intro r
  have hp : r.Perm U := sortBy_perm _ _ (List.length_map _)
  have hin : ∀ i ∈ r, 0 ≤ i ∧ i < n := fun i hi => hr i (hp.mem_iff.mp hi)
  rw [row_is rfl hin]
  cases ho : ordR ps U with
  | some q =>
    obtain ⟨q1, q2⟩ := ord_some (asc_nd hU) ho
    have e : r = q := sortBy_chain L q1 q2
    rw [e, if_pos (chB_ch.mpr q2)]
  | none =>
    rw [if_neg fun h => ord_none (asc_nd hU) ho ⟨r, hp, chB_ch.mp h⟩]
theorem in_order_eq (L : Lot n ps) {ms : List Int} (hr : ∀ m ∈ ms, 0 ≤ m ∧ m < n) (hl : ms.length < 64) : F_in_order [.d (lotD n ps), .d (tupD ms)] = some (.d (ordD (ordR ps (usort ms))), [none, none]) := by
  have hb := line_big
  generalize hU : usort ms = U
  have Ul : U.length < 64 := by
    have := usort_len (xs := ms)
    rw [hU] at this
    omega
  have Ua : U.Pairwise (· < ·) := by
    rw [← hU]
    exact usort_asc ms
  have Ur : ∀ m ∈ U, 0 ≤ m ∧ m < n := fun m hm => by
    rw [← hU] at hm
    exact hr m (usort_mem.mp hm)
  have key := row_ord L Ua Ur
  generalize hR : DLK.sortBy (U.map (keyOf ps U)) U = r at key
  have rl : r.length = U.length := by
    rw [← hR]
    exact (sortBy_perm _ _ (List.length_map _)).length_eq
  let δ1 : Ds := [some (.d (lotD n ps)), some (.d (tupD ms)), some (.o (.l (intsD U))), none, none]
  let δ2 : Ds := [some (.d (lotD n ps)), some (.d (tupD ms)), some (.d (.list (intsD U))), none, none]
  let δ3 : Ds := [some (.d (lotD n ps)), some (.d (tupD ms)), some (.d (.list (intsD U))), some (.d (tupD r)), none]
  have a1 : sortSetE (frzP (vr 1)) [some (.d (lotD n ps)), some (.d (tupD ms)), none, none, none] = some (.o (.l (intsD U)), [some (.d (lotD n ps)), some (.d (tupD ms)), none, none, none]) := by
    show (intsU (intsD ms)).bind _ = _
    rw [intsU_map]
    show (if ms.length < 64 then _ else _) = _
    rw [if_pos hl, hU]
  have s1 : setS 2 (sortSetE (frzP (vr 1))) [some (.d (lotD n ps)), some (.d (tupD ms)), none, none, none] = some (.nx δ1) := (setS_of a1).trans rfl
  have a2 : sortKeyE lamF [2, 0] (consA (frzP (vr 2)) nilA) δ1 = some (.o (.l (intsD r)), δ2) := by
    show (keysOf lamF [.d (.list (intsD U)), .d (lotD n ps)] (intsD U)).bind _ = _
    rw [keys_eq U (by omega) U]
    show some (S.o (.l (DLK.sortBy (U.map (keyOf ps U)) (intsD U))), _) = _
    rw [sortBy_map, hR]
    rfl
  have s2 : setS 3 (callB fTuple (consA (frzP (sortKeyE lamF [2, 0] (consA (frzP (vr 2)) nilA))) nilA)) δ1 = some (.nx δ3) := (setS_of (callB_of (g := fTuple) (consA_of (frzP_l a2) (rfl : nilA δ2 = some ([], δ2))) rfl rfl)).trans rfl
  have a3 : callE F_is_row 2 (consA (frzP (vr 0)) (consA (frzP (vr 3)) nilA)) δ3 = some (.d (.bool (rowB n ps (tupD r))), δ3) := callE_data [.d (lotD n ps), .d (tupD r)] rfl rfl (is_row_eq fun xs e => by
    cases e
    rw [List.length_map]
    omega) (Nat.le_refl 2)
  have a4 : ifE (bl (callE F_is_row 2 (consA (frzP (vr 0)) (consA (frzP (vr 3)) nilA)))) (vr 3) (cst .none) δ3 = some (.d (ordD (ordR ps U)), δ3) := by
    rw [← key]
    cases hc : rowB n ps (tupD r) with
    | true =>
      rw [hc] at a3
      exact ifE_t (bl_of a3) rfl
    | false =>
      rw [hc] at a3
      exact ifE_f (bl_of a3) rfl
  exact runF_rt (δ := δ3) (seqS_of s1 (seqS_of s2 (retS_of a4))) rfl
end
end K06

namespace K06
open PySem PySem.Spec PyProof.Rows L2 DL DLS
/-! rows of numbers, sorted: pairs as they are sorted -/
abbrev prL (p : Int × Int) : List Int := [p.1, p.2]
theorem prL_inj {p q : Int × Int} (h : prL p = prL q) : p = q := by
  have h1 := (List.cons.inj h).1
  have h2 := (List.cons.inj (List.cons.inj h).2).1
  exact Prod.ext h1 h2
theorem lex_pr {p q : Int × Int} (h : ltP p q) : LtP (prL p) (prL q) := by
  show lexL [p.1, p.2] [q.1, q.2] = true
  rcases h with h | ⟨h1, h2⟩
  · unfold lexL
    rw [if_neg (by omega)]
    exact decide_eq_true h
  · unfold lexL
    rw [if_pos h1]
    unfold lexL
    rw [if_neg (by omega)]
    exact decide_eq_true h2
theorem sort_pairs {qs : List (Int × Int)} (h : qs.Nodup) : sortT (qs.map prL) = (sortP qs).map prL := by
  refine sort_of ?_ ?_ fun r => ?_
  · rw [List.pairwise_map]
    exact (sort_asc h).imp fun {a b} z => lex_pr z
  · rw [List.Nodup, List.pairwise_map]
    exact h.imp fun {a b} ne e => ne (prL_inj e)
  · rw [List.mem_map, List.mem_map]
    constructor
    · rintro ⟨p, hp, rfl⟩
      exact ⟨p, (mem_sort _ _).mpr hp, rfl⟩
    · rintro ⟨p, hp, rfl⟩
      exact ⟨p, (mem_sort _ _).mp hp, rfl⟩
/-! another order of the marks -/
structure Ordr (n : Int) (σ : List Int) : Prop where
  n0 : 0 ≤ n
  perm : σ.Perm (upto n)
section
variable {n : Int} {ps : List (Int × Int)} {σ : List Int}
theorem Ordr.len (h : Ordr n σ) : (σ.length : Int) = n := by
  rw [h.perm.length_eq, upto_len]
  have := h.n0
  omega
theorem Ordr.nd (h : Ordr n σ) : σ.Nodup := h.perm.nodup_iff.mpr ((upto_asc n).imp fun {a b} h e => by omega)
theorem Ordr.mem (h : Ordr n σ) {a : Int} : a ∈ σ ↔ 0 ≤ a ∧ a < n := by rw [h.perm.mem_iff, upto_mem]
theorem Ordr.gt (h : Ordr n σ) {i : Int} (hi : 0 ≤ i ∧ i < n) : 0 ≤ gt σ i ∧ gt σ i < n := h.mem.mp (gt_mem (by rw [h.len]; exact hi))
theorem Ordr.ix (h : Ordr n σ) {a : Int} (ha : 0 ≤ a ∧ a < n) : 0 ≤ ix σ a ∧ ix σ a < n := by
  have := ix_rng (h.mem.mpr ha)
  rwa [h.len] at this
theorem Ordr.ixgt (h : Ordr n σ) {i : Int} (hi : 0 ≤ i ∧ i < n) : K06.ix σ (K06.gt σ i) = i := ix_gt h.nd (by rw [h.len]; exact hi)
theorem Ordr.gtix (h : Ordr n σ) {a : Int} (ha : 0 ≤ a ∧ a < n) : K06.gt σ (K06.ix σ a) = a := gt_ix (h.mem.mpr ha)
theorem Ordr.inj (h : Ordr n σ) {i j : Int} (hi : 0 ≤ i ∧ i < n) (hj : 0 ≤ j ∧ j < n) (e : K06.gt σ i = K06.gt σ j) : i = j := by
  rw [← h.ixgt hi, ← h.ixgt hj, e]
abbrev gtP (σ : List Int) (p : Int × Int) : Int × Int := (gt σ p.1, gt σ p.2)
def twin (σ : List Int) (ps : List (Int × Int)) : List (Int × Int) := sortP (ps.map (gtP σ))
theorem mem_twin {p : Int × Int} : p ∈ twin σ ps ↔ ∃ q ∈ ps, gtP σ q = p := by
  unfold twin
  rw [mem_sort, List.mem_map]
theorem twin_nd (L : Lot n ps) (h : Ordr n σ) : (ps.map (gtP σ)).Nodup := by
  rw [List.Nodup, List.pairwise_map]
  refine (asc_nodup L.asc).imp_of_mem fun {a b} ha hb ne e => ne ?_
  obtain ⟨a1, a2, a3, a4⟩ := L.rng a ha
  obtain ⟨b1, b2, b3, b4⟩ := L.rng b hb
  exact Prod.ext (h.inj ⟨a1, a2⟩ ⟨b1, b2⟩ (congrArg Prod.fst e)) (h.inj ⟨a3, a4⟩ ⟨b3, b4⟩ (congrArg Prod.snd e))
theorem later_twin (L : Lot n ps) (h : Ordr n σ) {x y : Int} (hx : 0 ≤ x ∧ x < n) (hy : 0 ≤ y ∧ y < n) : later (twin σ ps) (gt σ x) (gt σ y) = later ps x y := by
  rw [Bool.eq_iff_iff, later_mem, later_mem, mem_twin]
  constructor
  · rintro ⟨q, hq, e⟩
    obtain ⟨a1, a2, a3, a4⟩ := L.rng q hq
    have e1 := h.inj ⟨a1, a2⟩ hx (congrArg Prod.fst e)
    have e2 := h.inj ⟨a3, a4⟩ hy (congrArg Prod.snd e)
    rw [← e1, ← e2]
    exact hq
  · intro hq
    exact ⟨_, hq, rfl⟩
theorem twin_lot (L : Lot n ps) (h : Ordr n σ) : Lot n (twin σ ps) := ⟨L.n0, L.n1, sort_asc (twin_nd L h), fun p hp => by
  obtain ⟨q, hq, rfl⟩ := mem_twin.mp hp
  obtain ⟨a1, a2, a3, a4⟩ := L.rng q hq
  have b1 := h.gt ⟨a1, a2⟩
  have b2 := h.gt ⟨a3, a4⟩
  exact ⟨b1.1, b1.2, b2.1, b2.2⟩, fun p hp hs => by
  obtain ⟨q, hq, rfl⟩ := mem_twin.mp hp
  obtain ⟨a1, a2, a3, a4⟩ := L.rng q hq
  have : later (twin σ ps) (gt σ q.2) (gt σ q.1) = true := later_mem.mpr hs
  rw [later_twin L h ⟨a3, a4⟩ ⟨a1, a2⟩] at this
  exact L.anti q hq (later_mem.mp this), by
  unfold twin
  rw [(isort_perm _).length_eq, List.length_map]
  exact L.len⟩
theorem map_ixgt (h : Ordr n σ) {r : List Int} (hr : ∀ a ∈ r, a ∈ upto n) : (r.map (gt σ)).map (ix σ) = r := by
  rw [List.map_map]
  exact (List.map_congr_left fun a ha => h.ixgt (upto_mem.mp (hr a ha))).trans (List.map_id r)
theorem map_gtix (h : Ordr n σ) {r : List Int} (hr : ∀ a ∈ r, a ∈ upto n) : (r.map (ix σ)).map (gt σ) = r := by
  rw [List.map_map]
  exact (List.map_congr_left fun a ha => h.gtix (upto_mem.mp (hr a ha))).trans (List.map_id r)
theorem called_in (L : Lot n ps) (h : Ordr n σ) {k : Nat} {r : List Int} (hr : r ∈ Rs n ps k) : r.map (gt σ) ∈ Rs n (twin σ ps) k := by
  obtain ⟨h1, h2, h3⟩ := rs_iff.mp hr
  refine rs_iff.mpr ⟨by rw [List.length_map, h1], fun a ha => ?_, ?_⟩
  · obtain ⟨i, hi, rfl⟩ := List.mem_map.mp ha
    exact upto_mem.mpr (h.gt (upto_mem.mp (h2 i hi)))
  · rw [List.pairwise_map]
    exact h3.imp_of_mem fun {a b} ha hb z => by rw [later_twin L h (upto_mem.mp (h2 b hb)) (upto_mem.mp (h2 a ha))]; exact z
theorem twin_rows (L : Lot n ps) (h : Ordr n σ) (k : Nat) : sortT ((Rs n ps k).map (List.map (gt σ))) = Rs n (twin σ ps) k := by
  refine sort_of (rs_sorted _ _ k) ?_ fun r => ?_
  · rw [List.Nodup, List.pairwise_map]
    refine (rs_nodup n ps k).imp_of_mem fun {a b} ha hb ne e => ne ?_
    rw [← map_ixgt h (rs_iff.mp ha).2.1, ← map_ixgt h (rs_iff.mp hb).2.1, e]
  · rw [List.mem_map]
    constructor
    · rintro ⟨q, hq, rfl⟩
      exact called_in L h hq
    · intro hr
      obtain ⟨h1, h2, h3⟩ := rs_iff.mp hr
      refine ⟨r.map (ix σ), rs_iff.mpr ⟨by rw [List.length_map, h1], fun a ha => ?_, ?_⟩, map_gtix h h2⟩
      · obtain ⟨i, hi, rfl⟩ := List.mem_map.mp ha
        exact upto_mem.mpr (h.ix (upto_mem.mp (h2 i hi)))
      · rw [List.pairwise_map]
        exact h3.imp_of_mem fun {a b} ha hb z => by
          have a1 := upto_mem.mp (h2 a ha)
          have b1 := upto_mem.mp (h2 b hb)
          rw [← later_twin L h (h.ix b1) (h.ix a1), h.gtix b1, h.gtix a1]
          exact z
/-! turned round -/
theorem later_sw {x y : Int} : later (sw ps) x y = later ps y x := by
  rw [Bool.eq_iff_iff, later_mem, later_mem, mem_sw]
theorem back_rows (k : Nat) : sortT ((Rs n ps k).map List.reverse) = Rs n (sw ps) k := by
  have key : ∀ {ps : List (Int × Int)} {r : List Int}, r ∈ Rs n ps k → r.reverse ∈ Rs n (sw ps) k := fun {ps r} hr => by
    obtain ⟨h1, h2, h3⟩ := rs_iff.mp hr
    refine rs_iff.mpr ⟨by rw [List.length_reverse, h1], fun a ha => h2 a (List.mem_reverse.mp ha), ?_⟩
    rw [List.pairwise_reverse]
    exact h3.imp fun {a b} z => by rw [later_sw]; exact z
  refine sort_of (rs_sorted _ _ k) ?_ fun r => ?_
  · rw [List.Nodup, List.pairwise_map]
    exact (rs_nodup n ps k).imp fun {a b} ne e => ne (List.reverse_inj.mp e)
  · rw [List.mem_map]
    constructor
    · rintro ⟨q, hq, rfl⟩
      exact key hq
    · intro hr
      obtain ⟨h1, h2, h3⟩ := rs_iff.mp hr
      refine ⟨r.reverse, rs_iff.mpr ⟨by rw [List.length_reverse, h1], fun a ha => h2 a (List.mem_reverse.mp ha), ?_⟩, List.reverse_reverse r⟩
      rw [List.pairwise_reverse]
      exact h3.imp fun {a b} z => by rw [later_sw] at z; exact z
/-! the one order -/
theorem ch_nd (L : Lot n ps) {r : List Int} (c : Ch ps r) : r.Nodup := c.imp fun {a b} z e => by
  rw [e, later_irr L] at z
  cases z
theorem ord_uniq (L : Lot n ps) {U r : List Int} (nd : U.Nodup) (p : r.Perm U) (c : Ch ps r) : ordR ps U = some r := by
  cases h : ordR ps U with
  | none => exact absurd ⟨r, p, c⟩ (ord_none nd h)
  | some q =>
    obtain ⟨q1, q2⟩ := ord_some nd h
    rw [← sortBy_chain L p c, ← sortBy_chain L q1 q2]
theorem ord_row (L : Lot n ps) {k : Nat} {r ms : List Int} (hr : r ∈ Rs n ps k) (hm : ∀ a, a ∈ ms ↔ a ∈ r) : ordR ps (usort ms) = some r := by
  obtain ⟨h1, h2, h3⟩ := rs_iff.mp hr
  refine ord_uniq L (asc_nd (usort_asc ms)) ?_ h3
  exact (List.perm_ext_iff_of_nodup (ch_nd L h3) (asc_nd (usort_asc ms))).mpr fun a => by rw [usort_mem, hm]
theorem part_in {k i : Nat} {r : List Int} (hr : r ∈ Rs n ps (k + 1)) (hi : i < k + 1) : r.take i ++ r.drop (i + 1) ∈ Rs n ps k := by
  obtain ⟨h1, h2, h3⟩ := rs_iff.mp hr
  have hs : (r.take i ++ r.drop (i + 1)).Sublist r := by
    rw [← List.eraseIdx_eq_take_drop_succ]
    exact List.eraseIdx_sublist r i
  refine rs_iff.mpr ⟨?_, fun a ha => h2 a (hs.subset ha), h3.sublist hs⟩
  rw [List.length_append, List.length_take, List.length_drop]
  omega
end
end K06

namespace DL
open PySem PySem.Spec PyProof.Rows L2
theorem lcE_mapW {i : Nat} {fi : IEV} {te : EV} {δ : Ds} {xs : List PyData} {v : Option S} (h : PyData → PyData) (hi : δ[i]? = some v) (hv : notOwn v = true) (hf : fi δ = some (xs, δ)) (h2 : ∀ x ∈ xs, te (δ.set i (some (.d x))) = some (.d (h x), δ.set i (some (.d x)))) (hl : xs.length ≤ sizeLine) :
    lcE [i] fi (nameG i) yesT te δ = some (.o (.l (xs.map h)), δ) := by
  have hil : i < δ.length := (List.getElem?_eq_some_iff.mp hi).1
  have h0 : (δ.set i none)[i]? = some none := List.getElem?_set_self hil
  have e := lcD_pure (tt := yesT) (te := te) (p := fun _ => true) (h := h) (xs := xs) h0 (fun x _ => rfl) (fun x hx _ => by rw [List.set_set]; exact h2 x hx)
  rw [List.filter_eq_self.mpr (fun _ _ => rfl)] at e
  have hs : slot δ i = v := by
    unfold slot
    rw [hi]
    cases v <;> rfl
  unfold lcE
  rw [hf]
  simp only [Option.bind_some]
  have no : noOwn [i] δ = true := by
    show (notOwn (slot δ i) && true) = true
    rw [hs, hv]
    rfl
  have w : wipeD δ [i] = δ.set i none := rfl
  rw [if_pos no, w, e]
  simp only [Option.bind_some]
  rw [if_pos (by rw [List.length_map]; exact hl)]
  show some (_, (δ.set i none).set i (slot δ i)) = _
  rw [hs, List.set_set]
  have : δ.set i v = δ := by
    apply List.ext_getElem?
    intro j
    by_cases hj : i = j
    · subst hj
      rw [List.getElem?_set_self hil, hi]
    · rw [List.getElem?_set_ne hj]
  rw [this]
end DL
namespace K06
open PySem PySem.Spec PyProof.Rows L2 DL DLS
theorem eqv_ints : ∀ a b : List Int, PyData.eqv (tupD a) (tupD b) = decide (a = b)
  | [], [] => rfl
  | [], _ :: _ => rfl
  | _ :: _, [] => rfl
  | x :: a, y :: b => by
    have ih := eqv_ints a b
    show ((x == y) && PyData.eqv (tupD a) (tupD b)) = _
    rw [ih]
    by_cases h1 : x = y <;> by_cases h2 : a = b <;> simp [h1, h2]
theorem shaped0 (l : List Int) : SeqAt.shaped (tupD l) = true := by
  unfold SeqAt.shaped
  show (PyData.canLayAll0 (intsD l) && decide (PyData.depthAll (intsD l) + 1 ≤ 64)) = true
  rw [lay0, depth0]
  rfl
theorem in_rows {q : List Int} {rs : List (List Int)} (h : q ∈ rs) : opIn false (.d (tupD q)) (.d (.tuple (rs.map tupD))) = some (.d (.bool true)) := by
  unfold opIn
  show (if (SeqAt.shaped (tupD q) && PyData.canLayAll0 (rs.map tupD)) = true then _ else _) = _
  rw [lay1, shaped0]
  simp only [Bool.and_self, if_true, Bool.false_xor, List.any_map]
  have : (rs.any ((fun y => PyData.eqv y (tupD q)) ∘ tupD)) = true := List.any_eq_true.mpr ⟨q, h, by
    show PyData.eqv (tupD q) (tupD q) = true
    rw [eqv_ints, decide_eq_true rfl]⟩
  congr 3
theorem sort_run {rs : List (List Int)} (h : ∀ r ∈ rs, r ≠ []) : fSortedT [.d (.list (rs.map tupD))] = some (.o (.l ((sortT rs).map tupD))) := by
  show ((rowsP (rs.map tupI)).bind fun rs => if rs.length < 2 ∨ (rs.all fun r => !r.isEmpty) = true then some (S.o (.l ((sortT rs).map tupI))) else none) = _
  rw [rowsP_map]
  simp only [Option.bind_some]
  rw [if_pos (.inr (List.all_eq_true.mpr fun r hr => by
    cases r with
    | nil => exact absurd rfl (h [] hr)
    | cons a r => rfl))]
section
variable {n : Int} {ps : List (Int × Int)} {σ : List Int}
theorem above_eq (r : List Int) (h0 : 0 ≤ n) (h1 : n ≤ 1000) (hl : r.length ≤ 1000) : F_above [.d (lotD n ps), .d (tupD r)] = some (.d (tupD (aboveL n ps r)), [none, none]) := by
  have hb := line_big
  let δ : Ds := [some (.d (lotD n ps)), some (.d (tupD r)), none]
  have hf : rngI1 (consA (frzP (bin opIx (pk 0) (frzP (cst (.int 0))))) nilA) δ = some (intsD (upto n), δ) := by
    rw [← rng_ints]
    exact rngI1_of (consA_of (frzP_d (bin_ix rfl rfl rfl)) rfl) ⟨by omega, by omega⟩
  have hlc : lcE [2] (rngI1 (consA (frzP (bin opIx (pk 0) (frzP (cst (.int 0))))) nilA)) (nameG 2) (bl (callE F_is_over 3 (consA (frzP (vr 0)) (consA (frzP (vr 2)) (consA (frzP (vr 1)) nilA))))) (vr 2) δ = some (.o (.l (intsD (aboveL n ps r))), δ) := by
    have := lcE_pure (i := 2) (te := vr 2) (tt := bl (callE F_is_over 3 (consA (frzP (vr 0)) (consA (frzP (vr 2)) (consA (frzP (vr 1)) nilA))))) (δ := δ) (fun x => r.all (later ps (intOf x))) id rfl hf (fun x hx => by
      obtain ⟨z, _, rfl⟩ := List.mem_map.mp hx
      exact bl_of (callE_data [.d (lotD n ps), .d (.int z), .d (tupD r)] rfl rfl (is_over_eq n ps z r (by omega)) (Nat.le_refl 3))) (fun x hx _ => rfl) (by rw [List.length_map, upto_len]; omega)
    have e : ((intsD (upto n)).filter fun x => r.all (later ps (intOf x))).map id = intsD (aboveL n ps r) := by
      rw [List.map_id, List.filter_map]
      rfl
    rw [e] at this
    exact this
  exact runF_rt (δ := δ) (retS_of (callB_of (g := fTuple) (ss := [.d (.list (intsD (aboveL n ps r)))]) (consA_of (frzP_l hlc) (rfl : nilA δ = some ([], δ))) rfl rfl)) rfl
theorem ix_at {a : Int} (h : 0 ≤ a ∧ a < σ.length) : opIx (.d (.list (intsD σ))) (.d (.int a)) = some (.d (.int (gt σ a))) := by
  show (atI (intsD σ) a).map S.d = _
  have hx : ixN (intsD σ).length a = some a.toNat := by
    rw [List.length_map]
    unfold ixN
    rw [if_pos h.1, if_pos h.2]
  rw [atI_of (xs := intsD σ) (i := a) (j := a.toNat) (x := .int (gt σ a)) hx (by rw [List.getElem?_map, gt_some h]; rfl)]
  rfl
theorem called_eq {r : List Int} (h : Ordr n σ) (hr : ∀ a ∈ r, 0 ≤ a ∧ a < n) (hl : r.length ≤ 1000) : F__law_called [.d (.list (intsD σ)), .d (tupD r)] = some (.d (tupD (r.map (gt σ))), [none, none]) := by
  have hb := line_big
  let δ : Ds := [some (.d (.list (intsD σ))), some (.d (tupD r)), none]
  have hlc := lcE_map (i := 2) (fi := seqI (vr 1)) (te := bin opIx (pk 0) (pk 2)) (δ := δ) (xs := intsD r) (fun x => .int (gt σ (intOf x))) rfl (seqI_of rfl (.inr rfl)) (fun x hx => by
    obtain ⟨a, ha, rfl⟩ := List.mem_map.mp hx
    have hc := hr a ha
    rw [← h.len] at hc
    exact bin_of (p := .v (.d (.list (intsD σ)))) (q := .v (.d (.int a))) rfl rfl rfl rfl (ix_at hc)) (by rw [List.length_map]; omega)
  have e : (intsD r).map (fun x => PyData.int (gt σ (intOf x))) = intsD (r.map (gt σ)) := by
    show (r.map PyData.int).map _ = (r.map (gt σ)).map PyData.int
    rw [List.map_map, List.map_map]
    rfl
  rw [e] at hlc
  exact runF_rt (δ := δ) (retS_of (callB_of (g := fTuple) (ss := [.d (.list (intsD (r.map (gt σ))))]) (consA_of (frzP_l hlc) (rfl : nilA δ = some ([], δ))) rfl rfl)) rfl
abbrev orderB : SEV := exprS (mutL 2 gIns (consA (frzP (callE F__law_take 2 (consA (pk 0) (consA (frzP (bin opAdd (frzP (callB fLen (consA (pk 2) nilA))) (frzP (cst (.int 1))))) nilA)))) (consA (frzP (vr 3)) nilA)))
abbrev O4 (c : C) (n : Int) (fo : List Int) (v3 : Option S) : Ds := [some (.o c), some (.d (.int n)), some (.o (.l (intsD fo))), v3]
theorem upto_succ (k : Nat) : upto ((k + 1 : Nat) : Int) = upto (k : Int) ++ [(k : Int)] := by
  unfold upto
  rw [Int.toNat_natCast, Int.toNat_natCast, List.range_succ, List.map_append]
  show _ = _ ++ [_]
  congr 2
  show [(0 : Int) + (k : Nat)] = _
  rw [Int.zero_add]
theorem order_eq {c : C} {m : Nat} (hp : Pot m c) (hm : m < 2 ^ 38) (h0 : 0 ≤ n) (h1 : n ≤ 24) : ∃ σ c', F__law_order [.o c, .d (.int n)] = some (.d (.list (intsD σ)), [some c', none]) ∧ Ordr n σ ∧ Pot (m + 24) c' := by
  have hb := line_big
  let I : Nat → Ds → Prop := fun k δ => ∃ c fo v3, δ = O4 c n fo v3 ∧ fo.Perm (upto (k : Int)) ∧ Pot (m + k) c
  obtain ⟨δ', e2, c2, fo, v3, rfl, hfp, hp2⟩ := forD_inv (I := I) (tg := nameG 3) (body := orderB) (xs := rng 0 n.toNat) (δ := O4 c n [] none) 0 ⟨c, [], none, rfl, .refl _, hp⟩ (fun k x δ hx hI => by
    obtain ⟨c, fo, v3, rfl, hfp, hp⟩ := hI
    obtain ⟨hk, rfl⟩ := rng_at hx
    rw [Nat.zero_add] at hfp hp ⊢
    rw [Int.zero_add]
    have hfl : fo.length = k := by
      rw [hfp.length_eq, upto_len, Int.toNat_natCast]
    let t : Option S := some (.d (.int (k : Int)))
    obtain ⟨q, c1, e1, q0, q1, hp1⟩ := take_pot (n := (fo.length : Int) + 1) hp (by omega) (by omega) (by omega)
    have hln : callB fLen (consA (pk 2) nilA) (O4 c n fo t) = some (.d (.int (fo.length : Int)), O4 c n fo t) := by
      refine callB_of (g := fLen) (ss := [.o (.l (intsD fo))]) (δ1 := O4 c n fo t) rfl rfl ?_
      show some (S.d (.int (((intsD fo).length : Nat) : Int))) = _
      rw [List.length_map]
    have hadd : bin opAdd (frzP (callB fLen (consA (pk 2) nilA))) (frzP (cst (.int 1))) (O4 c n fo t) = some (.d (.int ((fo.length : Int) + 1)), O4 c n fo t) := bin_add (frzP_d hln) rfl
    have htk : callE F__law_take 2 (consA (pk 0) (consA (frzP (bin opAdd (frzP (callB fLen (consA (pk 2) nilA))) (frzP (cst (.int 1))))) nilA)) (O4 c n fo t) = some (.d (.int q), O4 c1 n fo t) := (callE_own (i := 0) (δ' := O4 c n fo t) [.d (.int ((fo.length : Int) + 1))] (consA_of (p := .own 0) (δ1 := O4 c n fo t) rfl (consA_of (frzP_d hadd) rfl)) rfl rfl e1 (Nat.le_refl 1)).trans rfl
    have hg : gIns (intsD fo) [.int q, .int (k : Int)] = some (.d .none, intsD (fo.take q.toNat ++ [(k : Int)] ++ fo.drop q.toNat)) := by
      show (if (intsD fo).length < sizeLine ∧ 0 ≤ q ∧ q < 2 ^ 63 then some (S.d .none, (intsD fo).take q.toNat ++ [.int (k : Int)] ++ (intsD fo).drop q.toNat) else none) = _
      rw [if_pos ⟨by rw [List.length_map]; omega, q0, by omega⟩]
      show some (S.d PyData.none, (fo.map PyData.int).take q.toNat ++ [.int (k : Int)] ++ (fo.map PyData.int).drop q.toNat) = some (S.d .none, (fo.take q.toNat ++ [(k : Int)] ++ fo.drop q.toNat).map PyData.int)
      rw [List.map_append, List.map_append, List.map_take, List.map_drop]
      rfl
    have hmu := mutL_of (i := 2) (g := gIns) (fa := consA (frzP (callE F__law_take 2 (consA (pk 0) (consA (frzP (bin opAdd (frzP (callB fLen (consA (pk 2) nilA))) (frzP (cst (.int 1))))) nilA)))) (consA (frzP (vr 3)) nilA)) (δ := O4 c n fo t) (δ1 := O4 c1 n fo t) (ys0 := intsD fo) (ys := intsD fo) (ds := [.int q, .int (k : Int)]) rfl (consA_of (frzP_d htk) (consA_of (p := .v (.d (.int (k : Int)))) (δ1 := O4 c1 n fo t) rfl rfl)) rfl rfl hg
    refine ⟨O4 c n fo t, O4 c1 n (fo.take q.toNat ++ [(k : Int)] ++ fo.drop q.toNat) t, rfl, (exprS_of hmu).trans rfl, c1, _, t, rfl, ?_, hp1⟩
    rw [upto_succ]
    have hp3 : (fo.take q.toNat ++ [(k : Int)] ++ fo.drop q.toNat).Perm ((k : Int) :: fo) := by
      rw [List.append_assoc]
      have := List.perm_middle (a := (k : Int)) (l₁ := fo.take q.toNat) (l₂ := fo.drop q.toNat)
      rw [List.take_append_drop] at this
      exact this
    refine hp3.trans (((List.Perm.cons _ hfp)).trans ?_)
    have := List.perm_append_comm (l₁ := [(k : Int)]) (l₂ := upto (k : Int))
    exact this)
  rw [rng_len, Nat.zero_add] at hfp hp2
  rw [Int.toNat_of_nonneg h0] at hfp
  exact ⟨fo, c2, runF_rt (δ := [some (.o c2), some (.d (.int n)), some (.d (.list (intsD fo))), v3]) (seqS_of (δ1 := O4 c n [] none) rfl (seqS_of (forS_of (rngI1_of (n := n) rfl ⟨by omega, by omega⟩) e2) (retS_of rfl))) rfl, ⟨h0, hfp⟩, hp2.mono (by omega)⟩
theorem parts_eq (r : List Int) (hl : r.length ≤ 1000) : F__law_parts_of [.d (tupD r)] = some (.o (.l ((List.range r.length).map fun i => tupD (r.take i ++ r.drop (i + 1)))), [none]) := by
  have hb := line_big
  let δ : Ds := [some (.d (tupD r)), none]
  have hln : callB fLen (consA (pk 0) nilA) δ = some (.d (.int (r.length : Int)), δ) := by
    refine callB_of (g := fLen) (ss := [.d (tupD r)]) (δ1 := δ) rfl rfl ?_
    show some (S.d (.int (((intsD r).length : Nat) : Int))) = _
    rw [List.length_map]
  have hf : rngI1 (consA (frzP (callB fLen (consA (pk 0) nilA))) nilA) δ = some (rng 0 r.length, δ) := by
    have := rngI1_of (n := (r.length : Int)) (consA_of (frzP_d hln) (rfl : nilA δ = some ([], δ))) ⟨by omega, by omega⟩
    rw [Int.toNat_natCast] at this
    exact this
  have hlc := lcE_map (i := 1) (te := bin opAdd (frzP (slE (pk 0) noP (someP (pk 1)))) (frzP (slE (pk 0) (someP (frzP (bin opAdd (pk 1) (frzP (cst (.int 1)))))) noP))) (δ := δ) (xs := rng 0 r.length) (fun x => tupD (r.take (intOf x).toNat ++ r.drop ((intOf x).toNat + 1))) rfl hf (fun x hx => by
    obtain ⟨k, hk⟩ := List.mem_iff_getElem?.mp hx
    obtain ⟨hk, rfl⟩ := rng_at hk
    rw [Int.zero_add]
    let δk : Ds := [some (.d (tupD r)), some (.d (.int (k : Int)))]
    have h1 : slE (pk 0) noP (someP (pk 1)) δk = some (.d (tupD (r.take k)), δk) := by
      show some (S.d (.tuple (DL.cutD (intsD r) none (some (k : Int)))), _) = _
      rw [K06.cut_lo _ _ (by rw [List.length_map]; omega)]
      show some (S.d (.tuple ((r.map PyData.int).take k)), _) = some (S.d (.tuple ((r.take k).map PyData.int)), _)
      rw [List.map_take]
    have h2 : slE (pk 0) (someP (frzP (bin opAdd (pk 1) (frzP (cst (.int 1)))))) noP δk = some (.d (tupD (r.drop (k + 1))), δk) := by
      show some (S.d (.tuple (DL.cutD (intsD r) (some ((k : Int) + 1)) none)), _) = _
      rw [show (k : Int) + 1 = ((k + 1 : Nat) : Int) by omega, K06.cut_hi _ _ (by rw [List.length_map]; omega)]
      show some (S.d (.tuple ((r.map PyData.int).drop (k + 1))), _) = some (S.d (.tuple ((r.drop (k + 1)).map PyData.int)), _)
      rw [List.map_drop]
    have hs := add_tup (intsD (r.take k)) (intsD (r.drop (k + 1))) (by rw [List.length_map, List.length_map, List.length_take, List.length_drop]; omega)
    have hE : tupD (r.take k ++ r.drop (k + 1)) = .tuple (intsD (r.take k) ++ intsD (r.drop (k + 1))) := by
      show PyData.tuple ((r.take k ++ r.drop (k + 1)).map PyData.int) = _
      rw [List.map_append]
    rw [← hE] at hs
    exact bin_of (δ1 := δk) (δ2 := δk) (frzP_d h1) (frzP_d h2) rfl rfl hs) (by simp [rng]; omega)
  have e : (rng 0 r.length).map (fun x => tupD (r.take (intOf x).toNat ++ r.drop ((intOf x).toNat + 1))) = (List.range r.length).map fun i => tupD (r.take i ++ r.drop (i + 1)) := by
    unfold rng
    rw [List.map_map]
    refine List.map_congr_left fun k _ => ?_
    show tupD (r.take ((0 : Int) + (k : Nat)).toNat ++ r.drop (((0 : Int) + (k : Nat)).toNat + 1)) = _
    rw [Int.zero_add, Int.toNat_natCast]
  rw [e] at hlc
  exact runF_rt (δ := δ) (retS_of hlc) rfl
end
end K06

namespace K06
open PySem PySem.Spec PyProof.Rows L2 DL DLS
section
variable {n : Int} {ps : List (Int × Int)} {σ : List Int}
abbrev R13 (c : C) (n : Int) (ps : List (Int × Int)) (σ : List Int) (v3 v4 v5 v6 v7 v8 v9 : Option S) : Ds := [some (.o c), some (.d (lotD n ps)), some (.d (.list (intsD σ))), v3, v4, v5, v6, v7, v8, v9, none, none, none]
abbrev T13 (c : C) (n : Int) (ps : List (Int × Int)) (σ : List Int) (v5 v6 v7 v8 v9 : Option S) : Ds := R13 c n ps σ (some (.d (lotD n (twin σ ps)))) (some (.d (lotD n (sw ps)))) v5 v6 v7 v8 v9
abbrev rT (rs : List (List Int)) : Option S := some (.d (.tuple (rs.map tupD)))
theorem ix0_lot : opIx (.d (lotD n ps)) (.d (.int 0)) = some (.d (.int n)) := rfl
abbrev calledE (i : Nat) : EV := callE F__law_called 2 (consA (frzP (vr 2)) (consA (frzP (vr i)) nilA))
abbrev pairsI : IEV := seqI (bin opIx (pk 1) (frzP (cst (.int 1))))
abbrev twinE : EV := tupE (consA (frzP (bin opIx (pk 1) (frzP (cst (.int 0))))) (consA (frzP (callB fTuple (consA (frzP (callB fSortedT (consA (frzP (lcE [10] pairsI (nameG 10) yesT (calledE 10))) nilA))) nilA))) nilA))
abbrev backE : EV := tupE (consA (frzP (bin opIx (pk 1) (frzP (cst (.int 0))))) (consA (frzP (callB fTuple (consA (frzP (callB fSortedT (consA (frzP (lcE [10] pairsI (nameG 10) yesT (revE (pk 10)))) nilA))) nilA))) nilA))
theorem twin_eq {c : C} {v3 v4 v5 v6 v7 v8 v9 : Option S} (L : Lot n ps) (h : Ordr n σ) : twinE (R13 c n ps σ v3 v4 v5 v6 v7 v8 v9) = some (.d (lotD n (twin σ ps)), R13 c n ps σ v3 v4 v5 v6 v7 v8 v9) := by
  have hb := line_big
  have hl := L.len
  let δ : Ds := R13 c n ps σ v3 v4 v5 v6 v7 v8 v9
  have hlc := lcE_map (i := 10) (fi := pairsI) (te := calledE 10) (δ := δ) (xs := ps.map pr) (fun x => tupD ((intsOf x).map (gt σ))) rfl (seqI_of (bin_ix (a := .d (lotD n ps)) (j := 1) rfl rfl rfl) (.inr rfl)) (fun x hx => by
    obtain ⟨p, hp, rfl⟩ := List.mem_map.mp hx
    obtain ⟨a1, a2, a3, a4⟩ := L.rng p hp
    have hc := called_eq (r := prL p) h (fun a ha => by
      simp only [List.mem_cons, List.not_mem_nil, or_false] at ha
      rcases ha with rfl | rfl
      · exact ⟨a1, a2⟩
      · exact ⟨a3, a4⟩) (by show 2 ≤ 1000; decide)
    exact callE_data [.d (.list (intsD σ)), .d (tupD (prL p))] rfl rfl hc (Nat.le_refl 2)) (by rw [List.length_map]; omega)
  have e : (ps.map pr).map (fun x => tupD ((intsOf x).map (gt σ))) = (((ps.map (gtP σ)).map prL)).map tupD := by
    rw [List.map_map, List.map_map, List.map_map]
    rfl
  rw [e] at hlc
  have hs := sort_run (rs := (ps.map (gtP σ)).map prL) (fun r hr => by
    obtain ⟨p, _, rfl⟩ := List.mem_map.mp hr
    exact fun z => by cases z)
  rw [sort_pairs (twin_nd L h)] at hs
  have hsl : callB fSortedT (consA (frzP (lcE [10] pairsI (nameG 10) yesT (calledE 10))) nilA) δ = some (.o (.l (((twin σ ps).map prL).map tupD)), δ) := callB_of (g := fSortedT) (consA_of (frzP_l hlc) (rfl : nilA δ = some ([], δ))) rfl hs
  have ht : callB fTuple (consA (frzP (callB fSortedT (consA (frzP (lcE [10] pairsI (nameG 10) yesT (calledE 10))) nilA))) nilA) δ = some (.d (.tuple (((twin σ ps).map prL).map tupD)), δ) := callB_of (g := fTuple) (consA_of (frzP_l hsl) (rfl : nilA δ = some ([], δ))) rfl rfl
  have e2 : ((twin σ ps).map prL).map tupD = (twin σ ps).map pr := by
    rw [List.map_map]
    rfl
  rw [e2] at ht
  exact tupE_of (ds := [.int n, .tuple ((twin σ ps).map pr)]) (consA_of (p := .v (.d (.int n))) (δ1 := δ) (frzP_d (bin_ix (a := .d (lotD n ps)) (j := 0) rfl rfl rfl)) (consA_of (frzP_d ht) rfl)) rfl (show 2 ≤ sizeLine by decide)
theorem back_eq {c : C} {v3 v4 v5 v6 v7 v8 v9 : Option S} (L : Lot n ps) : backE (R13 c n ps σ v3 v4 v5 v6 v7 v8 v9) = some (.d (lotD n (sw ps)), R13 c n ps σ v3 v4 v5 v6 v7 v8 v9) := by
  have hb := line_big
  have hl := L.len
  let δ : Ds := R13 c n ps σ v3 v4 v5 v6 v7 v8 v9
  have hlc := lcE_map (i := 10) (fi := pairsI) (te := revE (pk 10)) (δ := δ) (xs := ps.map pr) (fun x => tupD (intsOf x).reverse) rfl (seqI_of (bin_ix (a := .d (lotD n ps)) (j := 1) rfl rfl rfl) (.inr rfl)) (fun x hx => by
    obtain ⟨p, hp, rfl⟩ := List.mem_map.mp hx
    rfl) (by rw [List.length_map]; omega)
  have e : (ps.map pr).map (fun x => tupD (intsOf x).reverse) = (((ps.map swp).map prL)).map tupD := by
    rw [List.map_map, List.map_map, List.map_map]
    rfl
  rw [e] at hlc
  have hs := sort_run (rs := (ps.map swp).map prL) (fun r hr => by
    obtain ⟨p, _, rfl⟩ := List.mem_map.mp hr
    exact fun z => by cases z)
  rw [sort_pairs (swp_nodup (asc_nodup L.asc))] at hs
  have hsl : callB fSortedT (consA (frzP (lcE [10] pairsI (nameG 10) yesT (revE (pk 10)))) nilA) δ = some (.o (.l (((sw ps).map prL).map tupD)), δ) := callB_of (g := fSortedT) (consA_of (frzP_l hlc) (rfl : nilA δ = some ([], δ))) rfl hs
  have ht : callB fTuple (consA (frzP (callB fSortedT (consA (frzP (lcE [10] pairsI (nameG 10) yesT (revE (pk 10)))) nilA))) nilA) δ = some (.d (.tuple (((sw ps).map prL).map tupD)), δ) := callB_of (g := fTuple) (consA_of (frzP_l hsl) (rfl : nilA δ = some ([], δ))) rfl rfl
  have e2 : ((sw ps).map prL).map tupD = (sw ps).map pr := by
    rw [List.map_map]
    rfl
  rw [e2] at ht
  exact tupE_of (ds := [.int n, .tuple ((sw ps).map pr)]) (consA_of (p := .v (.d (.int n))) (δ1 := δ) (frzP_d (bin_ix (a := .d (lotD n ps)) (j := 0) rfl rfl rfl)) (consA_of (frzP_d ht) rfl)) rfl (show 2 ≤ sizeLine by decide)
/-! the rows of a size -/
theorem rs_line (L : Lot n ps) {k : Nat} (hk : k ≤ 5) : (Rs n ps k).length ≤ sizeLine := by
  rw [List.length_map]
  exact rs_small L hk
theorem rs_ne {k : Nat} {r : List Int} (hr : r ∈ Rs n ps (k + 1)) : r ≠ [] := fun e => by
  have := (rs_iff.mp hr).1
  rw [e] at this
  cases this
abbrev tupS (f : EV) : EV := callB fTuple (consA (frzP (callB fSortedT (consA (frzP f) nilA))) nilA)
theorem sorted_to {f : EV} {δ : Ds} {rs qs : List (List Int)} (h : f δ = some (.o (.l (rs.map tupD)), δ)) (hne : ∀ r ∈ rs, r ≠ []) (e : sortT rs = qs) : tupS f δ = some (.d (.tuple (qs.map tupD)), δ) := by
  have hs := sort_run hne
  rw [e] at hs
  have hsl : callB fSortedT (consA (frzP f) nilA) δ = some (.o (.l (qs.map tupD)), δ) := callB_of (g := fSortedT) (consA_of (frzP_l h) (rfl : nilA δ = some ([], δ))) rfl hs
  exact callB_of (g := fTuple) (consA_of (frzP_l hsl) (rfl : nilA δ = some ([], δ))) rfl rfl
theorem ne_rows (rs : List (List Int)) : opNe (.d (.tuple (rs.map tupD))) (.d (.tuple (rs.map tupD))) = some (.d (.bool false)) := ne_self _ (shaped1 rs) (fun _ z => by cases z)
theorem one_test {c : C} {v5 v8 v9 : Option S} {k : Nat} (L : Lot n ps) (h : Ordr n σ) (hk : k < 4) (h9 : notOwn v9 = true) : 
    bl (bin opNe (frzP (tupS (lcE [9] (seqI (vr 7)) (nameG 9) yesT (calledE 9)))) (frzP (callE F_rows 2 (consA (frzP (vr 3)) (consA (frzP (vr 6)) nilA))))) (T13 c n ps σ v5 (some (.d (.int ((k + 1 : Nat) : Int)))) (rT (Rs n ps (k + 1))) v8 v9) = some (false, T13 c n ps σ v5 (some (.d (.int ((k + 1 : Nat) : Int)))) (rT (Rs n ps (k + 1))) v8 v9) := by
  have hb := line_big
  let δ : Ds := T13 c n ps σ v5 (some (.d (.int ((k + 1 : Nat) : Int)))) (rT (Rs n ps (k + 1))) v8 v9
  have hlc := lcE_mapW (i := 9) (v := v9) (fi := seqI (vr 7)) (te := calledE 9) (δ := δ) (xs := (Rs n ps (k + 1)).map tupD) (fun x => tupD ((intsOf x).map (gt σ))) rfl h9 (seqI_of rfl (.inr rfl)) (fun x hx => by
    obtain ⟨r, hr, rfl⟩ := List.mem_map.mp hx
    obtain ⟨h1, h2, h3⟩ := rs_iff.mp hr
    have hc := called_eq (r := r) h (fun a ha => upto_mem.mp (h2 a ha)) (by omega)
    rw [intsOf_tup]
    exact callE_data [.d (.list (intsD σ)), .d (tupD r)] rfl rfl hc (Nat.le_refl 2)) (by rw [List.length_map]; exact rs_line L (by omega))
  have e : ((Rs n ps (k + 1)).map tupD).map (fun x => tupD ((intsOf x).map (gt σ))) = ((Rs n ps (k + 1)).map (List.map (gt σ))).map tupD := by
    generalize Rs n ps (k + 1) = rs
    rw [List.map_map, List.map_map]
    refine List.map_congr_left fun r _ => ?_
    show tupD ((intsOf (tupD r)).map (gt σ)) = _
    rw [intsOf_tup]
    rfl
  rw [e] at hlc
  have hs := sorted_to hlc (fun r hr => by
    obtain ⟨q, hq, rfl⟩ := List.mem_map.mp hr
    intro z
    exact rs_ne hq (List.map_eq_nil_iff.mp z)) (twin_rows L h (k + 1))
  have hr : callE F_rows 2 (consA (frzP (vr 3)) (consA (frzP (vr 6)) nilA)) δ = some (.d (.tuple ((Rs n (twin σ ps) (k + 1)).map tupD)), δ) := callE_data [.d (lotD n (twin σ ps)), .d (.int ((k + 1 : Nat) : Int))] rfl rfl (rows_eq (twin_lot L h) (by omega)) (Nat.le_refl 2)
  exact bl_of (bin_of (g := opNe) (frzP_d hs) (frzP_d hr) rfl rfl (ne_rows _))
theorem two_test {c : C} {v5 v8 v9 : Option S} {k : Nat} (L : Lot n ps) (hk : k < 4) (h9 : notOwn v9 = true) : 
    bl (bin opNe (frzP (tupS (lcE [9] (seqI (vr 7)) (nameG 9) yesT (revE (pk 9))))) (frzP (callE F_rows 2 (consA (frzP (vr 4)) (consA (frzP (vr 6)) nilA))))) (T13 c n ps σ v5 (some (.d (.int ((k + 1 : Nat) : Int)))) (rT (Rs n ps (k + 1))) v8 v9) = some (false, T13 c n ps σ v5 (some (.d (.int ((k + 1 : Nat) : Int)))) (rT (Rs n ps (k + 1))) v8 v9) := by
  have hb := line_big
  let δ : Ds := T13 c n ps σ v5 (some (.d (.int ((k + 1 : Nat) : Int)))) (rT (Rs n ps (k + 1))) v8 v9
  have hrev : ∀ r : List Int, PyData.tuple (intsD r).reverse = tupD r.reverse := fun r => by
    show PyData.tuple (r.map PyData.int).reverse = _
    rw [← List.map_reverse]
  have hlc := lcE_mapW (i := 9) (v := v9) (fi := seqI (vr 7)) (te := revE (pk 9)) (δ := δ) (xs := (Rs n ps (k + 1)).map tupD) (fun x => tupD (intsOf x).reverse) rfl h9 (seqI_of rfl (.inr rfl)) (fun x hx => by
    obtain ⟨r, hr, rfl⟩ := List.mem_map.mp hx
    rw [intsOf_tup, ← hrev]
    rfl) (by rw [List.length_map]; exact rs_line L (by omega))
  have e : ((Rs n ps (k + 1)).map tupD).map (fun x => tupD (intsOf x).reverse) = ((Rs n ps (k + 1)).map List.reverse).map tupD := by
    generalize Rs n ps (k + 1) = rs
    rw [List.map_map, List.map_map]
    refine List.map_congr_left fun r _ => ?_
    show tupD (intsOf (tupD r)).reverse = _
    rw [intsOf_tup]
    rfl
  rw [e] at hlc
  have hs := sorted_to hlc (fun r hr => by
    obtain ⟨q, hq, rfl⟩ := List.mem_map.mp hr
    intro z
    exact rs_ne hq (List.reverse_eq_nil_iff.mp z)) (back_rows (n := n) (ps := ps) (k + 1))
  have hr : callE F_rows 2 (consA (frzP (vr 4)) (consA (frzP (vr 6)) nilA)) δ = some (.d (.tuple ((Rs n (sw ps) (k + 1)).map tupD)), δ) := callE_data [.d (lotD n (sw ps)), .d (.int ((k + 1 : Nat) : Int))] rfl rfl (rows_eq L.sw (by omega)) (Nat.le_refl 2)
  exact bl_of (bin_of (g := opNe) (frzP_d hs) (frzP_d hr) rfl rfl (ne_rows _))
/-! longer by one -/
abbrev longB : SEV := exprS (mutL 8 gExt (consA (frzP (lcE [11] (seqI (callE F_above 2 (consA (frzP (vr 1)) (consA (frzP (vr 9)) nilA)))) (nameG 11) yesT (bin opAdd (pk 9) (frzP (tupE (consA (frzP (vr 11)) nilA)))))) nilA))
theorem long_for {c : C} {v5 v6 v7 : Option S} (L : Lot n ps) : ∀ (cs acc : List (List Int)) (v9 : Option S), notOwn v9 = true → (∀ r ∈ cs, r.length ≤ 900) → (acc ++ cs.flatMap (stepC n ps)).length ≤ sizeLine →
    ∃ w9, notOwn w9 = true ∧ forD (nameG 9) longB (cs.map tupD) (T13 c n ps σ v5 v6 v7 (some (.o (.l (acc.map tupD)))) v9) = some (.nx (T13 c n ps σ v5 v6 v7 (some (.o (.l ((acc ++ cs.flatMap (stepC n ps)).map tupD)))) w9))
  | [], acc, v9, h9, _, _ => ⟨v9, h9, by rw [List.flatMap_nil, List.append_nil]; rfl⟩
  | r :: cs, acc, v9, h9, hl, hz => by
    have hb := line_big
    have n0 := L.n0
    have n1 := L.n1
    rw [List.flatMap_cons, ← List.append_assoc] at hz
    obtain ⟨w9, hw, e⟩ := long_for (c := c) (v5 := v5) (v6 := v6) (v7 := v7) L cs (acc ++ stepC n ps r) (some (.d (tupD r))) rfl (fun q hq => hl q (List.mem_cons_of_mem _ hq)) hz
    refine ⟨w9, hw, ?_⟩
    have hrl := hl r List.mem_cons_self
    have ha := above_le n ps r
    let δ1 : Ds := T13 c n ps σ v5 v6 v7 (some (.o (.l (acc.map tupD)))) (some (.d (tupD r)))
    have hf : seqI (callE F_above 2 (consA (frzP (vr 1)) (consA (frzP (vr 9)) nilA))) δ1 = some (intsD (aboveL n ps r), δ1) := seqI_of (callE_data [.d (lotD n ps), .d (tupD r)] rfl rfl (above_eq r n0 (by omega) (by omega)) (Nat.le_refl 2)) (.inr rfl)
    have hlc : lcE [11] (seqI (callE F_above 2 (consA (frzP (vr 1)) (consA (frzP (vr 9)) nilA)))) (nameG 11) yesT (bin opAdd (pk 9) (frzP (tupE (consA (frzP (vr 11)) nilA)))) δ1 = some (.o (.l ((stepC n ps r).map tupD)), δ1) := by
      have := lcE_map (i := 11) (fi := seqI (callE F_above 2 (consA (frzP (vr 1)) (consA (frzP (vr 9)) nilA)))) (te := bin opAdd (pk 9) (frzP (tupE (consA (frzP (vr 11)) nilA)))) (δ := δ1) (xs := intsD (aboveL n ps r)) (fun x => tupD (r ++ [intOf x])) rfl hf (fun x hx => by
        obtain ⟨z, _, rfl⟩ := List.mem_map.mp hx
        exact bin_of rfl (frzP_d (tupE_of rfl rfl (show 1 ≤ sizeLine by decide))) rfl rfl (add_mark r z (by omega))) (by rw [List.length_map]; omega)
      rw [List.map_map] at this
      unfold stepC
      rw [List.map_map]
      exact this
    have hg : gExt (acc.map tupD) [.list ((stepC n ps r).map tupD)] = some (.d .none, (acc ++ stepC n ps r).map tupD) := by
      rw [List.map_append]
      refine if_pos ?_
      rw [List.length_map, List.length_map, ← List.length_append]
      rw [List.length_append] at hz
      omega
    have s : longB δ1 = some (.nx (T13 c n ps σ v5 v6 v7 (some (.o (.l ((acc ++ stepC n ps r).map tupD)))) (some (.d (tupD r))))) := (exprS_of (mutL_of (i := 8) (g := gExt) (ys0 := acc.map tupD) (ys := acc.map tupD) rfl (consA_of (frzP_l hlc) (rfl : nilA δ1 = some ([], δ1))) rfl rfl hg)).trans rfl
    rw [List.flatMap_cons, ← List.append_assoc, List.map_cons]
    unfold forD
    show ((some δ1).bind fun δ1 => _) = _
    simp only [Option.bind_some]
    rw [s]
    exact e
/-! each chain -/
abbrev partsE : EV := lcE [12] (seqI (callE F__law_parts_of 1 (consA (frzP (vr 9)) nilA))) (nameG 12) yesT (bin (opIn false) (pk 12) (pk 5))
abbrev chainB : SEV := (seqS (ifS (orT (notT (bl (callB fAll (consA (frzP partsE) nilA)))) (bl (bin (opIs true) (frzP (callE F_is_row 2 (consA (frzP (vr 1)) (consA (frzP (vr 9)) nilA)))) (frzP (cst (.bool true)))))) (retS (cst (.bool false))) nxS)
  (ifS (bl (bin opNe (frzP (callE F_in_order 2 (consA (frzP (vr 3)) (consA (frzP (callE F__law_called 2 (consA (frzP (vr 2)) (consA (frzP (revE (pk 9))) nilA)))) nilA)))) (frzP (callE F__law_called 2 (consA (frzP (vr 2)) (consA (frzP (vr 9)) nilA)))))) (retS (cst (.bool false))) nxS))
theorem chain_step {c : C} {v6 v7 v8 : Option S} {k : Nat} {r : List Int} (L : Lot n ps) (h : Ordr n σ) (hk : k < 4) (hr : r ∈ Rs n ps (k + 1)) : chainB (T13 c n ps σ (rT (Rs n ps k)) v6 v7 v8 (some (.d (tupD r)))) = some (.nx (T13 c n ps σ (rT (Rs n ps k)) v6 v7 v8 (some (.d (tupD r))))) := by
  have hb := line_big
  obtain ⟨h1, h2, h3⟩ := rs_iff.mp hr
  have hrg : ∀ a ∈ r, 0 ≤ a ∧ a < n := fun a ha => upto_mem.mp (h2 a ha)
  let δ : Ds := T13 c n ps σ (rT (Rs n ps k)) v6 v7 v8 (some (.d (tupD r)))
  have hf : seqI (callE F__law_parts_of 1 (consA (frzP (vr 9)) nilA)) δ = some ((List.range r.length).map fun i => tupD (r.take i ++ r.drop (i + 1)), δ) := seqI_of (callE_data [.d (tupD r)] rfl rfl (parts_eq r (by omega)) (Nat.le_refl 1)) (.inl rfl)
  have hlc := lcE_map (i := 12) (te := bin (opIn false) (pk 12) (pk 5)) (δ := δ) (xs := (List.range r.length).map fun i => tupD (r.take i ++ r.drop (i + 1))) (fun _ => .bool true) rfl hf (fun x hx => by
    obtain ⟨i, hi, rfl⟩ := List.mem_map.mp hx
    rw [List.mem_range] at hi
    exact bin_of rfl rfl rfl rfl (in_rows (part_in hr (by omega)))) (by rw [List.length_map, List.length_range]; omega)
  have t1 : notT (bl (callB fAll (consA (frzP partsE) nilA))) δ = some (false, δ) := notT_of (b := true) (bl_of (callB_of (g := fAll) (consA_of (frzP_l hlc) (rfl : nilA δ = some ([], δ))) rfl (all_true _)))
  have k2 : callE F_is_row 2 (consA (frzP (vr 1)) (consA (frzP (vr 9)) nilA)) δ = some (.d (.bool true), δ) := by
    have := is_row_eq (n := n) (ps := ps) (x := tupD r) (fun xs e => by
      cases e
      rw [List.length_map]
      omega)
    rw [row_is rfl hrg, chB_ch.mpr h3] at this
    exact callE_data [.d (lotD n ps), .d (tupD r)] rfl rfl this (Nat.le_refl 2)
  have t2 : bl (bin (opIs true) (frzP (callE F_is_row 2 (consA (frzP (vr 1)) (consA (frzP (vr 9)) nilA)))) (frzP (cst (.bool true)))) δ = some (false, δ) := bl_of (bin_of (g := opIs true) (frzP_d k2) (q := .v (.d (.bool true))) (δ2 := δ) rfl rfl rfl rfl)
  have hrev : PyData.tuple (intsD r).reverse = tupD r.reverse := by
    show PyData.tuple (r.map PyData.int).reverse = _
    rw [← List.map_reverse]
  have krev : revE (pk 9) δ = some (.d (tupD r.reverse), δ) := by
    rw [← hrev]
    rfl
  have hrr : ∀ a ∈ r.reverse, 0 ≤ a ∧ a < n := fun a ha => hrg a (List.mem_reverse.mp ha)
  have k3 : callE F__law_called 2 (consA (frzP (vr 2)) (consA (frzP (revE (pk 9))) nilA)) δ = some (.d (tupD (r.reverse.map (gt σ))), δ) := callE_data [.d (.list (intsD σ)), .d (tupD r.reverse)] (consA_of (p := .v (.d (.list (intsD σ)))) (δ1 := δ) rfl (consA_of (frzP_d krev) rfl)) rfl (called_eq h hrr (by rw [List.length_reverse]; omega)) (Nat.le_refl 2)
  have k4 : callE F__law_called 2 (consA (frzP (vr 2)) (consA (frzP (vr 9)) nilA)) δ = some (.d (tupD (r.map (gt σ))), δ) := callE_data [.d (.list (intsD σ)), .d (tupD r)] rfl rfl (called_eq h hrg (by omega)) (Nat.le_refl 2)
  have hio := in_order_eq (twin_lot L h) (ms := r.reverse.map (gt σ)) (fun a ha => by
    obtain ⟨i, hi, rfl⟩ := List.mem_map.mp ha
    exact h.gt (hrr i hi)) (by rw [List.length_map, List.length_reverse]; omega)
  rw [ord_row (twin_lot L h) (called_in L h hr) (fun a => by
    rw [List.mem_map, List.mem_map]
    constructor
    · rintro ⟨i, hi, e⟩
      exact ⟨i, List.mem_reverse.mp hi, e⟩
    · rintro ⟨i, hi, e⟩
      exact ⟨i, List.mem_reverse.mpr hi, e⟩)] at hio
  have k5 : callE F_in_order 2 (consA (frzP (vr 3)) (consA (frzP (callE F__law_called 2 (consA (frzP (vr 2)) (consA (frzP (revE (pk 9))) nilA)))) nilA)) δ = some (.d (tupD (r.map (gt σ))), δ) := callE_data [.d (lotD n (twin σ ps)), .d (tupD (r.reverse.map (gt σ)))] (consA_of (p := .v (.d (lotD n (twin σ ps)))) (δ1 := δ) rfl (consA_of (frzP_d k3) rfl)) rfl hio (Nat.le_refl 2)
  have t3 := bl_of (bin_of (g := opNe) (frzP_d k5) (frzP_d k4) rfl rfl (ne_self (tupD (r.map (gt σ))) (shaped0 _) (fun _ z => by cases z)))
  exact seqS_of (ifS_f (orT_f t1 t2) rfl) (ifS_f t3 rfl)
abbrev sizeB : SEV := (seqS (setS 7 (callE F_rows 2 (consA (frzP (vr 1)) (consA (frzP (vr 6)) nilA))))
  (seqS (ifS (bl (bin opNe (frzP (tupS (lcE [9] (seqI (vr 7)) (nameG 9) yesT (calledE 9)))) (frzP (callE F_rows 2 (consA (frzP (vr 3)) (consA (frzP (vr 6)) nilA)))))) (retS (cst (.bool false))) nxS)
  (seqS (ifS (bl (bin opNe (frzP (tupS (lcE [9] (seqI (vr 7)) (nameG 9) yesT (revE (pk 9))))) (frzP (callE F_rows 2 (consA (frzP (vr 4)) (consA (frzP (vr 6)) nilA)))))) (retS (cst (.bool false))) nxS)
  (seqS (setS 8 (lstE nilA))
  (seqS (forS (seqI (vr 5)) (nameG 9) longB)
  (seqS (ifS (bl (bin opNe (frzP (callB fTuple (consA (pk 8) nilA))) (pk 7))) (retS (cst (.bool false))) nxS)
  (seqS (forS (seqI (slE (pk 7) noP (someP (frzP (cst (.int 40)))))) (nameG 9) chainB)
  (setS 5 (vr 7)))))))))
theorem size_step {c : C} {v7 v8 v9 : Option S} {k : Nat} (L : Lot n ps) (h : Ordr n σ) (hk : k < 4) (h9 : notOwn v9 = true) :
    ∃ w8 w9, notOwn w9 = true ∧ sizeB (T13 c n ps σ (rT (Rs n ps k)) (some (.d (.int ((k + 1 : Nat) : Int)))) v7 v8 v9) = some (.nx (T13 c n ps σ (rT (Rs n ps (k + 1))) (some (.d (.int ((k + 1 : Nat) : Int)))) (rT (Rs n ps (k + 1))) w8 w9)) := by
  have hb := line_big
  let N6 : Option S := some (.d (.int ((k + 1 : Nat) : Int)))
  let D (v7 v8 v9 : Option S) : Ds := T13 c n ps σ (rT (Rs n ps k)) N6 v7 v8 v9
  have s7 : setS 7 (callE F_rows 2 (consA (frzP (vr 1)) (consA (frzP (vr 6)) nilA))) (D v7 v8 v9) = some (.nx (D (rT (Rs n ps (k + 1))) v8 v9)) := (setS_of (callE_data [.d (lotD n ps), .d (.int ((k + 1 : Nat) : Int))] rfl rfl (rows_eq L (by omega)) (Nat.le_refl 2))).trans rfl
  have t1 := one_test (c := c) (v5 := rT (Rs n ps k)) (v8 := v8) L h hk h9
  have t2 := two_test (c := c) (σ := σ) (v5 := rT (Rs n ps k)) (v8 := v8) L hk h9
  have s8 : setS 8 (lstE nilA) (D (rT (Rs n ps (k + 1))) v8 v9) = some (.nx (D (rT (Rs n ps (k + 1))) (some (.o (.l []))) v9)) := rfl
  obtain ⟨w9, hw9, e9⟩ := long_for (c := c) (σ := σ) (v5 := rT (Rs n ps k)) (v6 := N6) (v7 := rT (Rs n ps (k + 1))) L (Rs n ps k) [] v9 h9 (fun r hr => by
    have := (rs_iff.mp hr).1
    omega) (by
    rw [List.nil_append]
    have := rs_line L (k := k + 1) (by omega)
    rw [rs_succ] at this
    exact this)
  rw [List.nil_append] at e9
  have e10 : (Rs n ps k).flatMap (stepC n ps) = Rs n ps (k + 1) := (rs_succ n ps k).symm
  rw [e10] at e9
  have s9 : forS (seqI (vr 5)) (nameG 9) longB (D (rT (Rs n ps (k + 1))) (some (.o (.l []))) v9) = some (.nx (D (rT (Rs n ps (k + 1))) (some (.o (.l ((Rs n ps (k + 1)).map tupD)))) w9)) := forS_of (seqI_of (s := .d (.tuple ((Rs n ps k).map tupD))) rfl (.inr rfl)) e9
  have kt : callB fTuple (consA (pk 8) nilA) (D (rT (Rs n ps (k + 1))) (some (.o (.l ((Rs n ps (k + 1)).map tupD)))) w9) = some (.d (.tuple ((Rs n ps (k + 1)).map tupD)), D (rT (Rs n ps (k + 1))) (some (.o (.l ((Rs n ps (k + 1)).map tupD)))) w9) := callB_of (g := fTuple) (ss := [.o (.l ((Rs n ps (k + 1)).map tupD))]) (δ1 := D (rT (Rs n ps (k + 1))) (some (.o (.l ((Rs n ps (k + 1)).map tupD)))) w9) rfl rfl rfl
  have t3 := bl_of (bin_of (g := opNe) (fb := pk 7) (frzP_d kt) rfl rfl rfl (ne_rows _))
  obtain ⟨zss, hz1, hz2⟩ := List.sublist_map_iff.mp (cut_sub ((Rs n ps (k + 1)).map tupD) none (some 40))
  let I : Nat → Ds → Prop := fun _ δ => ∃ v9, notOwn v9 = true ∧ δ = D (rT (Rs n ps (k + 1))) (some (.o (.l ((Rs n ps (k + 1)).map tupD)))) v9
  obtain ⟨δ', e11, u9, hu9, rfl⟩ := forD_inv (I := I) (tg := nameG 9) (body := chainB) (xs := zss.map tupD) (δ := D (rT (Rs n ps (k + 1))) (some (.o (.l ((Rs n ps (k + 1)).map tupD)))) w9) 0 ⟨w9, hw9, rfl⟩ (fun j x δ hx hI => by
    obtain ⟨v9, _, rfl⟩ := hI
    rw [List.getElem?_map] at hx
    obtain ⟨r, hr, rfl⟩ := Option.map_eq_some_iff.mp hx
    have hr' := hz1.subset (List.mem_of_getElem? hr)
    exact ⟨_, _, rfl, chain_step (c := c) (v6 := N6) (v7 := rT (Rs n ps (k + 1))) (v8 := some (.o (.l ((Rs n ps (k + 1)).map tupD)))) L h hk hr', _, rfl, rfl⟩)
  have hsl : slE (pk 7) noP (someP (frzP (cst (.int 40)))) (D (rT (Rs n ps (k + 1))) (some (.o (.l ((Rs n ps (k + 1)).map tupD)))) w9) = some (.d (.tuple (zss.map tupD)), D (rT (Rs n ps (k + 1))) (some (.o (.l ((Rs n ps (k + 1)).map tupD)))) w9) := by
    show some (S.d (.tuple (DL.cutD ((Rs n ps (k + 1)).map tupD) none (some 40))), _) = _
    rw [hz2]
  have s11 := forS_of (g := nameG 9) (seqI_of hsl (.inr rfl)) e11
  exact ⟨_, u9, hu9, seqS_of s7 (seqS_of (ifS_f t1 rfl) (seqS_of (ifS_f t2 rfl) (seqS_of s8 (seqS_of s9 (seqS_of (ifS_f t3 rfl) (seqS_of s11 rfl))))))⟩
theorem right_eq {c : C} {m : Nat} (L : Lot n ps) (hp : Pot m c) (hm : m < 2 ^ 37) : ∃ c', F__law_right [.o c, .d (lotD n ps)] = some (.d (.bool true), [some c', none]) ∧ Pot (m + 24) c' := by
  obtain ⟨σ, c1, e1, h, hp1⟩ := order_eq (n := n) hp (by omega) L.n0 L.n1
  let δ0 (c : C) : Ds := [some (.o c), some (.d (lotD n ps)), none, none, none, none, none, none, none, none, none, none, none]
  have k0 : bin opIx (pk 1) (frzP (cst (.int 0))) (δ0 c) = some (.d (.int n), δ0 c) := bin_ix (a := .d (lotD n ps)) (j := 0) rfl rfl rfl
  have f1 : callE F__law_order 2 (consA (pk 0) (consA (frzP (bin opIx (pk 1) (frzP (cst (.int 0))))) nilA)) (δ0 c) = some (.d (.list (intsD σ)), δ0 c1) := (callE_own (i := 0) (δ' := δ0 c) [.d (.int n)] (consA_of (p := .own 0) (δ1 := δ0 c) rfl (consA_of (frzP_d k0) rfl)) rfl rfl e1 (Nat.le_refl 1)).trans rfl
  have s1 : setS 2 (callE F__law_order 2 (consA (pk 0) (consA (frzP (bin opIx (pk 1) (frzP (cst (.int 0))))) nilA))) (δ0 c) = some (.nx (R13 c1 n ps σ none none none none none none none)) := (setS_of f1).trans rfl
  have s2 : setS 3 twinE (R13 c1 n ps σ none none none none none none none) = some (.nx (R13 c1 n ps σ (some (.d (lotD n (twin σ ps)))) none none none none none none)) := (setS_of (twin_eq L h)).trans rfl
  have s3 : setS 4 backE (R13 c1 n ps σ (some (.d (lotD n (twin σ ps)))) none none none none none none) = some (.nx (T13 c1 n ps σ none none none none none)) := (setS_of (back_eq L)).trans rfl
  have s4 : setS 5 (tupE (consA (frzP (tupE nilA)) nilA)) (T13 c1 n ps σ none none none none none) = some (.nx (T13 c1 n ps σ (rT (Rs n ps 0)) none none none none)) := rfl
  let I : Nat → Ds → Prop := fun k δ => ∃ v6 v7 v8 v9, notOwn v9 = true ∧ δ = T13 c1 n ps σ (rT (Rs n ps k)) v6 v7 v8 v9
  obtain ⟨δ', e5, v6, v7, v8, v9, _, rfl⟩ := forD_inv (I := I) (tg := nameG 6) (body := sizeB) (xs := rng 1 4) (δ := T13 c1 n ps σ (rT (Rs n ps 0)) none none none none) 0 ⟨none, none, none, none, rfl, rfl⟩ (fun k x δ hx hI => by
    obtain ⟨v6, v7, v8, v9, h9, rfl⟩ := hI
    obtain ⟨hk, rfl⟩ := rng_at hx
    rw [Nat.zero_add]
    rw [show (1 : Int) + (k : Nat) = ((k + 1 : Nat) : Int) by omega]
    obtain ⟨w8, w9, hw9, e⟩ := size_step (c := c1) (v7 := v7) (v8 := v8) L h hk h9
    exact ⟨_, _, rfl, e, _, _, w8, w9, hw9, rfl⟩)
  have s5 : forS (rngI2 (consA (frzP (cst (.int 1))) (consA (frzP (cst (.int 5))) nilA))) (nameG 6) sizeB (T13 c1 n ps σ (rT (Rs n ps 0)) none none none none) = some (.nx (T13 c1 n ps σ (rT (Rs n ps (0 + (rng 1 4).length))) v6 v7 v8 v9)) := forS_of rfl e5
  exact ⟨c1, runF_rt (δ := T13 c1 n ps σ (rT (Rs n ps (0 + (rng 1 4).length))) v6 v7 v8 v9) (seqS_of s1 (seqS_of s2 (seqS_of s3 (seqS_of s4 (seqS_of s5 (retS_of rfl)))))) rfl, hp1⟩
end
end K06

namespace K06
open PySem PySem.Spec PyProof.Rows L2 DL DLS
abbrev askS : SEV := ifS (notT (bl (callB fAll (consA (frzP (lcE [3] (rngI1 (consA (frzP (cst (.int 2))) nilA)) (nameG 3) yesT (callE F__law_right 2 (consA (pk 2) (consA (frzP (callE F__law_lot 2 (consA (pk 2) (consA (frzP (cst (.int 7))) nilA)))) nilA))))) nilA)))) (retS (cst (.bool false))) nxS
abbrev M4' (ns : List Int) (v1 : Option S) (c : C) : Ds := [some (.z ns), v1, some (.o c), none]
theorem ask_eq {ns : List Int} {v1 : Option S} {c : C} (hp : Pot 0 c) : ∃ c', askS (M4' ns v1 c) = some (.nx (M4' ns v1 c')) := by
  let I : Nat → List PyData → Ds → Prop := fun k acc δ' => ∃ c, δ' = M4' ns v1 c ∧ acc = List.replicate k (.bool true) ∧ Pot (3000 * k) c
  obtain ⟨rs, δ', e, ⟨c', rfl, rfl, hp'⟩, _⟩ := lcE_inv (i := 3) (fi := rngI1 (consA (frzP (cst (.int 2))) nilA)) (te := callE F__law_right 2 (consA (pk 2) (consA (frzP (callE F__law_lot 2 (consA (pk 2) (consA (frzP (cst (.int 7))) nilA)))) nilA))) (δ := M4' ns v1 c) (δ1 := M4' ns v1 c) (I := I) (xs := rng 0 2) (rngI1_of (n := 2) rfl ⟨by decide, by decide⟩) rfl ⟨c, rfl, rfl, hp⟩ (fun k x acc δ' hk hx hI => by
    obtain ⟨c, rfl, rfl, hp⟩ := hI
    have hk2 : k < 2 := hk
    obtain ⟨d, c1, e1, ⟨n, ps, rfl, L, _⟩, hp1⟩ := lot_spec (most := 7) hp (by omega) (by decide) (by decide)
    obtain ⟨c2, e2, hp2⟩ := right_eq L hp1 (by omega)
    let δ3 (c : C) : Ds := [some (.z ns), v1, some (.o c), some (.d x)]
    have f1 : callE F__law_lot 2 (consA (pk 2) (consA (frzP (cst (.int 7))) nilA)) (δ3 c) = some (.d (lotD n ps), δ3 c1) := (callE_own (i := 2) (δ' := δ3 c) [.d (.int 7)] rfl rfl rfl e1 (Nat.le_refl 1)).trans rfl
    have f2 : callE F__law_right 2 (consA (pk 2) (consA (frzP (callE F__law_lot 2 (consA (pk 2) (consA (frzP (cst (.int 7))) nilA)))) nilA)) (δ3 c) = some (.d (.bool true), δ3 c2) := (callE_own (i := 2) (δ' := δ3 c1) [.d (lotD n ps)] (consA_of (p := .own 2) (δ1 := δ3 c) rfl (consA_of (frzP_d f1) rfl)) rfl rfl e2 (Nat.le_refl 1)).trans rfl
    exact ⟨rfl, .bool true, M4' ns v1 c2, f2, rfl, c2, rfl, by rw [List.replicate_succ'], hp2.mono (by omega)⟩) (by rw [rng_len]; decide) (fun rs δ' hI => by
    obtain ⟨c, rfl, _⟩ := hI
    rfl)
  have hall : fAll [.d (.list (List.replicate (rng 0 2).length (.bool true)))] = some (.d (.bool true)) := by
    have := all_true (List.replicate (rng 0 2).length PyData.none)
    rw [List.map_replicate] at this
    exact this
  exact ⟨c', ifS_f (notT_of (b := true) (bl_of (callB_of (g := fAll) (consA_of (frzP_l e) (rfl : nilA (M4' ns v1 c') = some ([], M4' ns v1 c'))) rfl hall))) rfl⟩
theorem true_law (ns : List Int) (hn : ns.length ≤ 63) : ∃ cs, F_law [.z ns] = some (.d (.bool true), cs) := by
  generalize ek : (if (if (ns.length : Int) < 3 then (ns.length : Int) else 3) > 1 then (if (ns.length : Int) < 3 then (ns.length : Int) else 3) else 1) = kk
  have kk0 : 1 ≤ kk ∧ kk ≤ 3 := by
    rw [← ek]
    split <;> split <;> omega
  let I : Nat → Ds → Prop := fun j δ => ∃ (w1 w2 : Option S), δ = [some (.z ns), w1, w2, none]
  obtain ⟨δ', e, w1, w2, rfl⟩ := forD_inv (I := I) (tg := nameG 1) (body := seqS (setS 2 (callE F__law_pot 2 (consA (frzP (vr 0)) (consA (frzP (vr 1)) nilA)))) askS) (xs := DL.rng 0 kk.toNat) (δ := [some (.z ns), none, none, none]) 0 ⟨none, none, rfl⟩ (fun j x δ hx hI => by
    obtain ⟨w1, w2, rfl⟩ := hI
    obtain ⟨hj, rfl⟩ := rng_at hx
    rw [Int.zero_add]
    obtain ⟨c0, e0, hp0⟩ := pot_spec ns j (by omega)
    have s1 : setS 2 (callE F__law_pot 2 (consA (frzP (vr 0)) (consA (frzP (vr 1)) nilA))) [some (.z ns), some (.d (.int (j : Int))), w2, none] = some (.nx (M4' ns (some (.d (.int (j : Int)))) c0)) := (setS_of (callE_data [.z ns, .d (.int (j : Int))] rfl rfl e0 (Nat.le_refl 2))).trans rfl
    obtain ⟨c', s2⟩ := ask_eq (ns := ns) (v1 := some (.d (.int (j : Int)))) hp0
    exact ⟨_, _, rfl, seqS_of s1 s2, _, _, rfl⟩)
  refine ⟨[none], runF_rt (δ := [some (.z ns), w1, w2, none]) ?_ rfl⟩
  refine seqS_of (forS_of (rngI1_of (n := kk) (consA_of (frzP_d ?_) rfl) ⟨by omega, by omega⟩) e) (retS_of rfl)
  rw [← ek]
  exact callB_of (consA_of rfl (consA_of (frzP_d (callB_of (consA_of rfl (consA_of (frzP_d (callB_of rfl rfl rfl)) rfl)) rfl rfl)) rfl)) rfl rfl
end K06

open PySem PySem.W PyProof.Rows in
set_option maxRecDepth 100000 in
set_option maxHeartbeats 0 in
theorem PySem.Challenge.cw_everlater_k06_rows_turned_renamed_and_pa_holds : PySem.Challenge.rw_everlater_k06_rows_turned_renamed_and_pa.Holds := by
  w_on; o_law; k_head; (case hw => w_witness2)
  k_fill
  refine DL.walkLam (l := PySem.Challenge.rw_everlater_k06_rows_turned_renamed_and_pa) (n := 63) (k := 7) (x := "_law_script") (G := K06.F_law) [("in_order", ((("in_order" : Str) ++ (".<locals>." : Str)) ++ ("<lambda>" : Str)))] rfl (by decide) rfl ⟨rfl, by decide, by decide⟩ (by decide +kernel) (fun w h Y => PySem.W.km_in_of Y) (fun w h Y => PySem.W.km_tabs_of Y) (fun w => by kernel_rfl) ?F K06.true_law
  case F =>
    intro w mg fa h KX G hmg
    refine' K06.all_mk KX G hmg ?a0 ?l0 ?c0 ?k0 ?a1 ?l1 ?c1 ?k1 ?a2 ?l2 ?c2 ?k2 ?a3 ?l3 ?c3 ?k3 ?a4 ?l4 ?c4 ?k4 ?a5 ?l5 ?c5 ?k5 ?a6 ?l6 ?c6 ?k6 ?a7 ?l7 ?c7 ?k7 ?a8 ?l8 ?c8 ?k8 ?a9 ?l9 ?c9 ?k9 ?a10 ?l10 ?c10 ?k10 ?a11 ?l11 ?c11 ?k11 ?a12 ?l12 ?c12 ?k12 ?a13 ?l13 ?c13 ?k13 ?a14 ?l14 ?c14 ?k14 ?a15 ?l15 ?c15 ?k15 ?a16 ?l16 ?c16 ?k16 ?t16 ?y16 ?u16 ?a17 ?l17 ?c17 ?k17 ?a18 ?l18 ?c18 ?k18 ?a19 ?l19 ?c19 ?k19 ?a20 ?l20 ?c20 ?k20 ?a21 ?l21 ?c21 ?k21 ?a22 ?l22 ?c22 ?k22 ?a23 ?l23 ?c23 ?k23 ?z_abs ?z_int ?z_len ?z_range ?z_tuple ?z_all ?z_bool ?z_isinstance ?z_enumerate ?z_set ?z_sorted ?z_max ?z_min
    (case a0 => k_is)
    (case l0 => k_is)
    (case c0 => k_is)
    (case k0 => k_is)
    (case a1 => k_is)
    (case l1 => k_is)
    (case c1 => k_is)
    (case k1 => k_is)
    (case a2 => k_is)
    (case l2 => k_is)
    (case c2 => k_is)
    (case k2 => k_is)
    (case a3 => k_is)
    (case l3 => k_is)
    (case c3 => k_is)
    (case k3 => k_is)
    (case a4 => k_is)
    (case l4 => k_is)
    (case c4 => k_is)
    (case k4 => k_is)
    (case a5 => k_is)
    (case l5 => k_is)
    (case c5 => k_is)
    (case k5 => k_is)
    (case a6 => k_is)
    (case l6 => k_is)
    (case c6 => k_is)
    (case k6 => k_is)
    (case a7 => k_is)
    (case l7 => k_is)
    (case c7 => k_is)
    (case k7 => k_is)
    (case a8 => k_is)
    (case l8 => k_is)
    (case c8 => k_is)
    (case k8 => k_is)
    (case a9 => k_is)
    (case l9 => k_is)
    (case c9 => k_is)
    (case k9 => k_is)
    (case a10 => k_is)
    (case l10 => k_is)
    (case c10 => k_is)
    (case k10 => k_is)
    (case a11 => k_is)
    (case l11 => k_is)
    (case c11 => k_is)
    (case k11 => k_is)
    (case a12 => k_is)
    (case l12 => k_is)
    (case c12 => k_is)
    (case k12 => k_is)
    (case a13 => k_is)
    (case l13 => k_is)
    (case c13 => k_is)
    (case k13 => k_is)
    (case a14 => k_is)
    (case l14 => k_is)
    (case c14 => k_is)
    (case k14 => k_is)
    (case a15 => k_is)
    (case l15 => k_is)
    (case c15 => k_is)
    (case k15 => k_is)
    (case a16 => k_is)
    (case l16 => k_is)
    (case c16 => k_is)
    (case k16 => k_is)
    (case t16 => kernel_rfl)
    (case y16 => exact DL.cs_mem (by kernel_rfl))
    (case u16 => exact DL.cs_uniq (by kernel_rfl))
    (case a17 => k_is)
    (case l17 => k_is)
    (case c17 => k_is)
    (case k17 => k_is)
    (case a18 => k_is)
    (case l18 => k_is)
    (case c18 => k_is)
    (case k18 => k_is)
    (case a19 => k_is)
    (case l19 => k_is)
    (case c19 => k_is)
    (case k19 => k_is)
    (case a20 => k_is)
    (case l20 => k_is)
    (case c20 => k_is)
    (case k20 => k_is)
    (case a21 => k_is)
    (case l21 => k_is)
    (case c21 => k_is)
    (case k21 => k_is)
    (case a22 => k_is)
    (case l22 => k_is)
    (case c22 => k_is)
    (case k22 => k_is)
    (case a23 => k_is)
    (case l23 => k_is)
    (case c23 => k_is)
    (case k23 => k_is)
    (case z_abs => k_is)
    (case z_int => k_is)
    (case z_len => k_is)
    (case z_range => k_is)
    (case z_tuple => k_is)
    (case z_all => k_is)
    (case z_bool => k_is)
    (case z_isinstance => k_is)
    (case z_enumerate => k_is)
    (case z_set => k_is)
    (case z_sorted => k_is)
    (case z_max => k_is)
    (case z_min => k_is)

