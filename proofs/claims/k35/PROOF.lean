import PyProof.Rows.All
import Wide.All
import OpenK.AllK
import Wide.FinOn
import PySem.Challenge.RW_everlater_k35_towers_and_marks
import HandS.ForMost
import HandS.TupAny
import HandS.Deep
import HandS.Wide
import HandS.SortRule
import HandS.Conv
import HandS.Zip
import HandS.Style
import HandS.RaiseMore
import HandS.SortInts
import HandS.IsInst
import HandS.More
import HandS.SetFor
import HandS.Dict
import HandS.WideBits
import HandS.DictComp
import HandS.Small
import KE.KDictCopyH
import HandS.TupMul
import PyProof.TupleOfSeq
import HandS.TupLen
import KE.KDictPairs
import HandS.DictTup
import KE.KDictKeyed
import PyProof.EqKinds
import PyProof.Rows.IntBool
import PyProof.TwoTypesSub
import PyProof.NeData
set_option Elab.async false
set_option linter.all false
set_option maxRecDepth 100000
set_option maxHeartbeats 4000000
set_option exponentiation.threshold 3000
namespace DL
open PySem PySem.Spec PyProof.Rows L2

/-! data without a heap: what a slot holds -/
/-- a table: fl tells that its keys are flat (each told as a list of one), else they are tuples -/
structure Tab where
  fl : Bool
  kvs : List (List Key × PyData)
inductive C where
  | l (xs : List PyData)
  | t (kvs : Tab)
/-- what stands in a tuple that has tables in it -/
inductive M where
  | d (x : PyData)
  | t (kvs : Tab)
inductive S where
  | d (x : PyData)
  | t (kvs : Tab)
  | z (ns : List Int)
  | p (xs : List M)
  | o (c : C)
abbrev Ds := List (Option S)

def hid (T : List Addr) (ρ : List (Option Addr)) (H : Hp) : Hp := fun b => if b ∈ T ∨ some b ∈ ρ then none else H b
theorem hid_some {T : List Addr} {ρ : List (Option Addr)} {H : Hp} {b : Addr} {o : HO} : hid T ρ H b = some o ↔ H b = some o ∧ b ∉ T ∧ some b ∉ ρ := by
  unfold hid
  constructor
  · intro h
    split at h
    · cases h
    · rename_i hn
      exact ⟨h, fun z => hn (.inl z), fun z => hn (.inr z)⟩
  · intro ⟨h, h1, h2⟩
    rw [if_neg (fun z => z.elim h1 h2)]
    exact h
theorem hid_same {T : List Addr} {ρ : List (Option Addr)} {H : Hp} : Same (hid T ρ H) H := fun _ _ h => (hid_some.mp h).1
theorem hid_mono {T : List Addr} {ρ : List (Option Addr)} {H H' : Hp} (h : Same H H') : Same (hid T ρ H) (hid T ρ H') := fun _ _ e =>
  let ⟨a, b, c⟩ := hid_some.mp e
  hid_some.mpr ⟨h _ _ a, b, c⟩
theorem hid_less {T T' : List Addr} {ρ ρ' : List (Option Addr)} {H : Hp} (h : ∀ b, (b ∈ T' ∨ some b ∈ ρ') → (b ∈ T ∨ some b ∈ ρ)) : Same (hid T ρ H) (hid T' ρ' H) := fun b _ e => by
  obtain ⟨a, h1, h2⟩ := hid_some.mp e
  refine hid_some.mpr ⟨a, fun z => ?_, fun z => ?_⟩
  · exact (h b (.inl z)).elim h1 h2
  · exact (h b (.inr z)).elim h1 h2

theorem seqT {K : PySem.W.Frag} {H H' : Hp} {a : Addr} {xs : List V} (e : Same H H') (h : SqT K H a xs) : SqT K H' a xs := by
  rcases h with (h | ⟨o, h⟩) | h
  · exact .inl (.inl (e _ _ h))
  · exact .inl (.inr ⟨o, e _ _ h⟩)
  · exact .inr h
/-! data that is tracked as it is -/
mutual
inductive Dq (K : PySem.W.Frag) (H : Hp) : V → PyData → Prop
  | non : Dq K H .non .none
  | bl (b : Bool) : Dq K H (.bl b) (.bool b)
  | int (i : Int) : Dq K H (.int i) (.int i)
  | str (x : Str) : Dq K H (.str x) (.str x)
  | lst {a : Addr} {xs : List V} {ds : List PyData} : H a = some (.lst xs) → DqAll K H xs ds → Dq K H (.ref a) (.list ds)
  | tup {a : Addr} {xs : List V} {ds : List PyData} : H a = some (.tup xs) → DqAll K H xs ds → Dq K H (.ref a) (.tuple ds)
  | dctE {a : Addr} : H a = some (.dK []) → Dq K H (.ref a) (.dict [])
  | dct1 {a : Addr} {k : Str} {v : V} {x : PyData} : H a = some (.dK [(.inr k, v)]) → Dq K H v x → Dq K H (.ref a) (.dict [(.str k, x)])
inductive DqAll (K : PySem.W.Frag) (H : Hp) : List V → List PyData → Prop
  | nil : DqAll K H [] []
  | cons {v : V} {vs : List V} {d : PyData} {ds : List PyData} : Dq K H v d → DqAll K H vs ds → DqAll K H (v :: vs) (d :: ds)
end
mutual
theorem dq_dp {K : PySem.W.Frag} {H : Hp} : ∀ {v : V} (d : PyData), d.canLay0 = true → Dq K H v d → L2.Dp K H v d
  | _, .none, _, h => by cases h; exact .non
  | _, .bool b, _, h => by cases h; exact .bl b
  | _, .int b, _, h => by cases h; exact .int b
  | _, .str b, _, h => by cases h; exact .str b
  | _, .list ds, l, h => by
    cases h with
    | lst hs ha => exact .lst (SqL.of hs) (dq_dpA ds l ha)
  | _, .tuple ds, l, h => by
    cases h with
    | tup hs ha => exact .tup (SqT.of hs) (dq_dpA ds l ha)
  | _, .dict _, l, h => by cases l
theorem dq_dpA {K : PySem.W.Frag} {H : Hp} : ∀ {vs : List V} (ds : List PyData), PyData.canLayAll0 ds = true → DqAll K H vs ds → L2.DpAll K H vs ds
  | _, [], _, h => by cases h; exact .nil
  | _, d :: ds, l, h => by
    cases h with
    | cons h1 h2 => exact .cons (dq_dp d (Bool.and_eq_true_iff.mp l).1 h1) (dq_dpA ds (Bool.and_eq_true_iff.mp l).2 h2)
end
mutual
theorem dpM {K : PySem.W.Frag} {H H' : Hp} (e : Same H H') : ∀ {v : V} (d : PyData), Dq K H v d → Dq K H' v d
  | _, .none, h => by cases h; exact .non
  | _, .bool b, h => by cases h; exact .bl b
  | _, .int b, h => by cases h; exact .int b
  | _, .str b, h => by cases h; exact .str b
  | _, .list ds, h => by
    cases h with
    | lst hs ha => exact .lst (e _ _ hs) (dpAllM e ds ha)
  | _, .tuple ds, h => by
    cases h with
    | tup hs ha => exact .tup (e _ _ hs) (dpAllM e ds ha)
  | _, .dict [], h => by
    cases h with
    | dctE hs => exact .dctE (e _ _ hs)
  | _, .dict [(k, x)], h => by
    cases h with
    | dct1 hs ha => exact .dct1 (e _ _ hs) (dpM e x ha)
  | _, .dict (_ :: _ :: _), h => by cases h
theorem dpAllM {K : PySem.W.Frag} {H H' : Hp} (e : Same H H') : ∀ {vs : List V} (ds : List PyData), DqAll K H vs ds → DqAll K H' vs ds
  | _, [], h => by cases h; exact .nil
  | _, d :: ds, h => by
    cases h with
    | cons h1 h2 => exact .cons (dpM e d h1) (dpAllM e ds h2)
end
theorem dpAll_len {K : PySem.W.Frag} {H : Hp} : ∀ {vs : List V} {ds : List PyData}, DqAll K H vs ds → vs.length = ds.length
  | _, [], h => by cases h; rfl
  | _, d :: ds, h => by
    cases h with
    | cons h1 h2 => simp [dpAll_len h2]
theorem dpAll_app {K : PySem.W.Frag} {H : Hp} : ∀ {vs ws : List V} {ds es : List PyData}, DqAll K H vs ds → DqAll K H ws es → DqAll K H (vs ++ ws) (ds ++ es)
  | _, _, [], _, h, h' => by cases h; exact h'
  | _, _, d :: ds, _, h, h' => by
    cases h with
    | cons h1 h2 => exact .cons h1 (dpAll_app h2 h')
theorem dpAll_get {K : PySem.W.Frag} {H : Hp} : ∀ {vs : List V} {ds : List PyData} {i : Nat} {d : PyData}, DqAll K H vs ds → ds[i]? = some d → ∃ v, vs[i]? = some v ∧ Dq K H v d
  | _, [], i, _, h, e => by simp at e
  | _, x :: ds, 0, d, h, e => by
    cases h with
    | cons h1 h2 => simp at e; subst e; exact ⟨_, rfl, h1⟩
  | _, x :: ds, i + 1, d, h, e => by
    cases h with
    | cons h1 h2 =>
      obtain ⟨v, a, b⟩ := dpAll_get (i := i) h2 (by simpa using e)
      exact ⟨v, by simpa using a, b⟩
theorem dpAll_getV {K : PySem.W.Frag} {H : Hp} {vs : List V} {ds : List PyData} {i : Nat} {v : V} (h : DqAll K H vs ds) (e : vs[i]? = some v) : ∃ d, ds[i]? = some d ∧ Dq K H v d := by
  have hl : i < vs.length := (List.getElem?_eq_some_iff.mp e).1
  rw [dpAll_len h] at hl
  obtain ⟨w, a, b⟩ := dpAll_get (i := i) h (List.getElem?_eq_getElem hl)
  rw [e] at a
  cases a
  exact ⟨_, List.getElem?_eq_getElem hl, b⟩
theorem dpAll_take {K : PySem.W.Frag} {H : Hp} : ∀ {vs : List V} {ds : List PyData} (n : Nat), DqAll K H vs ds → DqAll K H (vs.take n) (ds.take n)
  | _, _, 0, _ => .nil
  | _, [], n + 1, h => by cases h; exact .nil
  | _, d :: ds, n + 1, h => by
    cases h with
    | cons h1 h2 => exact .cons h1 (dpAll_take n h2)
theorem dpAll_drop {K : PySem.W.Frag} {H : Hp} : ∀ {vs : List V} {ds : List PyData} (n : Nat), DqAll K H vs ds → DqAll K H (vs.drop n) (ds.drop n)
  | _, _, 0, h => h
  | _, [], n + 1, h => by cases h; exact .nil
  | _, d :: ds, n + 1, h => by
    cases h with
    | cons h1 h2 => exact dpAll_drop n h2
theorem dpAll_rev {K : PySem.W.Frag} {H : Hp} : ∀ {vs : List V} {ds : List PyData}, DqAll K H vs ds → DqAll K H vs.reverse ds.reverse
  | _, [], h => by cases h; exact .nil
  | _, d :: ds, h => by
    cases h with
    | cons h1 h2 =>
      rw [List.reverse_cons, List.reverse_cons]
      exact dpAll_app (dpAll_rev h2) (.cons h1 .nil)
theorem dpAll_set {K : PySem.W.Frag} {H : Hp} {v : V} {d : PyData} (hv : Dq K H v d) : ∀ {vs : List V} {ds : List PyData} (n : Nat), DqAll K H vs ds → DqAll K H (vs.set n v) (ds.set n d)
  | _, [], n, h => by cases h; exact .nil
  | _, x :: ds, 0, h => by
    cases h with
    | cons h1 h2 => exact .cons hv h2
  | _, x :: ds, n + 1, h => by
    cases h with
    | cons h1 h2 => exact .cons h1 (dpAll_set hv n h2)
theorem dpAll_rep {K : PySem.W.Frag} {H : Hp} {vs : List V} {ds : List PyData} (h : DqAll K H vs ds) : ∀ n : Nat, DqAll K H (List.replicate n vs).flatten (List.replicate n ds).flatten
  | 0 => .nil
  | n + 1 => by
    rw [List.replicate_succ, List.replicate_succ, List.flatten_cons, List.flatten_cons]
    exact dpAll_app h (dpAll_rep h n)

def TV (K : PySem.W.Frag) (G : Hp) (ws : List (List Key × V)) (kvs : List (List Key × PyData)) : Prop := Paired (fun (p : List Key × V) (q : List Key × PyData) => p.1 = q.1 ∧ Dq K G p.2 q.2) ws kvs
theorem tvM {K : PySem.W.Frag} {H H' : Hp} (e : Same H H') {ws : List (List Key × V)} {kvs : List (List Key × PyData)} (h : TV K H ws kvs) : TV K H' ws kvs := Paired.mapP h fun _ q z => ⟨z.1, dpM e _ z.2⟩
def TbO (K : PySem.W.Frag) (G : Hp) (o : HO) (t : Tab) : Prop := (t.fl = false ∧ ∃ ws, o = .dT ws ∧ TV K G ws t.kvs) ∨ (t.fl = true ∧ ∃ ws : List (Key × V), o = .dK ws ∧ TV K G (ws.map fun p => ([p.1], p.2)) t.kvs)
theorem tbM {K : PySem.W.Frag} {H H' : Hp} (e : Same H H') {o : HO} {t : Tab} (h : TbO K H o t) : TbO K H' o t := h.elim (fun ⟨f, ws, h1, h2⟩ => .inl ⟨f, ws, h1, tvM e h2⟩) fun ⟨f, ws, h1, h2⟩ => .inr ⟨f, ws, h1, tvM e h2⟩
def CO (K : PySem.W.Frag) (G : Hp) (o : HO) : C → Prop
  | .l xs => ∃ vs, o = .lst vs ∧ DqAll K G vs xs
  | .t kvs => TbO K G o kvs
theorem coM {K : PySem.W.Frag} {H H' : Hp} (e : Same H H') {o : HO} : ∀ {c : C}, CO K H o c → CO K H' o c
  | .l _, ⟨vs, h1, h2⟩ => ⟨vs, h1, dpAllM e _ h2⟩
  | .t _, h => tbM e h
def MV (K : PySem.W.Frag) (G : Hp) (v : V) : M → Prop
  | .d x => Dq K G v x
  | .t kvs => ∃ a o, v = .ref a ∧ G a = some o ∧ TbO K G o kvs
theorem mvM {K : PySem.W.Frag} {H H' : Hp} (e : Same H H') {v : V} : ∀ {s : M}, MV K H v s → MV K H' v s
  | .d x, h => dpM e _ h
  | .t kvs, ⟨a, o, h1, h2, h3⟩ => ⟨a, o, h1, e _ _ h2, tbM e h3⟩
def SV (K : PySem.W.Frag) (G : Hp) (v : V) : S → Prop
  | .d x => Dq K G v x
  | .t kvs => ∃ a o, v = .ref a ∧ G a = some o ∧ TbO K G o kvs
  | .z ns => ∃ a, v = .ref a ∧ SqL K G a (ns.map V.int)
  | .p xs => ∃ a, v = .ref a ∧ ∃ vs, G a = some (.tup vs) ∧ Paired (MV K G) vs xs
  | .o _ => False
theorem svM {K : PySem.W.Frag} {H H' : Hp} (e : Same H H') {v : V} : ∀ {s : S}, SV K H v s → SV K H' v s
  | .d x, h => dpM e _ h
  | .t kvs, ⟨a, o, h1, h2, h3⟩ => ⟨a, o, h1, e _ _ h2, tbM e h3⟩
  | .z ns, ⟨a, h1, h2⟩ => ⟨a, h1, e.seq h2⟩
  | .p xs, ⟨a, h1, vs, h2, h3⟩ => ⟨a, h1, vs, e _ _ h2, Paired.mapP h3 fun _ q z => mvM e z⟩
/-- a value as it may be looked at: data, or an owned object as it stands -/
def At (K : PySem.W.Frag) (T : List Addr) (ρ : List (Option Addr)) (H : Hp) (v : V) : S → Prop
  | .o c => ∃ a o, v = .ref a ∧ H a = some o ∧ CO K (hid T ρ H) o c
  | s => SV K (hid T ρ H) v s
def frz : S → S
  | .o (.l xs) => .d (.list xs)
  | .o (.t kvs) => .t kvs
  | s => s

/-- no tuple: what may change -/
def NT : HO → Prop
  | .tup _ => False
  | _ => True
theorem tb_nt {K : PySem.W.Frag} {G : Hp} {o : HO} {t : Tab} (h : TbO K G o t) : NT o := h.elim (fun ⟨_, _, e, _⟩ => by rw [e]; trivial) fun ⟨_, _, e, _⟩ => by rw [e]; trivial
theorem co_nt {K : PySem.W.Frag} {G : Hp} {o : HO} : ∀ {c : C}, CO K G o c → NT o
  | .l _, ⟨_, e, _⟩ => by rw [e]; trivial
  | .t _, h => tb_nt h

structure Sim (K : PySem.W.Frag) (T : List Addr) (ρ : List (Option Addr)) (δ : Ds) (σ : L2.St) (H : Hp) : Prop where
  len : ρ.length = δ.length
  slen : σ.length = δ.length
  slot : ∀ (i : Nat) (s : S), δ[i]? = some (some s) → ∃ v, σ[i]? = some (some v) ∧ At K T ρ H v s
  own : ∀ (i : Nat) (c : C), δ[i]? = some (some (.o c)) → ∃ a, ρ[i]? = some (some a) ∧ σ[i]? = some (some (.ref a))
  own' : ∀ (i : Nat) (a : Addr), ρ[i]? = some (some a) → ∃ c, δ[i]? = some (some (.o c))
  inj : ∀ (i j : Nat) (a : Addr), ρ[i]? = some (some a) → ρ[j]? = some (some a) → i = j
  nt : ∀ (i : Nat) (a : Addr), ρ[i]? = some (some a) → a ∉ T
  tmp : ∀ a, a ∈ T → ∃ o, H a = some o ∧ NT o
structure Ext (T : List Addr) (ρ : List (Option Addr)) (H : Hp) (ρ' : List (Option Addr)) (H' : Hp) : Prop where
  same : Same (hid T ρ H) (hid T ρ' H')
  tmp : ∀ a, a ∈ T → H' a = H a
theorem Ext.refl {T : List Addr} {ρ : List (Option Addr)} {H : Hp} : Ext T ρ H ρ H := ⟨Same.refl _, fun _ _ => rfl⟩
theorem Ext.trans {T : List Addr} {ρ ρ1 ρ2 : List (Option Addr)} {H H1 H2 : Hp} (a : Ext T ρ H ρ1 H1) (b : Ext T ρ1 H1 ρ2 H2) : Ext T ρ H ρ2 H2 := ⟨a.same.trans b.same, fun c h => (b.tmp c h).trans (a.tmp c h)⟩
structure Trk (T : List Addr) (ρ : List (Option Addr)) (H : Hp) : Prop where
  tmp : ∀ a, a ∈ T → ∃ o, H a = some o ∧ NT o
  own : ∀ a, some a ∈ ρ → ∃ o, H a = some o ∧ NT o
section
variable {K : PySem.W.Frag} {T : List Addr} {ρ ρ1 ρ' : List (Option Addr)} {δ δ' : Ds} {σ σ' : L2.St} {H H1 H' : Hp}
theorem mem_ix {α : Type} {l : List α} {x : α} (h : x ∈ l) : ∃ i : Nat, l[i]? = some x := List.mem_iff_getElem?.mp h
theorem ix_mem {α : Type} {l : List α} {x : α} {i : Nat} (h : l[i]? = some x) : x ∈ l := List.mem_iff_getElem?.mpr ⟨i, h⟩
theorem Sim.trk (h : Sim K T ρ δ σ H) : Trk T ρ H := ⟨h.tmp, fun a ha => by
  obtain ⟨i, hi⟩ := mem_ix ha
  obtain ⟨c, hc⟩ := h.own' i a hi
  obtain ⟨v, e1, e2⟩ := h.slot i _ hc
  obtain ⟨b, eb1, eb2⟩ := h.own i c hc
  rw [hi] at eb1
  cases eb1
  rw [eb2] at e1
  cases e1
  obtain ⟨b, o, z, hb, hc⟩ := e2
  cases z
  exact ⟨o, hb, co_nt hc⟩⟩
theorem Trk.extT (k : Trk T ρ H) (e : Same H H') : Ext T ρ H ρ H' := ⟨hid_mono e, fun a ha => by
  obtain ⟨o, ho, _⟩ := k.tmp a ha
  rw [e a o ho, ho]⟩
theorem atM (e : Same H H') {v : V} : ∀ {s : S}, At K T ρ H v s → At K T ρ H' v s
  | .o c, ⟨a, o, h1, h2, h3⟩ => ⟨a, o, h1, e _ _ h2, coM (hid_mono e) h3⟩
  | .d x, h => svM (s := .d x) (hid_mono e) h
  | .t x, h => svM (s := .t x) (hid_mono e) h
  | .z x, h => svM (s := .z x) (hid_mono e) h
  | .p x, h => svM (s := .p x) (hid_mono e) h
theorem Sim.mono (h : Sim K T ρ δ σ H) (e : Same H H') : Sim K T ρ δ σ H' where
  len := h.len
  slen := h.slen
  slot := fun i s hs => let ⟨v, a, b⟩ := h.slot i s hs; ⟨v, a, atM e b⟩
  own := h.own
  own' := h.own'
  inj := h.inj
  nt := h.nt
  tmp := fun a ha => let ⟨o, ho, hn⟩ := h.tmp a ha; ⟨o, e a o ho, hn⟩
/-- a new object is nobody's -/
theorem Trk.fresh (k : Trk T ρ H) {p : Addr} (hp : H p = none) : p ∉ T ∧ some p ∉ ρ := by
  constructor
  · intro z
    obtain ⟨o, ho, _⟩ := k.tmp p z
    rw [hp] at ho
    cases ho
  · intro z
    obtain ⟨o, ho, _⟩ := k.own p z
    rw [hp] at ho
    cases ho
theorem same_new {p : Addr} {o : HO} (hp : H p = none) : Same H (upd H p o) := fun b x e => by
  rw [upd_ne (ne_of_none e hp)]
  exact e
theorem Trk.hidNew (k : Trk T ρ H) {p : Addr} {o : HO} (hp : H p = none) : hid T ρ (upd H p o) p = some o := hid_some.mpr ⟨upd_same, k.fresh hp⟩
end
end DL

namespace DL
open PySem PySem.Spec PyProof.Rows L2

inductive PV where
  | v (s : S)
  | own (i : Nat)
def slot (δ : Ds) (i : Nat) : Option S := (δ[i]?).join
theorem slot_some {δ : Ds} {i : Nat} {s : S} (h : slot δ i = some s) : δ[i]? = some (some s) := by
  unfold slot at h
  cases e : δ[i]? with
  | none => rw [e] at h; cases h
  | some x => rw [e] at h; cases x with
    | none => cases h
    | some y => cases h; rfl
def res (δ : Ds) : PV → Option S
  | .v s => some s
  | .own i => slot δ i
def resA (δ : Ds) : List PV → Option (List S)
  | [] => some []
  | p :: ps => (res δ p).bind fun s => (resA δ ps).map (s :: ·)
def dataA : List PV → Option (List PyData)
  | [] => some []
  | .v (.d x) :: ps => (dataA ps).map (x :: ·)
  | _ => none

abbrev EV := Ds → Option (S × Ds)
abbrev PEV := Ds → Option (PV × Ds)
abbrev TEV := Ds → Option (Bool × Ds)
abbrev AEV := Ds → Option (List PV × Ds)

section
variable (K : PySem.W.Frag) (T : List Addr) (ρ : List (Option Addr)) (H : Hp) (σ : L2.St)
def Post (Q : VK) (δ' : Ds) : S → Prop
  | .o c => ∀ ρ' p H0 o, Sim K T ρ' δ' σ H0 → Ext T ρ H ρ' H0 → H0 p = none → CO K (hid T ρ' H0) o c → Q (.ref p) (upd H0 p o)
  | s => ∀ ρ' v H', Sim K T ρ' δ' σ H' → Ext T ρ H ρ' H' → SV K (hid T ρ' H') v s → Q v H'
def PAt (v : V) : PV → Prop
  | .v s => SV K (hid T ρ H) v s
  | .own i => σ[i]? = some (some v)
/-- behind an operation that only lays new things -/
def PostO (Q : VK) : S → Prop
  | .o c => ∀ p o, H p = none → CO K (hid T ρ H) o c → Q (.ref p) (upd H p o)
  | s => ∀ v H', Same H H' → SV K (hid T ρ H') v s → Q v H'
end
def lift (K : PySem.W.Frag) (f : EV) : TE := fun σ H Q => ∃ T ρ δ s δ', Sim K T ρ δ σ H ∧ f δ = some (s, δ') ∧ Post K T ρ H σ Q δ' s
def liftP (K : PySem.W.Frag) (f : PEV) : TE := fun σ H Q => ∃ T ρ δ p δ', Sim K T ρ δ σ H ∧ f δ = some (p, δ') ∧ ∀ ρ' v H', Sim K T ρ' δ' σ H' → Ext T ρ H ρ' H' → PAt K T ρ' H' σ v p → Q v H'
def liftT (K : PySem.W.Frag) (f : TEV) : TT := fun σ H Q => ∃ T ρ δ b δ', Sim K T ρ δ σ H ∧ f δ = some (b, δ') ∧ ∀ ρ' H', Sim K T ρ' δ' σ H' → Ext T ρ H ρ' H' → Q b H'
def liftA (K : PySem.W.Frag) (f : AEV) : TA := fun σ H Q => ∃ T ρ δ ps δ', Sim K T ρ δ σ H ∧ f δ = some (ps, δ') ∧ ∀ ρ' vs H', Sim K T ρ' δ' σ H' → Ext T ρ H ρ' H' → Paired (PAt K T ρ' H' σ) vs ps → Q vs H'
abbrev DE (X : Cx) (e : Expr) (f : EV) : Prop := PE X e (lift X.K f)
abbrev DP (X : Cx) (e : Expr) (f : PEV) : Prop := PE X e (liftP X.K f)
abbrev DT (X : Cx) (e : Expr) (f : TEV) : Prop := PT X e (liftT X.K f)
abbrev DW (X : Cx) (e : Expr) (f : TEV) : Prop := PW X e (liftT X.K f)
abbrev DA (X : Cx) (es : List Expr) (f : AEV) : Prop := PA X es (liftA X.K f)

section
variable {X : Cx} {e : Expr}
theorem pe_imp {t t' : TE} (p : PE X e t) (m : ∀ σ H Q, t' σ H Q → t σ H Q) : PE X e t' := ⟨fun pins s σ H Q I h => p.run pins s σ H Q I (m σ H Q h)⟩
theorem pt_imp {t t' : TT} (p : PT X e t) (m : ∀ σ H Q, t' σ H Q → t σ H Q) : PT X e t' := ⟨fun pins s σ H Q I h => p.run pins s σ H Q I (m σ H Q h)⟩
theorem pw_imp {t t' : TT} (p : PW X e t) (m : ∀ σ H Q, t' σ H Q → t σ H Q) : PW X e t' := ⟨fun wh pins s σ H Q I h => p.run wh pins s σ H Q I (m σ H Q h)⟩
theorem pa_imp {es : List Expr} {t t' : TA} (p : PA X es t) (m : ∀ σ H Q, t' σ H Q → t σ H Q) : PA X es t' := ⟨fun pos pins s σ H Q I h => p.run pos pins s σ H Q I (m σ H Q h)⟩
theorem ps_imp {st : Stmt} {t t' : TS} (p : PS X st t) (m : ∀ D σ H, t' D σ H → t D σ H) : PS X st t' := ⟨fun pins s σ H D I h => p.run pins s σ H D I (m D σ H h)⟩
theorem pss_imp {st : List Stmt} {t t' : TS} (p : PSs X st t) (m : ∀ D σ H, t' D σ H → t D σ H) : PSs X st t' := ⟨fun pins s σ H D I h => p.run pins s σ H D I (m D σ H h)⟩
end

section
variable {K : PySem.W.Frag} {T : List Addr} {ρ ρ0 ρ1 : List (Option Addr)} {δ δ' : Ds} {σ σ' : L2.St} {H H0 H1 H' : Hp}
theorem sv_at {v : V} : ∀ {s : S}, SV K (hid T ρ H) v s → At K T ρ H v s
  | .d _, h => h
  | .t _, h => h
  | .z _, h => h
  | .p _, h => h
theorem pat_at {v : V} {p : PV} {s : S} (h : Sim K T ρ δ σ H) (e : Ext T ρ0 H0 ρ H) (hp : PAt K T ρ0 H0 σ v p) (hr : res δ p = some s) : At K T ρ H v s := by
  cases p with
  | v s' => cases hr; exact sv_at (svM e.same hp)
  | own i =>
    obtain ⟨w, e1, e2⟩ := h.slot i s (slot_some hr)
    have hp' : σ[i]? = some (some v) := hp
    rw [hp'] at e1
    cases e1
    exact e2
theorem pats_at (h : Sim K T ρ δ σ H) (e : Ext T ρ0 H0 ρ H) : ∀ {vs : List V} {ps : List PV} {ss : List S}, Paired (PAt K T ρ0 H0 σ) vs ps → resA δ ps = some ss → Paired (At K T ρ H) vs ss
  | _, _, _, .nil, hr => by cases hr; exact .nil
  | _, p :: ps, ss, .cons a b, hr => by
    unfold resA at hr
    cases e1 : res δ p with
    | none => rw [e1] at hr; cases hr
    | some s =>
      rw [e1] at hr
      cases e2 : resA δ ps with
      | none => rw [e2] at hr; cases hr
      | some r =>
        rw [e2] at hr
        cases hr
        exact .cons (pat_at h e a e1) (pats_at h e b e2)
theorem patM {v : V} {p : PV} (e : Ext T ρ0 H0 ρ H) (hp : PAt K T ρ0 H0 σ v p) : PAt K T ρ H σ v p := by
  cases p with
  | v s => exact svM (s := s) e.same hp
  | own i => exact hp
theorem data_dp : ∀ {vs : List V} {ps : List PV} {ds : List PyData}, Paired (PAt K T ρ H σ) vs ps → dataA ps = some ds → DqAll K (hid T ρ H) vs ds
  | _, _, _, .nil, hr => by cases hr; exact .nil
  | _, .v (.d x) :: ps, ds, .cons a b, hr => by
    have hr' : (dataA ps).map (x :: ·) = some ds := hr
    cases e2 : dataA ps with
    | none => rw [e2] at hr'; cases hr'
    | some r =>
      rw [e2] at hr'
      cases hr'
      exact .cons a (data_dp b e2)
  | _, .v (.t x) :: ps, ds, .cons a b, hr => by cases hr
  | _, .v (.z x) :: ps, ds, .cons a b, hr => by cases hr
  | _, .v (.p x) :: ps, ds, .cons a b, hr => by cases hr
  | _, .v (.o x) :: ps, ds, .cons a b, hr => by cases hr
  | _, .own x :: ps, ds, .cons a b, hr => by cases hr

/-- from the whole's end to an operation's -/
theorem post_o {Q : VK} {s : S} (h : Sim K T ρ1 δ' σ H1) (e : Ext T ρ H ρ1 H1) (q : Post K T ρ H σ Q δ' s) : PostO K T ρ1 H1 Q s := by
  cases s with
  | o c => exact fun p o hp hc => q ρ1 p H1 o h e hp hc
  | d x => exact fun v H' hs hv => q ρ1 v H' (h.mono hs) (e.trans (h.trk.extT hs)) hv
  | t x => exact fun v H' hs hv => q ρ1 v H' (h.mono hs) (e.trans (h.trk.extT hs)) hv
  | z x => exact fun v H' hs hv => q ρ1 v H' (h.mono hs) (e.trans (h.trk.extT hs)) hv
  | p x => exact fun v H' hs hv => q ρ1 v H' (h.mono hs) (e.trans (h.trk.extT hs)) hv
theorem post_step {Q : VK} {s : S} (e : Ext T ρ H ρ1 H1) (q : Post K T ρ H σ Q δ' s) : Post K T ρ1 H1 σ Q δ' s := by
  cases s with
  | o c => exact fun ρ' p H0 o h e' hp hc => q ρ' p H0 o h (e.trans e') hp hc
  | d x => exact fun ρ' v H' h e' hv => q ρ' v H' h (e.trans e') hv
  | t x => exact fun ρ' v H' h e' hv => q ρ' v H' h (e.trans e') hv
  | z x => exact fun ρ' v H' h e' hv => q ρ' v H' h (e.trans e') hv
  | p x => exact fun ρ' v H' h e' hv => q ρ' v H' h (e.trans e') hv
/-- what is new is laid down as data -/
theorem frz_new {p : Addr} {o : HO} {c : C} (k : Trk T ρ H) (hp : H p = none) (hc : CO K (hid T ρ H) o c) : SV K (hid T ρ (upd H p o)) (.ref p) (frz (.o c)) := by
  have hm : Same (hid T ρ H) (hid T ρ (upd H p o)) := hid_mono (same_new hp)
  cases c with
  | l xs =>
    obtain ⟨vs, rfl, ha⟩ := hc
    exact Dq.lst (k.hidNew hp) (dpAllM hm _ ha)
  | t kvs =>
    exact ⟨p, o, rfl, k.hidNew hp, tbM hm hc⟩
/-- an owned slot is data from now on -/
theorem Sim.freeze {i : Nat} {c : C} (h : Sim K T ρ δ σ H) (hi : δ[i]? = some (some (.o c))) : Sim K T (ρ.set i none) (δ.set i (some (frz (.o c)))) σ H ∧ Ext T ρ H (ρ.set i none) H ∧ ∃ v, σ[i]? = some (some v) ∧ SV K (hid T (ρ.set i none) H) v (frz (.o c)) := by
  have hil : i < δ.length := (List.getElem?_eq_some_iff.mp hi).1
  have hir : i < ρ.length := by rw [h.len]; exact hil
  have hl : Same (hid T ρ H) (hid T (ρ.set i none) H) := hid_less fun b hb => hb.elim .inl fun z => .inr (by
    rcases List.mem_or_eq_of_mem_set z with z | z
    · exact z
    · cases z)
  obtain ⟨a, ha, hσ⟩ := h.own i c hi
  obtain ⟨v, hv, hat⟩ := h.slot i _ hi
  rw [hσ] at hv
  cases hv
  obtain ⟨b, o, z, ho, hc⟩ := hat
  cases z
  have hna : some a ∉ ρ.set i none := fun z => by
    obtain ⟨j, hj⟩ := mem_ix z
    by_cases hij : i = j
    · subst hij
      rw [List.getElem?_set_self hir] at hj
      cases hj
    · rw [List.getElem?_set_ne hij] at hj
      exact hij (h.inj i j a ha hj)
  have hva : hid T (ρ.set i none) H a = some o := hid_some.mpr ⟨ho, h.nt i a ha, hna⟩
  have hsv : SV K (hid T (ρ.set i none) H) (.ref a) (frz (.o c)) := by
    cases c with
    | l xs =>
      obtain ⟨vs, rfl, hd⟩ := hc
      exact Dq.lst hva (dpAllM hl _ hd)
    | t kvs =>
      exact ⟨a, o, rfl, hva, tbM hl hc⟩
  have hno : ∀ c', frz (.o c) ≠ .o c' := fun c' z => by cases c <;> cases z
  refine ⟨⟨?_, ?_, ?_, ?_, ?_, ?_, ?_, h.tmp⟩, ⟨hl, fun _ _ => rfl⟩, _, hσ, hsv⟩
  · rw [List.length_set, List.length_set]; exact h.len
  · rw [List.length_set]; exact h.slen
  · intro j s hj
    by_cases hij : i = j
    · subst hij
      rw [List.getElem?_set_self hil] at hj
      cases hj
      exact ⟨_, hσ, sv_at hsv⟩
    · rw [List.getElem?_set_ne hij] at hj
      obtain ⟨w, e1, e2⟩ := h.slot j s hj
      refine ⟨w, e1, ?_⟩
      cases s with
      | o c' =>
        obtain ⟨x, o', z1, z2, z3⟩ := e2
        exact ⟨x, o', z1, z2, coM hl z3⟩
      | d x => exact svM (s := .d x) hl e2
      | t x => exact svM (s := .t x) hl e2
      | z x => exact svM (s := .z x) hl e2
      | p x => exact svM (s := .p x) hl e2
  · intro j c' hj
    by_cases hij : i = j
    · subst hij
      rw [List.getElem?_set_self hil] at hj
      exact absurd (Option.some.inj (Option.some.inj hj)) (hno c')
    · rw [List.getElem?_set_ne hij] at hj
      rw [List.getElem?_set_ne hij]
      exact h.own j c' hj
  · intro j b hj
    by_cases hij : i = j
    · subst hij
      rw [List.getElem?_set_self hir] at hj
      cases hj
    · rw [List.getElem?_set_ne hij] at hj
      rw [List.getElem?_set_ne hij]
      exact h.own' j b hj
  · intro j k b hj hk
    have f : ∀ m, (ρ.set i none)[m]? = some (some b) → ρ[m]? = some (some b) := fun m hm => by
      by_cases him : i = m
      · subst him
        rw [List.getElem?_set_self hir] at hm
        cases hm
      · rw [List.getElem?_set_ne him] at hm
        exact hm
    exact h.inj j k b (f j hj) (f k hk)
  · intro j b hj
    by_cases hij : i = j
    · subst hij
      rw [List.getElem?_set_self hir] at hj
      cases hj
    · rw [List.getElem?_set_ne hij] at hj
      exact h.nt j b hj
end

/-! ### names, constants -/
def vr (i : Nat) : EV := fun δ => match slot δ i with
  | some (.o c) => some (frz (.o c), δ.set i (some (frz (.o c))))
  | some s => some (s, δ)
  | none => none
def pk (i : Nat) : PEV := fun δ => match slot δ i with
  | some (.o _) => some (.own i, δ)
  | some s => some (.v s, δ)
  | none => none
def cst (x : PyData) : EV := fun δ => some (.d x, δ)
def frzP (f : EV) : PEV := fun δ => (f δ).map fun r => (PV.v (frz r.1), r.2)
section
variable {X : Cx} {a b : Expr} {pos : Pos}
theorem de_var {i : Nat} {x : Str} (p : PE X (.Name x pos) (tVar i)) : DE X (.Name x pos) (vr i) := pe_imp p fun σ H Q ⟨T, ρ, δ, s, δ', hs, hf, hq⟩ => by
  unfold vr at hf
  cases e : slot δ i with
  | none => rw [e] at hf; cases hf
  | some s' =>
    rw [e] at hf
    cases s' with
    | o c =>
      obtain ⟨h1, h2, v, h3, h4⟩ := hs.freeze (slot_some e)
      cases hf
      refine ⟨v, h3, ?_⟩
      cases c with
      | l xs => exact hq _ v H h1 h2 h4
      | t xs => exact hq _ v H h1 h2 h4
    | d x =>
      cases hf
      obtain ⟨v, h3, h4⟩ := hs.slot i _ (slot_some e)
      exact ⟨v, h3, hq _ v H hs .refl h4⟩
    | t x =>
      cases hf
      obtain ⟨v, h3, h4⟩ := hs.slot i _ (slot_some e)
      exact ⟨v, h3, hq _ v H hs .refl h4⟩
    | z x =>
      cases hf
      obtain ⟨v, h3, h4⟩ := hs.slot i _ (slot_some e)
      exact ⟨v, h3, hq _ v H hs .refl h4⟩
    | p x =>
      cases hf
      obtain ⟨v, h3, h4⟩ := hs.slot i _ (slot_some e)
      exact ⟨v, h3, hq _ v H hs .refl h4⟩
theorem dp_var {i : Nat} {x : Str} (p : PE X (.Name x pos) (tVar i)) : DP X (.Name x pos) (pk i) := pe_imp p fun σ H Q ⟨T, ρ, δ, s, δ', hs, hf, hq⟩ => by
  unfold pk at hf
  cases e : slot δ i with
  | none => rw [e] at hf; cases hf
  | some s' =>
    rw [e] at hf
    obtain ⟨v, h3, h4⟩ := hs.slot i _ (slot_some e)
    cases s' with
    | o c =>
      cases hf
      exact ⟨v, h3, hq _ v H hs .refl h3⟩
    | d x =>
      cases hf
      exact ⟨v, h3, hq _ v H hs .refl h4⟩
    | t x =>
      cases hf
      exact ⟨v, h3, hq _ v H hs .refl h4⟩
    | z x =>
      cases hf
      exact ⟨v, h3, hq _ v H hs .refl h4⟩
    | p x =>
      cases hf
      exact ⟨v, h3, hq _ v H hs .refl h4⟩
theorem de_cst {e : Expr} {v : V} {x : PyData} (p : PE X e (tC v)) (hd : ∀ G, Dq X.K G v x) : DE X e (cst x) := pe_imp p fun σ H Q ⟨T, ρ, δ, s, δ', hs, hf, hq⟩ => by
  cases hf
  exact hq _ v H hs .refl (hd _)
theorem de_int {i j pos} : DE X (.Constant (.int i) j pos) (cst (.int i)) := de_cst pe_int fun _ => .int i
theorem de_bl {b j pos} : DE X (.Constant (.bool b) j pos) (cst (.bool b)) := de_cst pe_bl fun _ => .bl b
theorem de_non {j pos} : DE X (.Constant .none j pos) (cst .none) := de_cst pe_non fun _ => .non
theorem de_str {x j pos} : DE X (.Constant (.str x) j pos) (cst (.str x)) := de_cst pe_str fun _ => .str x
theorem dp_of {e : Expr} {f : EV} (p : DE X e f) : DP X e (frzP f) := pe_imp p fun σ H Q ⟨T, ρ, δ, s, δ', hs, hf, hq⟩ => by
  unfold frzP at hf
  cases e : f δ with
  | none => rw [e] at hf; cases hf
  | some r =>
    obtain ⟨s', δ1⟩ := r
    rw [e] at hf
    cases hf
    refine ⟨T, ρ, δ, s', δ1, hs, e, ?_⟩
    cases s' with
    | o c => exact fun ρ' p H0 o h e hp hc => hq ρ' (.ref p) (upd H0 p o) (h.mono (same_new hp)) (e.trans (h.trk.extT (same_new hp))) (frz_new h.trk hp hc)
    | d x => exact fun ρ' v H' h e hv => hq ρ' v H' h e hv
    | t x => exact fun ρ' v H' h e hv => hq ρ' v H' h e hv
    | z x => exact fun ρ' v H' h e hv => hq ρ' v H' h e hv
    | p x => exact fun ρ' v H' h e hv => hq ρ' v H' h e hv

/-! ### two operands -/
def bin (g : S → S → Option S) (fa fb : PEV) : EV := fun δ => (fa δ).bind fun x => (fb x.2).bind fun y => (res y.2 x.1).bind fun s => (res y.2 y.1).bind fun u => (g s u).map fun z => (z, y.2)
def OpD (K : PySem.W.Frag) (r : R2) (g : S → S → Option S) : Prop := ∀ (T : List Addr) (ρ : List (Option Addr)) (H : Hp) (x y : V) (a b s : S) (Q : VK), Trk T ρ H → At K T ρ H x a → At K T ρ H y b → g a b = some s → PostO K T ρ H Q s → r x y H Q
theorem bin_ok {r : R2} {g : S → S → Option S} {fa fb : PEV} (hd : OpD X.K r g) (σ : L2.St) (H : Hp) (Q : VK) (h : lift X.K (bin g fa fb) σ H Q) : tOp r (liftP X.K fa) (liftP X.K fb) σ H Q := by
  obtain ⟨T, ρ, δ, s, δ', hs, hf, hq⟩ := h
  unfold bin at hf
  cases ea : fa δ with
  | none => rw [ea] at hf; cases hf
  | some x =>
    rw [ea] at hf
    simp only [Option.bind_some] at hf
    cases eb : fb x.2 with
    | none => rw [eb] at hf; cases hf
    | some y =>
      rw [eb] at hf
      simp only [Option.bind_some] at hf
      cases e1 : res y.2 x.1 with
      | none => rw [e1] at hf; cases hf
      | some u =>
        rw [e1] at hf
        simp only [Option.bind_some] at hf
        cases e2 : res y.2 y.1 with
        | none => rw [e2] at hf; cases hf
        | some w =>
          rw [e2] at hf
          simp only [Option.bind_some] at hf
          cases e3 : g u w with
          | none => rw [e3] at hf; cases hf
          | some z =>
            rw [e3] at hf
            cases hf
            refine ⟨T, ρ, δ, x.1, x.2, hs, by rw [ea], fun ρ1 v1 H1 s1 x1 p1 => ?_⟩
            refine ⟨T, ρ1, x.2, y.1, y.2, s1, by rw [eb], fun ρ2 v2 H2 s2 x2 p2 => ?_⟩
            exact hd T ρ2 H2 v1 v2 u w s Q s2.trk (pat_at s2 x2 p1 e1) (pat_at s2 .refl p2 e2) e3 (post_o s2 (x1.trans x2) hq)
theorem de_op {op : Operator} {r : R2} {g : S → S → Option S} {fa fb : PEV} (ho : OpR X (binaryOp op) r) (hd : OpD X.K r g) (ha : DP X a fa) (hb : DP X b fb) : DE X (.BinOp a op b pos) (bin g fa fb) := pe_imp (pe_op ho ha hb) (bin_ok hd)
theorem de_cmp {op : CmpOp} {r : R2} {g : S → S → Option S} {fa fb : PEV} (ho : OpR X (compareOp op) r) (hd : OpD X.K r g) (ha : DP X a fa) (hb : DP X b fb) (hm : behindInMarks op b = false) : DE X (.Compare a [op] [b] pos) (bin g fa fb) := pe_imp (pe_cmpR ho ha hb hm) (bin_ok hd)
theorem de_ix {r : R2} {g : S → S → Option S} {fa fb : PEV} (ho : IxR X r) (hd : OpD X.K r g) (ha : DP X a fa) (hb : DP X b fb) (hs : PlainIx b) : DE X (.Subscript a b pos) (bin g fa fb) := pe_imp (pe_ix ho ha hb hs) (bin_ok hd)
/-! ### tests -/
def bl (f : EV) : TEV := fun δ => (f δ).bind fun r => match r.1 with
  | .d (.bool b) => some (b, r.2)
  | _ => none
theorem bl_ok {f : EV} (σ : L2.St) (H : Hp) (Q : Bool → Hp → Prop) (h : liftT X.K (bl f) σ H Q) : tB (lift X.K f) σ H Q := by
  obtain ⟨T, ρ, δ, b, δ', hs, hf, hq⟩ := h
  unfold bl at hf
  cases ea : f δ with
  | none => rw [ea] at hf; cases hf
  | some x =>
    obtain ⟨s, δ1⟩ := x
    rw [ea] at hf
    simp only [Option.bind_some] at hf
    split at hf
    · rename_i k
      cases hf
      refine ⟨T, ρ, δ, _, _, hs, ea, fun ρ' v H' s1 x1 hv => ?_⟩
      cases hv
      exact ⟨_, rfl, hq ρ' H' s1 x1⟩
    · cases hf
theorem dt_val {e : Expr} {f : EV} (p : DE X e f) (he : ∀ whole, isTrue e X.env whole = (do let v ← whole; standAt e.pos; holding [v] (truthy v)) := by intro _; rfl) : DT X e (bl f) := pt_imp (pt_val p he) bl_ok
theorem dt_cmp {op : CmpOp} {r : R2} {g : S → S → Option S} {fa fb : PEV} (ho : OpR X (compareOp op) r) (hd : OpD X.K r g) (ha : DP X a fa) (hb : DP X b fb) (hm : behindInMarks op b = false) : DT X (.Compare a [op] [b] pos) (bl (bin g fa fb)) :=
  pt_imp (pt_cmpR ho ha hb hm) fun σ H Q h => by
    have q := bl_ok σ H Q h
    exact bin_ok (X := X) hd σ H _ q
def andT (f g : TEV) : TEV := fun δ => (f δ).bind fun r => if r.1 then g r.2 else some (false, r.2)
def orT (f g : TEV) : TEV := fun δ => (f δ).bind fun r => if r.1 then some (true, r.2) else g r.2
def notT (f : TEV) : TEV := fun δ => (f δ).map fun r => (!r.1, r.2)
variable {rest : List Expr} {f g : TEV}
theorem and_ok (σ : L2.St) (H : Hp) (Q : Bool → Hp → Prop) (h : liftT X.K (andT f g) σ H Q) : tAnd (liftT X.K f) (liftT X.K g) σ H Q := by
  obtain ⟨T, ρ, δ, b, δ', hs, hf, hq⟩ := h
  unfold andT at hf
  cases ea : f δ with
  | none => rw [ea] at hf; cases hf
  | some x =>
    obtain ⟨k, δ1⟩ := x
    rw [ea] at hf
    simp only [Option.bind_some] at hf
    refine ⟨T, ρ, δ, k, δ1, hs, ea, fun ρ' H' s1 x1 => ?_⟩
    cases k with
    | true =>
      rw [if_pos rfl] at hf
      rw [if_pos rfl]
      exact ⟨T, ρ', δ1, b, δ', s1, hf, fun ρ2 H2 s2 x2 => hq ρ2 H2 s2 (x1.trans x2)⟩
    | false =>
      rw [if_neg Bool.false_ne_true] at hf
      rw [if_neg Bool.false_ne_true]
      cases hf
      exact hq ρ' H' s1 x1
theorem or_ok (σ : L2.St) (H : Hp) (Q : Bool → Hp → Prop) (h : liftT X.K (orT f g) σ H Q) : tOr (liftT X.K f) (liftT X.K g) σ H Q := by
  obtain ⟨T, ρ, δ, b, δ', hs, hf, hq⟩ := h
  unfold orT at hf
  cases ea : f δ with
  | none => rw [ea] at hf; cases hf
  | some x =>
    obtain ⟨k, δ1⟩ := x
    rw [ea] at hf
    simp only [Option.bind_some] at hf
    refine ⟨T, ρ, δ, k, δ1, hs, ea, fun ρ' H' s1 x1 => ?_⟩
    cases k with
    | false =>
      rw [if_neg Bool.false_ne_true] at hf
      rw [if_neg Bool.false_ne_true]
      exact ⟨T, ρ', δ1, b, δ', s1, hf, fun ρ2 H2 s2 x2 => hq ρ2 H2 s2 (x1.trans x2)⟩
    | true =>
      rw [if_pos rfl] at hf
      rw [if_pos rfl]
      cases hf
      exact hq ρ' H' s1 x1
theorem dw_and1 (ha : DT X a f) : DW X (.BoolOp .And [a] pos) f := pw_and1 ha
theorem dw_or1 (ha : DT X a f) : DW X (.BoolOp .Or [a] pos) f := pw_or1 ha
theorem dw_and (ha : DT X a f) (hb : DW X (.BoolOp .And (b :: rest) pos) g) : DW X (.BoolOp .And (a :: b :: rest) pos) (andT f g) := pw_imp (pw_and ha hb) and_ok
theorem dw_or (ha : DT X a f) (hb : DW X (.BoolOp .Or (b :: rest) pos) g) : DW X (.BoolOp .Or (a :: b :: rest) pos) (orT f g) := pw_imp (pw_or ha hb) or_ok
theorem dt_not (ha : DT X a f) : DT X (.UnaryOp .Not a pos) (notT f) := pt_imp (pt_not ha) fun σ H Q ⟨T, ρ, δ, b, δ', hs, hf, hq⟩ => by
  unfold notT at hf
  cases ea : f δ with
  | none => rw [ea] at hf; cases hf
  | some x =>
    rw [ea] at hf
    cases hf
    exact ⟨T, ρ, δ, x.1, x.2, hs, by rw [ea], hq⟩
/-- as values -/
def andV (f g : EV) : EV := fun δ => (f δ).bind fun r => match r.1 with
  | .d (.bool b) => if b then g r.2 else some (.d (.bool false), r.2)
  | _ => none
def orV (f g : EV) : EV := fun δ => (f δ).bind fun r => match r.1 with
  | .d (.bool b) => if b then some (.d (.bool true), r.2) else g r.2
  | _ => none
def notV (f : EV) : EV := fun δ => (f δ).bind fun r => match r.1 with
  | .d (.bool b) => some (.d (.bool (!b)), r.2)
  | _ => none
variable {f1 f2 f3 : EV}
theorem de_one {op} (ha : DE X a f1) : DE X (.BoolOp op [a] pos) f1 := pe_one ha
theorem de_and (ha : DE X a f1) (hb : DE X (.BoolOp .And (b :: rest) pos) f2) : DE X (.BoolOp .And (a :: b :: rest) pos) (andV f1 f2) := pe_imp (pe_and ha hb) fun σ H Q ⟨T, ρ, δ, s, δ', hs, hf, hq⟩ => by
  unfold andV at hf
  cases ea : f1 δ with
  | none => rw [ea] at hf; cases hf
  | some x =>
    obtain ⟨s1, δ1⟩ := x
    rw [ea] at hf
    simp only [Option.bind_some] at hf
    split at hf
    · rename_i k
      refine ⟨T, ρ, δ, _, δ1, hs, ea, fun ρ' v H' s1 x1 hv => ?_⟩
      cases hv
      refine ⟨k, rfl, ?_⟩
      cases k with
      | true =>
        rw [if_pos rfl] at hf
        rw [if_pos rfl]
        exact ⟨T, ρ', δ1, s, δ', s1, hf, post_step x1 hq⟩
      | false =>
        rw [if_neg Bool.false_ne_true] at hf
        rw [if_neg Bool.false_ne_true]
        cases hf
        exact hq ρ' _ H' s1 x1 (Dq.bl false)
    · cases hf
theorem de_or (ha : DE X a f1) (hb : DE X (.BoolOp .Or (b :: rest) pos) f2) : DE X (.BoolOp .Or (a :: b :: rest) pos) (orV f1 f2) := pe_imp (pe_or ha hb) fun σ H Q ⟨T, ρ, δ, s, δ', hs, hf, hq⟩ => by
  unfold orV at hf
  cases ea : f1 δ with
  | none => rw [ea] at hf; cases hf
  | some x =>
    obtain ⟨s1, δ1⟩ := x
    rw [ea] at hf
    simp only [Option.bind_some] at hf
    split at hf
    · rename_i k
      refine ⟨T, ρ, δ, _, δ1, hs, ea, fun ρ' v H' s1 x1 hv => ?_⟩
      cases hv
      refine ⟨k, rfl, ?_⟩
      cases k with
      | false =>
        rw [if_neg Bool.false_ne_true] at hf
        rw [if_neg Bool.false_ne_true]
        exact ⟨T, ρ', δ1, s, δ', s1, hf, post_step x1 hq⟩
      | true =>
        rw [if_pos rfl] at hf
        rw [if_pos rfl]
        cases hf
        exact hq ρ' _ H' s1 x1 (Dq.bl true)
    · cases hf
theorem de_not (ha : DE X a f1) : DE X (.UnaryOp .Not a pos) (notV f1) := pe_imp (pe_not ha) fun σ H Q ⟨T, ρ, δ, s, δ', hs, hf, hq⟩ => by
  unfold notV at hf
  cases ea : f1 δ with
  | none => rw [ea] at hf; cases hf
  | some x =>
    obtain ⟨s1, δ1⟩ := x
    rw [ea] at hf
    simp only [Option.bind_some] at hf
    split at hf
    · rename_i k
      cases hf
      refine ⟨T, ρ, δ, _, _, hs, ea, fun ρ' v H' s1 x1 hv => ?_⟩
      cases hv
      exact ⟨k, rfl, hq ρ' _ H' s1 x1 (Dq.bl _)⟩
    · cases hf
def ifE (t : TEV) (f g : EV) : EV := fun δ => (t δ).bind fun r => if r.1 then f r.2 else g r.2
theorem de_ifE {c : Expr} (hc : DT X c f) (ha : DE X a f1) (hb : DE X b f2) : DE X (.IfExp c a b pos) (ifE f f1 f2) := pe_imp (pe_ifExp hc ha hb) fun σ H Q ⟨T, ρ, δ, s, δ', hs, hf, hq⟩ => by
  unfold ifE at hf
  cases ea : f δ with
  | none => rw [ea] at hf; cases hf
  | some x =>
    obtain ⟨k, δ1⟩ := x
    rw [ea] at hf
    simp only [Option.bind_some] at hf
    refine ⟨T, ρ, δ, k, δ1, hs, ea, fun ρ' H' s1 x1 => ?_⟩
    cases k with
    | true =>
      rw [if_pos rfl] at hf
      rw [if_pos rfl]
      exact ⟨T, ρ', δ1, s, δ', s1, hf, post_step x1 hq⟩
    | false =>
      rw [if_neg Bool.false_ne_true] at hf
      rw [if_neg Bool.false_ne_true]
      exact ⟨T, ρ', δ1, s, δ', s1, hf, post_step x1 hq⟩
/-! ### arguments, displays, calls of what is built in -/
def nilA : AEV := fun δ => some ([], δ)
def consA (f : PEV) (g : AEV) : AEV := fun δ => (f δ).bind fun x => (g x.2).map fun y => (x.1 :: y.1, y.2)
theorem da_nil : DA X [] nilA := pa_imp pa_nil fun σ H Q ⟨T, ρ, δ, ps, δ', hs, hf, hq⟩ => by
  cases hf
  exact hq ρ [] H hs .refl .nil
theorem da_cons {es : List Expr} {fp : PEV} {fa : AEV} (h1 : DP X e fp) (h2 : DA X es fa) (hstar : starEach (e :: es) X.env = (false, eval e X.env) :: starEach es X.env := by rfl) : DA X (e :: es) (consA fp fa) := pa_imp (pa_cons h1 h2 hstar) fun σ H Q ⟨T, ρ, δ, ps, δ', hs, hf, hq⟩ => by
  unfold consA at hf
  cases ea : fp δ with
  | none => rw [ea] at hf; cases hf
  | some x =>
    rw [ea] at hf
    simp only [Option.bind_some] at hf
    cases eb : fa x.2 with
    | none => rw [eb] at hf; cases hf
    | some y =>
      rw [eb] at hf
      cases hf
      refine ⟨T, ρ, δ, x.1, x.2, hs, by rw [ea], fun ρ1 v1 H1 s1 x1 p1 => ?_⟩
      refine ⟨T, ρ1, x.2, y.1, y.2, s1, by rw [eb], fun ρ2 vs H2 s2 x2 p2 => ?_⟩
      exact hq ρ2 (v1 :: vs) H2 s2 (x1.trans x2) (.cons (patM x2 p1) p2)
def tupE (fa : AEV) : EV := fun δ => (fa δ).bind fun x => (dataA x.1).bind fun ds => if ds.length ≤ sizeLine then some (.d (.tuple ds), x.2) else none
def lstE (fa : AEV) : EV := fun δ => (fa δ).bind fun x => (dataA x.1).bind fun ds => if ds.length ≤ sizeLine then some (.o (.l ds), x.2) else none
theorem de_tup {es : List Expr} {fa : AEV} {k} (h : DA X es fa) : DE X (.Tuple es k pos) (tupE fa) := pe_imp (pe_tup h) fun σ H Q ⟨T, ρ, δ, s, δ', hs, hf, hq⟩ => by
  unfold tupE at hf
  cases ea : fa δ with
  | none => rw [ea] at hf; cases hf
  | some x =>
    rw [ea] at hf
    simp only [Option.bind_some] at hf
    cases eb : dataA x.1 with
    | none => rw [eb] at hf; cases hf
    | some ds =>
      rw [eb] at hf
      simp only [Option.bind_some] at hf
      split at hf
      · rename_i hl
        cases hf
        refine ⟨T, ρ, δ, x.1, x.2, hs, by rw [ea], fun ρ1 vs H1 s1 x1 p1 => ?_⟩
        have hd := data_dp p1 eb
        refine ⟨by rw [dpAll_len hd]; exact hl, fun p hp => ?_⟩
        have hm := same_new (o := .tup vs) hp
        exact hq ρ1 (.ref p) _ (s1.mono hm) (x1.trans (s1.trk.extT hm)) (Dq.tup (s1.trk.hidNew hp) (dpAllM (hid_mono hm) _ hd))
      · cases hf
theorem de_lst {es : List Expr} {fa : AEV} (h : DA X es fa) : DE X (.List es pos) (lstE fa) := pe_imp (pe_lst h) fun σ H Q ⟨T, ρ, δ, s, δ', hs, hf, hq⟩ => by
  unfold lstE at hf
  cases ea : fa δ with
  | none => rw [ea] at hf; cases hf
  | some x =>
    rw [ea] at hf
    simp only [Option.bind_some] at hf
    cases eb : dataA x.1 with
    | none => rw [eb] at hf; cases hf
    | some ds =>
      rw [eb] at hf
      simp only [Option.bind_some] at hf
      split at hf
      · rename_i hl
        cases hf
        refine ⟨T, ρ, δ, x.1, x.2, hs, by rw [ea], fun ρ1 vs H1 s1 x1 p1 => ?_⟩
        have hd := data_dp p1 eb
        refine ⟨by rw [dpAll_len hd]; exact hl, fun p hp => ?_⟩
        exact hq ρ1 p H1 (.lst vs) s1 x1 hp ⟨vs, rfl, hd⟩
      · cases hf
def callB (g : List S → Option S) (fa : AEV) : EV := fun δ => (fa δ).bind fun x => (resA x.2 x.1).bind fun ss => (g ss).map fun z => (z, x.2)
def CallD (K : PySem.W.Frag) (r : List V → Hp → VK → Prop) (g : List S → Option S) : Prop := ∀ (T : List Addr) (ρ : List (Option Addr)) (H : Hp) (vs : List V) (ss : List S) (s : S) (Q : VK), Trk T ρ H → Paired (At K T ρ H) vs ss → g ss = some s → PostO K T ρ H Q s → r vs H Q
theorem callB_ok {r : List V → Hp → VK → Prop} {g : List S → Option S} {fa : AEV} (hd : CallD X.K r g) (σ : L2.St) (H : Hp) (Q : VK) (h : lift X.K (callB g fa) σ H Q) : tCB r (liftA X.K fa) σ H Q := by
  obtain ⟨T, ρ, δ, s, δ', hs, hf, hq⟩ := h
  unfold callB at hf
  cases ea : fa δ with
  | none => rw [ea] at hf; cases hf
  | some x =>
    rw [ea] at hf
    simp only [Option.bind_some] at hf
    cases eb : resA x.2 x.1 with
    | none => rw [eb] at hf; cases hf
    | some ss =>
      rw [eb] at hf
      simp only [Option.bind_some] at hf
      cases e3 : g ss with
      | none => rw [e3] at hf; cases hf
      | some z =>
        rw [e3] at hf
        cases hf
        refine ⟨T, ρ, δ, x.1, x.2, hs, by rw [ea], fun ρ1 vs H1 s1 x1 p1 => ?_⟩
        exact hd T ρ1 H1 vs ss _ Q s1.trk (pats_at s1 .refl p1 eb) e3 (post_o s1 x1 hq)
theorem de_callB {id : String} {x : Str} {es : List Expr} {p : Pos} {r : List V → Hp → VK → Prop} {g : List S → Option S} {fa : AEV} (hc : CallR X (.builtin id) r) (hd : CallD X.K r g) (hg : Gl X x) (hm : X.mg x = none) (hv : bootBuiltins x = some (.builtin id)) (ha : DA X (e :: es) fa) (hn : x ≠ "__name__" := by decide) (hdb : (x == ("__debug__" : Str)) = false := by decide)
    (he : starEach (e :: es) X.env = (false, eval e X.env) :: starEach es X.env := by rfl) (hpl : (backTo pos (starEach es X.env)).any (·.1) = false := by rfl) : DE X (.Call (.Name x p) (e :: es) [] pos) (callB g fa) := pe_imp (pe_callB hc hg hm hv ha hn hdb he hpl) (callB_ok hd)
theorem de_callTy {id : String} {x : Str} {es : List Expr} {p : Pos} {r : List V → Hp → VK → Prop} {g : List S → Option S} {fa : AEV} (hc : CallR X (.type id) r) (hd : CallD X.K r g) (hg : Gl X x) (hm : X.mg x = none) (hv : bootBuiltins x = some (.type id)) (ha : DA X (e :: es) fa) (hn : x ≠ "__name__" := by decide) (hdb : (x == ("__debug__" : Str)) = false := by decide)
    (he : starEach (e :: es) X.env = (false, eval e X.env) :: starEach es X.env := by rfl) (hpl : (backTo pos (starEach es X.env)).any (·.1) = false := by rfl) : DE X (.Call (.Name x p) (e :: es) [] pos) (callB g fa) := pe_imp (pe_callTy hc hg hm hv ha hn hdb he hpl) (callB_ok hd)
end
end DL

namespace DL
open PySem PySem.Spec PyProof.Rows L2

inductive Out where
  | nx (δ : Ds) | rt (s : S) (δ : Ds) | bk (δ : Ds) | ct (δ : Ds)
abbrev SEV := Ds → Option Out
def Keep (P : List Nat) (σ σ' : L2.St) : Prop := ∀ i ∈ P, σ'[i]? = σ[i]?
theorem Keep.refl {P : List Nat} {σ : L2.St} : Keep P σ σ := fun _ _ => rfl
theorem Keep.trans {P : List Nat} {σ σ1 σ2 : L2.St} (a : Keep P σ σ1) (b : Keep P σ1 σ2) : Keep P σ σ2 := fun i hi => (b i hi).trans (a i hi)

section
variable (K : PySem.W.Frag) (T : List Addr) (ρ : List (Option Addr)) (H : Hp) (σ : L2.St) (P : List Nat)
def PostR (Q : VK) (δ' : Ds) : S → Prop
  | .o c => ∀ ρ' σ' p H0 o, Sim K T ρ' δ' σ' H0 → Ext T ρ H ρ' H0 → Keep P σ σ' → H0 p = none → CO K (hid T ρ' H0) o c → Q (.ref p) (upd H0 p o)
  | s => ∀ ρ' σ' v H', Sim K T ρ' δ' σ' H' → Ext T ρ H ρ' H' → Keep P σ σ' → SV K (hid T ρ' H') v s → Q v H'
def PostN (q : L2.St → Hp → Prop) (δ' : Ds) : Prop := ∀ ρ' σ' H', Sim K T ρ' δ' σ' H' → Ext T ρ H ρ' H' → Keep P σ σ' → q σ' H'
def PostS (D : Ends) : Out → Prop
  | .nx δ' => PostN K T ρ H σ P D.nx δ'
  | .bk δ' => PostN K T ρ H σ P D.bk δ'
  | .ct δ' => PostN K T ρ H σ P D.ct δ'
  | .rt s δ' => PostR K T ρ H σ P D.rt δ' s
end
def liftS (K : PySem.W.Frag) (P : List Nat) (f : SEV) : TS := fun D σ H => ∃ T ρ δ o, Sim K T ρ δ σ H ∧ f δ = some o ∧ PostS K T ρ H σ P D o
abbrev DS (X : Cx) (P : List Nat) (st : Stmt) (f : SEV) : Prop := PS X st (liftS X.K P f)
abbrev DSs (X : Cx) (P : List Nat) (st : List Stmt) (f : SEV) : Prop := PSs X st (liftS X.K P f)

section
variable {K : PySem.W.Frag} {T : List Addr} {ρ ρ0 ρ1 : List (Option Addr)} {δ δ' : Ds} {σ σ' σ1 : L2.St} {H H0 H1 H' : Hp} {P : List Nat}
theorem postN_step {q : L2.St → Hp → Prop} (e : Ext T ρ H ρ1 H1) (k : Keep P σ σ1) (h : PostN K T ρ H σ P q δ') : PostN K T ρ1 H1 σ1 P q δ' := fun ρ' σ' H' s x y => h ρ' σ' H' s (e.trans x) (k.trans y)
theorem postR_step {Q : VK} {s : S} (e : Ext T ρ H ρ1 H1) (k : Keep P σ σ1) (h : PostR K T ρ H σ P Q δ' s) : PostR K T ρ1 H1 σ1 P Q δ' s := by
  cases s with
  | o c => exact fun ρ' σ' p H0 o s x y hp hc => h ρ' σ' p H0 o s (e.trans x) (k.trans y) hp hc
  | d c => exact fun ρ' σ' v H' s x y hv => h ρ' σ' v H' s (e.trans x) (k.trans y) hv
  | t c => exact fun ρ' σ' v H' s x y hv => h ρ' σ' v H' s (e.trans x) (k.trans y) hv
  | z c => exact fun ρ' σ' v H' s x y hv => h ρ' σ' v H' s (e.trans x) (k.trans y) hv
  | p c => exact fun ρ' σ' v H' s x y hv => h ρ' σ' v H' s (e.trans x) (k.trans y) hv
theorem postS_step {D : Ends} {o : Out} (e : Ext T ρ H ρ1 H1) (k : Keep P σ σ1) (h : PostS K T ρ H σ P D o) : PostS K T ρ1 H1 σ1 P D o := by
  cases o with
  | nx δ => exact postN_step e k h
  | bk δ => exact postN_step e k h
  | ct δ => exact postN_step e k h
  | rt s δ => exact postR_step e k h
/-- where a value of an expression goes on -/
theorem post_mk {Q : VK} {s : S} (h : PostR K T ρ H σ P Q δ' s) : Post K T ρ H σ Q δ' s := by
  cases s with
  | o c => exact fun ρ' p H0 o s x hp hc => h ρ' σ p H0 o s x .refl hp hc
  | d c => exact fun ρ' v H' s x hv => h ρ' σ v H' s x .refl hv
  | t c => exact fun ρ' v H' s x hv => h ρ' σ v H' s x .refl hv
  | z c => exact fun ρ' v H' s x hv => h ρ' σ v H' s x .refl hv
  | p c => exact fun ρ' v H' s x hv => h ρ' σ v H' s x .refl hv

/-- a slot gets data -/
theorem Sim.setD {i : Nat} {v : V} {s : S} (h : Sim K T ρ δ σ H) (hv : SV K (hid T ρ H) v s) : Sim K T (ρ.set i none) (δ.set i (some s)) (σ.set i (some v)) H ∧ Ext T ρ H (ρ.set i none) H := by
  by_cases hil : i < δ.length
  case neg =>
    rw [List.set_eq_of_length_le (by rw [h.len]; omega), List.set_eq_of_length_le (by omega), List.set_eq_of_length_le (by rw [h.slen]; omega)]
    exact ⟨h, .refl⟩
  have hir : i < ρ.length := by rw [h.len]; exact hil
  have his : i < σ.length := by rw [h.slen]; exact hil
  have hl : Same (hid T ρ H) (hid T (ρ.set i none) H) := hid_less fun b hb => hb.elim .inl fun z => .inr (by
    rcases List.mem_or_eq_of_mem_set z with z | z
    · exact z
    · cases z)
  have fr : ∀ (m : Nat) (b : Addr), (ρ.set i none)[m]? = some (some b) → m ≠ i ∧ ρ[m]? = some (some b) := fun m b hm => by
    by_cases him : i = m
    · subst him
      rw [List.getElem?_set_self hir] at hm
      cases hm
    · rw [List.getElem?_set_ne him] at hm
      exact ⟨Ne.symm him, hm⟩
  refine ⟨⟨?_, ?_, ?_, ?_, ?_, ?_, ?_, h.tmp⟩, hl, fun _ _ => rfl⟩
  · rw [List.length_set, List.length_set]; exact h.len
  · rw [List.length_set, List.length_set]; exact h.slen
  · intro j s' hj
    by_cases hij : i = j
    · subst hij
      rw [List.getElem?_set_self hil] at hj
      cases hj
      exact ⟨v, List.getElem?_set_self his, sv_at (svM hl hv)⟩
    · rw [List.getElem?_set_ne hij] at hj
      obtain ⟨w, e1, e2⟩ := h.slot j s' hj
      refine ⟨w, by rw [List.getElem?_set_ne hij]; exact e1, ?_⟩
      cases s' with
      | o c' =>
        obtain ⟨x, o', z1, z2, z3⟩ := e2
        exact ⟨x, o', z1, z2, coM hl z3⟩
      | d x => exact svM (s := .d x) hl e2
      | t x => exact svM (s := .t x) hl e2
      | z x => exact svM (s := .z x) hl e2
      | p x => exact svM (s := .p x) hl e2
  · intro j c' hj
    by_cases hij : i = j
    · subst hij
      rw [List.getElem?_set_self hil] at hj
      cases hj
      exact hv.elim
    · rw [List.getElem?_set_ne hij] at hj
      rw [List.getElem?_set_ne hij, List.getElem?_set_ne hij]
      exact h.own j c' hj
  · intro j b hj
    obtain ⟨h1, h2⟩ := fr j b hj
    rw [List.getElem?_set_ne (Ne.symm h1)]
    exact h.own' j b h2
  · intro j k b hj hk
    exact h.inj j k b (fr j b hj).2 (fr k b hk).2
  · intro j b hj
    exact h.nt j b (fr j b hj).2
/-- a slot gets what is new -/
theorem Sim.setO {i : Nat} {p : Addr} {o : HO} {c : C} (h : Sim K T ρ δ σ H) (hp : H p = none) (hc : CO K (hid T ρ H) o c) : ∃ ρ', Sim K T ρ' (δ.set i (some (.o c))) (σ.set i (some (.ref p))) (upd H p o) ∧ Ext T ρ H ρ' (upd H p o) := by
  by_cases hil : i < δ.length
  case neg =>
    rw [List.set_eq_of_length_le (by omega), List.set_eq_of_length_le (by rw [h.slen]; omega)]
    exact ⟨ρ, h.mono (same_new hp), h.trk.extT (same_new hp)⟩
  have hir : i < ρ.length := by rw [h.len]; exact hil
  have his : i < σ.length := by rw [h.slen]; exact hil
  obtain ⟨npT, npρ⟩ := h.trk.fresh hp
  have hl : Same (hid T ρ H) (hid T (ρ.set i (some p)) (upd H p o)) := fun b x e => by
    obtain ⟨e1, e2, e3⟩ := hid_some.mp e
    have nb : b ≠ p := ne_of_none e1 hp
    refine hid_some.mpr ⟨by rw [upd_ne nb]; exact e1, e2, fun z => ?_⟩
    rcases List.mem_or_eq_of_mem_set z with z | z
    · exact e3 z
    · exact nb (Option.some.inj z)
  have fr : ∀ (m : Nat) (b : Addr), (ρ.set i (some p))[m]? = some (some b) → (m = i ∧ b = p) ∨ (m ≠ i ∧ ρ[m]? = some (some b)) := fun m b hm => by
    by_cases him : i = m
    · subst him
      rw [List.getElem?_set_self hir] at hm
      cases hm
      exact .inl ⟨rfl, rfl⟩
    · rw [List.getElem?_set_ne him] at hm
      exact .inr ⟨Ne.symm him, hm⟩
  refine ⟨ρ.set i (some p), ⟨?_, ?_, ?_, ?_, ?_, ?_, ?_, ?_⟩, hl, fun a ha => ?_⟩
  · rw [List.length_set, List.length_set]; exact h.len
  · rw [List.length_set, List.length_set]; exact h.slen
  · intro j s' hj
    by_cases hij : i = j
    · subst hij
      rw [List.getElem?_set_self hil] at hj
      cases hj
      exact ⟨.ref p, List.getElem?_set_self his, p, o, rfl, upd_same, coM hl hc⟩
    · rw [List.getElem?_set_ne hij] at hj
      obtain ⟨w, e1, e2⟩ := h.slot j s' hj
      refine ⟨w, by rw [List.getElem?_set_ne hij]; exact e1, ?_⟩
      cases s' with
      | o c' =>
        obtain ⟨x, o', z1, z2, z3⟩ := e2
        exact ⟨x, o', z1, by rw [upd_ne (ne_of_none z2 hp)]; exact z2, coM hl z3⟩
      | d x => exact svM (s := .d x) hl e2
      | t x => exact svM (s := .t x) hl e2
      | z x => exact svM (s := .z x) hl e2
      | p x => exact svM (s := .p x) hl e2
  · intro j c' hj
    by_cases hij : i = j
    · subst hij
      exact ⟨p, List.getElem?_set_self hir, List.getElem?_set_self his⟩
    · rw [List.getElem?_set_ne hij] at hj
      rw [List.getElem?_set_ne hij, List.getElem?_set_ne hij]
      exact h.own j c' hj
  · intro j b hj
    rcases fr j b hj with ⟨rfl, rfl⟩ | ⟨h1, h2⟩
    · exact ⟨c, List.getElem?_set_self hil⟩
    · rw [List.getElem?_set_ne (Ne.symm h1)]
      exact h.own' j b h2
  · intro j k b hj hk
    rcases fr j b hj with ⟨e1, e2⟩ | ⟨h1, h2⟩
    · rcases fr k b hk with ⟨e3, e4⟩ | ⟨h3, h4⟩
      · rw [e1, e3]
      · subst e2
        exact absurd (ix_mem h4) npρ
    · rcases fr k b hk with ⟨e3, e4⟩ | ⟨h3, h4⟩
      · subst e4
        exact absurd (ix_mem h2) npρ
      · exact h.inj j k b h2 h4
  · intro j b hj
    rcases fr j b hj with ⟨e1, e2⟩ | ⟨h1, h2⟩
    · subst e2
      exact npT
    · exact h.nt j b h2
  · intro a ha
    obtain ⟨x, hx, hn⟩ := h.tmp a ha
    exact ⟨x, by rw [upd_ne (ne_of_none hx hp)]; exact hx, hn⟩
  · obtain ⟨x, hx, _⟩ := h.tmp a ha
    rw [upd_ne (ne_of_none hx hp)]
/-- an owned object is written -/
theorem hid_write {a : Addr} {o : HO} (ha : some a ∈ ρ) : hid T ρ (upd H a o) = hid T ρ H := by
  funext b
  unfold hid
  by_cases hb : b = a
  · subst hb
    rw [if_pos (.inr ha), if_pos (.inr ha)]
  · rw [upd_ne hb]
theorem Sim.write {i : Nat} {a : Addr} {o : HO} {c c0 : C} (h : Sim K T ρ δ σ H) (hi : δ[i]? = some (some (.o c0))) (ha : ρ[i]? = some (some a)) (hc : CO K (hid T ρ H) o c) : Sim K T ρ (δ.set i (some (.o c))) σ (upd H a o) ∧ Ext T ρ H ρ (upd H a o) := by
  have hil : i < δ.length := (List.getElem?_eq_some_iff.mp hi).1
  have hw := hid_write (T := T) (H := H) (o := o) (ix_mem ha)
  have hσ : σ[i]? = some (some (.ref a)) := by
    obtain ⟨b, e1, e2⟩ := h.own i c0 hi
    rw [ha] at e1
    cases e1
    exact e2
  refine ⟨⟨?_, ?_, ?_, ?_, ?_, h.inj, h.nt, ?_⟩, by rw [hw]; exact Same.refl _, fun b hb => ?_⟩
  · rw [List.length_set]; exact h.len
  · rw [List.length_set]; exact h.slen
  · intro j s hj
    by_cases hij : i = j
    · subst hij
      rw [List.getElem?_set_self hil] at hj
      cases hj
      exact ⟨.ref a, hσ, a, o, rfl, upd_same, by rw [hw]; exact hc⟩
    · rw [List.getElem?_set_ne hij] at hj
      obtain ⟨w, e1, e2⟩ := h.slot j s hj
      refine ⟨w, e1, ?_⟩
      cases s with
      | o c' =>
        obtain ⟨b, f1, f2⟩ := h.own j c' hj
        obtain ⟨x, o', z1, z2, z3⟩ := e2
        rw [e1, z1] at f2
        cases f2
        have nb : b ≠ a := fun z => by
          subst z
          exact hij (h.inj i j b ha f1)
        exact ⟨b, o', z1, by rw [upd_ne nb]; exact z2, by rw [hw]; exact z3⟩
      | d x => exact (show SV K (hid T ρ (upd H a o)) w (.d x) by rw [hw]; exact e2)
      | t x => exact (show SV K (hid T ρ (upd H a o)) w (.t x) by rw [hw]; exact e2)
      | z x => exact (show SV K (hid T ρ (upd H a o)) w (.z x) by rw [hw]; exact e2)
      | p x => exact (show SV K (hid T ρ (upd H a o)) w (.p x) by rw [hw]; exact e2)
  · intro j c' hj
    by_cases hij : i = j
    · subst hij
      exact ⟨a, ha, hσ⟩
    · rw [List.getElem?_set_ne hij] at hj
      exact h.own j c' hj
  · intro j b hj
    by_cases hij : i = j
    · subst hij
      exact ⟨c, List.getElem?_set_self hil⟩
    · rw [List.getElem?_set_ne hij]
      exact h.own' j b hj
  · intro b hb
    obtain ⟨x, hx, hn⟩ := h.tmp b hb
    by_cases hba : b = a
    · exact ⟨o, by rw [hba, upd_same], co_nt hc⟩
    · exact ⟨x, by rw [upd_ne hba]; exact hx, hn⟩
  · have nb : b ≠ a := fun z => by
      subst z
      exact h.nt i b ha hb
    rw [upd_ne nb]
end

/-! ### statements -/
section
variable {X : Cx} {P : List Nat} {pos : Pos} {e : Expr}
def nxS : SEV := fun δ => some (.nx δ)
def seqS (f g : SEV) : SEV := fun δ => (f δ).bind fun
  | .nx δ' => g δ'
  | o => some o
theorem dss_nil : DSs X P [] nxS := pss_imp pss_nil fun D σ H ⟨T, ρ, δ, o, hs, hf, hq⟩ => by
  cases hf
  exact hq ρ σ H hs .refl .refl
theorem ds_pass : DS X P (.Pass pos) nxS := ps_imp ps_pass fun D σ H ⟨T, ρ, δ, o, hs, hf, hq⟩ => by
  cases hf
  exact hq ρ σ H hs .refl .refl
theorem dss_cons {st : Stmt} {rest : List Stmt} {f g : SEV} (h1 : DS X P st f) (h2 : DSs X P rest g) : DSs X P (st :: rest) (seqS f g) := pss_imp (pss_cons h1 h2) fun D σ H ⟨T, ρ, δ, o, hs, hf, hq⟩ => by
  unfold seqS at hf
  cases ea : f δ with
  | none => rw [ea] at hf; cases hf
  | some x =>
    rw [ea] at hf
    simp only [Option.bind_some] at hf
    refine ⟨T, ρ, δ, x, hs, ea, ?_⟩
    cases x with
    | nx δ1 => exact fun ρ' σ' H' s1 x1 k1 => ⟨T, ρ', δ1, o, s1, hf, postS_step x1 k1 hq⟩
    | bk δ1 => cases hf; exact hq
    | ct δ1 => cases hf; exact hq
    | rt s δ1 => cases hf; exact hq
theorem dss_one {st : Stmt} {f : SEV} (h1 : DS X P st f) : DSs X P [st] f := pss_one h1
def setS (i : Nat) (f : EV) : SEV := fun δ => (f δ).map fun r => .nx (r.2.set i (some r.1))
theorem set_ok {K : PySem.W.Frag} {i : Nat} {f : EV} (hP : i ∉ P) {D : Ends} {σ : L2.St} {H : Hp} (h : liftS K P (setS i f) D σ H) : lift K f σ H (fun x H1 => gName i x σ H1 D.nx) := by
  obtain ⟨T, ρ, δ, o, hs, hf, hq⟩ := h
  unfold setS at hf
  cases ea : f δ with
  | none => rw [ea] at hf; cases hf
  | some x =>
    obtain ⟨s, δ1⟩ := x
    rw [ea] at hf
    cases hf
    have kp : ∀ v : V, Keep P σ (σ.set i (some v)) := fun v j hj => List.getElem?_set_ne (fun z : i = j => hP (by rw [z]; exact hj))
    refine ⟨T, ρ, δ, s, δ1, hs, ea, ?_⟩
    cases s with
    | o c =>
      intro ρ' p H0 o s1 x1 hp hc
      obtain ⟨ρ2, a, b⟩ := s1.setO (i := i) hp hc
      exact hq ρ2 _ _ a (x1.trans b) (kp _)
    | d c =>
      intro ρ' v H' s1 x1 hv
      obtain ⟨a, b⟩ := s1.setD (i := i) hv
      exact hq _ _ _ a (x1.trans b) (kp _)
    | t c =>
      intro ρ' v H' s1 x1 hv
      obtain ⟨a, b⟩ := s1.setD (i := i) hv
      exact hq _ _ _ a (x1.trans b) (kp _)
    | z c =>
      intro ρ' v H' s1 x1 hv
      obtain ⟨a, b⟩ := s1.setD (i := i) hv
      exact hq _ _ _ a (x1.trans b) (kp _)
    | p c =>
      intro ρ' v H' s1 x1 hv
      obtain ⟨a, b⟩ := s1.setD (i := i) hv
      exact hq _ _ _ a (x1.trans b) (kp _)
theorem ds_set {i : Nat} {x : Str} {f : EV} {pos' : Pos} (hN : X.N.Nodup) (hi : X.N[i]? = some x) (hx : Loc X.env.scope x) (hP : i ∉ P) (he : DE X e f) (hs : swapsWith e (some (.Name x pos')) pos.line X.env = pure false := by rfl)
    (hf : X.fn x = true ∨ X.env.scope.names.lookup x = some .local := by first | exact .inl rfl | exact .inr rfl | assumption) : DS X P (.Assign [.Name x pos'] e pos) (setS i f) := ps_imp (ps_set hN hi hx he hs hf) fun D σ H h => set_ok hP h
def exprS (f : EV) : SEV := fun δ => (f δ).map fun r => .nx r.2
theorem ds_expr {f : EV} (he : DE X e f) (hs : swapsWith e none pos.line X.env = pure false := by rfl) : DS X P (.Expr e pos) (exprS f) := ps_imp (ps_expr he hs) fun D σ H ⟨T, ρ, δ, o, hs, hf, hq⟩ => by
  unfold exprS at hf
  cases ea : f δ with
  | none => rw [ea] at hf; cases hf
  | some x =>
    obtain ⟨s, δ1⟩ := x
    rw [ea] at hf
    cases hf
    refine ⟨T, ρ, δ, s, δ1, hs, ea, ?_⟩
    cases s with
    | o c => exact fun ρ' p H0 o s1 x1 hp hc => hq ρ' σ _ (s1.mono (same_new hp)) (x1.trans (s1.trk.extT (same_new hp))) .refl
    | d c => exact fun ρ' v H' s1 x1 hv => hq ρ' σ _ s1 x1 .refl
    | t c => exact fun ρ' v H' s1 x1 hv => hq ρ' σ _ s1 x1 .refl
    | z c => exact fun ρ' v H' s1 x1 hv => hq ρ' σ _ s1 x1 .refl
    | p c => exact fun ρ' v H' s1 x1 hv => hq ρ' σ _ s1 x1 .refl
def retS (f : EV) : SEV := fun δ => (f δ).map fun r => .rt r.1 r.2
theorem ds_ret {f : EV} (he : DE X e f) : DS X P (.Return (some e) pos) (retS f) := ps_imp (ps_ret he) fun D σ H ⟨T, ρ, δ, o, hs, hf, hq⟩ => by
  unfold retS at hf
  cases ea : f δ with
  | none => rw [ea] at hf; cases hf
  | some x =>
    rw [ea] at hf
    cases hf
    exact ⟨T, ρ, δ, x.1, x.2, hs, by rw [ea], post_mk hq⟩
def ifS (t : TEV) (f g : SEV) : SEV := fun δ => (t δ).bind fun r => if r.1 then f r.2 else g r.2
theorem ds_if {c : Expr} {a b : List Stmt} {t : TEV} {f g : SEV} (hc : DT X c t) (ha : DSs X P a f) (hb : DSs X P b g) : DS X P (.If c a b pos) (ifS t f g) := ps_imp (ps_if hc ha hb) fun D σ H ⟨T, ρ, δ, o, hs, hf, hq⟩ => by
  unfold ifS at hf
  cases ea : t δ with
  | none => rw [ea] at hf; cases hf
  | some x =>
    obtain ⟨k, δ1⟩ := x
    rw [ea] at hf
    simp only [Option.bind_some] at hf
    refine ⟨T, ρ, δ, k, δ1, hs, ea, fun ρ' H' s1 x1 => ?_⟩
    cases k with
    | true =>
      rw [if_pos rfl] at hf
      rw [if_pos rfl]
      exact ⟨T, ρ', δ1, o, s1, hf, postS_step x1 .refl hq⟩
    | false =>
      rw [if_neg Bool.false_ne_true] at hf
      rw [if_neg Bool.false_ne_true]
      exact ⟨T, ρ', δ1, o, s1, hf, postS_step x1 .refl hq⟩
end
end DL

namespace DL
open PySem PySem.Spec PyProof.Rows L2

/-! ### defs and their calls -/
abbrev FN := List S → Option (S × List (Option C))
section
variable (K : PySem.W.Frag) (T : List Addr) (as : List (Option Addr)) (H : Hp)
def Own (cs : List (Option C)) : Prop := ∀ (k : Nat) (a : Addr), as[k]? = some (some a) → ∃ c o, cs[k]? = some (some c) ∧ H a = some o ∧ CO K (hid T as H) o c
def PostF (Q : VK) (cs : List (Option C)) : S → Prop
  | .o c => ∀ p H0 o, Own K T as H0 cs → Ext T as H as H0 → H0 p = none → CO K (hid T as H0) o c → Q (.ref p) (upd H0 p o)
  | s => ∀ v H', Own K T as H' cs → Ext T as H as H' → SV K (hid T as H') v s → Q v H'
end
def spF (K : PySem.W.Frag) (m : Nat) (F : FN) : Sp := fun vs H Q _ => ∃ T as ss r cs, Sim K T as (ss.map some) (vs.map some) H ∧ ss.length = m ∧ F ss = some (r, cs) ∧ PostF K T as H Q cs r
def ownC (P : List Nat) : Nat → List S → Ds → Option (List (Option C))
  | _, [], _ => some []
  | k, .o _ :: ss, some (.o c) :: δ => if k ∈ P then (ownC P (k + 1) ss δ).map (some c :: ·) else none
  | _, .o _ :: _, _ => none
  | k, _ :: ss, _ :: δ => (ownC P (k + 1) ss δ).map (none :: ·)
  | _, _ :: _, [] => none
def finF (P : List Nat) (ss : List S) : Option Out → Option (S × List (Option C))
  | some (.rt s δ) => (ownC P 0 ss δ).map fun cs => (s, cs)
  | some (.nx δ) => (ownC P 0 ss δ).map fun cs => (.d .none, cs)
  | _ => none
def runF (P : List Nat) (n : Nat) (body : SEV) : FN := fun ss => finF P ss (body (ss.map some ++ List.replicate (n - ss.length) none))
theorem ownC_spec {P : List Nat} : ∀ {k : Nat} {ss : List S} {δ : Ds} {cs : List (Option C)}, ownC P k ss δ = some cs → ∀ (j : Nat) (c0 : C), ss[j]? = some (.o c0) → k + j ∈ P ∧ ∃ c, δ[j]? = some (some (.o c)) ∧ cs[j]? = some (some c)
  | k, [], δ, cs, h, j, c0, e => by simp at e
  | k, .o c :: ss, some (.o c') :: δ, cs, h, j, c0, e => by
    unfold ownC at h
    split at h
    · rename_i hk
      cases e1 : ownC P (k + 1) ss δ with
      | none => rw [e1] at h; cases h
      | some r =>
        rw [e1] at h
        cases h
        cases j with
        | zero => exact ⟨hk, c', rfl, rfl⟩
        | succ j =>
          obtain ⟨a, c1, b, d⟩ := ownC_spec e1 j c0 (by simpa using e)
          exact ⟨by rw [show k + (j + 1) = k + 1 + j by omega]; exact a, c1, by simpa using b, by simpa using d⟩
    · cases h
  | k, .d x :: ss, y :: δ, cs, h, j, c0, e => by
    unfold ownC at h
    cases e1 : ownC P (k + 1) ss δ with
    | none => rw [e1] at h; cases h
    | some r =>
      rw [e1] at h
      cases h
      cases j with
      | zero => simp at e
      | succ j =>
        obtain ⟨a, c1, b, d⟩ := ownC_spec e1 j c0 (by simpa using e)
        exact ⟨by rw [show k + (j + 1) = k + 1 + j by omega]; exact a, c1, by simpa using b, by simpa using d⟩
  | k, .t x :: ss, y :: δ, cs, h, j, c0, e => by
    unfold ownC at h
    cases e1 : ownC P (k + 1) ss δ with
    | none => rw [e1] at h; cases h
    | some r =>
      rw [e1] at h
      cases h
      cases j with
      | zero => simp at e
      | succ j =>
        obtain ⟨a, c1, b, d⟩ := ownC_spec e1 j c0 (by simpa using e)
        exact ⟨by rw [show k + (j + 1) = k + 1 + j by omega]; exact a, c1, by simpa using b, by simpa using d⟩
  | k, .z x :: ss, y :: δ, cs, h, j, c0, e => by
    unfold ownC at h
    cases e1 : ownC P (k + 1) ss δ with
    | none => rw [e1] at h; cases h
    | some r =>
      rw [e1] at h
      cases h
      cases j with
      | zero => simp at e
      | succ j =>
        obtain ⟨a, c1, b, d⟩ := ownC_spec e1 j c0 (by simpa using e)
        exact ⟨by rw [show k + (j + 1) = k + 1 + j by omega]; exact a, c1, by simpa using b, by simpa using d⟩
  | k, .p x :: ss, y :: δ, cs, h, j, c0, e => by
    unfold ownC at h
    cases e1 : ownC P (k + 1) ss δ with
    | none => rw [e1] at h; cases h
    | some r =>
      rw [e1] at h
      cases h
      cases j with
      | zero => simp at e
      | succ j =>
        obtain ⟨a, c1, b, d⟩ := ownC_spec e1 j c0 (by simpa using e)
        exact ⟨by rw [show k + (j + 1) = k + 1 + j by omega]; exact a, c1, by simpa using b, by simpa using d⟩
  | k, .o c :: ss, [], cs, h, j, c0, e => by simp [ownC] at h
  | k, .o c :: ss, none :: δ, cs, h, j, c0, e => by simp [ownC] at h
  | k, .o c :: ss, some (.d x) :: δ, cs, h, j, c0, e => by simp [ownC] at h
  | k, .o c :: ss, some (.t x) :: δ, cs, h, j, c0, e => by simp [ownC] at h
  | k, .o c :: ss, some (.z x) :: δ, cs, h, j, c0, e => by simp [ownC] at h
  | k, .o c :: ss, some (.p x) :: δ, cs, h, j, c0, e => by simp [ownC] at h
  | k, .z c :: ss, [], cs, h, j, c0, e => by simp [ownC] at h
  | k, .p c :: ss, [], cs, h, j, c0, e => by simp [ownC] at h
  | k, .d c :: ss, [], cs, h, j, c0, e => by simp [ownC] at h
  | k, .t c :: ss, [], cs, h, j, c0, e => by simp [ownC] at h
theorem mem_app_none {ρ : List (Option Addr)} {n : Nat} {b : Addr} : some b ∈ ρ ++ List.replicate n none ↔ some b ∈ ρ := by
  rw [List.mem_append]
  constructor
  · rintro (h | h)
    · exact h
    · cases (List.mem_replicate.mp h).2
  · exact .inl
theorem hid_app {T : List Addr} {ρ : List (Option Addr)} {n : Nat} {H : Hp} : hid T (ρ ++ List.replicate n none) H = hid T ρ H := by
  funext b
  unfold hid
  simp only [mem_app_none]
theorem get_app {α : Type} {l : List (Option α)} {n j : Nat} {x : α} (h : (l ++ List.replicate n none)[j]? = some (some x)) : l[j]? = some (some x) := by
  by_cases hj : j < l.length
  · rw [List.getElem?_append_left hj] at h
    exact h
  · rw [List.getElem?_append_right (by omega), List.getElem?_replicate] at h
    split at h <;> cases h
theorem get_app' {α : Type} {l : List (Option α)} {n j : Nat} {x : α} (h : l[j]? = some (some x)) : (l ++ List.replicate n none)[j]? = some (some x) := by
  rw [List.getElem?_append_left (List.getElem?_eq_some_iff.mp h).1]
  exact h
theorem at_hid {K : PySem.W.Frag} {T T' : List Addr} {ρ ρ' : List (Option Addr)} {H : Hp} {v : V} {s : S} (e : hid T ρ H = hid T' ρ' H) (h : At K T ρ H v s) : At K T' ρ' H v s := by
  cases s with
  | o c =>
    obtain ⟨a, o, h1, h2, h3⟩ := h
    exact ⟨a, o, h1, h2, by rw [← e]; exact h3⟩
  | d x => exact (show SV K (hid T' ρ' H) v (.d x) by rw [← e]; exact h)
  | t x => exact (show SV K (hid T' ρ' H) v (.t x) by rw [← e]; exact h)
  | z x => exact (show SV K (hid T' ρ' H) v (.z x) by rw [← e]; exact h)
  | p x => exact (show SV K (hid T' ρ' H) v (.p x) by rw [← e]; exact h)
theorem Sim.start {K : PySem.W.Frag} {T : List Addr} {as : List (Option Addr)} {ss : List S} {vs : List V} {H : Hp} (h : Sim K T as (ss.map some) (vs.map some) H) (n : Nat) : Sim K T (as ++ List.replicate n none) (ss.map some ++ List.replicate n none) (vs.map some ++ List.replicate n none) H where
  len := by simpa using h.len
  slen := by simpa using h.slen
  slot := fun i s hi => let ⟨v, a, b⟩ := h.slot i s (get_app hi); ⟨v, get_app' a, at_hid hid_app.symm b⟩
  own := fun i c hi => let ⟨a, x, y⟩ := h.own i c (get_app hi); ⟨a, get_app' x, get_app' y⟩
  own' := fun i a hi => let ⟨c, x⟩ := h.own' i a (get_app hi); ⟨c, get_app' x⟩
  inj := fun i j a hi hj => h.inj i j a (get_app hi) (get_app hj)
  nt := fun i a hi => h.nt i a (get_app hi)
  tmp := h.tmp
/-! ### a def's promise where no guard stands -/
structure FnG (Pr : Program) (w : World) (K : PySem.W.Frag) (mg : Str → Option Value) (base : Heap) (k : Nat) (f : Addr) (fd : FuncData) (ps : List Str) (sp : Sp) : Prop where
  len : ∀ vs H Q E, sp vs H Q E → vs.length = ps.length
  run : ∀ (A : Around) (outer : List Env) (s : Shared) (H : Hp) (args : Args) (us : List Value) (vs : List V) (Q : VK) (E : XK), A.guards = some [] → Room k A → Env0 Pr w K mg base A outer s H →
    BindsTo s fd args (ps.zip us) → Vals vs us → sp vs H Q E → codeAny (model Pr w) A (.call (.ref f) args) (CR CX0 outer Pr w H s Q E) s
theorem FnG.mono {Pr : Program} {w : World} {K : PySem.W.Frag} {mg : Str → Option Value} {base : Heap} {j k : Nat} {f : Addr} {fd : FuncData} {ps : List Str} {sp : Sp} (F : FnG Pr w K mg base j f fd ps sp) (h : j ≤ k) :
    FnG Pr w K mg base k f fd ps sp :=
  ⟨F.len, fun A outer s H args us vs Q E hG hr =>
    F.run A outer s H args us vs Q E hG (hr.mono h)⟩
theorem gfn_of {Pr : Program} {w : World} {K : PySem.W.Frag} {mg : Str → Option Value} {base : Heap} {x qual : Str} {st : Stmt} {f : Addr} {fd : FuncData} {N ps : List Str} {k : Nat} {sp : Sp} (F : Fun K x qual st f fd) (Sc : FnScope N ps (defScope st))
    (hlen : ∀ vs H Q E, sp vs H Q E → vs.length = ps.length)
    (hbody : ∀ (cdv : Value) (A : Around) (outer : List Env) (s : Shared) (H : Hp) (vs : List V) (Q : VK) (E : XK), A.guards = some [] → Room k (A.deeper (envOfC qual (defScope st) s.heap.objs.size f cdv)) → sp vs H Q E →
      ∃ t, PSs (cxOf CX0 Pr w K mg base N qual (defScope st) f cdv A outer s H E).nox (defBody st) t ∧ t { nx := fun _ H' => Q .non H', rt := Q } (L2.start N vs) H) :
    FnG Pr w K mg base (k + 1) f fd ps sp := by
  obtain ⟨oc, od, kV, doc, pm, an, cdv, ct, osl, efd, lk, hcd⟩ := F.ex
  subst efd
  constructor
  · exact hlen
  intro A outer s H args us vs Q E hG hr e0 hb r hsp
  have vl := hlen _ _ _ _ hsp
  have kept : ∀ b o, base.get? b = some o → s.heap.get? b = some o := fun b o e => (e0.bs b o e).1
  have KX : K.In s.heap := e0.mod.kin.keeps kept
  have nl : s.heap.NoLimit := e0.mod.nolimit.keeps kept
  have kinds : ∀ y ∈ ps.zip us, (defScope st).names.lookup y.1 = some .local ∨
      ((defScope st).names.lookup y.1 = some .cell ∧
        ((cellsFrom (s.heap.objs.size + 1) (defScope st).names []).lookup y.1).isSome = true) := by
    intro y hy
    have hm : y.1 ∈ ps := (List.of_mem_zip (a := y.1) (b := y.2) hy).1
    rcases Sc.par y.1 hm with q | q
    · exact .inl q
    · refine .inr ⟨q, ?_⟩
      exact PySem.W.cellsFrom_some _ _ _ (.inl q)
  refine codeAny_call_function hr.depth (KX _ _ lk) rfl Sc.co Sc.gen rfl ?_ (hb _ _ _ _ ?_)
  · exact PySem.W.codeRec_of KX hcd
  refine wpAny_newFunctionEnv_cells Sc.kind kinds ?_
  intro env henv s1 x1
  subst henv
  refine ⟨nl.keeps x1.toInCall.keep, ?_⟩
  apply codeAny_func
  obtain ⟨t, ht, hq⟩ := hbody cdv A outer s H vs Q E hG (hr.deeper _) hsp
  have I0 := inv_start (CX := CX0) (E := E) Sc hr.hd e0 vl r x1
  have W := ht.nox.run [] s1 (L2.start N vs) H _ I0 hq
  refine wpAny_mono W ?_ (fun _ _ z => z)
  intro fl s' hs
  cases fl with
  | ret u =>
    obtain ⟨v, σ', H', J, rv, q⟩ := hs
    exact ⟨v, H', J.os, J.bare, J.base, J.hok, rv, q⟩
  | next =>
    obtain ⟨σ', H', J, q⟩ := hs
    exact ⟨V.non, H', J.os, J.bare, J.base, J.hok, rfl, q⟩
  | brk => exact hs.elim fun _ z => z.elim fun _ z => z.2.elim
  | cont => exact hs.elim fun _ z => z.elim fun _ z => z.2.elim
theorem pe_callG {X : Cx} {x : Str} {p pos : Pos} {e : Expr} {es : List Expr} {t : TA} {k : Nat} {f : Addr} {fd : FuncData} {ps : List Str} {sp : Sp} (F : FnG X.prog X.w X.K X.mg X.base k f fd ps sp) (hG : X.A.guards = some []) (hr : Room k X.A) (hg : Gl X x) (hm : X.mg x = some (.ref f)) (hk : PySem.W.keepIn X.K (.ref f) = true) (hb : Binds X.K fd ps [])
    (ha : PA X (e :: es) t) (hdb : (x == ("__debug__" : Str)) = false := by decide) (he : starEach (e :: es) X.env = (false, eval e X.env) :: starEach es X.env := by rfl) (hpl : (backTo pos (starEach es X.env)).any (·.1) = false := by rfl) :
    PE X (.Call (.Name x p) (e :: es) [] pos) (tCall sp [] E0 t) := by
  constructor
  intro pins s σ H Q I h
  apply wpAny_Call_Name_kw
  apply ld_glob I hg hm _ hdb
  refine PySem.W.callWith_K (h₀ := X.base) I.ok.mod.kin hk (thn (ha.run pos pins s σ H _ I h) ?_) he hpl
  rintro us s1 ⟨vs, H1, I1, r, q⟩
  refine ⟨I1.kIn, ?_⟩
  have q' : sp vs H1 Q E0 := by
    have := q
    rw [List.append_nil] at this
    exact this
  have hl : us.length = ps.length := r.length.symm.trans (F.len _ _ _ _ q')
  have bt := hb s1 us I1.kIn (by rw [List.append_nil]; exact hl)
  rw [List.append_nil] at bt
  refine wpAny_call (codeAny_mono (F.run X.A X.stack s1 H1 ⟨us, []⟩ us vs Q E0 hG hr I1.env0 bt r q') ?_)
  intro rs s2 hq
  cases rs with
  | error e => exact hq.elim
  | ok fl =>
    cases fl with
    | ret u => exact I1.after hq
    | next => exact hq.elim
    | brk => exact hq.elim
    | cont => exact hq.elim
/-- THE RULE of a def -/
theorem fn_ok {Pr : Program} {w : World} {K : PySem.W.Frag} {mg : Str → Option Value} {base : Heap} {x qual : Str} {st : Stmt} {f : Addr} {fd : FuncData} {N ps : List Str} {k : Nat} {P : List Nat} {body : SEV} (F : Fun K x qual st f fd) (Sc : FnScope N ps (defScope st))
    (hbody : ∀ (cdv : Value) (A : Around) (outer : List Env) (s : Shared) (H : Hp) (E : XK), A.guards = some [] → Room k (A.deeper (envOfC qual (defScope st) s.heap.objs.size f cdv)) → DSs (cxOf CX0 Pr w K mg base N qual (defScope st) f cdv A outer s H E).nox P (defBody st) body) :
    FnG Pr w K mg base (k + 1) f fd ps (spF K ps.length (runF P N.length body)) := by
  refine gfn_of F Sc (fun vs H Q E h => ?_) (fun cdv A outer s H vs Q E hG hr h => ?_)
  · obtain ⟨T, as, ss, r, cs, hs, hl, _⟩ := h
    have := hs.slen
    simp at this
    omega
  · obtain ⟨T, as, ss, r, cs, hs, hl, hF, hq⟩ := h
    refine ⟨_, hbody cdv A outer s H E hG hr, ?_⟩
    have hvl : vs.length = ss.length := by have := hs.slen; simpa using this
    have hst := hs.start (N.length - ss.length)
    unfold runF at hF
    cases eb : body (ss.map some ++ List.replicate (N.length - ss.length) none) with
    | none => rw [eb] at hF; cases hF
    | some o =>
      rw [eb] at hF
      have hst' : Sim K T (as ++ List.replicate (N.length - ss.length) none) (ss.map some ++ List.replicate (N.length - ss.length) none) (L2.start N vs) H := by
        unfold L2.start
        rw [hvl]
        exact hst
      refine ⟨T, _, _, o, hst', eb, ?_⟩
      -- what stands at the end
      have fin : ∀ (δ : Ds), ownC P 0 ss δ = some cs → ∀ (ρ' : List (Option Addr)) (σ' : L2.St) (H' : Hp), Sim K T ρ' δ σ' H' → Ext T (as ++ List.replicate (N.length - ss.length) none) H ρ' H' → Keep P (L2.start N vs) σ' →
          Same (hid T ρ' H') (hid T as H') ∧ Own K T as H' cs ∧ Ext T as H as H' := by
        intro δ hc ρ' σ' H' s1 x1 k1
        have each : ∀ (j : Nat) (a : Addr), as[j]? = some (some a) → ∃ c, ρ'[j]? = some (some a) ∧ δ[j]? = some (some (.o c)) ∧ cs[j]? = some (some c) := by
          intro j a hj
          obtain ⟨c0, hc0⟩ := hs.own' j a hj
          have hc1 : ss[j]? = some (.o c0) := by
            rw [List.getElem?_map] at hc0
            cases e : ss[j]? with
            | none => rw [e] at hc0; cases hc0
            | some z => rw [e] at hc0; cases hc0; rfl
          obtain ⟨hP, c, e1, e2⟩ := ownC_spec hc j c0 hc1
          obtain ⟨b, f1, f2⟩ := s1.own j c e1
          obtain ⟨a', g1, g2⟩ := hst'.own j c0 (get_app' hc0)
          rw [get_app' hj] at g1
          cases g1
          have := k1 j (by simpa using hP)
          rw [f2, g2] at this
          cases this
          exact ⟨c, f1, e1, e2⟩
        have hl : Same (hid T ρ' H') (hid T as H') := hid_less fun b hb => hb.elim .inl fun z => .inr (by
          obtain ⟨j, hj⟩ := mem_ix z
          obtain ⟨c, h1, _⟩ := each j b hj
          exact ix_mem h1)
        refine ⟨hl, fun j a hj => ?_, ?_, x1.tmp⟩
        · obtain ⟨c, h1, h2, h3⟩ := each j a hj
          obtain ⟨v, e1, e2⟩ := s1.slot j _ h2
          obtain ⟨b, f1, f2⟩ := s1.own j c h2
          rw [h1] at f1
          cases f1
          rw [f2] at e1
          cases e1
          obtain ⟨b, o, z, z1, z2⟩ := e2
          cases z
          exact ⟨c, o, h3, z1, coM hl z2⟩
        · have := x1.same
          rw [hid_app] at this
          exact this.trans hl
      cases o with
      | bk δ => cases hF
      | ct δ => cases hF
      | nx δ =>
        have hF' : (ownC P 0 ss δ).map (fun cs => (S.d .none, cs)) = some (r, cs) := hF
        cases e : ownC P 0 ss δ with
        | none => rw [e] at hF'; cases hF'
        | some cs' =>
          rw [e] at hF'
          cases hF'
          intro ρ' σ' H' s1 x1 k1
          obtain ⟨a, b, c⟩ := fin δ e ρ' σ' H' s1 x1 k1
          exact hq _ H' b c .non
      | rt u δ =>
        have hF' : (ownC P 0 ss δ).map (fun cs => (u, cs)) = some (r, cs) := hF
        cases e : ownC P 0 ss δ with
        | none => rw [e] at hF'; cases hF'
        | some cs' =>
          rw [e] at hF'
          cases u with
          | o z =>
            cases hF'
            intro ρ' σ' p H0 o s1 x1 k1 hp hc
            obtain ⟨a, b, c⟩ := fin δ e ρ' σ' H0 s1 x1 k1
            exact hq p H0 o b c hp (coM a hc)
          | d z =>
            cases hF'
            intro ρ' σ' v H' s1 x1 k1 hv
            obtain ⟨a, b, c⟩ := fin δ e ρ' σ' H' s1 x1 k1
            exact hq v H' b c (svM (s := .d z) a hv)
          | t z =>
            cases hF'
            intro ρ' σ' v H' s1 x1 k1 hv
            obtain ⟨a, b, c⟩ := fin δ e ρ' σ' H' s1 x1 k1
            exact hq v H' b c (svM (s := .t z) a hv)
          | z z =>
            cases hF'
            intro ρ' σ' v H' s1 x1 k1 hv
            obtain ⟨a, b, c⟩ := fin δ e ρ' σ' H' s1 x1 k1
            exact hq v H' b c (svM (s := .z z) a hv)
          | p z =>
            cases hF'
            intro ρ' σ' v H' s1 x1 k1 hv
            obtain ⟨a, b, c⟩ := fin δ e ρ' σ' H' s1 x1 k1
            exact hq v H' b c (svM (s := .p z) a hv)

/-! ### the call -/
def PV.ix : PV → Option Nat
  | .own i => some i
  | .v _ => none
def wb : Ds → List PV → List (Option C) → Option Ds
  | δ, [], _ => some δ
  | δ, .own i :: ps, some c :: cs => match slot δ i with
    | some (.o _) => wb (δ.set i (some (.o c))) ps cs
    | _ => none
  | δ, .own _ :: ps, none :: cs => wb δ ps cs
  | δ, .v _ :: ps, _ :: cs => wb δ ps cs
  | _, _ :: _, [] => none
def callE (F : FN) (m : Nat) (fa : AEV) : EV := fun δ => (fa δ).bind fun x => (resA x.2 x.1).bind fun ss => if (x.1.filterMap PV.ix).Nodup ∧ ss.length = m then (F ss).bind fun r => (wb x.2 x.1 r.2).map fun δ' => (r.1, δ') else none
theorem wb_spec : ∀ {ps : List PV} {δ δ' : Ds} {cs : List (Option C)}, (ps.filterMap PV.ix).Nodup → wb δ ps cs = some δ' → δ'.length = δ.length ∧
    (∀ (k j : Nat) (c : C), ps[k]? = some (.own j) → cs[k]? = some (some c) → δ'[j]? = some (some (.o c)) ∧ ∃ c0, δ[j]? = some (some (.o c0))) ∧
    (∀ j : Nat, (∀ (k : Nat) (c : C), ps[k]? = some (.own j) → cs[k]? = some (some c) → False) → δ'[j]? = δ[j]?)
  | [], δ, δ', cs, _, h => by
    cases h
    exact ⟨rfl, fun k j c e => by simp at e, fun j _ => rfl⟩
  | .own i :: ps, δ, δ', [], nd, h => by cases h
  | .v s :: ps, δ, δ', [], nd, h => by cases h
  | .v s :: ps, δ, δ', x :: cs, nd, h => by
    obtain ⟨h1, h2, h3⟩ := wb_spec (ps := ps) (δ := δ) (δ' := δ') (cs := cs) (show (ps.filterMap PV.ix).Nodup from nd) (by simpa [wb] using h)
    refine ⟨h1, fun k j c e1 e2 => ?_, fun j hj => h3 j fun k c e1 e2 => hj (k + 1) c (by simpa using e1) (by simpa using e2)⟩
    cases k with
    | zero => simp at e1
    | succ k => exact h2 k j c (by simpa using e1) (by simpa using e2)
  | .own i :: ps, δ, δ', none :: cs, nd, h => by
    have nd' : (i :: ps.filterMap PV.ix).Nodup := nd
    obtain ⟨h1, h2, h3⟩ := wb_spec (ps := ps) (δ := δ) (δ' := δ') (cs := cs) (List.nodup_cons.mp nd').2 (by simpa [wb] using h)
    refine ⟨h1, fun k j c e1 e2 => ?_, fun j hj => h3 j fun k c e1 e2 => hj (k + 1) c (by simpa using e1) (by simpa using e2)⟩
    cases k with
    | zero => simp at e2
    | succ k => exact h2 k j c (by simpa using e1) (by simpa using e2)
  | .own i :: ps, δ, δ', some c :: cs, nd, h => by
    have nd' : (i :: ps.filterMap PV.ix).Nodup := nd
    unfold wb at h
    split at h
    · rename_i c0 hc0
      have hc1 := slot_some hc0
      have hil : i < δ.length := (List.getElem?_eq_some_iff.mp hc1).1
      obtain ⟨h1, h2, h3⟩ := wb_spec (ps := ps) (δ := δ.set i (some (.o c))) (δ' := δ') (cs := cs) (List.nodup_cons.mp nd').2 h
      have hni : ∀ (k : Nat), ps[k]? = some (.own i) → False := fun k e => (List.nodup_cons.mp nd').1 (List.mem_filterMap.mpr ⟨.own i, ix_mem e, rfl⟩)
      refine ⟨by rw [h1, List.length_set], fun k j c' e1 e2 => ?_, fun j hj => ?_⟩
      · cases k with
        | zero =>
          simp at e1 e2
          subst e1 e2
          refine ⟨?_, c0, hc1⟩
          rw [h3 i fun k c e _ => hni k e, List.getElem?_set_self hil]
        | succ k =>
          obtain ⟨a, c1, b⟩ := h2 k j c' (by simpa using e1) (by simpa using e2)
          refine ⟨a, ?_⟩
          by_cases hij : i = j
          · subst hij
            exact ⟨c0, hc1⟩
          · rw [List.getElem?_set_ne hij] at b
            exact ⟨c1, b⟩
      · have hij : i ≠ j := fun z => hj 0 c (by rw [z]; rfl) rfl
        rw [h3 j fun k c e1 e2 => hj (k + 1) c (by simpa using e1) (by simpa using e2), List.getElem?_set_ne hij]
    · cases h
def asOf (ρ : List (Option Addr)) : PV → Option Addr
  | .own i => (ρ[i]?).join
  | .v _ => none
def tmps (T : List Addr) (ρ as : List (Option Addr)) : List Addr := T ++ (ρ.filterMap id).filter fun a => decide (some a ∉ as)
theorem join_some {α : Type} {x : Option (Option α)} {a : α} (h : x.join = some a) : x = some (some a) := by
  cases x with
  | none => cases h
  | some y => cases y with
    | none => cases h
    | some z => cases h; rfl
theorem tmps_iff {T : List Addr} {ρ : List (Option Addr)} {ps : List PV} {b : Addr} : (b ∈ tmps T ρ (ps.map (asOf ρ)) ∨ some b ∈ ps.map (asOf ρ)) ↔ (b ∈ T ∨ some b ∈ ρ) := by
  have back : some b ∈ ps.map (asOf ρ) → some b ∈ ρ := fun h => by
    obtain ⟨p, hp, e⟩ := List.mem_map.mp h
    cases p with
    | v s => cases e
    | own i => exact ix_mem (join_some e)
  unfold tmps
  constructor
  · rintro (h | h)
    · rcases List.mem_append.mp h with h | h
      · exact .inl h
      · obtain ⟨x, hx, e⟩ := List.mem_filterMap.mp (List.mem_filter.mp h).1
        cases x with
        | none => cases e
        | some y => cases e; exact .inr hx
    · exact .inr (back h)
  · rintro (h | h)
    · exact .inl (List.mem_append_left _ h)
    · by_cases hb : some b ∈ ps.map (asOf ρ)
      · exact .inr hb
      · exact .inl (List.mem_append_right _ (List.mem_filter.mpr ⟨List.mem_filterMap.mpr ⟨some b, h, rfl⟩, decide_eq_true hb⟩))
theorem hid_tmps {T : List Addr} {ρ : List (Option Addr)} {ps : List PV} {H : Hp} : hid (tmps T ρ (ps.map (asOf ρ))) (ps.map (asOf ρ)) H = hid T ρ H := by
  funext b
  unfold hid
  simp only [tmps_iff]
theorem resA_get {δ : Ds} : ∀ {ps : List PV} {ss : List S}, resA δ ps = some ss → ss.length = ps.length ∧ ∀ k : Nat, (ps[k]?).bind (res δ) = ss[k]?
  | [], ss, h => by cases h; exact ⟨rfl, fun k => by simp⟩
  | p :: ps, ss, h => by
    unfold resA at h
    cases e1 : res δ p with
    | none => rw [e1] at h; cases h
    | some s =>
      rw [e1] at h
      cases e2 : resA δ ps with
      | none => rw [e2] at h; cases h
      | some r =>
        rw [e2] at h
        cases h
        obtain ⟨a, b⟩ := resA_get e2
        refine ⟨by simp [a], fun k => ?_⟩
        cases k with
        | zero => simpa using e1
        | succ k => simpa using b k
theorem paired_get {α β : Type} {R : α → β → Prop} : ∀ {xs : List α} {ys : List β}, Paired R xs ys → ∀ (k : Nat) (y : β), ys[k]? = some y → ∃ x, xs[k]? = some x ∧ R x y
  | _, _, .nil, k, y, e => by simp at e
  | _, _, .cons r t, 0, y, e => by simp at e; subst e; exact ⟨_, rfl, r⟩
  | _, _, .cons r t, k + 1, y, e => by
    obtain ⟨x, a, b⟩ := paired_get t k y (by simpa using e)
    exact ⟨x, by simpa using a, b⟩
theorem call_ok {K : PySem.W.Frag} {F : FN} {m : Nat} {fa : AEV} (σ : L2.St) (H : Hp) (Q : VK) (h : lift K (callE F m fa) σ H Q) : tCall (spF K m F) [] E0 (liftA K fa) σ H Q := by
  obtain ⟨T, ρ, δ, s, δ', hs, hf, hq⟩ := h
  unfold callE at hf
  cases ea : fa δ with
  | none => rw [ea] at hf; cases hf
  | some x =>
    rw [ea] at hf
    simp only [Option.bind_some] at hf
    obtain ⟨ps, δ1⟩ := x
    simp only at hf
    cases eb : resA δ1 ps with
    | none => rw [eb] at hf; cases hf
    | some ss =>
      rw [eb] at hf
      simp only [Option.bind_some] at hf
      split at hf
      case isFalse => cases hf
      rename_i hnd
      cases e3 : F ss with
      | none => rw [e3] at hf; cases hf
      | some z =>
        obtain ⟨r, cs⟩ := z
        rw [e3] at hf
        simp only [Option.bind_some] at hf
        cases e4 : wb δ1 ps cs with
        | none => rw [e4] at hf; cases hf
        | some δ2 =>
          rw [e4] at hf
          cases hf
          refine ⟨T, ρ, δ, ps, δ1, hs, ea, fun ρ1 vs H1 s1 x1 p1 => ?_⟩
          obtain ⟨hlen, hget⟩ := resA_get eb
          have hat := pats_at s1 .refl p1 eb
          have hvl : vs.length = ps.length := Paired.length p1
          obtain ⟨w1, w2, w3⟩ := wb_spec hnd.1 e4
          -- the k-th argument is lent
          have lent : ∀ (k : Nat) (a : Addr), (ps.map (asOf ρ1))[k]? = some (some a) → ∃ i c, ps[k]? = some (.own i) ∧ ρ1[i]? = some (some a) ∧ δ1[i]? = some (some (.o c)) ∧ ss[k]? = some (.o c) := by
            intro k a hk
            rw [List.getElem?_map] at hk
            cases e : ps[k]? with
            | none => rw [e] at hk; cases hk
            | some p =>
              rw [e] at hk
              have hk' : asOf ρ1 p = some a := Option.some.inj hk
              cases p with
              | v s => cases hk'
              | own i =>
                have hi := join_some hk'
                obtain ⟨c, hc⟩ := s1.own' i a hi
                refine ⟨i, c, rfl, hi, hc, ?_⟩
                rw [← hget k, e]
                show slot δ1 i = _
                unfold slot
                rw [hc]
                rfl
          rw [List.append_nil]
          refine ⟨tmps T ρ1 (ps.map (asOf ρ1)), ps.map (asOf ρ1), ss, _, cs, ⟨?_, ?_, ?_, ?_, ?_, ?_, ?_, ?_⟩, hnd.2, e3, ?_⟩
          · simp [hlen]
          · simp [hlen, hvl]
          · intro k s hk
            rw [List.getElem?_map] at hk
            cases e : ss[k]? with
            | none => rw [e] at hk; cases hk
            | some s' =>
              rw [e] at hk
              cases hk
              obtain ⟨v, a, b⟩ := paired_get hat k _ e
              exact ⟨v, by rw [List.getElem?_map, a]; rfl, at_hid hid_tmps.symm b⟩
          · intro k c hk
            rw [List.getElem?_map] at hk
            cases e : ss[k]? with
            | none => rw [e] at hk; cases hk
            | some s' =>
              rw [e] at hk
              cases hk
              have hg := hget k
              rw [e] at hg
              cases ep : ps[k]? with
              | none => rw [ep] at hg; cases hg
              | some p =>
                rw [ep] at hg
                have hg' : res δ1 p = some (.o c) := hg
                obtain ⟨v, b1, b2⟩ := paired_get p1 k p ep
                cases p with
                | v s =>
                  cases hg'
                  exact b2.elim
                | own i =>
                  obtain ⟨a, c1, c2⟩ := s1.own i c (slot_some hg')
                  refine ⟨a, ?_, ?_⟩
                  · rw [List.getElem?_map, ep]
                    show some ((ρ1[i]?).join) = _
                    rw [c1]
                    rfl
                  · have b2' : σ[i]? = some (some v) := b2
                    rw [c2] at b2'
                    cases b2'
                    rw [List.getElem?_map, b1]
                    rfl
          · intro k a hk
            obtain ⟨i, c, _, _, _, h4⟩ := lent k a hk
            exact ⟨c, by rw [List.getElem?_map, h4]; rfl⟩
          · intro k l a hk hl
            obtain ⟨i, c, h1, h2, _, _⟩ := lent k a hk
            obtain ⟨j, c', g1, g2, _, _⟩ := lent l a hl
            have hij := s1.inj i j a h2 g2
            subst hij
            exact nodup_fm hnd.1 h1 g1
          · intro k a hk hm
            obtain ⟨i, c, h1, h2, _, _⟩ := lent k a hk
            rcases List.mem_append.mp hm with hm | hm
            · exact s1.nt i a h2 hm
            · have := of_decide_eq_true (List.mem_filter.mp hm).2
              exact this (ix_mem hk)
          · intro a hm
            rcases tmps_iff.mp (.inl hm) with h | h
            · exact s1.tmp a h
            · exact s1.trk.own a h
          · -- behind the call
            have back : ∀ H', Own K (tmps T ρ1 (ps.map (asOf ρ1))) (ps.map (asOf ρ1)) H' cs → Ext (tmps T ρ1 (ps.map (asOf ρ1))) (ps.map (asOf ρ1)) H1 (ps.map (asOf ρ1)) H' → Sim K T ρ1 δ' σ H' ∧ Ext T ρ1 H1 ρ1 H' := by
              intro H' hown hext
              have hl : Same (hid T ρ1 H1) (hid T ρ1 H') := by
                have := hext.same
                rw [hid_tmps, hid_tmps] at this
                exact this
              have slots : ∀ (j : Nat), δ'[j]? = δ1[j]? ∧ (∀ c, δ1[j]? = some (some (.o c)) → ∃ a o, ρ1[j]? = some (some a) ∧ H' a = some o ∧ CO K (hid T ρ1 H') o c) ∨ ∃ a c c0 o, ρ1[j]? = some (some a) ∧ δ1[j]? = some (some (.o c0)) ∧ δ'[j]? = some (some (.o c)) ∧ H' a = some o ∧ CO K (hid T ρ1 H') o c := by
                intro j
                by_cases hj : ∃ (k : Nat) (c : C), ps[k]? = some (PV.own j) ∧ cs[k]? = some (some c)
                · obtain ⟨k, c, k1, k2⟩ := hj
                  obtain ⟨a1, c0, a2⟩ := w2 k j c k1 k2
                  obtain ⟨a, b1, b2⟩ := s1.own j c0 a2
                  have hk : (ps.map (asOf ρ1))[k]? = some (some a) := by
                    rw [List.getElem?_map, k1]
                    show some ((ρ1[j]?).join) = _
                    rw [b1]
                    rfl
                  obtain ⟨c', o, d1, d2, d3⟩ := hown k a hk
                  rw [k2] at d1
                  cases d1
                  rw [hid_tmps] at d3
                  exact .inr ⟨a, c, c0, o, b1, a2, a1, d2, d3⟩
                · refine .inl ⟨w3 j fun k c e1 e2 => hj ⟨k, c, e1, e2⟩, fun c hc => ?_⟩
                  obtain ⟨a, b1, b2⟩ := s1.own j c hc
                  obtain ⟨v, e1, e2⟩ := s1.slot j _ hc
                  rw [b2] at e1
                  cases e1
                  obtain ⟨a', o, z, z1, z2⟩ := e2
                  cases z
                  by_cases hk : some a ∈ ps.map (asOf ρ1)
                  · obtain ⟨k, hk⟩ := mem_ix hk
                    obtain ⟨i, c', h1, h2, h3, h4⟩ := lent k a hk
                    have := s1.inj i j a h2 b1
                    subst this
                    obtain ⟨c2, o2, d1, d2, d3⟩ := hown k a hk
                    exact absurd ⟨k, c2, h1, d1⟩ hj
                  · have hm : a ∈ tmps T ρ1 (ps.map (asOf ρ1)) := (tmps_iff.mpr (.inr (ix_mem b1))).resolve_right hk
                    exact ⟨a, o, b1, (hext.tmp a hm).trans z1, coM hl z2⟩
              refine ⟨⟨by rw [w1]; exact s1.len, by rw [w1]; exact s1.slen, ?_, ?_, ?_, s1.inj, s1.nt, ?_⟩, hl, fun a ha => hext.tmp a (List.mem_append_left _ ha)⟩
              · intro j s hj
                rcases slots j with ⟨e1, e2⟩ | ⟨a, c, c0, o, f1, f2, f3, f4, f5⟩
                · rw [e1] at hj
                  obtain ⟨v, g1, g2⟩ := s1.slot j s hj
                  refine ⟨v, g1, ?_⟩
                  cases s with
                  | o c =>
                    obtain ⟨a, o, d1, d2, d3⟩ := e2 c hj
                    obtain ⟨a', b1, b2⟩ := s1.own j c hj
                    rw [d1] at b1
                    cases b1
                    rw [b2] at g1
                    cases g1
                    exact ⟨a, o, rfl, d2, d3⟩
                  | d y => exact svM (s := .d y) hl g2
                  | t y => exact svM (s := .t y) hl g2
                  | z y => exact svM (s := .z y) hl g2
                  | p y => exact svM (s := .p y) hl g2
                · rw [f3] at hj
                  cases hj
                  obtain ⟨a', b1, b2⟩ := s1.own j c0 f2
                  rw [f1] at b1
                  cases b1
                  exact ⟨.ref a, b2, a, o, rfl, f4, f5⟩
              · intro j c hj
                rcases slots j with ⟨e1, e2⟩ | ⟨a, c', c0, o, f1, f2, f3, f4, f5⟩
                · rw [e1] at hj
                  exact s1.own j c hj
                · exact s1.own j c0 f2
              · intro j a hj
                rcases slots j with ⟨e1, e2⟩ | ⟨a, c', c0, o, f1, f2, f3, f4, f5⟩
                · rw [e1]
                  exact s1.own' j a hj
                · exact ⟨c', f3⟩
              · intro a ha
                obtain ⟨o, ho, hn⟩ := s1.tmp a ha
                exact ⟨o, (hext.tmp a (List.mem_append_left _ ha)).trans ho, hn⟩
            cases s with
            | o c =>
              intro p H0 o ho hx hp hc
              obtain ⟨a, b⟩ := back H0 ho hx
              exact hq ρ1 p H0 o a (x1.trans b) hp (by rw [hid_tmps] at hc; exact hc)
            | d c =>
              intro v H' ho hx hv
              obtain ⟨a, b⟩ := back H' ho hx
              exact hq ρ1 v H' a (x1.trans b) (by rw [hid_tmps] at hv; exact hv)
            | t c =>
              intro v H' ho hx hv
              obtain ⟨a, b⟩ := back H' ho hx
              exact hq ρ1 v H' a (x1.trans b) (by rw [hid_tmps] at hv; exact hv)
            | z c =>
              intro v H' ho hx hv
              obtain ⟨a, b⟩ := back H' ho hx
              exact hq ρ1 v H' a (x1.trans b) (by rw [hid_tmps] at hv; exact hv)
            | p c =>
              intro v H' ho hx hv
              obtain ⟨a, b⟩ := back H' ho hx
              exact hq ρ1 v H' a (x1.trans b) (by rw [hid_tmps] at hv; exact hv)
where
  nodup_fm {ps : List PV} {k l i : Nat} (nd : (ps.filterMap PV.ix).Nodup) (h1 : ps[k]? = some (.own i)) (h2 : ps[l]? = some (.own i)) : k = l := by
    induction ps generalizing k l with
    | nil => simp at h1
    | cons p ps ih =>
      have tail : (ps.filterMap PV.ix).Nodup := by
        cases p with
        | v s => exact nd
        | own j =>
          have nd' : (j :: ps.filterMap PV.ix).Nodup := nd
          exact (List.nodup_cons.mp nd').2
      have hd : ∀ m : Nat, p = .own i → ps[m]? = some (.own i) → False := fun m e1 e2 => by
        subst e1
        have nd' : (i :: ps.filterMap PV.ix).Nodup := nd
        exact (List.nodup_cons.mp nd').1 (List.mem_filterMap.mpr ⟨.own i, ix_mem e2, rfl⟩)
      cases k with
      | zero =>
        cases l with
        | zero => rfl
        | succ l => exact (hd l (by simpa using h1) (by simpa using h2)).elim
      | succ k =>
        cases l with
        | zero => exact (hd k (by simpa using h2) (by simpa using h1)).elim
        | succ l => exact congrArg (· + 1) (ih (k := k) (l := l) tail (by simpa using h1) (by simpa using h2))
section
variable {X : Cx} {pos p : Pos} {e : Expr} {es : List Expr} {x : Str}
theorem de_call {k : Nat} {f : Addr} {fd : FuncData} {ps : List Str} {F : FN} {m : Nat} {fa : AEV} (G : FnG X.prog X.w X.K X.mg X.base k f fd ps (spF X.K m F)) (hG : X.A.guards = some []) (hr : Room k X.A) (hg : Gl X x) (hm : X.mg x = some (.ref f)) (hk : PySem.W.keepIn X.K (.ref f) = true) (hb : Binds X.K fd ps [])
    (ha : DA X (e :: es) fa) (hdb : (x == ("__debug__" : Str)) = false := by decide) (he : starEach (e :: es) X.env = (false, eval e X.env) :: starEach es X.env := by rfl) (hpl : (backTo pos (starEach es X.env)).any (·.1) = false := by rfl) :
    DE X (.Call (.Name x p) (e :: es) [] pos) (callE F m fa) := pe_imp (pe_callG G hG hr hg hm hk hb ha hdb he hpl) call_ok
end
end DL

namespace DL
open PySem PySem.Spec PyProof.Rows L2

/-! ### what is owned is changed -/
def mutE (i : Nat) (g : C → List PyData → Option (S × C)) (fa : AEV) : EV := fun δ => match slot δ i with
  | some (.o _) => (fa δ).bind fun x => (dataA x.1).bind fun ds => match slot x.2 i with
    | some (.o c) => (g c ds).map fun r => (r.1, x.2.set i (some (.o r.2)))
    | _ => none
  | _ => none
def isL : C → Bool
  | .l _ => true
  | .t _ => false
def mutL (i : Nat) (g : List PyData → List PyData → Option (S × List PyData)) (fa : AEV) : EV := fun δ => match slot δ i with
  | some (.o (.l _)) => (fa δ).bind fun x => (dataA x.1).bind fun ds => match slot x.2 i with
    | some (.o (.l ys)) => (g ys ds).map fun r => (r.1, x.2.set i (some (.o (.l r.2))))
    | _ => none
  | _ => none
def MutD (K : PySem.W.Frag) (r : V → List V → Hp → VK → Prop) (g : List PyData → List PyData → Option (S × List PyData)) : Prop :=
  ∀ (T : List Addr) (ρ : List (Option Addr)) (H : Hp) (a : Addr) (ys : List V) (xs ds : List PyData) (vs : List V) (s : S) (zs : List PyData) (Q : VK), H a = some (.lst ys) → DqAll K (hid T ρ H) ys xs → DqAll K (hid T ρ H) vs ds → g xs ds = some (s, zs) →
    (∀ ws v, DqAll K (hid T ρ H) ws zs → SV K (hid T ρ H) v s → Q v (upd H a (.lst ws))) → r (.ref a) vs H Q
theorem sim_owned {K : PySem.W.Frag} {T : List Addr} {ρ : List (Option Addr)} {δ : Ds} {σ : L2.St} {H : Hp} {i : Nat} {c : C} (h : Sim K T ρ δ σ H) (hi : slot δ i = some (.o c)) : ∃ a o, σ[i]? = some (some (.ref a)) ∧ ρ[i]? = some (some a) ∧ H a = some o ∧ CO K (hid T ρ H) o c := by
  obtain ⟨a, h1, h2⟩ := h.own i c (slot_some hi)
  obtain ⟨v, e1, e2⟩ := h.slot i _ (slot_some hi)
  rw [h2] at e1
  cases e1
  obtain ⟨b, o, z, z1, z2⟩ := e2
  cases z
  exact ⟨a, o, h2, h1, z1, z2⟩
section
variable {X : Cx} {P : List Nat} {pos : Pos} {e : Expr} {es : List Expr}
theorem mutL_ok {r : V → List V → Hp → VK → Prop} {g : List PyData → List PyData → Option (S × List PyData)} {fa : AEV} {i : Nat} (hd : MutD X.K r g) (σ : L2.St) (H : Hp) (Q : VK) (h : lift X.K (mutL i g fa) σ H Q) : tBM X.K "list" r (tVar i) (liftA X.K fa) σ H Q := by
  obtain ⟨T, ρ, δ, s, δ', hs, hf, hq⟩ := h
  unfold mutL at hf
  split at hf
  case h_2 => cases hf
  rename_i ys0 hi0
  cases ea : fa δ with
  | none => rw [ea] at hf; cases hf
  | some x =>
    rw [ea] at hf
    simp only [Option.bind_some] at hf
    cases eb : dataA x.1 with
    | none => rw [eb] at hf; cases hf
    | some ds =>
      rw [eb] at hf
      simp only [Option.bind_some] at hf
      split at hf
      case h_2 => cases hf
      rename_i ys1 hi1
      cases e3 : g ys1 ds with
      | none => rw [e3] at hf; cases hf
      | some z =>
        obtain ⟨u, zs⟩ := z
        rw [e3] at hf
        obtain ⟨a, o, a1, a2, a3, a4⟩ := sim_owned hs hi0
        obtain ⟨vs0, rfl, a5⟩ := a4
        refine ⟨.ref a, a1, .inl ⟨rfl, _, SqL.of a3⟩, ?_⟩
        refine ⟨T, ρ, δ, x.1, x.2, hs, by rw [ea], fun ρ1 vs H1 s1 x1 p1 => ?_⟩
        obtain ⟨b, o, b1, b2, b3, b4⟩ := sim_owned s1 hi1
        obtain ⟨vs1, rfl, b5⟩ := b4
        rw [a1] at b1
        cases b1
        have hsome := Option.some.inj hf
        cases hsome
        refine hd T ρ1 H1 a vs1 ys1 ds vs _ _ Q b3 b5 (data_dp p1 eb) e3 fun ws v hw hv => ?_
        obtain ⟨c1, c2⟩ := s1.write (slot_some hi1) b2 (o := .lst ws) (c := .l zs) ⟨ws, rfl, hw⟩
        have hv' := hv
        rw [← hid_write (T := T) (o := .lst ws) (ix_mem b2)] at hv'
        cases u with
        | o c => exact hv.elim
        | d c => exact hq ρ1 v _ c1 (x1.trans c2) hv'
        | t c => exact hq ρ1 v _ c1 (x1.trans c2) hv'
        | z c => exact hq ρ1 v _ c1 (x1.trans c2) hv'
        | p c => exact hq ρ1 v _ c1 (x1.trans c2) hv'
theorem de_mut {name : Str} {apos cpos opos : Pos} {x : Str} {id : String} {r : V → List V → Hp → VK → Prop} {g : List PyData → List PyData → Option (S × List PyData)} {fa : AEV} {i : Nat} (pa : PlainAttrs "list") (sl : Slot "list" name id) (hty : typeOf (.builtin id) = pure (.type "method_descriptor")) (hm : MtR X id r) (hd : MutD X.K r g) (p : PE X (.Name x opos) (tVar i)) (ha : DA X (e :: es) fa)
    (hbase : attributeBase (.Name x opos) name X.env (eval (.Name x opos) X.env) = eval (.Name x opos) X.env := by rfl)
    (hfew : ((backTo cpos (starEach (e :: es) X.env)).all (fun x => !x.1) && (backToKw cpos (keywordEach [] X.env)).all (fun x => x.1.isSome)
      && decide ((e :: es).length + ([] : List Keyword).length + (if ([] : List Keyword).isEmpty then 0 else 1) < 30)) = true := by rfl)
    (hline : (apos.endLine == cpos.line) = true := by rfl) (hs : starEach (e :: es) X.env = (false, eval e X.env) :: starEach es X.env := by rfl) (hplain : (backTo cpos (starEach es X.env)).any (·.1) = false := by rfl) :
    DE X (.Call (.Attribute (.Name x opos) name apos) (e :: es) [] cpos) (mutL i g fa) := pe_imp (pe_bm pa sl hty hm p ha hbase hfew hline hs hplain) (mutL_ok hd)
def gApp (xs ds : List PyData) : Option (S × List PyData) := match ds with
  | [d] => if xs.length < sizeLine then some (.d .none, xs ++ [d]) else none
  | _ => none
def gExt (xs ds : List PyData) : Option (S × List PyData) := match ds with
  | [.list ys] => if xs.length + ys.length ≤ sizeLine then some (.d .none, xs ++ ys) else none
  | _ => none
theorem md_append {K : PySem.W.Frag} : MutD K rAppend gApp := fun T ρ H a ys xs ds vs s zs Q h1 h2 h3 h4 h5 => by
  unfold gApp at h4
  split at h4
  · rename_i d
    split at h4
    · rename_i hl
      cases h4
      cases h3 with
      | cons q1 q2 =>
        cases q2
        exact ⟨a, ys, _, rfl, rfl, h1, by rw [dpAll_len h2]; exact hl, h5 _ _ (dpAll_app h2 (.cons q1 .nil)) .non⟩
    · cases h4
  · cases h4
theorem sqL_of_hid {K : PySem.W.Frag} {T : List Addr} {ρ : List (Option Addr)} {H : Hp} {a : Addr} {xs : List V} (h : SqL K (hid T ρ H) a xs) : SqL K H a xs := hid_same.seq h
theorem sqT_of_hid {K : PySem.W.Frag} {T : List Addr} {ρ : List (Option Addr)} {H : Hp} {a : Addr} {xs : List V} (h : SqT K (hid T ρ H) a xs) : SqT K H a xs := seqT hid_same h

/-! ### o[i] = e, o owned -/
def setI (i : Nat) (fe fi : PEV) : SEV := fun δ => (fe δ).bind fun x => match x.1, slot x.2 i with
  | .v (.d d), some (.o _) => (fi x.2).bind fun y => match y.1, slot y.2 i with
    | .v (.d (.int k)), some (.o (.l xs)) => (ixN xs.length k).map fun j => .nx (y.2.set i (some (.o (.l (xs.set j d)))))
    | _, _ => none
  | _, _ => none
theorem ds_setI {i : Nat} {ix : Expr} {x : Str} {opos : Pos} {fe fi : PEV} {spos : Pos} (he : DP X e fe) (p : PE X (.Name x opos) (tVar i)) (hi : DP X ix fi)
    (ha : ∀ v, assign (.Subscript (.Name x opos) ix spos) X.env v = (do
      let ov ← holding [v] (eval (.Name x opos) X.env)
      let iv ← holding [v, ov] (eval ix X.env)
      standAt spos
      holding [v, ov, iv] (setItem ov iv v)
      release [v, ov, iv] []) := by intro _; rfl)
    (hs : swapsWithSole [.Subscript (.Name x opos) ix spos] e pos.line X.env = pure false := by rfl) (hw : swappedStores [.Subscript (.Name x opos) ix spos] e X.env = pure none := by rfl)
    (h1 : (assignEach [.Subscript (.Name x opos) ix spos] X.env).map (·.2) = [assign (.Subscript (.Name x opos) ix spos) X.env] := by rfl) :
    DS X P (.Assign [.Subscript (.Name x opos) ix spos] e pos) (setI i fe fi) := ps_imp (ps_asg he (pg_sub p hi set_list ha) hs hw h1) fun D σ H ⟨T, ρ, δ, o, hs, hf, hq⟩ => by
  unfold setI at hf
  cases ea : fe δ with
  | none => rw [ea] at hf; cases hf
  | some z =>
    obtain ⟨pv, δ1⟩ := z
    rw [ea] at hf
    simp only [Option.bind_some] at hf
    split at hf
    case h_2 => cases hf
    rename_i d c0 hi1
    cases eb : fi δ1 with
    | none => rw [eb] at hf; cases hf
    | some y =>
      obtain ⟨pw, δ2⟩ := y
      rw [eb] at hf
      simp only [Option.bind_some] at hf
      split at hf
      case h_2 => cases hf
      rename_i k xs hsl
      cases ec : ixN xs.length k with
      | none => rw [ec] at hf; cases hf
      | some j =>
        rw [ec] at hf
        cases hf
        refine ⟨T, ρ, δ, _, δ1, hs, ea, fun ρ1 v1 H1 s1 x1 p1 => ?_⟩
        obtain ⟨a, ob, a1, a2, a3, a4⟩ := sim_owned s1 hi1
        refine ⟨.ref a, a1, T, ρ1, δ1, _, δ2, s1, eb, fun ρ2 v2 H2 s2 x2 p2 => ?_⟩
        obtain ⟨b, ob2, b1, b2, b3, b4⟩ := sim_owned s2 hsl
        rw [a1] at b1
        cases b1
        obtain ⟨ws, rfl, b5⟩ := b4
        have p1' : Dq X.K (hid T ρ2 H2) v1 d := dpM x2.same _ p1
        have e2 : v2 = .int k := by
          have p2' : Dq X.K (hid T ρ2 H2) v2 (.int k) := p2
          cases p2'
          rfl
        refine ⟨a, ws, k, j, rfl, e2, b3, by rw [dpAll_len b5]; exact ec, ?_⟩
        obtain ⟨c1, c2⟩ := s2.write (slot_some hsl) b2 (o := .lst (ws.set j v1)) (c := .l (xs.set j d)) ⟨_, rfl, dpAll_set p1' j b5⟩
        exact hq ρ2 σ _ c1 ((x1.trans x2).trans c2) .refl
end

/-! ### what is walked -/
def Serves (K : PySem.W.Frag) (T : List Addr) (ρ : List (Option Addr)) (H : Hp) (J : It) (xs : List PyData) : Prop := ∀ (i : Nat) (T2 : List Addr) (ρ2 : List (Option Addr)) (H2 : Hp), Same (hid T ρ H) (hid T2 ρ2 H2) → Trk T2 ρ2 H2 →
  (∀ d, xs[i]? = some d → J.go i H2 ∧ ∀ x H3, J.yld i H2 x H3 → Same H2 H3 ∧ Dq K (hid T2 ρ2 H3) x d) ∧ (xs.length ≤ i → J.stop i H2)
abbrev IEV := Ds → Option (List PyData × Ds)
def liftI (K : PySem.W.Frag) (f : IEV) : TI := fun σ H R => ∃ T ρ δ xs δ', Sim K T ρ δ σ H ∧ f δ = some (xs, δ') ∧ ∀ ρ' H' J, Sim K T ρ' δ' σ H' → Ext T ρ H ρ' H' → Serves K T ρ' H' J xs → R J H'
abbrev DI (X : Cx) (tg e : Expr) (f : IEV) : Prop := PI X tg e (liftI X.K f)
theorem pi_imp {X : Cx} {tg e : Expr} {t t' : TI} (p : PI X tg e t) (m : ∀ σ H R, t' σ H R → t σ H R) : PI X tg e t' := ⟨fun pins s σ H R I h => p.run pins s σ H R I (m σ H R h)⟩
section
variable {X : Cx} {tg : Expr}
/-- a list or a tuple -/
def iSeq (K : PySem.W.Frag) (tl : TE) : TI := fun σ H R => tl σ H fun x H1 => ∃ a, x = .ref a ∧ (((∃ xs, SqL K H1 a xs) ∧ R (Itl K a) H1) ∨ ((∃ xs, SqT K H1 a xs) ∧ R (Itt K a) H1))
theorem walkL {pins : List (Addr × Obj)} {σ : L2.St} {H : Hp} {s : Shared} {a : Addr} {ws : List V} {R : It → Hp → Prop} {E : Value → Shared → Prop} (I : Inv X pins σ H s) (hq : SqL X.K H a ws) (q : R (Itl X.K a) H) :
    wpAny (model X.prog X.w) X.A (pyIter (.ref a)) (PIE X pins σ tg R) E s := by
  obtain ⟨us, _, pl, _⟩ := I.list hq
  refine wpAny_pyIter_list pl.isList ?_
  have nw : ∀ b ∈ [s.heap.objs.size], FpOk X pins H b := fun b hb => by
    rw [List.mem_singleton.mp hb]
    exact I.fpOk (Nat.le_refl _) (I.hok.fresh (Nat.le_refl _))
  refine ⟨_, _, _, Itl X.K a, H, rfl, ?i, turn_list a _, ?z, nw, q⟩
  case i => exact I.kept (t' := s.toks) (fun b u hb => Heap.get?_push_of_some _ hb)
  case z => exact ⟨_, Heap.get?_push_size _ rfl, rfl, rfl⟩
theorem walkT {pins : List (Addr × Obj)} {σ : L2.St} {H : Hp} {s : Shared} {a : Addr} {ws : List V} {R : It → Hp → Prop} {E : Value → Shared → Prop} (I : Inv X pins σ H s) (hq : SqT X.K H a ws) (q : R (Itt X.K a) H) :
    wpAny (model X.prog X.w) X.A (pyIter (.ref a)) (PIE X pins σ tg R) E s := by
  obtain ⟨us, _, pl, _⟩ := I.tuple hq
  have pt : s.heap.IsTuple a us.toArray := pl
  refine wpAny_pyIter_tuple pt ?_
  have nw : ∀ b ∈ [s.heap.objs.size], FpOk X pins H b := fun b hb => by
    rw [List.mem_singleton.mp hb]
    exact I.fpOk (Nat.le_refl _) (I.hok.fresh (Nat.le_refl _))
  refine ⟨_, _, _, Itt X.K a, H, rfl, ?i, turn_tuple a _, ?z, nw, q⟩
  case i => exact I.kept (t' := s.toks) (fun b u hb => Heap.get?_push_of_some _ hb)
  case z => exact ⟨_, Heap.get?_push_size _ rfl, rfl, rfl⟩
theorem pi_seq {l : Expr} {tl : TE} (hl : PE X l tl) : PI X tg l (iSeq X.K tl) := ⟨fun pins s σ H R I h => by
  refine thn (hl.run pins s σ H _ I h) fun v s1 ⟨x, H1, I1, r1, a, e, q⟩ => ?_
  subst e
  cases r1
  rcases q with ⟨⟨ws, hq⟩, q⟩ | ⟨⟨ws, hq⟩, q⟩
  · exact walkL I1 hq q
  · exact walkT I1 hq q⟩
def seqI (f : EV) : IEV := fun δ => (f δ).bind fun r => match frz r.1 with
  | .d (.list xs) => some (xs, r.2)
  | .d (.tuple xs) => some (xs, r.2)
  | _ => none
theorem serves_L {K : PySem.W.Frag} {T : List Addr} {ρ : List (Option Addr)} {H : Hp} {a : Addr} {ws : List V} {xs : List PyData} (h0 : hid T ρ H a = some (.lst ws)) (hd : DqAll K (hid T ρ H) ws xs) : Serves K T ρ H (Itl K a) xs := fun i T2 ρ2 H2 sm tr => by
  have h2 : SqL K H2 a ws := SqL.of (hid_same _ _ (sm _ _ h0))
  refine ⟨fun d hi => ?_, fun hi => ⟨ws, h2, by rw [dpAll_len hd]; exact hi⟩⟩
  obtain ⟨v, e1, e2⟩ := dpAll_get hd hi
  refine ⟨⟨ws, v, h2, e1⟩, fun x H3 hy => ?_⟩
  obtain ⟨rfl, fv⟩ := hy
  have := fv ws h2
  rw [e1] at this
  cases this
  exact ⟨Same.refl _, dpM sm _ e2⟩
theorem serves_T {K : PySem.W.Frag} {T : List Addr} {ρ : List (Option Addr)} {H : Hp} {a : Addr} {ws : List V} {xs : List PyData} (h0 : hid T ρ H a = some (.tup ws)) (hd : DqAll K (hid T ρ H) ws xs) : Serves K T ρ H (Itt K a) xs := fun i T2 ρ2 H2 sm tr => by
  have h2 : SqT K H2 a ws := SqT.of (hid_same _ _ (sm _ _ h0))
  refine ⟨fun d hi => ?_, fun hi => ⟨ws, h2, by rw [dpAll_len hd]; exact hi⟩⟩
  obtain ⟨v, e1, e2⟩ := dpAll_get hd hi
  refine ⟨⟨ws, v, h2, e1⟩, fun x H3 hy => ?_⟩
  obtain ⟨rfl, fv⟩ := hy
  have := fv ws h2
  rw [e1] at this
  cases this
  exact ⟨Same.refl _, dpM sm _ e2⟩
theorem di_seq {l : Expr} {f : EV} (hl : DE X l f) : DI X tg l (seqI f) := pi_imp (pi_seq (dp_of hl)) fun σ H R ⟨T, ρ, δ, xs, δ', hs, hf, hq⟩ => by
  unfold seqI at hf
  cases ea : f δ with
  | none => rw [ea] at hf; cases hf
  | some z =>
    obtain ⟨s, δ1⟩ := z
    rw [ea] at hf
    simp only [Option.bind_some] at hf
    refine ⟨T, ρ, δ, .v (frz s), δ1, hs, by unfold frzP; rw [ea]; rfl, fun ρ1 v H1 s1 x1 p1 => ?_⟩
    have p1' : SV X.K (hid T ρ1 H1) v (frz s) := p1
    split at hf
    · rename_i ys hy
      cases hf
      rw [hy] at p1'
      cases p1' with
      | lst h1 h2 => exact ⟨_, rfl, .inl ⟨⟨_, SqL.of (hid_same _ _ h1)⟩, hq ρ1 H1 _ s1 x1 (serves_L h1 h2)⟩⟩
    · rename_i ys hy
      cases hf
      rw [hy] at p1'
      cases p1' with
      | tup h1 h2 => exact ⟨_, rfl, .inr ⟨⟨_, SqT.of (hid_same _ _ h1)⟩, hq ρ1 H1 _ s1 x1 (serves_T h1 h2)⟩⟩
    · cases hf
/-- range -/
def rng (a : Int) (n : Nat) : List PyData := (List.range n).map fun k => .int (a + (k : Nat))
def rngI1 (fa : AEV) : IEV := fun δ => (fa δ).bind fun x => match x.1 with
  | [.v (.d (.int n))] => if -(2 ^ 62) ≤ n ∧ n < 2 ^ 62 then some (rng 0 n.toNat, x.2) else none
  | _ => none
def rngI2 (fa : AEV) : IEV := fun δ => (fa δ).bind fun x => match x.1 with
  | [.v (.d (.int m)), .v (.d (.int n))] => if -(2 ^ 62) ≤ m ∧ m < 2 ^ 62 ∧ -(2 ^ 62) ≤ n ∧ n < 2 ^ 62 then some (rng m (n - m).toNat, x.2) else none
  | _ => none
theorem serves_R {K : PySem.W.Frag} {T : List Addr} {ρ : List (Option Addr)} {H : Hp} {lo : Int} {n : Nat} : Serves K T ρ H (Itr lo n) (rng lo n) := fun i T2 ρ2 H2 sm tr => by
  unfold rng
  refine ⟨fun d hi => ?_, fun hi => (show n ≤ i by simpa using hi)⟩
  rw [List.getElem?_map] at hi
  cases e : (List.range n)[i]? with
  | none => rw [e] at hi; cases hi
  | some k =>
    rw [e] at hi
    obtain ⟨h1, h2⟩ := List.getElem?_eq_some_iff.mp e
    rw [List.getElem_range] at h2
    subst h2
    cases hi
    refine ⟨(show i < n by simpa using h1), fun x H3 hy => ?_⟩
    obtain ⟨rfl, rfl⟩ := hy
    exact ⟨Same.refl _, .int _⟩
theorem di_range1 {a : Expr} {fa : AEV} {p pos : Pos} (hg : Gl X "range") (hm : X.mg "range" = none) (ha : DA X [a] fa) (hs : starEach [a] X.env = [(false, eval a X.env)] := by rfl) : DI X tg (.Call (.Name "range" p) [a] [] pos) (rngI1 fa) := pi_imp (pi_range1 hg hm ha hs) fun σ H R ⟨T, ρ, δ, xs, δ', hs, hf, hq⟩ => by
  unfold rngI1 at hf
  cases ea : fa δ with
  | none => rw [ea] at hf; cases hf
  | some z =>
    obtain ⟨ps, δ1⟩ := z
    rw [ea] at hf
    simp only [Option.bind_some] at hf
    refine ⟨T, ρ, δ, ps, δ1, hs, ea, fun ρ1 vs H1 s1 x1 p1 => ?_⟩
    split at hf
    · rename_i n
      split at hf
      · rename_i hn
        cases hf
        cases p1 with
        | cons q1 q2 =>
          cases q2
          have q1' : Dq X.K (hid T ρ1 H1) _ (.int n) := q1
          cases q1'
          exact ⟨n, rfl, hn.1, hn.2, hq ρ1 H1 _ s1 x1 serves_R⟩
      · cases hf
    · cases hf
theorem di_range2 {a b : Expr} {fa : AEV} {p pos : Pos} (hg : Gl X "range") (hm : X.mg "range" = none) (ha : DA X [a, b] fa) (hs : starEach [a, b] X.env = [(false, eval a X.env), (false, eval b X.env)] := by rfl) (hs2 : starEach [b] X.env = [(false, eval b X.env)] := by rfl) : DI X tg (.Call (.Name "range" p) [a, b] [] pos) (rngI2 fa) := pi_imp (pi_range2 hg hm ha hs hs2) fun σ H R ⟨T, ρ, δ, xs, δ', hs, hf, hq⟩ => by
  unfold rngI2 at hf
  cases ea : fa δ with
  | none => rw [ea] at hf; cases hf
  | some z =>
    obtain ⟨ps, δ1⟩ := z
    rw [ea] at hf
    simp only [Option.bind_some] at hf
    refine ⟨T, ρ, δ, ps, δ1, hs, ea, fun ρ1 vs H1 s1 x1 p1 => ?_⟩
    split at hf
    · rename_i m n
      split at hf
      · rename_i hn
        cases hf
        cases p1 with
        | cons q1 q2 =>
          cases q2 with
          | cons q2 q3 =>
            cases q3
            have q1' : Dq X.K (hid T ρ1 H1) _ (.int m) := q1
            have q2' : Dq X.K (hid T ρ1 H1) _ (.int n) := q2
            cases q1'
            cases q2'
            exact ⟨m, n, rfl, hn, hq ρ1 H1 _ s1 x1 serves_R⟩
      · cases hf
    · cases hf
end
/-! ### targets -/
def Only (vs : List Nat) (σ σ' : L2.St) : Prop := σ'.length = σ.length ∧ ∀ j : Nat, j ∉ vs → σ'[j]? = σ[j]?
abbrev GEV := PyData → Ds → Option Ds
def liftG (K : PySem.W.Frag) (vs : List Nat) (g : GEV) : TG := fun v σ H Q => ∃ T ρ δ x δ', Sim K T ρ δ σ H ∧ Dq K (hid T ρ H) v x ∧ g x δ = some δ' ∧ ∀ ρ' σ' H', Sim K T ρ' δ' σ' H' → Ext T ρ H ρ' H' → Only vs σ σ' → Q σ' H'
abbrev DG (X : Cx) (vs : List Nat) (tg : Expr) (g : GEV) : Prop := PG X tg (liftG X.K vs g)
theorem pg_imp {X : Cx} {tg : Expr} {t t' : TG} (p : PG X tg t) (m : ∀ v σ H Q, t' v σ H Q → t v σ H Q) : PG X tg t' := ⟨fun pins s σ H v u Q I r h => p.run pins s σ H v u Q I r (m v σ H Q h)⟩
def nameG (i : Nat) : GEV := fun x δ => some (δ.set i (some (.d x)))
section
variable {X : Cx} {pos : Pos}
theorem only_set {i : Nat} {σ : L2.St} {v : Option V} : Only [i] σ (σ.set i v) := ⟨List.length_set, fun j hj => List.getElem?_set_ne fun z => hj (by rw [z]; exact List.mem_singleton_self _)⟩
theorem dg_name {i : Nat} {x : Str} (hN : X.N.Nodup) (hi : X.N[i]? = some x) (hx : Loc X.env.scope x) (hf : X.fn x = true ∨ X.env.scope.names.lookup x = some .local := by first | exact .inl rfl | exact .inr rfl | assumption) : DG X [i] (.Name x pos) (nameG i) :=
  pg_imp (pg_name hN hi hx hf) fun v σ H Q ⟨T, ρ, δ, d, δ', hs, hd, hg, hq⟩ => by
    cases hg
    obtain ⟨a, b⟩ := hs.setD (i := i) (v := v) (s := .d d) hd
    exact hq _ _ H a b only_set
abbrev GsEV := List PyData → Ds → Option Ds
def liftGs (K : PySem.W.Frag) (vs : List Nat) (g : GsEV) : TGs := fun ws σ H Q => ∃ T ρ δ ds δ', Sim K T ρ δ σ H ∧ DqAll K (hid T ρ H) ws ds ∧ g ds δ = some δ' ∧ ∀ ρ' σ' H', Sim K T ρ' δ' σ' H' → Ext T ρ H ρ' H' → Only vs σ σ' → Q σ' H'
abbrev DGs (X : Cx) (vs : List Nat) (tg : List Expr) (g : GsEV) : Prop := PGs X tg (liftGs X.K vs g)
def nilG : GsEV := fun ds δ => match ds with
  | [] => some δ
  | _ => none
def consG (g : GEV) (gs : GsEV) : GsEV := fun ds δ => match ds with
  | d :: ds => (g d δ).bind (gs ds)
  | [] => none
def tupG (n : Nat) (gs : GsEV) : GEV := fun x δ => match x with
  | .tuple ds => if ds.length = n then gs ds δ else none
  | _ => none
theorem Only.refl {vs : List Nat} {σ : L2.St} : Only vs σ σ := ⟨rfl, fun _ _ => rfl⟩
theorem Only.trans {vs ws : List Nat} {σ σ1 σ2 : L2.St} (a : Only vs σ σ1) (b : Only ws σ1 σ2) : Only (vs ++ ws) σ σ2 := ⟨b.1.trans a.1, fun j hj => (b.2 j fun z => hj (List.mem_append_right _ z)).trans (a.2 j fun z => hj (List.mem_append_left _ z))⟩
theorem pgs_imp {X : Cx} {tg : List Expr} {t t' : TGs} (p : PGs X tg t) (m : ∀ v σ H Q, t' v σ H Q → t v σ H Q) : PGs X tg t' := ⟨fun pins s σ H v u Q I r h => p.run pins s σ H v u Q I r (m v σ H Q h)⟩
theorem dgs_nil : DGs X [] [] nilG := pgs_imp pgs_nil fun ws σ H Q ⟨T, ρ, δ, ds, δ', hs, hd, hg, hq⟩ => by
  unfold nilG at hg
  split at hg
  · cases hg
    cases hd
    exact ⟨rfl, hq ρ σ H hs .refl .refl⟩
  · cases hg
theorem dgs_cons {vs ws : List Nat} {e : Expr} {es : List Expr} {g : GEV} {gs : GsEV} (h1 : DG X vs e g) (h2 : DGs X ws es gs) (h3 : (assignEach (e :: es) X.env).map (·.2) = assign e X.env :: (assignEach es X.env).map (·.2) := by rfl) : DGs X (vs ++ ws) (e :: es) (consG g gs) := pgs_imp (pgs_cons h1 h2 h3) fun us σ H Q ⟨T, ρ, δ, ds, δ', hs, hd, hg, hq⟩ => by
  unfold consG at hg
  split at hg
  · rename_i d ds
    cases e : g d δ with
    | none => rw [e] at hg; cases hg
    | some δ1 =>
      rw [e] at hg
      cases hd with
      | cons q1 q2 =>
        refine ⟨_, _, rfl, T, ρ, δ, d, δ1, hs, q1, e, fun ρ1 σ1 H1 s1 x1 o1 => ?_⟩
        exact ⟨T, ρ1, δ1, ds, δ', s1, dpAllM x1.same _ q2, hg, fun ρ2 σ2 H2 s2 x2 o2 => hq ρ2 σ2 H2 s2 (x1.trans x2) (o1.trans o2)⟩
  · cases hg
theorem dg_tup {vs : List Nat} {es : List Expr} {k : Nat} {gs : GsEV} {n : Nat} (hc : X.calm = true) (h : DGs X vs es gs) (hn : (assignEach es X.env).length = n := by rfl) (hst : (assignEach es X.env).findIdx? (·.1) = none := by rfl) : DG X vs (.Tuple es k pos) (tupG n gs) := pg_imp (pg_tup hc h hn hst) fun v σ H Q ⟨T, ρ, δ, x, δ', hs, hd, hg, hq⟩ => by
  unfold tupG at hg
  split at hg
  · rename_i ds
    split at hg
    · rename_i hl
      cases hd with
      | tup h1 h2 => exact ⟨_, _, rfl, SqT.of (hid_same _ _ h1), by rw [dpAll_len h2]; exact hl, T, ρ, δ, ds, δ', hs, h2, hg, hq⟩
    · cases hg
  · cases hg
end

/-! ### for -/
def forD (tg : GEV) (body : SEV) : List PyData → Ds → Option Out
  | [], δ => some (.nx δ)
  | x :: xs, δ => (tg x δ).bind fun δ1 => (body δ1).bind fun
    | .nx δ2 => forD tg body xs δ2
    | .ct δ2 => forD tg body xs δ2
    | .bk δ2 => some (.nx δ2)
    | .rt s δ2 => some (.rt s δ2)
def forS (fi : IEV) (tg : GEV) (body : SEV) : SEV := fun δ => (fi δ).bind fun x => forD tg body x.1 x.2
theorem serves_step {K : PySem.W.Frag} {T : List Addr} {ρ ρ1 : List (Option Addr)} {H H1 : Hp} {J : It} {xs : List PyData} (h : Serves K T ρ H J xs) (e : Same (hid T ρ H) (hid T ρ1 H1)) : Serves K T ρ1 H1 J xs := fun i T2 ρ2 H2 s t => h i T2 ρ2 H2 (e.trans s) t
section
variable {X : Cx} {P : List Nat} {pos : Pos}
theorem ds_for {tg iter : Expr} {body : List Stmt} {fi : IEV} {vs : List Nat} {g : GEV} {f : SEV} (hp : PassesOwn (model X.prog X.w) X.A X.env X.xe) (hc : X.calm = true) (hP : ∀ i ∈ P, i ∉ vs) (hi : DI X tg iter fi) (hg : DG X vs tg g) (hb : DSs X P body f)
    (hs : ∀ x, foldedSetIterable iter X.env x = pure x := by intro _; rfl) : DS X P (.For tg iter body [] pos) (forS fi g f) := ps_imp (ps_for hp hc hi hg hb hs) fun D σ H ⟨T, ρ, δ, o, hs, hf, hq⟩ => by
  unfold forS at hf
  cases ea : fi δ with
  | none => rw [ea] at hf; cases hf
  | some z =>
    obtain ⟨xs, δ0⟩ := z
    rw [ea] at hf
    simp only [Option.bind_some] at hf
    refine ⟨T, ρ, δ, xs, δ0, hs, ea, fun ρ0 H0 J s0 x0 sv => ?_⟩
    refine ⟨fun i m σ' H' => ∃ ρ' δ', i + m = xs.length ∧ Sim X.K T ρ' δ' σ' H' ∧ Ext T ρ H ρ' H' ∧ Keep P σ σ' ∧ Serves X.K T ρ' H' J xs ∧ forD g f (xs.drop i) δ' = some o, ⟨xs.length, ρ0, δ0, by omega, s0, x0, .refl, sv, hf⟩, ?_⟩
    rintro i m σ1 H1 ⟨ρ1, δ1, him, s1, x1, k1, sv1, hf1⟩
    by_cases hi : i < xs.length
    · have hd : xs.drop i = xs[i] :: xs.drop (i + 1) := by rw [List.drop_eq_getElem_cons hi]
      rw [hd] at hf1
      unfold forD at hf1
      cases eg : g xs[i] δ1 with
      | none => rw [eg] at hf1; cases hf1
      | some δ2 =>
        rw [eg] at hf1
        simp only [Option.bind_some] at hf1
        cases eb : f δ2 with
        | none => rw [eb] at hf1; cases hf1
        | some o2 =>
          rw [eb] at hf1
          simp only [Option.bind_some] at hf1
          obtain ⟨go, yl⟩ := (sv1 i T ρ1 H1 (Same.refl _) s1.trk).1 _ (List.getElem?_eq_getElem hi)
          refine .inr ⟨go, fun σ' H' => ∃ ρ' δ', Sim X.K T ρ' δ' σ' H' ∧ Ext T ρ H ρ' H' ∧ Keep P σ σ' ∧ Serves X.K T ρ' H' J xs ∧ forD g f (xs.drop (i + 1)) δ' = some o, ?_, fun x H2 hy => ?_⟩
          · rintro σ' H' ⟨ρ', δ', a, b, c, d, e⟩
            exact ⟨m - 1, by omega, ρ', δ', by omega, a, b, c, d, e⟩
          · obtain ⟨y1, y2⟩ := yl x H2 hy
            have e2 := s1.trk.extT y1
            refine ⟨T, ρ1, δ1, xs[i], δ2, s1.mono y1, y2, eg, fun ρ3 σ3 H3 s3 x3 o3 => ?_⟩
            have x3' : Ext T ρ H ρ3 H3 := x1.trans (e2.trans x3)
            have sv3 : Serves X.K T ρ3 H3 J xs := serves_step sv1 (e2.trans x3).same
            have k3 : Keep P σ σ3 := k1.trans fun j hj => o3.2 j (hP j hj)
            refine ⟨T, ρ3, δ2, o2, s3, eb, ?_⟩
            cases o2 with
            | nx δ3 => exact fun ρ4 σ4 H4 s4 x4 k4 => ⟨ρ4, δ3, s4, x3'.trans x4, k3.trans k4, serves_step sv3 x4.same, hf1⟩
            | ct δ3 => exact fun ρ4 σ4 H4 s4 x4 k4 => ⟨ρ4, δ3, s4, x3'.trans x4, k3.trans k4, serves_step sv3 x4.same, hf1⟩
            | bk δ3 =>
              cases hf1
              exact fun ρ4 σ4 H4 s4 x4 k4 => hq ρ4 σ4 H4 s4 (x3'.trans x4) (k3.trans k4)
            | rt s δ3 =>
              cases hf1
              exact postR_step x3' k3 hq
    · have hd : xs.drop i = [] := List.drop_eq_nil_of_le (by omega)
      rw [hd] at hf1
      cases hf1
      exact .inl ⟨(sv1 i T ρ1 H1 (Same.refl _) s1.trk).2 (by omega), hq ρ1 σ1 H1 s1 x1 k1⟩
end

/-! ### while -/
def whD (t : TEV) (body : SEV) : Nat → Ds → Option Out
  | 0, _ => none
  | n + 1, δ => (t δ).bind fun r => if r.1 then (body r.2).bind fun
      | .nx δ2 => whD t body n δ2
      | .ct δ2 => whD t body n δ2
      | .bk δ2 => some (.nx δ2)
      | .rt s δ2 => some (.rt s δ2)
    else some (.nx r.2)
section
variable {X : Cx} {P : List Nat} {pos : Pos}
theorem ds_while {c : Expr} {body : List Stmt} {t : TEV} {f : SEV} (n : Nat) (hp : PassesOwn (model X.prog X.w) X.A X.env X.xe) (hc : DT X c t) (hb : DSs X P body f) : DS X P (.While c body [] pos) (whD t f n) := ps_imp (ps_while hp hc hb) fun D σ H ⟨T, ρ, δ, o, hs, hf, hq⟩ => by
  refine ⟨fun m σ' H' => ∃ ρ' δ', Sim X.K T ρ' δ' σ' H' ∧ Ext T ρ H ρ' H' ∧ Keep P σ σ' ∧ whD t f m δ' = some o, ⟨n, ρ, δ, hs, .refl, .refl, hf⟩, ?_⟩
  rintro m σ1 H1 ⟨ρ1, δ1, s1, x1, k1, hf1⟩
  cases m with
  | zero => cases hf1
  | succ m =>
    unfold whD at hf1
    cases ea : t δ1 with
    | none => rw [ea] at hf1; cases hf1
    | some z =>
      obtain ⟨b, δ2⟩ := z
      rw [ea] at hf1
      simp only [Option.bind_some] at hf1
      refine ⟨T, ρ1, δ1, b, δ2, s1, ea, fun ρ2 H2 s2 x2 => ?_⟩
      have x2' := x1.trans x2
      cases b with
      | false =>
        rw [if_neg Bool.false_ne_true] at hf1
        cases hf1
        exact L2.iteF (hq ρ2 σ1 H2 s2 x2' k1)
      | true =>
        rw [if_pos rfl] at hf1
        cases eb : f δ2 with
        | none => rw [eb] at hf1; cases hf1
        | some o2 =>
          rw [eb] at hf1
          simp only [Option.bind_some] at hf1
          refine L2.iteT ⟨fun σ' H' => ∃ ρ' δ', Sim X.K T ρ' δ' σ' H' ∧ Ext T ρ H ρ' H' ∧ Keep P σ σ' ∧ whD t f m δ' = some o, fun σ' H' h => ⟨m, Nat.lt_succ_self _, h⟩, T, ρ2, δ2, o2, s2, eb, ?_⟩
          cases o2 with
          | nx δ3 => exact fun ρ4 σ4 H4 s4 x4 k4 => ⟨ρ4, δ3, s4, x2'.trans x4, k1.trans k4, hf1⟩
          | ct δ3 => exact fun ρ4 σ4 H4 s4 x4 k4 => ⟨ρ4, δ3, s4, x2'.trans x4, k1.trans k4, hf1⟩
          | bk δ3 =>
            cases hf1
            exact fun ρ4 σ4 H4 s4 x4 k4 => hq ρ4 σ4 H4 s4 (x2'.trans x4) (k1.trans k4)
          | rt s δ3 =>
            cases hf1
            exact postR_step x2' k1 hq
end
end DL

namespace DL
open PySem PySem.Spec PyProof.Rows L2

/-! ### comprehensions -/
def notOwn : Option S → Bool
  | some (.o _) => false
  | _ => true
def noOwn (vs : List Nat) (δ : Ds) : Bool := vs.all fun v => notOwn (slot δ v)
def wipeD (δ : Ds) : List Nat → Ds
  | [] => δ
  | v :: vs => (wipeD δ vs).set v none
def restD (δ0 δe : Ds) : List Nat → Ds
  | [] => δe
  | v :: vs => (restD δ0 δe vs).set v (slot δ0 v)
def lcD (vs : List Nat) (g : GEV) (tt : TEV) (te : EV) : List PyData → Ds → Option (List PyData × Ds)
  | [], δ => some ([], δ)
  | x :: xs, δ => (g x δ).bind fun δ1 => (tt δ1).bind fun b =>
    if b.1 then (te b.2).bind fun y => match frz y.1 with
      | .d d => if noOwn vs y.2 then (lcD vs g tt te xs (wipeD y.2 vs)).map fun r => (d :: r.1, r.2) else none
      | _ => none
    else if noOwn vs b.2 then lcD vs g tt te xs (wipeD b.2 vs) else none
def lcE (vs : List Nat) (fi : IEV) (g : GEV) (tt : TEV) (te : EV) : EV := fun δ => (fi δ).bind fun x =>
  if noOwn vs x.2 then (lcD vs g tt te x.1 (wipeD x.2 vs)).bind fun r => if r.1.length ≤ sizeLine then some (.o (.l r.1), restD x.2 r.2 vs) else none else none
def rm (H : Hp) (D : Addr) : Hp := fun b => if b = D then none else H b
section
variable {K : PySem.W.Frag} {T : List Addr} {ρ ρ1 : List (Option Addr)} {δ δ1 : Ds} {σ σ1 : L2.St} {H H1 : Hp} {D : Addr}
theorem rm_self : rm H D D = none := if_pos rfl
theorem rm_ne {b : Addr} (h : b ≠ D) : rm H D b = H b := if_neg h
theorem rm_upd {o : HO} (h : H D = some o) : upd (rm H D) D o = H := by
  funext b
  by_cases hb : b = D
  · subst hb
    rw [upd_same, h]
  · rw [upd_ne hb, rm_ne hb]
theorem hid_rm : hid T ρ (rm H D) = hid (D :: T) ρ H := by
  funext b
  unfold hid
  by_cases hb : b = D
  · subst hb
    rw [if_pos (c := b ∈ b :: T ∨ some b ∈ ρ) (.inl List.mem_cons_self)]
    split
    · rfl
    · exact rm_self
  · rw [rm_ne hb]
    by_cases hc : b ∈ T ∨ some b ∈ ρ
    · rw [if_pos hc, if_pos (hc.elim (fun z => .inl (List.mem_cons_of_mem _ z)) .inr)]
    · rw [if_neg hc, if_neg fun z => z.elim (fun z => (List.mem_cons.mp z).elim hb fun y => hc (.inl y)) fun y => hc (.inr y)]
theorem hid_new {o : HO} (h : H D = none) : hid (D :: T) ρ (upd H D o) = hid T ρ H := by
  rw [← hid_rm]
  congr 1
  funext b
  by_cases hb : b = D
  · subst hb
    rw [rm_self, h]
  · rw [rm_ne hb, upd_ne hb]
theorem notOwn_no {i : Nat} {c : C} (h : notOwn (slot δ i) = true) (e : δ[i]? = some (some (.o c))) : False := by
  unfold slot at h
  rw [e] at h
  cases h
/-- a slot is forgotten -/
theorem Sim.unset {i : Nat} {w : Option V} (h : Sim K T ρ δ σ H) (hn : notOwn (DL.slot δ i) = true) : Sim K T ρ (δ.set i none) (σ.set i w) H := by
  have sub : ∀ (j : Nat) (s : S), (δ.set i none)[j]? = some (some s) → i ≠ j ∧ δ[j]? = some (some s) := fun j s hj => by
    by_cases hij : i = j
    · subst hij
      by_cases hl : i < δ.length
      · rw [List.getElem?_set_self hl] at hj
        cases hj
      · rw [List.getElem?_eq_none (by rw [List.length_set]; omega)] at hj
        cases hj
    · rw [List.getElem?_set_ne hij] at hj
      exact ⟨hij, hj⟩
  refine ⟨by rw [List.length_set]; exact h.len, by rw [List.length_set, List.length_set]; exact h.slen, fun j s hj => ?_, fun j c hj => ?_, fun j a hj => ?_, h.inj, h.nt, h.tmp⟩
  · obtain ⟨h1, h2⟩ := sub j s hj
    rw [List.getElem?_set_ne h1]
    exact h.slot j s h2
  · obtain ⟨h1, h2⟩ := sub j _ hj
    rw [List.getElem?_set_ne h1]
    exact h.own j c h2
  · obtain ⟨c, hc⟩ := h.own' j a hj
    have hij : i ≠ j := fun z => by
      subst z
      exact notOwn_no hn hc
    exact ⟨c, by rw [List.getElem?_set_ne hij]; exact hc⟩
theorem slot_set_ne {i j : Nat} {x : Option S} (h : i ≠ j) : slot (δ.set i x) j = slot δ j := by
  unfold slot
  rw [List.getElem?_set_ne h]
theorem notOwn_wipe {i : Nat} (h : notOwn (slot δ i) = true) : ∀ vs : List Nat, notOwn (slot (wipeD δ vs) i) = true
  | [] => h
  | v :: vs => by
    unfold wipeD
    by_cases hv : v = i
    · subst hv
      unfold slot
      by_cases hl : v < (wipeD δ vs).length
      · rw [List.getElem?_set_self hl]
        rfl
      · rw [List.getElem?_eq_none (by rw [List.length_set]; omega)]
        rfl
    · rw [slot_set_ne hv]
      exact notOwn_wipe h vs
theorem Sim.wipe (h : Sim K T ρ δ σ H) : ∀ {vs : List Nat}, noOwn vs δ = true → Sim K T ρ (wipeD δ vs) (L2.wipe σ vs) H
  | [], _ => h
  | v :: vs, hn => by
    unfold noOwn at hn
    rw [List.all_cons, Bool.and_eq_true] at hn
    exact (Sim.wipe h hn.2).unset (notOwn_wipe hn.1 vs)
theorem wipe_ne {j : Nat} : ∀ {vs : List Nat}, j ∉ vs → (L2.wipe σ vs)[j]? = σ[j]?
  | [], _ => rfl
  | v :: vs, h => by
    unfold L2.wipe
    rw [List.getElem?_set_ne (fun z => h (by rw [z]; exact List.mem_cons_self))]
    exact wipe_ne fun z => h (List.mem_cons_of_mem _ z)
theorem wipe_in {j : Nat} : ∀ {vs : List Nat}, j ∈ vs → j < σ.length → (L2.wipe σ vs)[j]? = some none
  | v :: vs, h, hl => by
    unfold L2.wipe
    by_cases hv : v = j
    · subst hv
      rw [List.getElem?_set_self (by rw [wipe_length]; exact hl)]
    · rw [List.getElem?_set_ne hv]
      exact wipe_in ((List.mem_cons.mp h).resolve_left fun z => hv z.symm) hl
theorem wipe_only {vs ws : List Nat} (h : Only ws σ σ1) (hw : ∀ j ∈ ws, j ∈ vs) : L2.wipe σ1 vs = L2.wipe σ vs := by
  apply List.ext_getElem?
  intro j
  by_cases hj : j ∈ vs
  · by_cases hl : j < σ.length
    · rw [wipe_in hj hl, wipe_in hj (by rw [h.1]; exact hl)]
    · rw [List.getElem?_eq_none (by rw [wipe_length, h.1]; omega), List.getElem?_eq_none (by rw [wipe_length]; omega)]
  · rw [wipe_ne hj, wipe_ne hj, h.2 j fun z => hj (hw j z)]
theorem wipe_idem {vs : List Nat} : L2.wipe (L2.wipe σ vs) vs = L2.wipe σ vs := by
  apply List.ext_getElem?
  intro j
  by_cases hj : j ∈ vs
  · by_cases hl : j < σ.length
    · rw [wipe_in hj hl, wipe_in hj (by rw [wipe_length]; exact hl)]
    · rw [List.getElem?_eq_none (by rw [wipe_length, wipe_length]; omega), List.getElem?_eq_none (by rw [wipe_length]; omega)]
  · rw [wipe_ne hj]
theorem restD_len {δ0 δe : Ds} : ∀ vs : List Nat, (restD δ0 δe vs).length = δe.length
  | [] => rfl
  | v :: vs => by unfold restD; rw [List.length_set, restD_len vs]
theorem restD_ne {δ0 δe : Ds} {j : Nat} : ∀ {vs : List Nat}, j ∉ vs → (restD δ0 δe vs)[j]? = δe[j]?
  | [], _ => rfl
  | v :: vs, h => by
    unfold restD
    rw [List.getElem?_set_ne (fun z => h (by rw [z]; exact List.mem_cons_self))]
    exact restD_ne fun z => h (List.mem_cons_of_mem _ z)
theorem restD_in {δ0 δe : Ds} {j : Nat} : ∀ {vs : List Nat}, j ∈ vs → j < δe.length → (restD δ0 δe vs)[j]? = some (slot δ0 j)
  | v :: vs, h, hl => by
    unfold restD
    by_cases hv : v = j
    · subst hv
      rw [List.getElem?_set_self (by rw [restD_len]; exact hl)]
    · rw [List.getElem?_set_ne hv]
      exact restD_in ((List.mem_cons.mp h).resolve_left fun z => hv z.symm) hl
theorem noOwn_mem {vs : List Nat} {j : Nat} (h : noOwn vs δ = true) (hj : j ∈ vs) : notOwn (slot δ j) = true := List.all_eq_true.mp h j hj
theorem Sim.addTmp {o : HO} (h : Sim K T ρ δ σ H) (hD : H D = none) (hn : NT o := by trivial) : Sim K (D :: T) ρ δ σ (upd H D o) := by
  have hh : hid (D :: T) ρ (upd H D o) = hid T ρ H := hid_new hD
  obtain ⟨nT, nρ⟩ := h.trk.fresh hD
  refine ⟨h.len, h.slen, fun j s hj => ?_, h.own, h.own', h.inj, fun j a hj hm => ?_, fun a ha => ?_⟩
  · obtain ⟨v, e1, e2⟩ := h.slot j s hj
    refine ⟨v, e1, ?_⟩
    cases s with
    | o c =>
      obtain ⟨a, x, z1, z2, z3⟩ := e2
      exact ⟨a, x, z1, by rw [upd_ne (ne_of_none z2 hD)]; exact z2, by rw [hh]; exact z3⟩
    | d x => exact (show SV K (hid (D :: T) ρ (upd H D o)) v (.d x) by rw [hh]; exact e2)
    | t x => exact (show SV K (hid (D :: T) ρ (upd H D o)) v (.t x) by rw [hh]; exact e2)
    | z x => exact (show SV K (hid (D :: T) ρ (upd H D o)) v (.z x) by rw [hh]; exact e2)
    | p x => exact (show SV K (hid (D :: T) ρ (upd H D o)) v (.p x) by rw [hh]; exact e2)
  · rcases List.mem_cons.mp hm with e | hm
    · subst e
      exact nρ (ix_mem hj)
    · exact h.nt j a hj hm
  · rcases List.mem_cons.mp ha with e | ha
    · subst e
      exact ⟨o, upd_same, hn⟩
    · obtain ⟨x, hx, hy⟩ := h.tmp a ha
      exact ⟨x, by rw [upd_ne (ne_of_none hx hD)]; exact hx, hy⟩
theorem hid_tmp {o : HO} (hT : D ∈ T) : hid T ρ (upd H D o) = hid T ρ H := by
  funext b
  unfold hid
  by_cases hb : b = D
  · subst hb
    rw [if_pos (.inl hT), if_pos (.inl hT)]
  · rw [upd_ne hb]
/-- what is being made is written -/
theorem Sim.tmpW {o : HO} (h : Sim K T ρ δ σ H) (hT : D ∈ T) (hn : NT o := by trivial) : Sim K T ρ δ σ (upd H D o) := by
  have hh : hid T ρ (upd H D o) = hid T ρ H := hid_tmp hT
  refine ⟨h.len, h.slen, fun j s hj => ?_, h.own, h.own', h.inj, h.nt, fun a ha => ?_⟩
  · obtain ⟨v, e1, e2⟩ := h.slot j s hj
    refine ⟨v, e1, ?_⟩
    cases s with
    | o c =>
      obtain ⟨b, f1, f2⟩ := h.own j c hj
      obtain ⟨a, x, z1, z2, z3⟩ := e2
      subst z1
      rw [e1] at f2
      cases f2
      have ne : b ≠ D := fun z => by
        subst z
        exact h.nt j b f1 hT
      exact ⟨b, x, rfl, by rw [upd_ne ne]; exact z2, by rw [hh]; exact z3⟩
    | d x => exact (show SV K (hid T ρ (upd H D o)) v (.d x) by rw [hh]; exact e2)
    | t x => exact (show SV K (hid T ρ (upd H D o)) v (.t x) by rw [hh]; exact e2)
    | z x => exact (show SV K (hid T ρ (upd H D o)) v (.z x) by rw [hh]; exact e2)
    | p x => exact (show SV K (hid T ρ (upd H D o)) v (.p x) by rw [hh]; exact e2)
  · by_cases hb : a = D
    · exact ⟨o, by rw [hb, upd_same], hn⟩
    · obtain ⟨x, hx, hy⟩ := h.tmp a ha
      exact ⟨x, by rw [upd_ne hb]; exact hx, hy⟩
theorem ext_tmp {o : HO} (hT : D ∈ T) : Same (hid T ρ H) (hid T ρ (upd H D o)) := by
  rw [hid_tmp hT]
  exact Same.refl _
end
section
variable {X : Cx}
theorem lc_ok {K : PySem.W.Frag} {vs ws : List Nat} {fi : IEV} {g : GEV} {tt : TEV} {te : EV} (hw : ∀ j ∈ ws, j ∈ vs) (σ : L2.St) (H : Hp) (Q : VK) (h : lift K (lcE vs fi g tt te) σ H Q) : tLc (liftI K fi) (liftG K ws g) (liftT K tt) (lift K te) vs σ H Q := by
  obtain ⟨T, ρ, δ, s, δ', hs, hf, hq⟩ := h
  unfold lcE at hf
  cases ea : fi δ with
  | none => rw [ea] at hf; cases hf
  | some z =>
    obtain ⟨xs, δ1⟩ := z
    rw [ea] at hf
    simp only [Option.bind_some] at hf
    split at hf
    case isFalse => cases hf
    rename_i hno
    cases el : lcD vs g tt te xs (wipeD δ1 vs) with
    | none => rw [el] at hf; cases hf
    | some r =>
      obtain ⟨out, δe⟩ := r
      rw [el] at hf
      simp only [Option.bind_some] at hf
      split at hf
      case isFalse => cases hf
      rename_i hsz
      cases hf
      refine ⟨T, ρ, δ, xs, δ1, hs, ea, fun ρ1 H1 J s1 x1 sv => ?_⟩
      intro D hD
      refine ⟨fun i m H' => ∃ ρ' δ2 acc dn rs, i + m = xs.length ∧ Sim K (D :: T) ρ' δ2 (L2.wipe σ vs) H' ∧ Same (hid T ρ1 H1) (hid (D :: T) ρ' H') ∧ (∀ a, a ∈ T → H' a = H1 a) ∧ H' D = some (.lst acc) ∧ DqAll K (hid (D :: T) ρ' H') acc dn ∧
        lcD vs g tt te (xs.drop i) δ2 = some (rs, δe) ∧ dn ++ rs = out, ⟨xs.length, ρ1, wipeD δ1 vs, [], [], out, by omega, (s1.wipe hno).addTmp hD, ?_, ?_, upd_same, .nil, el, rfl⟩, ?_⟩
      · rw [hid_new hD]
        exact Same.refl _
      · intro a ha
        obtain ⟨o, ho, _⟩ := s1.tmp a ha
        rw [upd_ne (ne_of_none ho hD)]
      rintro i m H2 ⟨ρ2, δ2, acc, dn, rs, him, s2, sm, tm, hacc, hdn, hl, hout⟩
      have alen : acc.length = dn.length := dpAll_len hdn
      by_cases hi : i < xs.length
      · have hd : xs.drop i = xs[i] :: xs.drop (i + 1) := by rw [List.drop_eq_getElem_cons hi]
        rw [hd] at hl
        unfold lcD at hl
        cases eg : g xs[i] δ2 with
        | none => rw [eg] at hl; cases hl
        | some δ3 =>
          rw [eg] at hl
          simp only [Option.bind_some] at hl
          cases et : tt δ3 with
          | none => rw [et] at hl; cases hl
          | some b =>
            obtain ⟨b, δ4⟩ := b
            rw [et] at hl
            simp only [Option.bind_some] at hl
            obtain ⟨go, yl⟩ := (sv i (D :: T) ρ2 H2 sm s2.trk).1 _ (List.getElem?_eq_getElem hi)
            refine .inr ⟨go, fun H' => ∃ ρ' δ2 acc dn rs, Sim K (D :: T) ρ' δ2 (L2.wipe σ vs) H' ∧ Same (hid T ρ1 H1) (hid (D :: T) ρ' H') ∧ (∀ a, a ∈ T → H' a = H1 a) ∧ H' D = some (.lst acc) ∧ DqAll K (hid (D :: T) ρ' H') acc dn ∧
              lcD vs g tt te (xs.drop (i + 1)) δ2 = some (rs, δe) ∧ dn ++ rs = out, ?_, fun x H3 hy => ?_⟩
            · rintro H' ⟨ρ', δ5, acc', dn', rs', q1, q2, q3, q4, q5, q6, q7⟩
              exact ⟨m - 1, by omega, ρ', δ5, acc', dn', rs', by omega, q1, q2, q3, q4, q5, q6, q7⟩
            obtain ⟨y1, y2⟩ := yl x H3 hy
            have e2 := s2.trk.extT y1
            refine ⟨D :: T, ρ2, δ2, xs[i], δ3, s2.mono y1, y2, eg, fun ρ4 σ4 H4 s4 x4 o4 => ?_⟩
            have hwp : L2.wipe σ4 vs = L2.wipe σ vs := by rw [wipe_only o4 hw, wipe_idem]
            refine ⟨hwp, D :: T, ρ4, δ3, b, δ4, s4, et, fun ρ5 H5 s5 x5 => ?_⟩
            have xx : Ext (D :: T) ρ2 H2 ρ5 H5 := e2.trans (x4.trans x5)
            -- a turn's end
            have fin : ∀ (ρ6 : List (Option Addr)) (δ6 : Ds) (H6 : Hp), Sim K (D :: T) ρ6 δ6 σ4 H6 → Ext (D :: T) ρ2 H2 ρ6 H6 → noOwn vs δ6 = true →
                Sim K (D :: T) ρ6 (wipeD δ6 vs) (L2.wipe σ vs) H6 ∧ Same (hid T ρ1 H1) (hid (D :: T) ρ6 H6) ∧ (∀ a, a ∈ T → H6 a = H1 a) ∧ H6 D = some (.lst acc) ∧ DqAll K (hid (D :: T) ρ6 H6) acc dn := by
              intro ρ6 δ6 H6 s6 x6 n6
              have q := s6.wipe n6
              rw [hwp] at q
              exact ⟨q, sm.trans x6.same, fun a ha => (x6.tmp a (List.mem_cons_of_mem _ ha)).trans (tm a ha), (x6.tmp D List.mem_cons_self).trans hacc, dpAllM x6.same _ hdn⟩
            cases b with
            | false =>
              refine L2.iteF ?_
              rw [if_neg Bool.false_ne_true] at hl
              split at hl
              case isFalse => cases hl
              rename_i n5
              obtain ⟨q1, q2, q3, q4, q5⟩ := fin ρ5 δ4 H5 s5 xx n5
              exact ⟨ρ5, _, acc, dn, rs, q1, q2, q3, q4, q5, hl, hout⟩
            | true =>
              refine L2.iteT ?_
              rw [if_pos rfl] at hl
              cases ey : te δ4 with
              | none => rw [ey] at hl; cases hl
              | some y =>
                obtain ⟨u, δ6⟩ := y
                rw [ey] at hl
                simp only [Option.bind_some] at hl
                split at hl
                case h_2 => cases hl
                rename_i d hd'
                split at hl
                case isFalse => cases hl
                rename_i n6
                cases er : lcD vs g tt te (xs.drop (i + 1)) (wipeD δ6 vs) with
                | none => rw [er] at hl; cases hl
                | some r =>
                  obtain ⟨rs', δz⟩ := r
                  rw [er] at hl
                  cases hl
                  have hlen : acc.length < sizeLine := by
                    rw [alen]
                    have : dn.length + (rs'.length + 1) ≤ sizeLine := by
                      have := hsz
                      rw [← hout, List.length_append, List.length_cons] at this
                      exact this
                    omega
                  -- the element
                  have each : ∀ (ρ7 : List (Option Addr)) (v : V) (H7 : Hp), Sim K (D :: T) ρ7 δ6 σ4 H7 → Ext (D :: T) ρ5 H5 ρ7 H7 → Dq K (hid (D :: T) ρ7 H7) v d →
                      ∃ acc, H7 D = some (.lst acc) ∧ acc.length < sizeLine ∧ (∃ ρ' δ2 acc' dn rs, Sim K (D :: T) ρ' δ2 (L2.wipe σ vs) (upd H7 D (.lst (acc ++ [v]))) ∧ Same (hid T ρ1 H1) (hid (D :: T) ρ' (upd H7 D (.lst (acc ++ [v])))) ∧ (∀ a, a ∈ T → (upd H7 D (.lst (acc ++ [v]))) a = H1 a) ∧ (upd H7 D (.lst (acc ++ [v]))) D = some (.lst acc') ∧ DqAll K (hid (D :: T) ρ' (upd H7 D (.lst (acc ++ [v])))) acc' dn ∧
                        lcD vs g tt te (xs.drop (i + 1)) δ2 = some (rs, δz) ∧ dn ++ rs = out) := by
                    intro ρ7 v H7 s7 x7 hv
                    obtain ⟨q1, q2, q3, q4, q5⟩ := fin ρ7 δ6 H7 s7 (xx.trans x7) n6
                    refine ⟨acc, q4, hlen, ρ7, _, acc ++ [v], dn ++ [d], rs', q1.tmpW List.mem_cons_self, ?_, ?_, upd_same, ?_, er, by rw [List.append_assoc]; exact hout⟩
                    · rw [hid_tmp List.mem_cons_self]
                      exact q2
                    · intro a ha
                      have ne : a ≠ D := fun z => by
                        subst z
                        exact (s1.trk.fresh hD).1 ha
                      rw [upd_ne ne]
                      exact q3 a ha
                    · rw [hid_tmp List.mem_cons_self]
                      exact dpAll_app q5 (.cons hv .nil)
                  refine ⟨D :: T, ρ5, δ4, u, δ6, s5, ey, ?_⟩
                  cases u with
                  | o c =>
                    intro ρ7 p H7 o s7 x7 hp hc
                    have hn := frz_new s7.trk hp hc
                    rw [hd'] at hn
                    exact each ρ7 (.ref p) _ (s7.mono (same_new hp)) (x7.trans (s7.trk.extT (same_new hp))) hn
                  | d c =>
                    cases hd'
                    exact fun ρ7 v H7 s7 x7 hv => each ρ7 v H7 s7 x7 hv
                  | t c => cases hd'
                  | z c => cases hd'
                  | p c => cases hd'
      · have hd : xs.drop i = [] := List.drop_eq_nil_of_le (by omega)
        rw [hd] at hl
        cases hl
        rw [List.append_nil] at hout
        subst hout
        refine .inl ⟨(sv i (D :: T) ρ2 H2 sm s2.trk).2 (by omega), ?_⟩
        have hh : hid T ρ2 (rm H2 D) = hid (D :: T) ρ2 H2 := hid_rm
        rw [← rm_upd hacc]
        refine hq ρ2 D (rm H2 D) (.lst acc) ?_ (x1.trans ⟨by rw [hh]; exact sm, fun a ha => ?_⟩) rm_self ⟨acc, rfl, by rw [hh]; exact hdn⟩
        · have lenE : δe.length = σ.length := by
            have := s2.slen
            rw [wipe_length] at this
            exact this.symm
          refine ⟨by rw [restD_len]; exact s2.len, by rw [restD_len]; exact lenE.symm, fun j u hj => ?_, fun j c hj => ?_, fun j a hj => ?_, s2.inj, fun j a hj hm => s2.nt j a hj (List.mem_cons_of_mem _ hm), fun a ha => ?_⟩
          · by_cases hjv : j ∈ vs
            · have hjl : j < δe.length := by
                have := (List.getElem?_eq_some_iff.mp hj).1
                rw [restD_len] at this
                exact this
              rw [restD_in hjv hjl] at hj
              have hj' := slot_some (Option.some.inj hj)
              obtain ⟨v, e1, e2⟩ := s1.slot j u hj'
              refine ⟨v, e1, ?_⟩
              cases u with
              | o c => exact (notOwn_no (noOwn_mem hno hjv) hj').elim
              | d x => exact (show SV K (hid T ρ2 (rm H2 D)) v (.d x) by rw [hh]; exact svM (s := .d x) sm e2)
              | t x => exact (show SV K (hid T ρ2 (rm H2 D)) v (.t x) by rw [hh]; exact svM (s := .t x) sm e2)
              | z x => exact (show SV K (hid T ρ2 (rm H2 D)) v (.z x) by rw [hh]; exact svM (s := .z x) sm e2)
              | p x => exact (show SV K (hid T ρ2 (rm H2 D)) v (.p x) by rw [hh]; exact svM (s := .p x) sm e2)
            · rw [restD_ne hjv] at hj
              obtain ⟨v, e1, e2⟩ := s2.slot j u hj
              rw [wipe_ne hjv] at e1
              refine ⟨v, e1, ?_⟩
              cases u with
              | o c =>
                obtain ⟨b, f1, f2⟩ := s2.own j c hj
                rw [wipe_ne hjv, e1] at f2
                cases f2
                obtain ⟨a, x, z1, z2, z3⟩ := e2
                cases z1
                have ne : b ≠ D := fun z => by
                  subst z
                  exact s2.nt j b f1 List.mem_cons_self
                exact ⟨b, x, rfl, by rw [rm_ne ne]; exact z2, by rw [hh]; exact z3⟩
              | d x => exact (show SV K (hid T ρ2 (rm H2 D)) v (.d x) by rw [hh]; exact e2)
              | t x => exact (show SV K (hid T ρ2 (rm H2 D)) v (.t x) by rw [hh]; exact e2)
              | z x => exact (show SV K (hid T ρ2 (rm H2 D)) v (.z x) by rw [hh]; exact e2)
              | p x => exact (show SV K (hid T ρ2 (rm H2 D)) v (.p x) by rw [hh]; exact e2)
          · by_cases hjv : j ∈ vs
            · have hjl : j < δe.length := by
                have := (List.getElem?_eq_some_iff.mp hj).1
                rw [restD_len] at this
                exact this
              rw [restD_in hjv hjl] at hj
              exact (notOwn_no (noOwn_mem hno hjv) (slot_some (Option.some.inj hj))).elim
            · rw [restD_ne hjv] at hj
              obtain ⟨a, f1, f2⟩ := s2.own j c hj
              rw [wipe_ne hjv] at f2
              exact ⟨a, f1, f2⟩
          · obtain ⟨c, hc⟩ := s2.own' j a hj
            by_cases hjv : j ∈ vs
            · obtain ⟨b, f1, f2⟩ := s2.own j c hc
              have hjl : j < σ.length := by
                have := (List.getElem?_eq_some_iff.mp hc).1
                omega
              rw [wipe_in hjv hjl] at f2
              cases f2
            · exact ⟨c, by rw [restD_ne hjv]; exact hc⟩
          · have ne : a ≠ D := fun z => by
              subst z
              exact (s1.trk.fresh hD).1 ha
            obtain ⟨o, ho, hn⟩ := s1.tmp a ha
            exact ⟨o, by rw [rm_ne ne, tm a ha]; exact ho, hn⟩
        · have ne : a ≠ D := fun z => by
            subst z
            exact (s1.trk.fresh hD).1 ha
          rw [rm_ne ne]
          exact tm a ha
def yesT : TEV := fun δ => some (true, δ)
abbrev DTs (X : Cx) (ifs : List Expr) (f : TEV) : Prop := PTs X ifs (liftT X.K f)
theorem dts_nil : DTs X [] yesT := ⟨fun pins s σ H Q I ⟨T, ρ, δ, b, δ', hs, hf, hq⟩ => by
  cases hf
  exact pts_nil.run pins s σ H Q I (hq ρ H hs .refl)⟩
theorem dts_one {c : Expr} {f : TEV} (h : DT X c f) : DTs X [c] f := pts_one h
theorem de_lc {elt tg iter : Expr} {ifs : List Expr} {scope : Scope} {own : List (Str × Nat)} {pos : Pos} {ws : List Nat} {fi : IEV} {g : GEV} {tt : TEV} {te : EV} (hc : X.calm = true) (hN : X.N.Nodup) (hi : DI X tg iter fi) (ok : BlkOk X.N X.env.scope scope own) (hw : ∀ j ∈ ws, j ∈ own.map (·.2))
    (hg : ∀ (s : Shared) (H : Hp) (C : Addr) (cl : List (Str × Addr)) (fp : List Addr), DG (X.blk s H scope (compEnvC scope cl C X.env) fp) ws tg g)
    (ht : ∀ (s : Shared) (H : Hp) (C : Addr) (cl : List (Str × Addr)) (fp : List Addr), DTs (X.blk s H scope (compEnvC scope cl C X.env) fp) ifs tt)
    (he : ∀ (s : Shared) (H : Hp) (C : Addr) (cl : List (Str × Addr)) (fp : List Addr), DE (X.blk s H scope (compEnvC scope cl C X.env) fp) elt te) (hs : ∀ x, foldedSetIterable iter X.env x = pure x := by intro _; rfl) :
    DE X (.ListComp elt [⟨tg, iter, ifs, 0⟩] scope pos) (lcE (own.map (·.2)) fi g tt te) := pe_imp (pe_lc hc hN hi ok hg ht he hs) (lc_ok hw)
theorem ds_setLc {P : List Nat} {i : Nat} {y : Str} {py : Pos} {elt tg iter : Expr} {ifs : List Expr} {scope : Scope} {own : List (Str × Nat)} {pos spos : Pos} {ws : List Nat} {fi : IEV} {g : GEV} {tt : TEV} {te : EV} (hc : X.calm = true) (hN : X.N.Nodup) (hy : X.N[i]? = some y) (hyl : X.env.scope.names.lookup y = some .local) (hP : i ∉ P)
    (hsw : swapsWith (.ListComp elt [⟨tg, iter, ifs, 0⟩] scope pos) (some (.Name y py)) spos.line X.env = pure true) (hi : DI X tg iter fi) (ok : BlkOk X.N X.env.scope scope own) (hw : ∀ j ∈ ws, j ∈ own.map (·.2))
    (hg : ∀ (s : Shared) (H : Hp) (C : Addr) (cl : List (Str × Addr)) (fp : List Addr), DG (X.blk s H scope (compEnvC scope cl C X.env) fp) ws tg g)
    (ht : ∀ (s : Shared) (H : Hp) (C : Addr) (cl : List (Str × Addr)) (fp : List Addr), DTs (X.blk s H scope (compEnvC scope cl C X.env) fp) ifs tt)
    (he : ∀ (s : Shared) (H : Hp) (C : Addr) (cl : List (Str × Addr)) (fp : List Addr), DE (X.blk s H scope (compEnvC scope cl C X.env) fp) elt te) (hs : ∀ x, foldedSetIterable iter X.env x = pure x := by intro _; rfl) :
    DS X P (.Assign [.Name y py] (.ListComp elt [⟨tg, iter, ifs, 0⟩] scope pos) spos) (setS i (lcE (own.map (·.2)) fi g tt te)) := ps_imp (ps_setLc hc hN hy hyl hsw hi ok hg ht he hs) fun D σ H ⟨T, ρ, δ, o, hs, hf, hq⟩ => lc_ok hw σ H _ (set_ok hP ⟨T, ρ, δ, o, hs, hf, hq⟩)
end
end DL

namespace DL
open PySem PySem.Spec PyProof.Rows L2

/-! ### the law's end -/
section
variable {P : Program} {w : World} {K : PySem.W.Frag} {mg mb : Str → Option Value} {k : Nat} {fa a : Addr} {fd : FuncData} {x : Str} {sp : Sp} {s₁ : Shared} {vs : List Value} {ns : List Int}
theorem end_core (H : Hp) (KX : K.In s₁.heap) (hns : s₁.heap.Ns mainGlobals mg) (hb : s₁.heap.Ns builtinsNs mb) (hbb : ∀ x : Str, x ≠ "__name__" → mb x = bootBuiltins x) (hlim : s₁.heap.NoLimit) (hg : s₁.gens = #[])
    (ha : s₁.heap.get? a = some { cls := .type "list", data := .seq vs.toArray }) (hr : Room k callerA)
    (F : ∀ base : Heap, K.In base → base.Ns mainGlobals mg → FnG P w K mg base k fa fd [x] sp) (hbind : ∀ (s : Shared) (u : Value), BindsTo s fd ⟨[u], []⟩ [(x, u)])
    (hO : L2.Only H) (hS : sp [.ref a] H (fun v _ => v = .bl true) fun _ _ _ => False) (hok : HOk P w H s₁.heap) (hA : ∀ b, H b ≠ none → b = a) (hK : H a ≠ none → K.lookup a = none) :
    codeAny (model P w) callerA (.call (.ref fa) ⟨[.ref a], []⟩) (fun r s' => r = .ok (.ret (.bool true)) ∧ OldK s₁.heap s'.heap ∧ s'.os = s₁.os ∧ AllBare s'.gens) s₁ := by
  have isA : ∀ {b : Addr} {u : HO}, H b = some u → b = a := fun {b u} q => hA b (by
    rw [q]
    exact Option.some_ne_none u)
  have dic : ∀ {b : Addr} {o : Obj} {es : Array DictEntry} {ep : Nat}, s₁.heap.get? b = some o → o.data = .dict es ep → H b = none := by
    intro b o es ep e d
    cases q : H b with
    | none => rfl
    | some u =>
      have e2 := isA q
      subst e2
      rw [ha] at e
      cases e
      cases (show Data.seq vs.toArray _ = Data.dict es ep from d)
  have nsK : ∀ {b : Addr} {m : Str → Option Value}, s₁.heap.Ns b m → (hidT s₁.heap H).Ns b m := by
    rintro b m ⟨o, es, ep, e, d, r⟩
    exact ⟨o, es, ep, hidT_get e (dic e d), d, r⟩
  have hKb : K.In (hidT s₁.heap H) := by
    intro b o e
    refine hidT_get (KX b o e) ?_
    cases q : H b with
    | none => rfl
    | some u =>
      have e2 := isA q
      subst e2
      rw [hK (by rw [q]; exact Option.some_ne_none u)] at e
      cases e
  obtain ⟨mc, l1, l2⟩ := hlim
  have hM : Mod K mg (hidT s₁.heap H) := ⟨hKb, nsK hns, ⟨mb, nsK hb, hbb⟩, mc, nsK l1, l2⟩
  have none0 : ∀ (b : Addr), b ∉ ([] : List Addr) := fun b => by simp
  have e0 : Env0 P w K mg (hidT s₁.heap H) callerA [] s₁ H :=
    ⟨rfl, hM, fun b o e => of_hidT e, Nat.le_of_eq (hidT_size _ _), trivial,
      fun b z => (none0 b z).elim, hok, .of_eq hg⟩
  have R := (F _ hKb (nsK hns)).run callerA [] s₁ H ⟨[.ref a], []⟩ [.ref a] [.ref a] _ _ rfl hr e0
    (hbind s₁ (.ref a)) (.cons rfl .nil) hS
  refine codeAny_mono R ?_
  intro r s' h
  cases r with
  | error e => exact h.elim
  | ok fl =>
    cases fl with
    | next => exact h.elim
    | brk => exact h.elim
    | cont => exact h.elim
    | ret u =>
      obtain ⟨v, H', os, bare, un, hok', rv, q⟩ := h
      cases (show v = .bl true from q)
      cases (show u = Value.bool true from rv)
      refine ⟨rfl, OldK.of_keep ?_, os, bare⟩
      intro b o e
      cases q : H b with
      | none => exact un.keep b o e q (fun z => none0 b z) (none0 b)
      | some u =>
        rcases hO b with z | ⟨ob, xs, z⟩
        · rw [q] at z
          cases z
        · have e1 := (hok b _ z).1
          have e2 := (hok' b _ (un.frzs b ob _ z)).1
          rw [e] at e1
          cases e1
          exact e2
theorem end_call (KX : K.In s₁.heap) (hns : s₁.heap.Ns mainGlobals mg) (hb : s₁.heap.Ns builtinsNs mb) (hbb : ∀ x : Str, x ≠ "__name__" → mb x = bootBuiltins x) (hlim : s₁.heap.NoLimit) (hg : s₁.gens = #[])
    (ha : s₁.heap.get? a = some { cls := .type "list", data := .seq vs.toArray }) (hi : IntsAre vs ns) (hl : ns.length ≤ sizeLine) (hr : Room k callerA)
    (F : ∀ base : Heap, K.In base → base.Ns mainGlobals mg → FnG P w K mg base k fa fd [x] sp) (hbind : ∀ (s : Shared) (u : Value), BindsTo s fd ⟨[u], []⟩ [(x, u)])
    (hsp : ∀ H : Hp, L2.Only H → SqL K H a (ns.map V.int) → sp [.ref a] H (fun v _ => v = .bl true) fun _ _ _ => False) :
    codeAny (model P w) callerA (.call (.ref fa) ⟨[.ref a], []⟩) (fun r s' => r = .ok (.ret (.bool true)) ∧ OldK s₁.heap s'.heap ∧ s'.os = s₁.os ∧ AllBare s'.gens) s₁ := by
  have rv := vals_ints hi
  have lenV := hi.length
  cases hk : K.lookup a with
  | some o =>
    have e := KX a o hk
    rw [ha] at e
    cases e
    have hO : L2.Only fun _ => none := fun _ => .inl rfl
    have hS : SqL K (fun _ => none) a (ns.map V.int) := .inr ⟨_, vs.toArray, _, hk, rfl, rfl, rfl, by rw [List.size_toArray, lenV]; exact hl, by simpa using rv⟩
    refine end_core (fun _ => none) KX hns hb hbb hlim hg ha hr F hbind hO (hsp _ hO hS) ?_ (fun b z => absurd rfl z) (fun z => absurd rfl z)
    intro b u z
    cases (show (none : Option HO) = some u from z)
  | none =>
    have at1 : ∀ b, b = a → (fun b => if b = a then some (HO.frz { cls := .type "list", data := .seq vs.toArray } (.lst (ns.map V.int))) else none) b = some (HO.frz { cls := .type "list", data := .seq vs.toArray } (.lst (ns.map V.int))) := fun b e => if_pos e
    have at0 : ∀ b, b ≠ a → (fun b => if b = a then some (HO.frz { cls := .type "list", data := .seq vs.toArray } (.lst (ns.map V.int))) else none) b = none := fun b e => if_neg e
    generalize hH : (fun b => if b = a then some (HO.frz { cls := .type "list", data := .seq vs.toArray } (.lst (ns.map V.int))) else none : Hp) = H at at1 at0
    have hO : L2.Only H := fun b => by
      by_cases e : b = a
      · exact .inr ⟨_, _, at1 b e⟩
      · exact .inl (at0 b e)
    refine end_core H KX hns hb hbb hlim hg ha hr F hbind hO (hsp H hO (.inl (.inr ⟨_, at1 a rfl⟩))) ?_ ?_ fun _ => hk
    · intro b u z
      by_cases e : b = a
      · rw [at1 b e] at z
        cases z
        subst e
        refine ⟨ha, ?_, vs, _, rv, ha⟩
        rw [List.length_map]
        exact hl
      · rw [at0 b e] at z
        cases z
    · intro b z
      by_cases e : b = a
      · exact e
      · exact absurd (at0 b e) z
end
/-- the goal that the head leaves, from the law's meaning: it is True of every script -/
theorem walkG {l : PySem.W.OpenLaw} {n k : Nat} {q : Program} {loose : List Str} {XP : (Str → Option Value) → Heap → Prop} {YP : World → Heap → Prop} {d : DefRec} {K : Params → PySem.W.Frag} {x : Str} {G : FN}
    (hn : l.most = some n) (hn2 : n ≤ sizeLine) (hdf : d.params.defaults = []) (hr : Room k callerA) (hY : ∀ (w : World) (h : Heap), YP w h → (K w.params).In h)
    (F : ∀ (w : World) (mg : Str → Option Value) (fa : Addr) (h : Heap), (K w.params).In h → h.Ns mainGlobals mg → mg d.name = some (.ref fa) →
      ∃ fd : FuncData, (∀ (s : Shared) (u : Value), BindsTo s fd ⟨[u], []⟩ [(x, u)]) ∧
        ∀ base : Heap, (K w.params).In base → base.Ns mainGlobals mg → FnG l.prog w (K w.params) mg base k fa fd [x] (spF (K w.params) 1 G))
    (hG : ∀ ns : List Int, ns.length ≤ n → ∃ cs, G [.z ns] = some (.d (.bool true), cs)) :
    PySem.W.WalkO q loose XP YP l.row.toRowW d [] (fun f vs => PySem.call f vs) := by
  refine Att.attach_call hn hdf fun w s₀ s₁ mg mb fa o pm cd doc a vs ns G' Y ho hd hcd hmg hobj hints hlen hg => ?_
  have KX := hY w _ Y
  obtain ⟨fd, hb, hF⟩ := F w mg fa _ KX G'.T.g hmg
  refine end_call KX G'.T.g G'.T.b G'.T.builtins G'.T.nolimit hg hobj hints (Nat.le_trans hlen hn2) hr hF hb ?_
  intro H hO hS
  obtain ⟨cs, hcs⟩ := hG ns hlen
  have he : hid [] [none] H = H := by
    funext b
    unfold hid
    rw [if_neg]
    rintro (z | z)
    · cases z
    · cases List.mem_singleton.mp z
  refine ⟨[], [none], [.z ns], _, cs, ⟨rfl, rfl, ?_, ?_, ?_, ?_, ?_, ?_⟩, rfl, hcs, ?_⟩
  · intro i s hi
    cases i with
    | zero =>
      cases (show some (some (S.z ns)) = some (some s) from hi)
      exact ⟨.ref a, rfl, a, rfl, by rw [he]; exact hS⟩
    | succ i => cases (show (none : Option (Option S)) = some (some s) from hi)
  · intro i c hi
    cases i with
    | zero => cases (show some (some (S.z ns)) = some (some (S.o c)) from hi)
    | succ i => cases (show (none : Option (Option S)) = some (some (S.o c)) from hi)
  · intro i b hi
    cases i with
    | zero => cases (show some (none : Option Addr) = some (some b) from hi)
    | succ i => cases (show (none : Option (Option Addr)) = some (some b) from hi)
  · intro i j b hi
    cases i with
    | zero => cases (show some (none : Option Addr) = some (some b) from hi)
    | succ i => cases (show (none : Option (Option Addr)) = some (some b) from hi)
  · intro i b hi
    cases i with
    | zero => cases (show some (none : Option Addr) = some (some b) from hi)
    | succ i => cases (show (none : Option (Option Addr)) = some (some b) from hi)
  · intro b hb
    cases hb
  · intro v H' _ _ hv
    cases (show Dq _ _ v (.bool true) from hv)
    rfl
end DL

namespace DL
open PySem PySem.Spec PyProof.Rows L2

/-! ### operations by data -/
def asI : S → Option Int
  | .d (.int i) => some i
  | _ => none
def asL : S → Option (List PyData)
  | .d (.list xs) => some xs
  | .o (.l xs) => some xs
  | _ => none
def asT : S → Option (List PyData)
  | .d (.tuple xs) => some xs
  | _ => none
def asD : S → Option PyData
  | .d x => some x
  | .o (.l xs) => some (.list xs)
  | _ => none
def asB : S → Option Bool
  | .d (.bool b) => some b
  | _ => none
section
variable {K : PySem.W.Frag} {T : List Addr} {ρ : List (Option Addr)} {H : Hp} {v : V} {s : S}
theorem at_I {i : Int} (h : At K T ρ H v s) (e : asI s = some i) : v = .int i := by
  unfold asI at e
  split at e
  · cases e
    cases (show Dq K _ v (.int i) from h)
    rfl
  · cases e
theorem at_B {b : Bool} (h : At K T ρ H v s) (e : asB s = some b) : v = .bl b := by
  unfold asB at e
  split at e
  · cases e
    cases (show Dq K _ v (.bool b) from h)
    rfl
  · cases e
theorem at_L {xs : List PyData} (h : At K T ρ H v s) (e : asL s = some xs) : ∃ a vs, v = .ref a ∧ H a = some (.lst vs) ∧ DqAll K (hid T ρ H) vs xs := by
  unfold asL at e
  split at e
  · cases e
    cases (show Dq K (hid T ρ H) v (.list xs) from h) with
    | lst h1 h2 => exact ⟨_, _, rfl, hid_same _ _ h1, h2⟩
  · cases e
    obtain ⟨a, o, rfl, h1, vs, rfl, h2⟩ := h
    exact ⟨a, vs, rfl, h1, h2⟩
  · cases e
theorem at_T {xs : List PyData} (h : At K T ρ H v s) (e : asT s = some xs) : ∃ a vs, v = .ref a ∧ hid T ρ H a = some (.tup vs) ∧ DqAll K (hid T ρ H) vs xs := by
  unfold asT at e
  split at e
  · cases e
    cases (show Dq K (hid T ρ H) v (.tuple xs) from h) with
    | tup h1 h2 => exact ⟨_, _, rfl, h1, h2⟩
  · cases e
theorem at_D {x : PyData} (h : At K T ρ H v s) (e : asD s = some x) (cl : x.canLay0 = true) : L2.Dp K H v x := by
  unfold asD at e
  split at e
  · cases e
    exact dq_dp x cl (dpM hid_same _ h)
  · cases e
    obtain ⟨a, o, rfl, h1, vs, rfl, h2⟩ := h
    exact .lst (SqL.of h1) (dq_dpA _ cl (dpAllM hid_same _ h2))
  · cases e
end
theorem opr_or {X : Cx} {f : Value → Value → Sem Value} {r r' : R2} (h : OpR X f r) (h' : OpR X f r') : OpR X f (fun x y H Q => r x y H Q ∨ r' x y H Q) := fun pins s σ H x y v u Q I rx ry hh =>
  hh.elim (h pins s σ H x y v u Q I rx ry) (h' pins s σ H x y v u Q I rx ry)
theorem callr_or {X : Cx} {f : Value} {r r' : List V → Hp → VK → Prop} (h : CallR X f r) (h' : CallR X f r') : CallR X f (fun vs H Q => r vs H Q ∨ r' vs H Q) := fun pins s σ H xs us Q I rv hh =>
  hh.elim (h pins s σ H xs us Q I rv) (h' pins s σ H xs us Q I rv)
theorem postO_same {K : PySem.W.Frag} {T : List Addr} {ρ : List (Option Addr)} {H : Hp} {Q : VK} {x : PyData} {v : V} (h : PostO K T ρ H Q (.d x)) (hv : Dq K (hid T ρ H) v x) : Q v H := h v H (Same.refl _) hv
theorem postO_tup {K : PySem.W.Frag} {T : List Addr} {ρ : List (Option Addr)} {H : Hp} {Q : VK} {xs : List PyData} {vs : List V} (k : Trk T ρ H) (h : PostO K T ρ H Q (.d (.tuple xs))) (hv : DqAll K (hid T ρ H) vs xs) {p : Addr} (hp : H p = none) : Q (.ref p) (upd H p (.tup vs)) :=
  h _ _ (same_new hp) (Dq.tup (k.hidNew hp) (dpAllM (hid_mono (same_new hp)) _ hv))

/-! ints -/
def opI2 (f : Int → Int → Option Int) (a b : S) : Option S := (asI a).bind fun i => (asI b).bind fun j => (f i j).map fun z => .d (.int z)
theorem od_I {K : PySem.W.Frag} {C : Int → Int → Prop} {g : Int → Int → Int} {f : Int → Int → Option Int} (h : ∀ i j z, f i j = some z → C i j ∧ g i j = z) : OpD K (rI C fun i j => .int (g i j)) (opI2 f) := fun T ρ H x y a b s Q k ha hb hg hq => by
  unfold opI2 at hg
  cases e1 : asI a with
  | none => rw [e1] at hg; cases hg
  | some i =>
    rw [e1] at hg
    simp only [Option.bind_some] at hg
    cases e2 : asI b with
    | none => rw [e2] at hg; cases hg
    | some j =>
      rw [e2] at hg
      simp only [Option.bind_some] at hg
      cases e3 : f i j with
      | none => rw [e3] at hg; cases hg
      | some z =>
        rw [e3] at hg
        cases hg
        obtain ⟨c, ez⟩ := h i j z e3
        subst ez
        exact ⟨i, j, at_I ha e1, at_I hb e2, c, postO_same hq (.int _)⟩
def iSub (i j : Int) : Option Int := some (i - j)
def iMul (i j : Int) : Option Int := if i.natAbs.log2 + j.natAbs.log2 < 1000000 then some (i * j) else none
def iDiv (i j : Int) : Option Int := if 0 < j ∧ j.natAbs.log2 < 9000 then some (i / j) else none
def iMod (i j : Int) : Option Int := if 0 < j then some (i % j) else none
def iPow (i j : Int) : Option Int := if 0 ≤ j ∧ (Builtin.Int.intBits i : Int) * j ≤ 2 ^ 27 then some (i ^ j.toNat) else none
section
variable {X : Cx} {a b : Expr} {pos : Pos} {fa fb : PEV}
theorem or_powW : OpR X (binaryOp .Pow) (rI (fun i j => 0 ≤ j ∧ (Builtin.Int.intBits i : Int) * j ≤ 2 ^ 27) fun i j => .int (i ^ j.toNat)) := opI fun _ _ _ _ _ _ _ hc q => pow_int hc.1 hc.2 q
theorem or_sub : OpR X (binaryOp .Sub) (rI (fun _ _ => True) fun i j => .int (i - j)) := opI fun _ _ _ _ _ _ _ _ q => sub_int q
theorem or_add : OpR X (binaryOp .Add) (rI (fun _ _ => True) fun i j => .int (i + j)) := opI fun _ _ _ _ _ _ _ _ q => add_int q
theorem de_sub (ha : DP X a fa) (hb : DP X b fb) : DE X (.BinOp a .Sub b pos) (bin (opI2 iSub) fa fb) := de_op or_sub (od_I fun i j z h => ⟨trivial, Option.some.inj h⟩) ha hb
theorem de_div (ha : DP X a fa) (hb : DP X b fb) : DE X (.BinOp a .FloorDiv b pos) (bin (opI2 iDiv) fa fb) := de_op op_fdivW (od_I fun i j z h => by
  unfold iDiv at h
  split at h
  · rename_i hc
    exact ⟨hc, Option.some.inj h⟩
  · cases h) ha hb
theorem de_mod (ha : DP X a fa) (hb : DP X b fb) : DE X (.BinOp a .Mod b pos) (bin (opI2 iMod) fa fb) := de_op op_mod (od_I fun i j z h => by
  unfold iMod at h
  split at h
  · rename_i hc
    exact ⟨hc, Option.some.inj h⟩
  · cases h) ha hb
theorem de_pow (ha : DP X a fa) (hb : DP X b fb) : DE X (.BinOp a .Pow b pos) (bin (opI2 iPow) fa fb) := de_op or_powW (od_I fun i j z h => by
  unfold iPow at h
  split at h
  · rename_i hc
    exact ⟨hc, Option.some.inj h⟩
  · cases h) ha hb

/-! + -/
def opAdd (a b : S) : Option S := match asI a, asI b with
  | some i, some j => some (.d (.int (i + j)))
  | _, _ => match asL a, asL b with
    | some xs, some ys => if xs.length + ys.length ≤ sizeLine then some (.o (.l (xs ++ ys))) else none
    | _, _ => match asT a, asT b with
      | some xs, some ys => if xs.length + ys.length ≤ sizeLine then some (.d (.tuple (xs ++ ys))) else none
      | _, _ => none
theorem od_add {K : PySem.W.Frag} : OpD K (fun x y H Q => rI (fun _ _ => True) (fun i j => .int (i + j)) x y H Q ∨ (rCat x y H Q ∨ rCatA K x y H Q)) opAdd := fun T ρ H x y a b s Q k ha hb hg hq => by
  unfold opAdd at hg
  split at hg
  · rename_i i j e1 e2
    cases hg
    exact .inl ⟨i, j, at_I ha e1, at_I hb e2, trivial, postO_same hq (.int _)⟩
  · split at hg
    · rename_i xs ys e1 e2
      split at hg
      · rename_i hl
        cases hg
        obtain ⟨p, vs, rfl, h1, h2⟩ := at_L ha e1
        obtain ⟨r, ws, rfl, h3, h4⟩ := at_L hb e2
        refine .inr (.inl ⟨p, r, vs, ws, rfl, rfl, h1, h3, by rw [dpAll_len h2, dpAll_len h4]; exact hl, fun n hn => ?_⟩)
        exact hq n _ hn ⟨_, rfl, dpAll_app h2 h4⟩
      · cases hg
    · split at hg
      · rename_i xs ys e1 e2
        split at hg
        · rename_i hl
          cases hg
          obtain ⟨p, vs, rfl, h1, h2⟩ := at_T ha e1
          obtain ⟨r, ws, rfl, h3, h4⟩ := at_T hb e2
          have l1 := dpAll_len h2
          have l2 := dpAll_len h4
          refine .inr (.inr ⟨p, r, vs, ws, rfl, rfl, SqT.of (hid_same _ _ h1), SqT.of (hid_same _ _ h3), by rw [l1, l2]; exact hl, fun e => ?_, fun _ e => ?_, fun _ _ n hn => ?_⟩)
          · subst e
            have : xs = [] := List.length_eq_zero_iff.mp l1.symm
            subst this
            exact postO_same hq (.tup h3 h4)
          · subst e
            have : ys = [] := List.length_eq_zero_iff.mp l2.symm
            subst this
            rw [List.append_nil] at hq
            exact postO_same hq (.tup h1 h2)
          · exact postO_tup k hq (dpAll_app h2 h4) hn
        · cases hg
      · cases hg
theorem de_add (ha : DP X a fa) (hb : DP X b fb) : DE X (.BinOp a .Add b pos) (bin opAdd fa fb) := de_op (opr_or or_add (opr_or op_cat op_catA)) od_add ha hb
/-! * -/
def opMul (a b : S) : Option S := match asI b with
  | some j => match asI a with
    | some i => (iMul i j).map fun z => .d (.int z)
    | none => match asL a with
      | some xs => if -(2 ^ 63) ≤ j ∧ j < 2 ^ 63 ∧ xs.length * j.toNat ≤ sizeLine then some (.o (.l (List.replicate j.toNat xs).flatten)) else none
      | none => none
  | none => none
theorem od_mul {K : PySem.W.Frag} : OpD K (fun x y H Q => rI CMulW (fun i j => .int (i * j)) x y H Q ∨ rRep x y H Q) opMul := fun T ρ H x y a b s Q k ha hb hg hq => by
  unfold opMul at hg
  split at hg
  · rename_i j e2
    split at hg
    · rename_i i e1
      unfold iMul at hg
      split at hg
      · rename_i hc
        cases hg
        exact .inl ⟨i, j, at_I ha e1, at_I hb e2, hc, postO_same hq (.int _)⟩
      · cases hg
    · split at hg
      · rename_i xs e1
        split at hg
        · rename_i hc
          cases hg
          obtain ⟨p, vs, rfl, h1, h2⟩ := at_L ha e1
          refine .inr ⟨p, j, vs, rfl, at_I hb e2, h1, hc.1, hc.2.1, by rw [dpAll_len h2]; exact hc.2.2, fun n hn => ?_⟩
          exact hq n _ hn ⟨_, rfl, dpAll_rep h2 _⟩
        · cases hg
      · cases hg
  · cases hg
theorem de_mul (ha : DP X a fa) (hb : DP X b fb) : DE X (.BinOp a .Mult b pos) (bin opMul fa fb) := de_op (opr_or op_mulW op_rep) od_mul ha hb
/-! - a -/
def unI (f : PEV) (g : Int → Int) : EV := fun δ => (f δ).bind fun x => (res x.2 x.1).bind fun s => (asI s).map fun i => (.d (.int (g i)), x.2)
theorem de_neg (ha : DP X a fa) : DE X (.UnaryOp .USub a pos) (unI fa fun i => -i) := pe_imp (pe_un un_neg ha) fun σ H Q ⟨T, ρ, δ, s, δ', hs, hf, hq⟩ => by
  unfold unI at hf
  cases e1 : fa δ with
  | none => rw [e1] at hf; cases hf
  | some x =>
    rw [e1] at hf
    simp only [Option.bind_some] at hf
    cases e2 : res x.2 x.1 with
    | none => rw [e2] at hf; cases hf
    | some u =>
      rw [e2] at hf
      simp only [Option.bind_some] at hf
      cases e3 : asI u with
      | none => rw [e3] at hf; cases hf
      | some i =>
        rw [e3] at hf
        cases hf
        refine ⟨T, ρ, δ, x.1, x.2, hs, by rw [e1], fun ρ1 v H1 s1 x1 p1 => ?_⟩
        exact ⟨i, at_I (pat_at s1 .refl p1 e2) e3, hq ρ1 _ H1 s1 x1 (.int _)⟩

/-! comparisons -/
def cmpI (p : Int → Int → Bool) (a b : S) : Option S := (asI a).bind fun i => (asI b).map fun j => .d (.bool (p i j))
def rCmp (p : Int → Int → Bool) : R2 := fun x y H Q => ∃ i j, x = .int i ∧ y = .int j ∧ Q (.bl (p i j)) H
theorem od_cmp {K : PySem.W.Frag} {p : Int → Int → Bool} : OpD K (rCmp p) (cmpI p) := fun T ρ H x y a b s Q k ha hb hg hq => by
  unfold cmpI at hg
  cases e1 : asI a with
  | none => rw [e1] at hg; cases hg
  | some i =>
    rw [e1] at hg
    simp only [Option.bind_some] at hg
    cases e2 : asI b with
    | none => rw [e2] at hg; cases hg
    | some j =>
      rw [e2] at hg
      cases hg
      exact ⟨i, j, at_I ha e1, at_I hb e2, postO_same hq (.bl _)⟩
theorem or_cmp {op : CmpOp} {p : Int → Int → Bool} (rule : ∀ (i j : Int) (t u : Tok) (Q : Value → Shared → Prop) (s : Shared), Q (.bool (p i j)) s → wpAny (model X.prog X.w) X.A (compareOp op (.int i t) (.int j u)) Q X.xe s) : OpR X (compareOp op) (rCmp p) := fun pins s σ H x y v u Q I rx ry h => by
  obtain ⟨i, j, rfl, rfl, q⟩ := h
  obtain ⟨t, rfl⟩ := rx
  obtain ⟨t', rfl⟩ := ry
  exact rule i j t t' _ s ⟨.bl _, H, I, rfl, q⟩
abbrev pLt (i j : Int) : Bool := decide (i < j)
abbrev pLe (i j : Int) : Bool := decide (i ≤ j)
abbrev pGt (i j : Int) : Bool := decide (j < i)
abbrev pGe (i j : Int) : Bool := decide (j ≤ i)
theorem or_lt : OpR X (compareOp .Lt) (rCmp pLt) := or_cmp fun _ _ _ _ _ _ h => lt_int h
theorem or_le : OpR X (compareOp .LtE) (rCmp pLe) := or_cmp fun _ _ _ _ _ _ h => le_int h
theorem or_gt : OpR X (compareOp .Gt) (rCmp pGt) := or_cmp fun _ _ _ _ _ _ h => gt_int h
theorem or_ge : OpR X (compareOp .GtE) (rCmp pGe) := or_cmp fun _ _ _ _ _ _ h => ge_int h
/-- == at any depth -/
def opEq (a b : S) : Option S := match a, b with
  | .d (.str x), .d (.str y) => some (.d (.bool (decide (x = y))))
  | _, _ => (asD a).bind fun x => (asD b).bind fun y => if SeqAt.shaped x && SeqAt.shaped y then some (.d (.bool (PyData.eqv x y))) else none
def opNe (a b : S) : Option S := match a, b with
  | .d (.str x), .d (.str y) => some (.d (.bool (!decide (x = y))))
  | _, _ => (asD a).bind fun x => (asD b).bind fun y => if SeqAt.shaped x && SeqAt.shaped y then some (.d (.bool (!PyData.eqv x y))) else none
theorem str_dec (x y : Str) : decide (V.str x = V.str y) = decide (x = y) := by
  by_cases h : x = y
  · rw [decide_eq_true h, decide_eq_true (by rw [h])]
  · rw [decide_eq_false h, decide_eq_false fun z => h (V.str.inj z)]
theorem od_eq {K : PySem.W.Frag} : OpD K (fun x y H Q => L2.rEq x y H Q ∨ rEqD K x y H Q) opEq := fun T ρ H x y a b s Q k ha hb hg hq => by
  unfold opEq at hg
  split at hg
  · rename_i u w
    cases hg
    cases (show Dq K _ x (.str u) from ha)
    cases (show Dq K _ y (.str w) from hb)
    refine .inl ⟨rfl, ?_⟩
    rw [str_dec]
    exact postO_same hq (.bl _)
  · cases e1 : asD a with
    | none => rw [e1] at hg; cases hg
    | some d =>
      rw [e1] at hg
      simp only [Option.bind_some] at hg
      cases e2 : asD b with
      | none => rw [e2] at hg; cases hg
      | some e =>
        rw [e2] at hg
        simp only [Option.bind_some] at hg
        split at hg
        · rename_i hc
          cases hg
          rw [Bool.and_eq_true] at hc
          exact .inr ⟨d, e, at_D ha e1 (SeqAt.canLay_of_shaped hc.1), at_D hb e2 (SeqAt.canLay_of_shaped hc.2), hc.1, hc.2, postO_same hq (.bl _)⟩
        · cases hg
theorem od_ne {K : PySem.W.Frag} : OpD K (fun x y H Q => L2.rNe x y H Q ∨ rNeD K x y H Q) opNe := fun T ρ H x y a b s Q k ha hb hg hq => by
  unfold opNe at hg
  split at hg
  · rename_i u w
    cases hg
    cases (show Dq K _ x (.str u) from ha)
    cases (show Dq K _ y (.str w) from hb)
    refine .inl ⟨rfl, ?_⟩
    rw [str_dec]
    exact postO_same hq (.bl _)
  · cases e1 : asD a with
    | none => rw [e1] at hg; cases hg
    | some d =>
      rw [e1] at hg
      simp only [Option.bind_some] at hg
      cases e2 : asD b with
      | none => rw [e2] at hg; cases hg
      | some e =>
        rw [e2] at hg
        simp only [Option.bind_some] at hg
        split at hg
        · rename_i hc
          cases hg
          rw [Bool.and_eq_true] at hc
          exact .inr ⟨d, e, at_D ha e1 (SeqAt.canLay_of_shaped hc.1), at_D hb e2 (SeqAt.canLay_of_shaped hc.2), hc.1, hc.2, postO_same hq (.bl _)⟩
        · cases hg
/-- in, at any depth -/
def rInS (K : PySem.W.Frag) (neg : Bool) : R2 := fun x y H Q => ∃ d ds, L2.Dp K H x d ∧ (L2.Dp K H y (.list ds) ∨ L2.Dp K H y (.tuple ds)) ∧ SeqAt.shaped d = true ∧ PyData.canLayAll0 ds = true ∧ Q (.bl (neg ^^ ds.any fun z => PyData.eqv z d)) H
def asS (s : S) : Option (List PyData) := match asL s with
  | some xs => some xs
  | none => asT s
def opIn (neg : Bool) (a b : S) : Option S := (asD a).bind fun x => (asS b).bind fun ys => if SeqAt.shaped x && PyData.canLayAll0 ys then some (.d (.bool (neg ^^ ys.any fun z => PyData.eqv z x))) else none
theorem room_in {A : Around} {xs : List PyData} {d : PyData} (h : SeqAt.shaped d = true) (hu : A.units + 65 < cLine) : A.units + 1 + min (PyData.depthAll xs) d.depth < cLine := by
  have h1 := SeqAt.depth_of_shaped h
  have h2 : min (PyData.depthAll xs) d.depth ≤ d.depth := Nat.min_le_right _ _
  omega
theorem or_in (hu : X.A.units + 65 < cLine) : OpR X (compareOp .In) (rInS X.K false) := by
  intro pins s σ H x y v u Q I rx ry h
  obtain ⟨d, ds, hd, he, sd, se, q⟩ := h
  rw [Bool.false_xor] at q
  obtain ⟨as, r1⟩ := L2.Dp.reads I d x v hd rx
  rcases he with he | he
  · obtain ⟨bs, r2⟩ := L2.Dp.reads I _ y u he ry
    exact SeqAt.in_list_reads r2 r1 se (SeqAt.canLay_of_shaped sd) (room_in sd hu) ⟨.bl _, H, I, rfl, q⟩
  · obtain ⟨bs, r2⟩ := L2.Dp.reads I _ y u he ry
    exact SeqAt.in_tuple_reads r2 r1 se (SeqAt.canLay_of_shaped sd) (room_in sd hu) ⟨.bl _, H, I, rfl, q⟩
theorem or_notIn (hu : X.A.units + 65 < cLine) : OpR X (compareOp .NotIn) (rInS X.K true) := by
  intro pins s σ H x y v u Q I rx ry h
  obtain ⟨d, ds, hd, he, sd, se, q⟩ := h
  rw [Bool.true_xor] at q
  obtain ⟨as, r1⟩ := L2.Dp.reads I d x v hd rx
  rcases he with he | he
  · obtain ⟨bs, r2⟩ := L2.Dp.reads I _ y u he ry
    exact SeqAt.notIn_list_reads r2 r1 se (SeqAt.canLay_of_shaped sd) (room_in sd hu) ⟨.bl _, H, I, rfl, q⟩
  · obtain ⟨bs, r2⟩ := L2.Dp.reads I _ y u he ry
    exact SeqAt.notIn_tuple_reads r2 r1 se (SeqAt.canLay_of_shaped sd) (room_in sd hu) ⟨.bl _, H, I, rfl, q⟩
theorem at_S {K : PySem.W.Frag} {T : List Addr} {ρ : List (Option Addr)} {H : Hp} {v : V} {s : S} {ys : List PyData} (h : At K T ρ H v s) (e : asS s = some ys) (cl : PyData.canLayAll0 ys = true) : L2.Dp K H v (.list ys) ∨ L2.Dp K H v (.tuple ys) := by
  unfold asS at e
  split at e
  · rename_i xs e1
    cases e
    obtain ⟨a, vs, rfl, h1, h2⟩ := at_L h e1
    exact .inl (.lst (SqL.of h1) (dq_dpA _ cl (dpAllM hid_same _ h2)))
  · obtain ⟨a, vs, rfl, h1, h2⟩ := at_T h e
    exact .inr (.tup (SqT.of (hid_same _ _ h1)) (dq_dpA _ cl (dpAllM hid_same _ h2)))
theorem od_in {K : PySem.W.Frag} {neg : Bool} : OpD K (rInS K neg) (opIn neg) := fun T ρ H x y a b s Q k ha hb hg hq => by
  unfold opIn at hg
  cases e1 : asD a with
  | none => rw [e1] at hg; cases hg
  | some d =>
    rw [e1] at hg
    simp only [Option.bind_some] at hg
    cases e2 : asS b with
    | none => rw [e2] at hg; cases hg
    | some e =>
      rw [e2] at hg
      simp only [Option.bind_some] at hg
      split at hg
      · rename_i hc
        cases hg
        rw [Bool.and_eq_true] at hc
        exact ⟨d, e, at_D ha e1 (SeqAt.canLay_of_shaped hc.1), at_S hb e2 hc.2, hc.1, hc.2, postO_same hq (.bl _)⟩
      · cases hg

/-! ### subscripts -/
def opIx (a b : S) : Option S := (asI b).bind fun i => match a with
  | .z ns => (atI ns i).map fun n => .d (.int n)
  | _ => (asS a).bind fun xs => (atI xs i).map fun x => .d x
theorem atI_get {α : Type} {xs : List α} {i : Int} {x : α} (h : atI xs i = some x) : ∃ j, ixN xs.length i = some j ∧ xs[j]? = some x := by
  unfold atI at h
  cases e : ixN xs.length i with
  | none => rw [e] at h; cases h
  | some j => rw [e] at h; exact ⟨j, rfl, h⟩
theorem atI_of {α : Type} {xs : List α} {i : Int} {x : α} {j : Nat} (h : ixN xs.length i = some j) (e : xs[j]? = some x) : atI xs i = some x := by
  unfold atI
  rw [h]
  exact e
theorem od_ix {K : PySem.W.Frag} : OpD K (fun x y H Q => rIxL K x y H Q ∨ rIxT K x y H Q) opIx := fun T ρ H x y a b s Q k ha hb hg hq => by
  unfold opIx at hg
  cases e1 : asI b with
  | none => rw [e1] at hg; cases hg
  | some i =>
    rw [e1] at hg
    simp only [Option.bind_some] at hg
    have hy := at_I hb e1
    split at hg
    · rename_i ns
      obtain ⟨p, rfl, hp⟩ := ha
      cases e2 : atI ns i with
      | none => rw [e2] at hg; cases hg
      | some n =>
        rw [e2] at hg
        cases hg
        obtain ⟨j, g1, g2⟩ := atI_get e2
        refine .inl ⟨p, _, i, .int n, rfl, hy, hid_same.seq hp, atI_of (j := j) (by rw [List.length_map]; exact g1) (by rw [List.getElem?_map, g2]; rfl), postO_same hq (.int n)⟩
    · cases e2 : asS a with
      | none => rw [e2] at hg; cases hg
      | some xs =>
        rw [e2] at hg
        simp only [Option.bind_some] at hg
        cases e3 : atI xs i with
        | none => rw [e3] at hg; cases hg
        | some d =>
          rw [e3] at hg
          cases hg
          obtain ⟨j, g1, g2⟩ := atI_get e3
          unfold asS at e2
          split at e2
          · rename_i ys el
            cases e2
            obtain ⟨p, vs, rfl, h1, h2⟩ := at_L ha el
            obtain ⟨v, f1, f2⟩ := dpAll_get h2 g2
            exact .inl ⟨p, vs, i, v, rfl, hy, SqL.of h1, atI_of (j := j) (by rw [dpAll_len h2]; exact g1) f1, postO_same hq f2⟩
          · obtain ⟨p, vs, rfl, h1, h2⟩ := at_T ha e2
            obtain ⟨v, f1, f2⟩ := dpAll_get h2 g2
            exact .inr ⟨p, vs, i, v, rfl, hy, SqT.of (hid_same _ _ h1), atI_of (j := j) (by rw [dpAll_len h2]; exact g1) f1, postO_same hq f2⟩
theorem de_item (ha : DP X a fa) (hb : DP X b fb) (hs : PlainIx b) : DE X (.Subscript a b pos) (bin opIx fa fb) := de_ix (ix_list.or ix_tup) od_ix ha hb hs
end
end DL

namespace DL
open PySem PySem.Spec PyProof.Rows L2

section
variable {K : PySem.W.Frag}
/-! ### built-in functions by data -/
def fLen : List S → Option S
  | [.z ns] => some (.d (.int ns.length))
  | [s] => (asS s).map fun xs => .d (.int xs.length)
  | _ => none
theorem paired1 {α β : Type} {R : α → β → Prop} {xs : List α} {y : β} (h : Paired R xs [y]) : ∃ x, xs = [x] ∧ R x y := by
  cases h with
  | cons a b =>
    cases b
    exact ⟨_, rfl, a⟩
theorem paired2 {α β : Type} {R : α → β → Prop} {xs : List α} {y z : β} (h : Paired R xs [y, z]) : ∃ x w, xs = [x, w] ∧ R x y ∧ R w z := by
  cases h with
  | cons a b =>
    cases b with
    | cons b c =>
      cases c
      exact ⟨_, _, rfl, a, b⟩
theorem at_seq {T : List Addr} {ρ : List (Option Addr)} {H : Hp} {v : V} {s : S} {ys : List PyData} (h : At K T ρ H v s) (e : asS s = some ys) : ∃ a vs, v = .ref a ∧ (SqL K H a vs ∨ SqT K H a vs) ∧ DqAll K (hid T ρ H) vs ys := by
  unfold asS at e
  split at e
  · rename_i xs e1
    cases e
    obtain ⟨a, vs, rfl, h1, h2⟩ := at_L h e1
    exact ⟨a, vs, rfl, .inl (SqL.of h1), h2⟩
  · obtain ⟨a, vs, rfl, h1, h2⟩ := at_T h e
    exact ⟨a, vs, rfl, .inr (SqT.of (hid_same _ _ h1)), h2⟩
theorem cd_len : CallD K (fun xs H Q => ∃ p ys, xs = [.ref p] ∧ (SqL K H p ys ∨ SqT K H p ys) ∧ Q (.int ys.length) H) fLen := fun T ρ H vs ss s Q k hp hg hq => by
  unfold fLen at hg
  split at hg
  · rename_i ns
    cases hg
    obtain ⟨v, rfl, a, rfl, h⟩ := paired1 hp
    refine ⟨a, _, rfl, .inl (hid_same.seq h), ?_⟩
    rw [List.length_map]
    exact postO_same hq (.int _)
  · obtain ⟨v, rfl, h⟩ := paired1 hp
    rename_i u _
    cases e : asS u with
    | none => rw [e] at hg; cases hg
    | some xs =>
      rw [e] at hg
      cases hg
      obtain ⟨a, ws, rfl, h1, h2⟩ := at_seq h e
      refine ⟨a, ws, rfl, h1, ?_⟩
      rw [dpAll_len h2]
      exact postO_same hq (.int _)
  · cases hg
def fAbs : List S → Option S
  | [s] => (asI s).map fun i => .d (.int (if i < 0 then -i else i))
  | _ => none
theorem cd_abs : CallD K (fun xs H Q => ∃ i, xs = [.int i] ∧ Q (.int (if i < 0 then -i else i)) H) fAbs := fun T ρ H vs ss s Q k hp hg hq => by
  unfold fAbs at hg
  split at hg
  · rename_i u
    obtain ⟨v, rfl, h⟩ := paired1 hp
    cases e : asI u with
    | none => rw [e] at hg; cases hg
    | some i =>
      rw [e] at hg
      cases hg
      exact ⟨i, by rw [at_I h e], postO_same hq (.int _)⟩
  · cases hg
def fInt : List S → Option S
  | [s] => match asI s with
    | some i => some (.d (.int i))
    | none => (asB s).map fun b => .d (.int (if b then 1 else 0))
  | _ => none
theorem cd_int : CallD K (fun xs H Q => (∃ i, xs = [.int i] ∧ Q (.int i) H) ∨ ∃ k, xs = [.bl k] ∧ Q (.int (if k then 1 else 0)) H) fInt := fun T ρ H vs ss s Q k hp hg hq => by
  unfold fInt at hg
  split at hg
  · rename_i u
    obtain ⟨v, rfl, h⟩ := paired1 hp
    split at hg
    · rename_i i e
      cases hg
      exact .inl ⟨i, by rw [at_I h e], postO_same hq (.int _)⟩
    · cases e : asB u with
      | none => rw [e] at hg; cases hg
      | some b =>
        rw [e] at hg
        cases hg
        exact .inr ⟨b, by rw [at_B h e], postO_same hq (.int _)⟩
  · cases hg
def fMax : List S → Option S
  | [s, u] => (asI s).bind fun i => (asI u).map fun j => .d (.int (if j > i then j else i))
  | _ => none
def fMin : List S → Option S
  | [s, u] => (asI s).bind fun i => (asI u).map fun j => .d (.int (if j < i then j else i))
  | _ => none
theorem cd_max : CallD K (fun xs H Q => ∃ i j, xs = [.int i, .int j] ∧ Q (.int (if j > i then j else i)) H) fMax := fun T ρ H vs ss s Q k hp hg hq => by
  unfold fMax at hg
  split at hg
  · rename_i u w
    obtain ⟨v, v', rfl, h, h'⟩ := paired2 hp
    cases e : asI u with
    | none => rw [e] at hg; cases hg
    | some i =>
      rw [e] at hg
      simp only [Option.bind_some] at hg
      cases e' : asI w with
      | none => rw [e'] at hg; cases hg
      | some j =>
        rw [e'] at hg
        cases hg
        exact ⟨i, j, by rw [at_I h e, at_I h' e'], postO_same hq (.int _)⟩
  · cases hg
theorem cd_min : CallD K (fun xs H Q => ∃ i j, xs = [.int i, .int j] ∧ Q (.int (if j < i then j else i)) H) fMin := fun T ρ H vs ss s Q k hp hg hq => by
  unfold fMin at hg
  split at hg
  · rename_i u w
    obtain ⟨v, v', rfl, h, h'⟩ := paired2 hp
    cases e : asI u with
    | none => rw [e] at hg; cases hg
    | some i =>
      rw [e] at hg
      simp only [Option.bind_some] at hg
      cases e' : asI w with
      | none => rw [e'] at hg; cases hg
      | some j =>
        rw [e'] at hg
        cases hg
        exact ⟨i, j, by rw [at_I h e, at_I h' e'], postO_same hq (.int _)⟩
  · cases hg
def bools : List PyData → Option (List Bool)
  | [] => some []
  | .bool b :: r => (bools r).map (b :: ·)
  | _ => none
theorem bools_V {G : Hp} : ∀ {vs : List V} {xs : List PyData} {bs : List Bool}, DqAll K G vs xs → bools xs = some bs → vs = bs.map V.bl
  | _, [], _, h, e => by cases h; cases e; rfl
  | _, .bool b :: r, bs, h, e => by
    have e' : (bools r).map (b :: ·) = some bs := e
    cases h with
    | cons h1 h2 =>
      cases er : bools r with
      | none => rw [er] at e'; cases e'
      | some cs =>
        rw [er] at e'
        cases e'
        cases h1
        rw [bools_V h2 er]
        rfl
  | _, .none :: r, bs, h, e => by cases e
  | _, .int _ :: r, bs, h, e => by cases e
  | _, .str _ :: r, bs, h, e => by cases e
  | _, .list _ :: r, bs, h, e => by cases e
  | _, .tuple _ :: r, bs, h, e => by cases e
  | _, .dict _ :: r, bs, h, e => by cases e
def fAll : List S → Option S
  | [s] => (asL s).bind fun xs => (bools xs).map fun bs => .d (.bool (bs.all id))
  | _ => none
def fAny : List S → Option S
  | [s] => (asL s).bind fun xs => (bools xs).map fun bs => .d (.bool (bs.any id))
  | _ => none
theorem cd_all : CallD K (rAll K) fAll := fun T ρ H vs ss s Q k hp hg hq => by
  unfold fAll at hg
  split at hg
  · rename_i u
    obtain ⟨v, rfl, h⟩ := paired1 hp
    cases e : asL u with
    | none => rw [e] at hg; cases hg
    | some xs =>
      rw [e] at hg
      simp only [Option.bind_some] at hg
      cases eb : bools xs with
      | none => rw [eb] at hg; cases hg
      | some bs =>
        rw [eb] at hg
        cases hg
        obtain ⟨a, ws, rfl, h1, h2⟩ := at_L h e
        have := bools_V h2 eb
        subst this
        exact ⟨a, bs, rfl, SqL.of h1, postO_same hq (.bl _)⟩
  · cases hg
theorem cd_any : CallD K (rAny K) fAny := fun T ρ H vs ss s Q k hp hg hq => by
  unfold fAny at hg
  split at hg
  · rename_i u
    obtain ⟨v, rfl, h⟩ := paired1 hp
    cases e : asL u with
    | none => rw [e] at hg; cases hg
    | some xs =>
      rw [e] at hg
      simp only [Option.bind_some] at hg
      cases eb : bools xs with
      | none => rw [eb] at hg; cases hg
      | some bs =>
        rw [eb] at hg
        cases hg
        obtain ⟨a, ws, rfl, h1, h2⟩ := at_L h e
        have := bools_V h2 eb
        subst this
        exact ⟨a, bs, rfl, SqL.of h1, postO_same hq (.bl _)⟩
  · cases hg
/-- tuple(x), list(x) -/
def fTuple : List S → Option S
  | [s] => (asS s).map fun xs => .d (.tuple xs)
  | _ => none
theorem cd_tuple : CallD K (fun xs H Q => ∃ p ys, xs = [.ref p] ∧ ((SqL K H p ys ∧ ∀ l, H l = none → Q (.ref l) (upd H l (.tup ys))) ∨ (SqT K H p ys ∧ Q (.ref p) H))) fTuple := fun T ρ H vs ss s Q k hp hg hq => by
  unfold fTuple at hg
  split at hg
  · rename_i u
    obtain ⟨v, rfl, h⟩ := paired1 hp
    cases e : asS u with
    | none => rw [e] at hg; cases hg
    | some xs =>
      rw [e] at hg
      cases hg
      unfold asS at e
      split at e
      · rename_i ys el
        cases e
        obtain ⟨a, ws, rfl, h1, h2⟩ := at_L h el
        exact ⟨a, ws, rfl, .inl ⟨SqL.of h1, fun l hl => postO_tup k hq h2 hl⟩⟩
      · obtain ⟨a, ws, rfl, h1, h2⟩ := at_T h e
        exact ⟨a, ws, rfl, .inr ⟨SqT.of (hid_same _ _ h1), postO_same hq (.tup h1 h2)⟩⟩
  · cases hg
def fList : List S → Option S
  | [s] => (asS s).map fun xs => .o (.l xs)
  | _ => none
theorem cd_list : CallD K (fun xs H Q => ∃ p ys, xs = [.ref p] ∧ (SqL K H p ys ∨ SqT K H p ys) ∧ ∀ l, H l = none → Q (.ref l) (upd H l (.lst ys))) fList := fun T ρ H vs ss s Q k hp hg hq => by
  unfold fList at hg
  split at hg
  · rename_i u
    obtain ⟨v, rfl, h⟩ := paired1 hp
    cases e : asS u with
    | none => rw [e] at hg; cases hg
    | some xs =>
      rw [e] at hg
      cases hg
      obtain ⟨a, ws, rfl, h1, h2⟩ := at_seq h e
      exact ⟨a, ws, rfl, h1, fun l hl => hq l _ hl ⟨_, rfl, h2⟩⟩
  · cases hg
/-! data that is laid out with dicts in it -/
mutual
/-- no list in it -/
def lstFree : PyData → Bool
  | .list _ => false
  | .tuple xs => lstFreeA xs
  | .dict kvs => lstFreeK kvs
  | _ => true
def lstFreeA : List PyData → Bool
  | [] => true
  | x :: xs => lstFree x && lstFreeA xs
def lstFreeK : List (PyData × PyData) → Bool
  | [] => true
  | (_, x) :: xs => lstFree x && lstFreeK xs
end
theorem dict_parts {P : Program} {w : World} {h : Heap} {a : Addr} {ps : List (Key × Value)} (m : h.DictOf (mixKind P w) a ps) : ∃ o es ep, h.get? a = some o ∧ o.cls = .type "dict" ∧ o.data = .dict es ep ∧ Pairs (mixKind P w) es.toList ps := by
  obtain ⟨o, es, ep, h1, x, h2, _, h3, _⟩ := m
  exact ⟨o, es, ep, h1, x.1, h2, h3⟩
mutual
theorem dq_reads {X : Cx} {pins : List (Addr × Obj)} {σ : L2.St} {H : Hp} {s : Shared} (I : Inv X pins σ H s) : ∀ (d : PyData) (v : V) (u : Value), Dq X.K H v d → RelV v u → ∃ as, Reads s.heap u d as ∧ (lstFree d = true → sysModules ∉ as)
  | .none, _, _, h, r => by
    cases h; cases r
    exact ⟨_, Reads.none, fun _ => by simp⟩
  | .bool b, _, _, h, r => by
    cases h; cases r
    exact ⟨_, Reads.bool b, fun _ => by simp⟩
  | .int i, _, _, h, r => by
    cases h
    obtain ⟨t, rfl⟩ := r
    exact ⟨_, Reads.int i t, fun _ => by simp⟩
  | .str x, _, _, h, r => by
    cases h
    obtain ⟨t, rfl⟩ := r
    exact ⟨_, Reads.str x t, fun _ => by simp⟩
  | .list ds, _, _, h, r => by
    cases h with
    | lst hs ha =>
      cases r
      obtain ⟨its, rv, ⟨o, n, ho, hc, _, hd⟩, _⟩ := I.list (SqL.of hs)
      obtain ⟨as, hr, _⟩ := dq_readsA I ds _ its ha rv
      exact ⟨_, Reads.list ho hc hd hr, fun z => by cases z⟩
  | .tuple ds, _, _, h, r => by
    cases h with
    | tup hs ha =>
      cases r
      obtain ⟨its, rv, ⟨o, ho, hc, n, hd⟩, _⟩ := I.tuple (SqT.of hs)
      obtain ⟨as, hr, hn⟩ := dq_readsA I ds _ its ha rv
      exact ⟨_, Reads.tuple ho hc hd hr, hn⟩
  | .dict [], _, _, h, r => by
    cases h with
    | @dctE a hs =>
      cases r
      obtain ⟨_, ya, vs, rk, m⟩ := (show ObjOk X.prog X.w H s.heap a (.dK []) from I.hok a _ hs)
      cases rk
      obtain ⟨o, es, ep, h1, h2, h3, h4⟩ := dict_parts m
      cases he : es.toList with
      | cons e r => rw [he] at h4; cases h4
      | nil =>
        refine ⟨_, Reads.dict (as := []) (bs := []) h1 h2 h3 (by rw [he]; exact .nil) (by rw [he]; exact .nil), fun _ z => ?_⟩
        have hz : sysModules = a := by simpa using z
        rw [hz] at ya
        simp at ya
  | .dict [(k, x)], _, _, h, r => by
    cases h with
    | @dct1 a k v _ hs hx =>
      cases r
      obtain ⟨_, ya, vs, rk, m⟩ := (show ObjOk X.prog X.w H s.heap a (.dK [(.inr k, v)]) from I.hok a _ hs)
      cases rk with
      | @cons p q _ _ r0 rt =>
        cases rt
        obtain ⟨o, es, ep, h1, h2, h3, h4⟩ := dict_parts m
        obtain ⟨q1, q2⟩ := q
        obtain ⟨rk1, rv1⟩ := r0
        cases (show Sum.inr k = q1 from rk1)
        have rv2 : RelV v q2 := rv1
        cases he : es.toList with
        | nil => rw [he] at h4; cases h4
        | cons e r =>
          rw [he] at h4
          cases h4 with
          | cons k1 k2 k3 =>
            cases r with
            | cons _ _ => cases k3
            | nil =>
              have k1' : keyIs (.inr k) e.key = true := k1
              rcases keyIs_shape k1' with ⟨i, t, e2, e1⟩ | ⟨z, t, e2, e1⟩
              · cases e2
              · cases e2
                obtain ⟨as, hr, hn⟩ := dq_reads I x v q2 hx rv2
                refine ⟨_, Reads.dict (as := [] ++ []) (bs := as ++ []) h1 h2 h3 (by rw [he]; show ReadsAll _ [e.key] [PyData.str k] _; rw [e1]; exact .cons (Reads.str k t) .nil) (by rw [he]; show ReadsAll _ [e.val] [x] _; rw [k2]; exact .cons hr .nil), fun l z => ?_⟩
                have hl : lstFree x = true := (Bool.and_eq_true_iff.mp (show (lstFree x && true) = true from l)).1
                have hz : sysModules = a ∨ sysModules ∈ as := by simpa using z
                rcases hz with hz | hz
                · rw [hz] at ya
                  simp at ya
                · exact hn hl hz
  | .dict (_ :: _ :: _), _, _, h, r => by cases h
theorem dq_readsA {X : Cx} {pins : List (Addr × Obj)} {σ : L2.St} {H : Hp} {s : Shared} (I : Inv X pins σ H s) : ∀ (ds : List PyData) (vs : List V) (us : List Value), DqAll X.K H vs ds → Vals vs us → ∃ as, ReadsAll s.heap us ds as ∧ (lstFreeA ds = true → sysModules ∉ as)
  | [], _, _, h, r => by
    cases h; cases r
    exact ⟨_, ReadsAll.nil, fun _ => by simp⟩
  | d :: ds, _, _, h, r => by
    cases h with
    | cons h1 h2 =>
      cases r with
      | cons r1 r2 =>
        obtain ⟨as, q1, n1⟩ := dq_reads I d _ _ h1 r1
        obtain ⟨bs, q2, n2⟩ := dq_readsA I ds _ _ h2 r2
        refine ⟨_, ReadsAll.cons q1 q2, fun l z => ?_⟩
        have l' := Bool.and_eq_true_iff.mp (show (lstFree d && lstFreeA ds) = true from l)
        rcases List.mem_append.mp z with z | z
        · exact n1 l'.1 z
        · exact n2 l'.2 z
end
theorem at_Dq {K : PySem.W.Frag} {T : List Addr} {ρ : List (Option Addr)} {H : Hp} {v : V} {s : S} {x : PyData} (h : At K T ρ H v s) (e : asD s = some x) : Dq K H v x := by
  unfold asD at e
  split at e
  · cases e
    exact dpM hid_same _ h
  · cases e
    obtain ⟨a, o, rfl, h1, vs, rfl, h2⟩ := h
    exact .lst h1 (dpAllM hid_same _ h2)
  · cases e
/-- repr -/
def reprOk (x : PyData) : Bool := x.showable && (!x.hasDict || lstFree x) && decide (x.depth ≤ 60) && decide (x.shown.length ≤ sizeLine)
def fRepr : List S → Option S
  | [s] => (asS s).bind fun _ => (asD s).bind fun x => if reprOk x then some (.d (.str x.shown)) else none
  | _ => none
def rRepr (K : PySem.W.Frag) : List V → Hp → VK → Prop := fun vs H Q => ∃ a x, vs = [.ref a] ∧ Dq K H (.ref a) x ∧ reprOk x = true ∧ Q (.str x.shown) H
theorem cr_repr {X : Cx} (hG : X.A.guards = some []) (hu : X.A.units + 64 < cLine) : CallR X (.builtin "repr") (rRepr X.K) := by
  intro pins s σ H vs us Q I r h
  obtain ⟨a, x, rfl, hx, ok, q⟩ := h
  obtain ⟨u, rfl, hu'⟩ := Vals.one r
  cases hu'
  obtain ⟨as, rd, rn⟩ := dq_reads I x _ _ hx rfl
  unfold reprOk at ok
  simp only [Bool.and_eq_true, Bool.or_eq_true, Bool.not_eq_true', decide_eq_true_eq] at ok
  obtain ⟨⟨⟨o1, o2⟩, o3⟩, o4⟩ := ok
  refine repr_of_reads' rd o1 (fun z => o2.elim (fun q => by rw [q] at z; cases z) rn) hG (by omega) (fun b o e => e) (fun h' t tk hk => ?_) o4
  exact ⟨.str x.shown, H, I.kept hk, ⟨_, rfl⟩, q⟩
theorem cd_repr : CallD K (rRepr K) fRepr := fun T ρ H vs ss s Q k hp hg hq => by
  unfold fRepr at hg
  split at hg
  · rename_i u
    obtain ⟨v, rfl, h⟩ := paired1 hp
    cases e : asS u with
    | none => rw [e] at hg; cases hg
    | some xs =>
      rw [e] at hg
      simp only [Option.bind_some] at hg
      cases ed : asD u with
      | none => rw [ed] at hg; cases hg
      | some x =>
        rw [ed] at hg
        simp only [Option.bind_some] at hg
        split at hg
        · rename_i ok
          cases hg
          obtain ⟨a, ws, rfl, h1, h2⟩ := at_seq h e
          exact ⟨a, x, rfl, at_Dq h ed, ok, postO_same hq (.str _)⟩
        · cases hg
  · cases hg
end
/-! ### tuple(range(n)), list(range(n)) -/
section
variable {X : Cx} {e : Expr} {p pos rp rpos : Pos}
def rgOk (m n : Int) : Prop := -(2 ^ 62) ≤ m ∧ m < 2 ^ 62 ∧ -(2 ^ 62) ≤ n ∧ n < 2 ^ 62 ∧ (n - m).toNat ≤ 2 ^ 24
instance (m n : Int) : Decidable (rgOk m n) := by unfold rgOk; infer_instance
theorem dq_rng {K : PySem.W.Frag} {G : Hp} (m n : Int) : DqAll K G (rgV m n) (rng m (n - m).toNat) := by
  unfold rgV rng
  induction (List.range (n - m).toNat) with
  | nil => exact .nil
  | cons x r ih => exact .cons (.int _) ih
end
end DL

namespace DL
open PySem PySem.Spec PyProof.Rows L2

section
variable {X : Cx} {e : Expr} {p pos rp rpos : Pos}
/-! ### tuple(range(..)), list(range(..)) -/
def rgE1 (mk : List PyData → S) (f : PEV) : EV := fun δ => (f δ).bind fun x => (res x.2 x.1).bind fun s => (asI s).bind fun n => if rgOk 0 n then some (mk (rng 0 (n - 0).toNat), x.2) else none
theorem rg1_ok {f : PEV} {mk : List PyData → S} {Y : Int → Int → Hp → VK → Prop} (hY : ∀ (T : List Addr) (ρ : List (Option Addr)) (H : Hp) (n : Int) (Q : VK), Trk T ρ H → rgOk 0 n → PostO X.K T ρ H Q (mk (rng 0 (n - 0).toNat)) → Y 0 n H Q) (σ : L2.St) (H : Hp) (Q : VK) (h : lift X.K (rgE1 mk f) σ H Q) :
    tRg1 (liftP X.K f) σ H fun a b H1 => Y a b H1 Q := by
  obtain ⟨T, ρ, δ, s, δ', hs, hf, hq⟩ := h
  unfold rgE1 at hf
  cases e1 : f δ with
  | none => rw [e1] at hf; cases hf
  | some x =>
    rw [e1] at hf
    simp only [Option.bind_some] at hf
    cases e2 : res x.2 x.1 with
    | none => rw [e2] at hf; cases hf
    | some u =>
      rw [e2] at hf
      simp only [Option.bind_some] at hf
      cases e3 : asI u with
      | none => rw [e3] at hf; cases hf
      | some n =>
        rw [e3] at hf
        simp only [Option.bind_some] at hf
        split at hf
        · rename_i hr
          cases hf
          refine ⟨T, ρ, δ, x.1, x.2, hs, by rw [e1], fun ρ1 v H1 s1 x1 p1 => ?_⟩
          exact ⟨n, at_I (pat_at s1 .refl p1 e2) e3, hY T ρ1 H1 n Q s1.trk hr (post_o s1 x1 hq)⟩
        · cases hf
theorem de_tupRg1 {f : PEV} (hc : X.calm = true) (hg : Gl X "tuple") (hm : X.mg "tuple" = none) (hgr : Gl X "range") (hmr : X.mg "range" = none) (he : DP X e f) (na : starEach [e] X.env = (false, eval e X.env) :: starEach [] X.env := by rfl)
    (nb : starEach [.Call (.Name "range" rp) [e] [] rpos] X.env = (false, eval (.Call (.Name "range" rp) [e] [] rpos) X.env) :: starEach [] X.env := by rfl) :
    DE X (.Call (.Name "tuple" p) [.Call (.Name "range" rp) [e] [] rpos] [] pos) (rgE1 (fun xs => .d (.tuple xs)) f) :=
  pe_imp (pe_tupRg hc hg hm (prg_1 hgr hmr he na) nb) fun σ H Q h => rg1_ok (Y := fun a b H1 Q => RgOk a b ∧ ∀ q, H1 q = none → Q (.ref q) (upd H1 q (.tup (rgV a b)))) (fun T ρ H n Q k hr hq => ⟨hr, fun q hq' => postO_tup k hq (dq_rng 0 n) hq'⟩) σ H Q h
theorem de_lstRg1 {f : PEV} (hc : X.calm = true) (hg : Gl X "list") (hm : X.mg "list" = none) (hgr : Gl X "range") (hmr : X.mg "range" = none) (he : DP X e f) (na : starEach [e] X.env = (false, eval e X.env) :: starEach [] X.env := by rfl)
    (nb : starEach [.Call (.Name "range" rp) [e] [] rpos] X.env = (false, eval (.Call (.Name "range" rp) [e] [] rpos) X.env) :: starEach [] X.env := by rfl) :
    DE X (.Call (.Name "list" p) [.Call (.Name "range" rp) [e] [] rpos] [] pos) (rgE1 (fun xs => .o (.l xs)) f) :=
  pe_imp (pe_listRg hc hg hm (prg_1 hgr hmr he na) nb) fun σ H Q h => rg1_ok (X := X) (mk := fun xs => S.o (C.l xs)) (Y := fun a b H1 Q => RgOk a b ∧ ∀ q, H1 q = none → Q (.ref q) (upd H1 q (.lst (rgV a b)))) (fun T ρ H n Q k hr hq => ⟨hr, fun q hq' => hq q _ hq' ⟨_, rfl, dq_rng 0 n⟩⟩) σ H Q h
/-! ### slices -/
def cutD (xs : List PyData) (lo hi : Option Int) : List PyData := (xs.drop (HT.sIx xs.length 0 lo)).take (HT.sIx xs.length xs.length hi - HT.sIx xs.length 0 lo)
def noP : Ds → Option (Option Int × Ds) := fun δ => some (none, δ)
def someP (f : PEV) : Ds → Option (Option Int × Ds) := fun δ => (f δ).bind fun x => match x.1 with
  | .v (.d (.int i)) => some (some i, x.2)
  | _ => none
def slE (f : PEV) (fl fh : Ds → Option (Option Int × Ds)) : EV := fun δ => (f δ).bind fun x => (fl x.2).bind fun l => (fh l.2).bind fun h => (res h.2 x.1).bind fun s => match asL s with
  | some xs => some (.o (.l (cutD xs l.1 h.1)), h.2)
  | none => (asT s).map fun xs => (.d (.tuple (cutD xs l.1 h.1)), h.2)
def liftO (K : PySem.W.Frag) (f : Ds → Option (Option Int × Ds)) : TO := fun σ H Q => ∃ T ρ δ i δ', Sim K T ρ δ σ H ∧ f δ = some (i, δ') ∧ ∀ ρ' H', Sim K T ρ' δ' σ H' → Ext T ρ H ρ' H' → Q i H'
theorem po_imp {oe : Option Expr} {t t' : TO} (p : PO X oe t) (m : ∀ σ H Q, t' σ H Q → t σ H Q) : PO X oe t' := ⟨fun pins s σ H Q I h => p.run pins s σ H Q I (m σ H Q h)⟩
theorem do_none : PO X none (liftO X.K noP) := po_imp po_none fun σ H Q ⟨T, ρ, δ, i, δ', hs, hf, hq⟩ => by
  cases hf
  exact hq ρ H hs .refl
theorem do_some {f : PEV} (he : DP X e f) : PO X (some e) (liftO X.K (someP f)) := po_imp (po_some he) fun σ H Q ⟨T, ρ, δ, i, δ', hs, hf, hq⟩ => by
  unfold someP at hf
  cases e1 : f δ with
  | none => rw [e1] at hf; cases hf
  | some x =>
    obtain ⟨pv, δ1⟩ := x
    rw [e1] at hf
    simp only [Option.bind_some] at hf
    split at hf
    · rename_i n
      cases hf
      refine ⟨T, ρ, δ, _, _, hs, e1, fun ρ1 v H1 s1 x1 p1 => ?_⟩
      have p1' : Dq X.K (hid T ρ1 H1) v (.int n) := p1
      cases p1'
      exact ⟨n, rfl, hq ρ1 H1 s1 x1⟩
    · cases hf
theorem cut_dq {K : PySem.W.Frag} {G : Hp} {vs : List V} {xs : List PyData} (h : DqAll K G vs xs) (lo hi : Option Int) : DqAll K G (cutV vs lo hi) (cutD xs lo hi) := by
  unfold cutV cutD
  rw [dpAll_len h]
  exact dpAll_take _ (dpAll_drop _ h)
theorem sIx_le' (n d : Nat) (o : Option Int) (hd : d ≤ n) : HT.sIx n d o ≤ n := HT.sIx_le n d hd o
theorem cut_all {xs : List PyData} {lo hi : Option Int} (h : HT.sIx xs.length 0 lo = 0 ∧ HT.sIx xs.length xs.length hi = xs.length) : cutD xs lo hi = xs := by
  unfold cutD
  rw [h.1, h.2]
  simp
theorem slr_or {r r' : V → Option Int → Option Int → Hp → VK → Prop} (h : SlR X r) (h' : SlR X r') : SlR X (fun x l u H Q => r x l u H Q ∨ r' x l u H Q) := by
  intro pins s σ H x v vl vu lo hi sl Q I rx hs pl pu hh
  exact hh.elim (h pins s σ H x v vl vu lo hi sl Q I rx hs pl pu) (h' pins s σ H x v vl vu lo hi sl Q I rx hs pl pu)
theorem de_slice {lo hi : Option Expr} {f : PEV} {fl fh : Ds → Option (Option Int × Ds)} {p2 : Pos} (he : DP X e f) (hl : PO X lo (liftO X.K fl)) (hh : PO X hi (liftO X.K fh)) : DE X (.Subscript e (.Slice lo hi none p2) pos) (slE f fl fh) :=
  pe_imp (pe_slice (slr_or sl_list sl_tupA) he hl hh) fun σ H Q ⟨T, ρ, δ, s, δ', hs, hf, hq⟩ => by
    unfold slE at hf
    cases e1 : f δ with
    | none => rw [e1] at hf; cases hf
    | some x =>
      rw [e1] at hf
      simp only [Option.bind_some] at hf
      cases e2 : fl x.2 with
      | none => rw [e2] at hf; cases hf
      | some l =>
        rw [e2] at hf
        simp only [Option.bind_some] at hf
        cases e3 : fh l.2 with
        | none => rw [e3] at hf; cases hf
        | some h =>
          rw [e3] at hf
          simp only [Option.bind_some] at hf
          cases e4 : res h.2 x.1 with
          | none => rw [e4] at hf; cases hf
          | some u =>
            rw [e4] at hf
            simp only [Option.bind_some] at hf
            refine ⟨T, ρ, δ, x.1, x.2, hs, by rw [e1], fun ρ1 v H1 s1 x1 p1 => ?_⟩
            refine ⟨T, ρ1, x.2, l.1, l.2, s1, by rw [e2], fun ρ2 H2 s2 x2 => ?_⟩
            refine ⟨T, ρ2, l.2, h.1, h.2, s2, by rw [e3], fun ρ3 H3 s3 x3 => ?_⟩
            have ha := pat_at s3 (x2.trans x3) p1 e4
            have xx := x1.trans (x2.trans x3)
            split at hf
            · rename_i xs el
              cases hf
              obtain ⟨a, vs, rfl, h1, h2⟩ := at_L ha el
              exact .inl ⟨a, vs, rfl, SqL.of h1, fun n hn => (post_o s3 xx hq) n _ hn ⟨_, rfl, cut_dq h2 _ _⟩⟩
            · cases et : asT u with
              | none => rw [et] at hf; cases hf
              | some xs =>
                rw [et] at hf
                cases hf
                obtain ⟨a, vs, rfl, h1, h2⟩ := at_T ha et
                have hp := post_o s3 xx hq
                refine .inr ⟨a, vs, rfl, SqT.of (hid_same _ _ h1), fun hw => ?_, fun hw n hn => postO_tup s3.trk hp (cut_dq h2 _ _) hn⟩
                rw [dpAll_len h2] at hw
                have hw' := cut_all hw
                simp only [hw'] at hp
                exact postO_same hp (.tup h1 h2)
/-! ### extend -/
theorem md_extend {K : PySem.W.Frag} : MutD K rExtend gExt := fun T ρ H a ys xs ds vs s zs Q h1 h2 h3 h4 h5 => by
  unfold gExt at h4
  split at h4
  · rename_i es
    split at h4
    · rename_i hl
      cases h4
      cases h3 with
      | cons q1 q2 =>
        cases q2
        cases q1 with
        | lst g1 g2 => exact ⟨a, _, ys, _, rfl, rfl, h1, hid_same _ _ g1, by rw [dpAll_len h2, dpAll_len g2]; exact hl, h5 _ _ (dpAll_app h2 g2) .non⟩
    · cases h4
  · cases h4
end

/-! ### several targets at once: what is new may be owned -/
section
variable {K : PySem.W.Frag} {T T' : List Addr} {ρ : List (Option Addr)} {δ : Ds} {σ : L2.St} {H : Hp}
theorem hid_tEq (h : ∀ b, b ∈ T ↔ b ∈ T') : hid T ρ H = hid T' ρ H := by
  funext b
  unfold hid
  simp only [h]
theorem Sim.tEq (s : Sim K T ρ δ σ H) (h : ∀ b, b ∈ T ↔ b ∈ T') : Sim K T' ρ δ σ H :=
  ⟨s.len, s.slen, fun i u hi => let ⟨v, a, b⟩ := s.slot i u hi; ⟨v, a, at_hid (hid_tEq h) b⟩, s.own, s.own', s.inj, fun i a hi hm => s.nt i a hi ((h a).mpr hm), fun a ha => s.tmp a ((h a).mpr ha)⟩
/-- what was being made becomes a slot's -/
theorem Sim.adopt {i : Nat} {a : Addr} {o : HO} {c : C} (s : Sim K (a :: T) ρ δ σ H) (ha : a ∉ T) (ho : H a = some o) (hc : CO K (hid (a :: T) ρ H) o c) : ∃ ρ', Sim K T ρ' (δ.set i (some (.o c))) (σ.set i (some (.ref a))) H ∧ Same (hid (a :: T) ρ H) (hid T ρ' H) := by
  have less : Same (hid (a :: T) ρ H) (hid T ρ H) := hid_less fun b hb => hb.elim (fun z => .inl (List.mem_cons_of_mem _ z)) .inr
  have hr := hid_rm (T := T) (ρ := ρ) (H := H) (D := a)
  have hn : rm H a a = none := rm_self
  have sm : Sim K T ρ δ σ (rm H a) := by
    refine ⟨s.len, s.slen, fun j u hj => ?_, s.own, s.own', s.inj, fun j b hj hm => s.nt j b hj (List.mem_cons_of_mem _ hm), fun b hb => ?_⟩
    · obtain ⟨v, e1, e2⟩ := s.slot j u hj
      refine ⟨v, e1, ?_⟩
      cases u with
      | o c' =>
        obtain ⟨b, f1, f2⟩ := s.own j c' hj
        rw [e1] at f2
        cases f2
        obtain ⟨b', x, z1, z2, z3⟩ := e2
        cases z1
        have ne : b ≠ a := fun z => by
          subst z
          exact s.nt j b f1 List.mem_cons_self
        exact ⟨b, x, rfl, by rw [rm_ne ne]; exact z2, by rw [hr]; exact z3⟩
      | d x => exact (show SV K (hid T ρ (rm H a)) v (.d x) by rw [hr]; exact e2)
      | t x => exact (show SV K (hid T ρ (rm H a)) v (.t x) by rw [hr]; exact e2)
      | z x => exact (show SV K (hid T ρ (rm H a)) v (.z x) by rw [hr]; exact e2)
      | p x => exact (show SV K (hid T ρ (rm H a)) v (.p x) by rw [hr]; exact e2)
    · obtain ⟨x, hx, hy⟩ := s.tmp b (List.mem_cons_of_mem _ hb)
      have ne : b ≠ a := fun z => by
        subst z
        exact ha hb
      exact ⟨x, by rw [rm_ne ne]; exact hx, hy⟩
  obtain ⟨ρ', q1, q2⟩ := sm.setO (i := i) (o := o) (c := c) hn (by rw [hr]; exact hc)
  rw [rm_upd ho] at q1 q2
  refine ⟨ρ', q1, ?_⟩
  have := q2.same
  rw [hr] at this
  exact this
inductive FrAts (K : PySem.W.Frag) (G : Hp) (H : Hp) : List Addr → List V → List S → Prop
  | nil : FrAts K G H [] [] []
  | dat {F : List Addr} {v : V} {s : S} {vs : List V} {ss : List S} : SV K G v s → FrAts K G H F vs ss → FrAts K G H F (v :: vs) (s :: ss)
  | fr {F : List Addr} {a : Addr} {o : HO} {c : C} {vs : List V} {ss : List S} : H a = some o → CO K G o c → FrAts K G H F vs ss → FrAts K G H (a :: F) (.ref a :: vs) (.o c :: ss)
def setsD : List Nat → List S → Ds → Ds
  | i :: is, s :: ss, δ => setsD is ss (δ.set i (some s))
  | _, _, δ => δ
def setsV : List Nat → List V → L2.St → L2.St
  | i :: is, v :: vs, σ => setsV is vs (σ.set i (some v))
  | _, _, σ => σ
theorem fr_sets {G : Hp} : ∀ {F : List Addr} {vs : List V} {ss : List S}, FrAts K G H F vs ss → ∀ (is : List Nat) (ρ : List (Option Addr)) (δ : Ds) (σ : L2.St), is.length = ss.length → F.Nodup → (∀ a ∈ F, a ∉ T) → Sim K (F ++ T) ρ δ σ H → Same G (hid (F ++ T) ρ H) →
    ∃ ρ', Sim K T ρ' (setsD is ss δ) (setsV is vs σ) H ∧ Same G (hid T ρ' H)
  | _, _, _, .nil, is, ρ, δ, σ, hl, nd, hT, s, sm => by
    cases is with
    | nil => exact ⟨ρ, s, sm⟩
    | cons i is => cases hl
  | F, _, _, .dat (v := v) (s := u) hv r, is, ρ, δ, σ, hl, nd, hT, s, sm => by
    cases is with
    | nil => cases hl
    | cons i is =>
      obtain ⟨a, b⟩ := s.setD (i := i) (svM (s := u) sm hv)
      exact fr_sets r is _ _ _ (by simpa using hl) nd hT a (sm.trans b.same)
  | _, _, _, .fr (F := F) (a := a) ho hc r, is, ρ, δ, σ, hl, nd, hT, s, sm => by
    cases is with
    | nil => cases hl
    | cons i is =>
      obtain ⟨n1, n2⟩ := List.nodup_cons.mp nd
      obtain ⟨ρ', q1, q2⟩ := Sim.adopt (i := i) (T := F ++ T) s (fun z => (List.mem_append.mp z).elim n1 (hT a List.mem_cons_self)) ho (coM sm hc)
      exact fr_sets r is ρ' _ _ (by simpa using hl) n2 (fun b hb => hT b (List.mem_cons_of_mem _ hb)) q1 (sm.trans q2)
end
abbrev FEV := Ds → Option (List S × Ds)
def liftF (K : PySem.W.Frag) (f : FEV) : TA := fun σ H Q => ∃ T ρ δ ss δ', Sim K T ρ δ σ H ∧ f δ = some (ss, δ') ∧ ∀ F ρ' vs H', Sim K (F ++ T) ρ' δ' σ H' → Same (hid T ρ H) (hid (F ++ T) ρ' H') → (∀ a, a ∈ T → H' a = H a) → F.Nodup → (∀ a ∈ F, a ∉ T) → FrAts K (hid (F ++ T) ρ' H') H' F vs ss → Q vs H'
abbrev DF (X : Cx) (es : List Expr) (f : FEV) : Prop := PA X es (liftF X.K f)
def nilF : FEV := fun δ => some ([], δ)
def consF (f : EV) (g : FEV) : FEV := fun δ => (f δ).bind fun x => (g x.2).map fun y => (x.1 :: y.1, y.2)
theorem frM {K : PySem.W.Frag} {G G' H : Hp} (e : Same G G') : ∀ {F : List Addr} {vs : List V} {ss : List S}, FrAts K G H F vs ss → FrAts K G' H F vs ss
  | _, _, _, .nil => .nil
  | _, _, _, .dat (s := u) h r => .dat (svM (s := u) e h) (frM e r)
  | _, _, _, .fr h1 h2 r => .fr h1 (coM e h2) (frM e r)
section
variable {X : Cx} {e : Expr} {pos : Pos} {P : List Nat}
theorem df_nil : DF X [] nilF := pa_imp pa_nil fun σ H Q ⟨T, ρ, δ, ss, δ', hs, hf, hq⟩ => by
  cases hf
  exact hq [] ρ [] H hs (Same.refl _) (fun _ _ => rfl) List.nodup_nil (fun a ha => nomatch ha) .nil
theorem df_cons {es : List Expr} {f : EV} {g : FEV} (h1 : DE X e f) (h2 : DF X es g) (hstar : starEach (e :: es) X.env = (false, eval e X.env) :: starEach es X.env := by rfl) : DF X (e :: es) (consF f g) := pa_imp (pa_cons h1 h2 hstar) fun σ H Q ⟨T, ρ, δ, ss, δ', hs, hf, hq⟩ => by
  unfold consF at hf
  cases ea : f δ with
  | none => rw [ea] at hf; cases hf
  | some x =>
    obtain ⟨s, δ1⟩ := x
    rw [ea] at hf
    simp only [Option.bind_some] at hf
    cases eb : g δ1 with
    | none => rw [eb] at hf; cases hf
    | some y =>
      rw [eb] at hf
      have hf' := Option.some.inj hf
      obtain ⟨us, δ2⟩ := y
      cases hf'
      refine ⟨T, ρ, δ, s, δ1, hs, ea, ?_⟩
      have data : (∀ ρ1 v H1, Sim X.K T ρ1 δ1 σ H1 → Ext T ρ H ρ1 H1 → SV X.K (hid T ρ1 H1) v s → liftF X.K g σ H1 fun xs H2 => Q (v :: xs) H2) := by
        intro ρ1 v H1 s1 x1 hv
        refine ⟨T, ρ1, δ1, us, δ2, s1, eb, fun F ρ2 vs H2 s2 sm tm nd hT fr => ?_⟩
        exact hq F ρ2 (v :: vs) H2 s2 (x1.same.trans sm) (fun a ha => (tm a ha).trans (x1.tmp a ha)) nd hT (.dat (svM (s := s) sm hv) fr)
      cases s with
      | d c => exact data
      | t c => exact data
      | z c => exact data
      | p c => exact data
      | o c =>
        intro ρ1 p H0 o s1 x1 hp hc
        obtain ⟨npT, npρ⟩ := s1.trk.fresh hp
        have h0 : hid (p :: T) ρ1 (upd H0 p o) = hid T ρ1 H0 := hid_new hp
        refine ⟨p :: T, ρ1, δ1, us, δ2, s1.addTmp hp (co_nt hc), eb, fun F ρ2 vs H2 s2 sm tm nd hT fr => ?_⟩
        have mem : ∀ b, b ∈ F ++ p :: T ↔ b ∈ (p :: F) ++ T := fun b => by
          simp only [List.mem_append, List.mem_cons]
          constructor
          · rintro (h | h | h)
            · exact .inl (.inr h)
            · exact .inl (.inl h)
            · exact .inr h
          · rintro ((h | h) | h)
            · exact .inr (.inl h)
            · exact .inl h
            · exact .inr (.inr h)
        have hh := hid_tEq (ρ := ρ2) (H := H2) mem
        have pF : p ∉ F := fun z => hT p z List.mem_cons_self
        have hp2 : H2 p = some o := (tm p List.mem_cons_self).trans upd_same
        refine hq (p :: F) ρ2 (.ref p :: vs) H2 (s2.tEq mem) ?_ ?_ (List.nodup_cons.mpr ⟨pF, nd⟩) ?_ ?_
        · rw [← hh]
          rw [h0] at sm
          exact x1.same.trans sm
        · intro a ha
          have ne : a ≠ p := fun z => npT (z ▸ ha)
          rw [tm a (List.mem_cons_of_mem _ ha), upd_ne ne]
          exact x1.tmp a ha
        · intro a ha
          rcases List.mem_cons.mp ha with z | z
          · rw [z]; exact npT
          · exact fun y => hT a z (List.mem_cons_of_mem _ y)
        · refine .fr hp2 ?_ (hh ▸ fr)
          rw [← hh]
          rw [h0] at sm
          exact coM sm hc
def parS (is : List Nat) (f : FEV) : SEV := fun δ => (f δ).bind fun x => if x.1.length = is.length then some (.nx (setsD is x.1 x.2)) else none
theorem setsV_keep : ∀ {is : List Nat} {vs : List V} {σ : L2.St} {j : Nat}, j ∉ is → (setsV is vs σ)[j]? = σ[j]?
  | [], _, _, _, _ => rfl
  | _ :: _, [], _, _, _ => rfl
  | i :: is, v :: vs, σ, j, h => by
    unfold setsV
    rw [setsV_keep fun z => h (List.mem_cons_of_mem _ z), List.getElem?_set_ne fun z => h (by rw [z]; exact List.mem_cons_self)]
theorem fr_len {K : PySem.W.Frag} {G H : Hp} : ∀ {F : List Addr} {vs : List V} {ss : List S}, FrAts K G H F vs ss → vs.length = ss.length
  | _, _, _, .nil => rfl
  | _, _, _, .dat _ r => by simp [fr_len r]
  | _, _, _, .fr _ _ r => by simp [fr_len r]
theorem par_ok {K : PySem.W.Frag} {is : List Nat} {f : FEV} (hP : ∀ i ∈ P, i ∉ is) {D : Ends} {σ : L2.St} {H : Hp} (h : liftS K P (parS is f) D σ H) : liftF K f σ H fun vs H1 => vs.length = is.length ∧ D.nx (setsV is vs σ) H1 ∧ ∀ p o, H1 p = none → D.nx (setsV is vs σ) (upd H1 p o) := by
  obtain ⟨T, ρ, δ, o, hs, hf, hq⟩ := h
  unfold parS at hf
  cases ea : f δ with
  | none => rw [ea] at hf; cases hf
  | some x =>
    obtain ⟨ss, δ1⟩ := x
    rw [ea] at hf
    simp only [Option.bind_some] at hf
    split at hf
    · rename_i hl
      cases hf
      refine ⟨T, ρ, δ, ss, δ1, hs, ea, fun F ρ1 vs H1 s1 sm tm nd hT fr => ?_⟩
      obtain ⟨ρ2, q1, q2⟩ := fr_sets fr is ρ1 δ1 σ hl.symm nd hT s1 (Same.refl _)
      have kp : Keep P σ (setsV is vs σ) := fun j hj => setsV_keep (hP j hj)
      have ex : Ext T ρ H ρ2 H1 := ⟨sm.trans q2, tm⟩
      refine ⟨by rw [fr_len fr]; exact hl, hq ρ2 _ H1 q1 ex kp, fun p u hp => ?_⟩
      exact hq ρ2 _ _ (q1.mono (same_new hp)) (ex.trans (q1.trk.extT (same_new hp))) kp
    · cases hf
theorem ds_par2 {i j : Nat} {x y : Str} {a b : Expr} {f : FEV} {px py pt : Pos} {kt k2 pt2} (hc : X.calm = true) (hN : X.N.Nodup) (hi : X.N[i]? = some x) (hj : X.N[j]? = some y) (hij : i ≠ j)
    (hx : X.env.scope.names.lookup x = some .local) (hy : X.env.scope.names.lookup y = some .local) (hP : ∀ m ∈ P, m ∉ [i, j]) (ha : DF X [a, b] f)
    (hw : swappedStores [.Tuple [.Name x px, .Name y py] kt pt] (.Tuple [a, b] k2 pt2) X.env = pure (some [x, y]))
    (hs : swapsWithSole [.Tuple [.Name x px, .Name y py] kt pt] (.Tuple [a, b] k2 pt2) pos.line X.env = pure false := by rfl) :
    DS X P (.Assign [.Tuple [.Name x px, .Name y py] kt pt] (.Tuple [a, b] k2 pt2) pos) (parS [i, j] f) := ps_imp (ps_par hc hN hi hj hij hx hy ha hw hs) fun D σ H h => by
  obtain ⟨T, ρ, δ, ss, δ', q1, q2, q3⟩ := par_ok hP h
  refine ⟨T, ρ, δ, ss, δ', q1, q2, fun F ρ' vs H' a1 a2 a3 a4 a5 a6 => ?_⟩
  obtain ⟨l, n, _⟩ := q3 F ρ' vs H' a1 a2 a3 a4 a5 a6
  match vs, l, n with
  | [v, w], _, n => exact ⟨v, w, rfl, n⟩
theorem ds_par3 {i j l : Nat} {x y z : Str} {a b c : Expr} {f : FEV} {px py pz pt : Pos} {kt k2 pt2} (hc : X.calm = true) (hN : X.N.Nodup) (hi : X.N[i]? = some x) (hj : X.N[j]? = some y) (hl : X.N[l]? = some z) (hij : i ≠ j) (hil : i ≠ l) (hjl : j ≠ l)
    (hx : X.env.scope.names.lookup x = some .local) (hy : X.env.scope.names.lookup y = some .local) (hz : X.env.scope.names.lookup z = some .local) (hP : ∀ m ∈ P, m ∉ [i, j, l]) (ha : DF X [a, b, c] f)
    (hw : swappedStores [.Tuple [.Name x px, .Name y py, .Name z pz] kt pt] (.Tuple [a, b, c] k2 pt2) X.env = pure (some [x, y, z]))
    (hs : swapsWithSole [.Tuple [.Name x px, .Name y py, .Name z pz] kt pt] (.Tuple [a, b, c] k2 pt2) pos.line X.env = pure false := by rfl) :
    DS X P (.Assign [.Tuple [.Name x px, .Name y py, .Name z pz] kt pt] (.Tuple [a, b, c] k2 pt2) pos) (parS [i, j, l] f) := ps_imp (ps_par3 hc hN hi hj hl hij hil hjl hx hy hz ha hw hs) fun D σ H h => by
  obtain ⟨T, ρ, δ, ss, δ', q1, q2, q3⟩ := par_ok hP h
  refine ⟨T, ρ, δ, ss, δ', q1, q2, fun F ρ' vs H' a1 a2 a3 a4 a5 a6 => ?_⟩
  obtain ⟨l, n, _⟩ := q3 F ρ' vs H' a1 a2 a3 a4 a5 a6
  match vs, l, n with
  | [v, w, u], _, n => exact ⟨v, w, u, rfl, n⟩
/-- .. by a tuple that is made and taken apart -/
def gNames : List Nat → TGs
  | [] => gNil
  | i :: is => gCons (gName i) (gNames is)
theorem gNames_ok : ∀ {is : List Nat} {vs : List V} {σ : L2.St} {H : Hp} {Q : L2.St → Hp → Prop}, vs.length = is.length → Q (setsV is vs σ) H → gNames is vs σ H Q
  | [], [], _, _, _, _, q => ⟨rfl, q⟩
  | [], _ :: _, _, _, _, h, _ => by cases h
  | _ :: _, [], _, _, _, h, _ => by cases h
  | i :: is, v :: vs, σ, H, Q, h, q => ⟨v, vs, rfl, gNames_ok (is := is) (by simpa using h) q⟩
theorem ds_parT {is : List Nat} {tgs es : List Expr} {f : FEV} {pt pt2 : Pos} {kt k2 : Nat} (hP : ∀ m ∈ P, m ∉ is) (hg : PG X (.Tuple tgs kt pt) (gTup X.K is.length (gNames is))) (ha : DF X es f) (hz : is.length ≤ sizeLine := by decide)
    (hs : swapsWithSole [.Tuple tgs kt pt] (.Tuple es k2 pt2) pos.line X.env = pure false := by rfl) (hw : swappedStores [.Tuple tgs kt pt] (.Tuple es k2 pt2) X.env = pure none := by rfl)
    (h1 : (assignEach [.Tuple tgs kt pt] X.env).map (·.2) = [assign (.Tuple tgs kt pt) X.env] := by rfl) :
    DS X P (.Assign [.Tuple tgs kt pt] (.Tuple es k2 pt2) pos) (parS is f) := ps_imp (ps_asg (pe_tup ha) hg hs hw h1) fun D σ H h => by
  obtain ⟨T, ρ, δ, ss, δ', q1, q2, q3⟩ := par_ok hP h
  refine ⟨T, ρ, δ, ss, δ', q1, q2, fun F ρ' vs H' a1 a2 a3 a4 a5 a6 => ?_⟩
  obtain ⟨l, _, n⟩ := q3 F ρ' vs H' a1 a2 a3 a4 a5 a6
  refine ⟨by rw [l]; exact hz, fun p hp => ⟨p, vs, rfl, SqT.of upd_same, l, gNames_ok l (n p _ hp)⟩⟩
end
end DL

namespace DL
open PySem PySem.Spec PyProof.Rows L2

/-! ### sorted -/
section
variable {α : Type}
def ins (lt : α → α → Bool) (x : α) : List α → List α
  | [] => [x]
  | y :: r => if lt y x then y :: ins lt x r else x :: y :: r
def isort (lt : α → α → Bool) : List α → List α
  | [] => []
  | x :: r => ins lt x (isort lt r)
variable {lt : α → α → Bool}
theorem ins_perm (x : α) : ∀ l : List α, (ins lt x l).Perm (x :: l)
  | [] => .refl _
  | y :: r => by
    unfold ins
    split
    · exact ((ins_perm x r).cons y).trans (.swap x y r)
    · exact .refl _
theorem isort_perm : ∀ l : List α, (isort lt l).Perm l
  | [] => .refl _
  | x :: r => (ins_perm x _).trans ((isort_perm r).cons x)
theorem ins_sorted (as : ∀ a b, lt a b = true → lt b a = false) (tr : ∀ a b c, lt b a = false → lt c b = false → lt c a = false) (x : α) : ∀ l : List α, l.Pairwise (fun a b => lt b a = false) → (ins lt x l).Pairwise (fun a b => lt b a = false)
  | [], _ => List.pairwise_singleton _ _
  | y :: r, h => by
    obtain ⟨h1, h2⟩ := List.pairwise_cons.mp h
    unfold ins
    split
    · rename_i hy
      refine List.pairwise_cons.mpr ⟨fun z hz => ?_, ins_sorted as tr x r h2⟩
      rcases List.mem_cons.mp ((ins_perm x r).mem_iff.mp hz) with e | e
      · subst e
        exact as _ _ hy
      · exact h1 z e
    · rename_i hy
      have hy' : lt y x = false := by simpa using hy
      refine List.pairwise_cons.mpr ⟨fun z hz => ?_, h⟩
      rcases List.mem_cons.mp hz with e | e
      · subst e
        exact hy'
      · exact tr _ _ _ hy' (h1 z e)
theorem isort_sorted (as : ∀ a b, lt a b = true → lt b a = false) (tr : ∀ a b c, lt b a = false → lt c b = false → lt c a = false) : ∀ l : List α, (isort lt l).Pairwise (fun a b => lt b a = false)
  | [] => .nil
  | x :: r => ins_sorted as tr x _ (isort_sorted as tr r)
theorem perm_uniq {R : α → α → Prop} (an : ∀ a b, R a b → R b a → a = b) : ∀ {l m : List α}, l.Perm m → l.Pairwise R → m.Pairwise R → l = m
  | [], m, p, _, _ => (List.nil_perm.mp p).symm
  | a :: l, [], p, _, _ => by cases List.perm_nil.mp p
  | a :: l, b :: m, p, h, k => by
    obtain ⟨h1, h2⟩ := List.pairwise_cons.mp h
    obtain ⟨k1, k2⟩ := List.pairwise_cons.mp k
    have e : a = b := by
      rcases List.mem_cons.mp (p.mem_iff.mp List.mem_cons_self) with e | e
      · exact e
      · rcases List.mem_cons.mp (p.mem_iff.mpr List.mem_cons_self) with e' | e'
        · exact e'.symm
        · exact an _ _ (h1 b e') (k1 a e)
    subst e
    rw [perm_uniq an p.cons_inv h2 k2]
end
def pr (p : Int × Int) : PyData := .tuple [.int p.1, .int p.2]
def prs : List PyData → Option (List (Int × Int))
  | [] => some []
  | .tuple [.int i, .int j] :: r => (prs r).map ((i, j) :: ·)
  | _ => none
theorem prs_eq : ∀ {xs : List PyData} {ps : List (Int × Int)}, prs xs = some ps → xs = ps.map pr
  | [], _, h => by cases h; rfl
  | x :: r, ps, h => by
    unfold prs at h
    split at h
    · rename_i heq
      cases heq
    · rename_i i j r' heq
      cases heq
      cases e : prs r with
      | none => rw [e] at h; cases h
      | some qs =>
        rw [e] at h
        cases h
        rw [prs_eq e]
        rfl
    · cases h
theorem prs_map : ∀ ps : List (Int × Int), prs (ps.map pr) = some ps
  | [] => rfl
  | p :: ps => by
    show (prs (ps.map pr)).map (p :: ·) = _
    rw [prs_map ps]
    rfl
abbrev sortP : List (Int × Int) → List (Int × Int) := isort SrtO.lexB
theorem lexB_as (a b : Int × Int) (h : SrtO.lexB a b = true) : SrtO.lexB b a = false := by
  have := SrtO.lexB_iff.mp h
  refine SrtO.lexB_no.mpr ?_
  omega
theorem lexB_tr (a b c : Int × Int) (h : SrtO.lexB b a = false) (k : SrtO.lexB c b = false) : SrtO.lexB c a = false := by
  have h := SrtO.lexB_no.mp h
  have k := SrtO.lexB_no.mp k
  refine SrtO.lexB_no.mpr ?_
  omega
theorem lexB_an (a b : Int × Int) (h : SrtO.lexB b a = false) (k : SrtO.lexB a b = false) : a = b := by
  have h := SrtO.lexB_no.mp h
  have k := SrtO.lexB_no.mp k
  apply Prod.ext <;> omega
def fSorted : List S → Option S
  | [s] => (asL s).bind fun xs => (prs xs).map fun ps => .o (.l ((sortP ps).map pr))
  | _ => none
def keyV (H : Hp) : V → Int × Int
  | .ref t => match H t with
    | some (.tup [.int i, .int j]) => (i, j)
    | _ => (0, 0)
  | _ => (0, 0)
theorem dq_pr {K : PySem.W.Frag} {G H : Hp} (e : Same G H) {v : V} {p : Int × Int} (h : Dq K G v (pr p)) : (∃ t, v = .ref t ∧ H t = some (.tup [.int (keyV H v).1, .int (keyV H v).2])) ∧ keyV H v = p := by
  cases h with
  | @tup t vs _ h1 h2 =>
    cases h2 with
    | cons a b =>
      cases b with
      | cons b c =>
        cases c
        cases a
        cases b
        have h3 := e _ _ h1
        have hk : keyV H (.ref t) = p := by
          unfold keyV
          simp only [h3]
        refine ⟨⟨t, rfl, ?_⟩, hk⟩
        rw [hk]
        exact h3
theorem dqAll_mem {K : PySem.W.Frag} {G : Hp} {vs : List V} {xs : List PyData} (h : DqAll K G vs xs) {v : V} (hv : v ∈ vs) : ∃ d, d ∈ xs ∧ Dq K G v d := by
  obtain ⟨i, hi⟩ := mem_ix hv
  obtain ⟨d, e, q⟩ := dpAll_getV h hi
  exact ⟨d, ix_mem e, q⟩
theorem dqAll_of {K : PySem.W.Frag} {G : Hp} {f : V → PyData} : ∀ {vs : List V}, (∀ v ∈ vs, Dq K G v (f v)) → DqAll K G vs (vs.map f)
  | [], _ => .nil
  | v :: vs, h => .cons (h v List.mem_cons_self) (dqAll_of fun w hw => h w (List.mem_cons_of_mem _ hw))
theorem cd_sorted {K : PySem.W.Frag} : CallD K (rSortedPO K) fSorted := fun T ρ H vs ss s Q k hp hg hq => by
  unfold fSorted at hg
  split at hg
  · rename_i u
    obtain ⟨v, rfl, h⟩ := paired1 hp
    cases e : asL u with
    | none => rw [e] at hg; cases hg
    | some xs =>
      rw [e] at hg
      simp only [Option.bind_some] at hg
      cases ep : prs xs with
      | none => rw [ep] at hg; cases hg
      | some ps =>
        rw [ep] at hg
        cases hg
        obtain ⟨a, ws, rfl, h1, h2⟩ := at_L h e
        have ex := prs_eq ep
        subst ex
        have each : ∀ v ∈ ws, (∃ t, v = .ref t ∧ H t = some (.tup [.int (keyV H v).1, .int (keyV H v).2])) ∧ Dq K (hid T ρ H) v (pr (keyV H v)) := fun v hv => by
          obtain ⟨d, hd, q⟩ := dqAll_mem h2 hv
          obtain ⟨p, _, rfl⟩ := List.mem_map.mp hd
          obtain ⟨q1, q2⟩ := dq_pr hid_same q
          exact ⟨q1, by rw [q2]; exact q⟩
        have kws : ws.map (keyV H) = ps := by
          apply List.ext_getElem?
          intro i
          rw [List.getElem?_map]
          cases ei : ws[i]? with
          | none =>
            have : ws.length = (ps.map pr).length := dpAll_len h2
            rw [List.length_map] at this
            have hl := List.getElem?_eq_none_iff.mp ei
            rw [List.getElem?_eq_none (by omega)]
            rfl
          | some v =>
            obtain ⟨d, e1, q⟩ := dpAll_getV h2 ei
            rw [List.getElem?_map] at e1
            cases e2 : ps[i]? with
            | none => rw [e2] at e1; cases e1
            | some p =>
              rw [e2] at e1
              cases e1
              exact congrArg some (dq_pr hid_same q).2
        refine ⟨a, ws, keyV H, rfl, SqL.of h1, fun v hv => (each v hv).1, fun ys n h3 h4 hn => ?_⟩
        have ey : ys.map (keyV H) = sortP ps := by
          refine perm_uniq (R := fun a b => SrtO.lexB b a = false) (fun a b => lexB_an a b) ?_ ?_ (isort_sorted lexB_as lexB_tr _)
          · have := h4.perm.map (keyV H)
            rw [kws] at this
            exact this.trans (isort_perm ps).symm
          · exact List.pairwise_map.mpr h3
        refine hq n _ hn ⟨ys, rfl, ?_⟩
        rw [← ey, List.map_map]
        exact dqAll_of fun v hv => (each v (h4.perm.mem_iff.mp hv)).2
  · cases hg

/-! ### zip of two lists -/
def zipD (xs ys : List PyData) : List PyData := (xs.zip ys).map fun p => .tuple [p.1, p.2]
def zipI (fa : AEV) : IEV := fun δ => (fa δ).bind fun x => match x.1 with
  | [.v (.d (.list xs)), .v (.d (.list ys))] => some (zipD xs ys, x.2)
  | _ => none
theorem serves_Z {K : PySem.W.Frag} {T : List Addr} {ρ : List (Option Addr)} {H : Hp} {a b : Addr} {us ws : List V} {xs ys : List PyData} (h1 : hid T ρ H a = some (.lst us)) (d1 : DqAll K (hid T ρ H) us xs) (h2 : hid T ρ H b = some (.lst ws)) (d2 : DqAll K (hid T ρ H) ws ys) : Serves K T ρ H (Itz K a b) (zipD xs ys) := fun i T2 ρ2 H2 sm tr => by
  have g1 : SqL K H2 a us := SqL.of (hid_same _ _ (sm _ _ h1))
  have g2 : SqL K H2 b ws := SqL.of (hid_same _ _ (sm _ _ h2))
  have l1 := dpAll_len d1
  have l2 := dpAll_len d2
  refine ⟨fun d hi => ?_, fun hi => ⟨us, ws, g1, g2, ?_⟩⟩
  · unfold zipD at hi
    rw [List.getElem?_map] at hi
    cases e : (xs.zip ys)[i]? with
    | none => rw [e] at hi; cases hi
    | some p =>
      rw [e] at hi
      cases hi
      obtain ⟨e1, e2⟩ := List.getElem?_zip_eq_some.mp e
      obtain ⟨v, f1, f2⟩ := dpAll_get d1 e1
      obtain ⟨w, f3, f4⟩ := dpAll_get d2 e2
      refine ⟨⟨us, ws, v, w, g1, g2, f1, f3⟩, fun x H3 hy => ?_⟩
      obtain ⟨t, x1, x2, rfl, nt, rfl, q1, q2⟩ := hy
      have r1 := q1 us g1
      have r2 := q2 ws g2
      rw [f1] at r1
      rw [f3] at r2
      cases r1
      cases r2
      have sn := same_new (o := .tup [v, w]) nt
      exact ⟨sn, .tup (tr.hidNew nt) (.cons (dpM (sm.trans (hid_mono sn)) _ f2) (.cons (dpM (sm.trans (hid_mono sn)) _ f4) .nil))⟩
  · unfold zipD at hi
    rw [List.length_map, List.length_zip] at hi
    rw [l1, l2]
    omega
section
variable {X : Cx}
theorem di_zip {e e2 : Expr} {elts : List Expr} {kk : Nat} {tpos p pos : Pos} {fa : AEV} (hg : Gl X "zip") (hm : X.mg "zip" = none) (ha : DA X [e, e2] fa) (hs : starEach [e, e2] X.env = (false, eval e X.env) :: starEach [e2] X.env := by rfl) (hpl : (backTo pos (starEach [e2] X.env)).any (·.1) = false := by rfl) :
    DI X (.Tuple elts kk tpos) (.Call (.Name "zip" p) [e, e2] [] pos) (zipI fa) := pi_imp (pi_zip hg hm ha hs hpl) fun σ H R ⟨T, ρ, δ, xs, δ', hs, hf, hq⟩ => by
  unfold zipI at hf
  cases ea : fa δ with
  | none => rw [ea] at hf; cases hf
  | some z =>
    obtain ⟨ps, δ1⟩ := z
    rw [ea] at hf
    simp only [Option.bind_some] at hf
    refine ⟨T, ρ, δ, ps, δ1, hs, ea, fun ρ1 vs H1 s1 x1 p1 => ?_⟩
    split at hf
    · rename_i xs1 ys1
      cases hf
      obtain ⟨v, w, rfl, q1, q2⟩ := paired2 p1
      have q1' : Dq X.K (hid T ρ1 H1) v (.list xs1) := q1
      have q2' : Dq X.K (hid T ρ1 H1) w (.list ys1) := q2
      cases q1' with
      | lst a1 a2 =>
        cases q2' with
        | lst b1 b2 => exact ⟨_, _, _, _, rfl, SqL.of (hid_same _ _ a1), SqL.of (hid_same _ _ b1), hq ρ1 H1 _ s1 x1 (serves_Z a1 a2 b1 b2)⟩
    · cases hf
end
/-! ### t[::-1] -/
section
open HT
variable {prog : Program} {w : World} {A : Around} {E : Value → Shared → Prop} {s : Shared}
theorem adjust_back (n : Nat) : Builtin.Slice.sliceAdjust none none (-1) (n : Int) = ((n : Int) - 1, -1) := by
  unfold Builtin.Slice.sliceAdjust
  have h : ((-1 : Int) < 0) := by decide
  simp only [h, if_true]
theorem places_back (n : Nat) : Builtin.Slice.slicePlaces ((n : Int) - 1) (-1) (-1) = n := by
  unfold Builtin.Slice.slicePlaces
  have h : ¬ ((-1 : Int) > 0) := by decide
  simp only [h, if_false, Int.neg_neg, Int.ediv_one]
  split <;> omega
theorem fm_congr {α β : Type} {f g : α → Option β} : ∀ {l : List α}, (∀ x ∈ l, f x = g x) → l.filterMap f = l.filterMap g
  | [], _ => rfl
  | x :: l, h => by
    rw [List.filterMap_cons, List.filterMap_cons, h x List.mem_cons_self, fm_congr fun y hy => h y (List.mem_cons_of_mem _ hy)]
theorem fm_all {β : Type} : ∀ l : List β, (List.range l.length).filterMap (fun m => l[m]?) = l
  | [] => rfl
  | x :: l => by
    rw [List.length_cons, List.range_succ_eq_map, List.filterMap_cons, List.filterMap_map]
    show x :: _ = _
    congr 1
    exact fm_all l
theorem pick_back (xs : List Value) : ((List.range xs.length).filterMap fun (m : Nat) => xs.toArray[(((xs.length : Nat) : Int) - 1 + (m : Int) * -1).toNat]?) = xs.reverse := by
  have e : ∀ m, m ∈ List.range xs.length → xs.toArray[(((xs.length : Nat) : Int) - 1 + (m : Int) * -1).toNat]? = xs.reverse[m]? := fun m hm => by
    have hm' := List.mem_range.mp hm
    have e2 : (((xs.length : Nat) : Int) - 1 + (m : Int) * -1).toNat = xs.length - 1 - m := by omega
    rw [e2, List.getElem?_reverse hm']
    simp
  rw [fm_congr e, ← List.length_reverse]
  exact fm_all xs.reverse
theorem applied_back {sl : Addr} {u : Tok} {n : Nat} {Q : Int × Int × Nat → Shared → Prop} (hs : s.heap.IsSliceOf sl .none .none (.int (-1) u)) (h : Q ((n : Int) - 1, -1, n) s) :
    wpAny (model prog w) A (Builtin.Slice.sliceApplied (.ref sl) (pure (n : Int))) Q E s := by
  obtain ⟨os, hos, hcs, hds⟩ := id hs
  unfold Builtin.Slice.sliceApplied Builtin.Slice.sliceFields
  refine wpAny_bind (wpAny_bind (wpAny_field hos hds (x := .none) rfl ?_))
  refine wpAny_bind (wpAny_field hos hds (x := .none) rfl ?_)
  refine wpAny_bind (wpAny_field hos hds (x := .int (-1) u) rfl (wpAny_pure ?_))
  refine wpAny_bind (slicePart_int ?_)
  show wpAny _ _ (if ((-1 : Int) == 0) = true then _ else _) _ _ s
  rw [if_neg (by decide)]
  refine wpAny_bind (slicePart_none ?_)
  refine wpAny_bind (slicePart_none (wpAny_bind (wpAny_pure ?_)))
  show wpAny _ _ (match Builtin.Slice.sliceAdjust none none (-1) (n : Int) with | (lo, hi) => pure (lo, (-1 : Int), Builtin.Slice.slicePlaces lo hi (-1))) _ _ s
  rw [adjust_back n]
  show wpAny _ _ (pure ((n : Int) - 1, (-1 : Int), Builtin.Slice.slicePlaces ((n : Int) - 1) (-1) (-1))) _ _ s
  rw [places_back]
  exact wpAny_pure h
theorem item_back {t sl : Addr} {xs : List Value} {u : Tok} {Q : Value → Shared → Prop} (ht : IsTup s.heap t xs.toArray) (hs : s.heap.IsSliceOf sl .none .none (.int (-1) u)) (hsz : xs.length ≤ sizeLine)
    (h : Q (.ref s.heap.objs.size) { s with heap := s.heap.push { cls := .type "tuple", data := .seq xs.reverse.toArray } }) : wpAny (model prog w) A (getItem (.ref t) (.ref sl)) Q E s := by
  have hok : sizeOk (.seq xs.reverse.toArray) := by
    show xs.reverse.toArray.size ≤ sizeLine
    rw [List.size_toArray, List.length_reverse]
    exact hsz
  obtain ⟨os, hos, hcs, hds⟩ := id hs
  have hTs : s.TypeIs (.ref sl) "slice" := ⟨os, hos, hcs⟩
  unfold getItem
  (try with_reducible refine wpAny_holding ?_)
  (first
    | refine wpAny_bind (wpAny_pure ?_)
    | skip)
  refine wpAny_bind (wpAny_sequenceKey ht.typeIs (by decide) ?_)
  refine wpAny_bind (wpAny_callSpecial?_slot (name := Str.ofString "__getitem__") ht.typeIs PyProof.Rows.slot_tuple_getitem (wpAny_call_entry PyProof.Rows.slot_tuple_getitem ht.typeIs entry_tuple_getitem ?_ (args_tuple_getitem _ _)))
  show wpAny _ _ (Builtin.Tuple.tupleItemsOf (.ref t) >>= _) _ _ s
  refine wpAny_bind (tupleItemsOf_ ht (wpAny_bind (wpAny_typeOf hTs ?_)))
  rw [if_pos (by decide)]
  have n1 : (xs.toArray.size : Int) = (xs.length : Int) := by rw [List.size_toArray]
  refine wpAny_bind ?_
  rw [show (xs.toArray.size : Nat) = xs.length from List.size_toArray]
  refine applied_back hs ?_
  show wpAny _ _ (if ((((xs.length : Nat) : Int) - 1) == 0 && (-1 : Int) == 1 && xs.length == xs.length) = true then _ else _) _ _ s
  rw [if_neg (by simp)]
  rw [pick_back]
  (first
    | exact wpAny_bind (m := Builtin.Tuple.tupleExact _)
        (wpAny_newObj_type (wpAny_pure ⟨_, rfl, wpAny_pure h⟩) hok)
    | exact wpAny_bind (m := Builtin.Tuple.tupleExact _)
        (wpAny_newObj_type (wpAny_bind (wpAny_pure (wpAny_pure ⟨_, rfl, wpAny_pure h⟩))) hok)
    | exact wpAny_bind (wpAny_bind (m := Builtin.Tuple.tupleExact _)
        (wpAny_newObj_type (wpAny_pure (wpAny_pure ⟨_, rfl, wpAny_pure h⟩)) hok))
    | exact wpAny_bind (wpAny_bind (m := Builtin.Tuple.tupleExact _)
        (wpAny_newObj_type (wpAny_pure ⟨_, rfl, wpAny_pure h⟩) hok)))
end
section
variable {X : Cx} {e : Expr}
/-- x[::-1] of a list or a tuple -/
def tRevS (K : PySem.W.Frag) (te : TE) : TE := fun σ H Q => te σ H fun x H1 => ∃ a xs, x = .ref a ∧ ((SqL K H1 a xs ∧ ∀ p, H1 p = none → Q (.ref p) (upd H1 p (.lst xs.reverse))) ∨ (SqT K H1 a xs ∧ ∀ p, H1 p = none → Q (.ref p) (upd H1 p (.tup xs.reverse))))
theorem pe_revS {te : TE} {k : Nat} {p1 p2 p3 pos : Pos} (he : PE X e te) : PE X (.Subscript e (.Slice none none (some (.UnaryOp .USub (.Constant (.int 1) k p1) p2)) p3) pos) (tRevS X.K te) := by
  constructor
  intro pins s σ H Q I h
  refine Subscript_ (thn (he.run pins s σ H _ I h) ?_)
  rintro v s1 ⟨x, H1, I1, r1, a, xs, ex, q⟩
  subst ex
  cases r1
  have hst := po_some (X := X) (pe_un (a := .Constant (.int 1) k p1) (pos := p2) un_neg pe_int)
  have N := po_none (X := X)
  refine wpAny_Slice (thn (N.run pins s1 σ H1 (fun o G => o = none ∧ G = H1) I1 ⟨rfl, rfl⟩) ?_)
  rintro vl s2 ⟨l, H2, I2, pl, el, e2⟩
  subst el e2
  refine thn (N.run pins s2 σ H2 (fun o G => o = none ∧ G = H2) I2 ⟨rfl, rfl⟩) ?_
  rintro vu s3 ⟨u, H3, I3, pu, eu, e3⟩
  subst eu e3
  refine thn (hst.run pins s3 σ H3 (fun o G => o = some (-1) ∧ G = H3) I3 ⟨1, rfl, -1, rfl, rfl, rfl⟩) ?_
  rintro vs s4 ⟨o, H4, I4, ps, eo, e4⟩
  subst eo e4
  generalize hs5 : ({ s4 with heap := s4.heap.push { cls := .type "slice", data := .fields #[vl, vu, vs] } } : Shared) = s5
  have I5 : Inv X pins σ H4 s5 := by
    rw [← hs5]
    exact I4.kept (t' := s4.toks) fun b ob q => Heap.get?_push_of_some _ q
  have hsl : s5.heap.IsSliceOf s4.heap.objs.size vl vu vs := by
    rw [← hs5]
    exact Heap.IsSliceOf.new _ vl vu vs
  show wpAny (model X.prog X.w) X.A (subscriptTail e (.Slice none none (some (.UnaryOp .USub (.Constant (.int 1) k p1) p2)) p3) (.ref a) (.ref s4.heap.objs.size)) (EP X pins σ Q) X.xe s5
  rcases q with ⟨hx, q⟩ | ⟨hx, q⟩
  · obtain ⟨its, r, ht, hz⟩ := I5.list hx
    have hlen := r.length
    refine tail_any (ops := [.ref a, .ref s4.heap.objs.size]) ht.isList.typeIs (PySem.slot_list_getitem.lookup) ?_ (by with_unfolding_all rfl)
    refine wpAny_getItem_list_slice ht.isList hsl pl pu ps (by decide) ?_ (by rw [List.size_toArray]; omega)
    rw [PySem.W.krv_pick]
    refine ⟨.ref _, _, I5.laid (t' := s5.toks) (o := .lst xs.reverse) (fun b ob q => Heap.get?_push_of_some _ q) (Nat.le_refl _) ?_, rfl, q _ (I5.hok.fresh (Nat.le_refl _))⟩
    refine ⟨?_, _, 0, r.reverse, Heap.get?_push_size _ rfl⟩
    rw [List.length_reverse]
    exact hz
  · obtain ⟨its, r, ht, hz⟩ := I5.tuple hx
    have hlen := r.length
    cases pl
    cases pu
    cases ps with
    | int i t =>
      refine tail_any (ops := [.ref a, .ref s4.heap.objs.size]) ht.typeIs (PyProof.Rows.slot_tuple_getitem.lookup) ?_ (by with_unfolding_all rfl)
      refine item_back ht hsl (by omega) ?_
      refine ⟨.ref _, _, I5.laid (t' := s5.toks) (o := .tup xs.reverse) (fun b ob q => Heap.get?_push_of_some _ q) (Nat.le_refl _) ?_, rfl, q _ (I5.hok.fresh (Nat.le_refl _))⟩
      refine ⟨?_, _, r.reverse, IsTup.new _ _⟩
      rw [List.length_reverse]
      exact hz
def revE (f : PEV) : EV := fun δ => (f δ).bind fun x => (res x.2 x.1).bind fun s => match asL s with
  | some xs => some (.o (.l xs.reverse), x.2)
  | none => (asT s).map fun xs => (.d (.tuple xs.reverse), x.2)
theorem de_rev {f : PEV} {k : Nat} {p1 p2 p3 pos : Pos} (he : DP X e f) : DE X (.Subscript e (.Slice none none (some (.UnaryOp .USub (.Constant (.int 1) k p1) p2)) p3) pos) (revE f) := pe_imp (pe_revS he) fun σ H Q ⟨T, ρ, δ, s, δ', hs, hf, hq⟩ => by
  unfold revE at hf
  cases e1 : f δ with
  | none => rw [e1] at hf; cases hf
  | some x =>
    rw [e1] at hf
    simp only [Option.bind_some] at hf
    cases e2 : res x.2 x.1 with
    | none => rw [e2] at hf; cases hf
    | some u =>
      rw [e2] at hf
      simp only [Option.bind_some] at hf
      refine ⟨T, ρ, δ, x.1, x.2, hs, by rw [e1], fun ρ1 v H1 s1 x1 p1 => ?_⟩
      have ha := pat_at s1 .refl p1 e2
      split at hf
      · rename_i xs el
        cases hf
        obtain ⟨a, vs, rfl, h1, h2⟩ := at_L ha el
        exact ⟨a, vs, rfl, .inl ⟨SqL.of h1, fun n hn => (post_o s1 x1 hq) n _ hn ⟨_, rfl, dpAll_rev h2⟩⟩⟩
      · cases et : asT u with
        | none => rw [et] at hf; cases hf
        | some xs =>
          rw [et] at hf
          cases hf
          obtain ⟨a, vs, rfl, h1, h2⟩ := at_T ha et
          exact ⟨a, vs, rfl, .inr ⟨SqT.of (hid_same _ _ h1), fun n hn => postO_tup s1.trk (post_o s1 x1 hq) (dpAll_rev h2) hn⟩⟩
end
end DL

namespace DL
open PySem PySem.Spec PyProof.Rows L2

/-- a def of the program that keeps its meaning F -/
def Def (Pr : Program) (w : World) (K : PySem.W.Frag) (mg : Str → Option Value) (base : Heap) (k : Nat) (name : Str) (ps : List Str) (F : FN) : Prop :=
  ∃ a fd, mg name = some (.ref a) ∧ PySem.W.keepIn K (.ref a) = true ∧ Binds K fd ps [] ∧ FnG Pr w K mg base k a fd ps (spF K ps.length F)
theorem def_mk {Pr : Program} {w : World} {K : PySem.W.Frag} {mg : Str → Option Value} {base : Heap} {x : Str} {st : Stmt} {f : Addr} {fd : FuncData} {N ps : List Str} {k : Nat} {P : List Nat} {body : SEV} (F : Fun K x x st f fd) (gm : mg x = some (.ref f)) (b : Binds K fd ps []) (Sc : FnScope N ps (defScope st))
    (hbody : ∀ (cdv : Value) (A : Around) (outer : List Env) (s : Shared) (H : Hp) (E : XK), A.guards = some [] → Room k (A.deeper (envOfC x (defScope st) s.heap.objs.size f cdv)) → DSs (cxOf CX0 Pr w K mg base N x (defScope st) f cdv A outer s H E).nox P (defBody st) body) :
    Def Pr w K mg base (k + 1) x ps (runF P N.length body) := ⟨f, fd, gm, F.kp, b, fn_ok F Sc hbody⟩
section
variable {X : Cx} {pos p : Pos} {e : Expr} {es : List Expr} {x : Str}
theorem de_own {k j m : Nat} {ps : List Str} {F : FN} {fa : AEV} (D : Def X.prog X.w X.K X.mg X.base k x ps F) (hm : ps.length = m) (hG : X.A.guards = some []) (hr : Room j X.A) (hk : k ≤ j) (hg : Gl X x) (ha : DA X (e :: es) fa) (hdb : (x == ("__debug__" : Str)) = false := by decide) (he : starEach (e :: es) X.env = (false, eval e X.env) :: starEach es X.env := by rfl) (hpl : (backTo pos (starEach es X.env)).any (·.1) = false := by rfl) :
    DE X (.Call (.Name x p) (e :: es) [] pos) (callE F m fa) := by
  subst hm
  obtain ⟨a, fd, h1, h2, h3, h4⟩ := D
  exact de_call h4 hG (hr.mono hk) hg h1 h2 h3 ha hdb he hpl
variable {fa : AEV}
theorem de_len (hm : X.mg "len" = none) (hg : Gl X "len") (ha : DA X (e :: es) fa) (he : starEach (e :: es) X.env = (false, eval e X.env) :: starEach es X.env := by rfl) (hpl : (backTo pos (starEach es X.env)).any (·.1) = false := by rfl) : DE X (.Call (.Name "len" p) (e :: es) [] pos) (callB fLen fa) :=
  de_callB call_len_seq cd_len hg hm PySem.boot_len ha (by decide) (by decide) he hpl
theorem de_abs (hm : X.mg "abs" = none) (hg : Gl X "abs") (ha : DA X (e :: es) fa) (he : starEach (e :: es) X.env = (false, eval e X.env) :: starEach es X.env := by rfl) (hpl : (backTo pos (starEach es X.env)).any (·.1) = false := by rfl) : DE X (.Call (.Name "abs" p) (e :: es) [] pos) (callB fAbs fa) :=
  de_callB call_abs cd_abs hg hm (by decide +kernel) ha (by decide) (by decide) he hpl
theorem de_int1 (hm : X.mg "int" = none) (hg : Gl X "int") (ha : DA X (e :: es) fa) (he : starEach (e :: es) X.env = (false, eval e X.env) :: starEach es X.env := by rfl) (hpl : (backTo pos (starEach es X.env)).any (·.1) = false := by rfl) : DE X (.Call (.Name "int" p) (e :: es) [] pos) (callB fInt fa) :=
  de_callTy call_int1 cd_int hg hm (by decide +kernel) ha (by decide) (by decide) he hpl
theorem de_max (hc : X.calm = true) (hm : X.mg "max" = none) (hg : Gl X "max") (ha : DA X (e :: es) fa) (he : starEach (e :: es) X.env = (false, eval e X.env) :: starEach es X.env := by rfl) (hpl : (backTo pos (starEach es X.env)).any (·.1) = false := by rfl) : DE X (.Call (.Name "max" p) (e :: es) [] pos) (callB fMax fa) :=
  de_callB (call_max2 hc) cd_max hg hm (by decide +kernel) ha (by decide) (by decide) he hpl
theorem de_min (hc : X.calm = true) (hm : X.mg "min" = none) (hg : Gl X "min") (ha : DA X (e :: es) fa) (he : starEach (e :: es) X.env = (false, eval e X.env) :: starEach es X.env := by rfl) (hpl : (backTo pos (starEach es X.env)).any (·.1) = false := by rfl) : DE X (.Call (.Name "min" p) (e :: es) [] pos) (callB fMin fa) :=
  de_callB (call_min2 hc) cd_min hg hm (by decide +kernel) ha (by decide) (by decide) he hpl
theorem de_all (hc : X.calm = true) (hm : X.mg "all" = none) (hg : Gl X "all") (ha : DA X (e :: es) fa) (he : starEach (e :: es) X.env = (false, eval e X.env) :: starEach es X.env := by rfl) (hpl : (backTo pos (starEach es X.env)).any (·.1) = false := by rfl) : DE X (.Call (.Name "all" p) (e :: es) [] pos) (callB fAll fa) :=
  de_callB (cr_all hc) cd_all hg hm (by decide +kernel) ha (by decide) (by decide) he hpl
theorem de_any (hc : X.calm = true) (hm : X.mg "any" = none) (hg : Gl X "any") (ha : DA X (e :: es) fa) (he : starEach (e :: es) X.env = (false, eval e X.env) :: starEach es X.env := by rfl) (hpl : (backTo pos (starEach es X.env)).any (·.1) = false := by rfl) : DE X (.Call (.Name "any" p) (e :: es) [] pos) (callB fAny fa) :=
  de_callB (cr_any hc) cd_any hg hm (by decide +kernel) ha (by decide) (by decide) he hpl
theorem de_tuple (hm : X.mg "tuple" = none) (hg : Gl X "tuple") (ha : DA X (e :: es) fa) (he : starEach (e :: es) X.env = (false, eval e X.env) :: starEach es X.env := by rfl) (hpl : (backTo pos (starEach es X.env)).any (·.1) = false := by rfl) : DE X (.Call (.Name "tuple" p) (e :: es) [] pos) (callB fTuple fa) :=
  de_callTy call_tuple_of cd_tuple hg hm (by decide +kernel) ha (by decide) (by decide) he hpl
theorem de_list (hm : X.mg "list" = none) (hg : Gl X "list") (ha : DA X (e :: es) fa) (he : starEach (e :: es) X.env = (false, eval e X.env) :: starEach es X.env := by rfl) (hpl : (backTo pos (starEach es X.env)).any (·.1) = false := by rfl) : DE X (.Call (.Name "list" p) (e :: es) [] pos) (callB fList fa) :=
  de_callTy call_list_of cd_list hg hm (by decide +kernel) ha (by decide) (by decide) he hpl
theorem de_sorted (hm : X.mg "sorted" = none) (hg : Gl X "sorted") (ha : DA X (e :: es) fa) (he : starEach (e :: es) X.env = (false, eval e X.env) :: starEach es X.env := by rfl) (hpl : (backTo pos (starEach es X.env)).any (·.1) = false := by rfl) : DE X (.Call (.Name "sorted" p) (e :: es) [] pos) (callB fSorted fa) :=
  de_callB cr_sortedPO cd_sorted hg hm (by decide +kernel) ha (by decide) (by decide) he hpl
theorem de_repr {k : Nat} (hG : X.A.guards = some []) (hr : Room k X.A) (hm : X.mg "repr" = none) (hg : Gl X "repr") (ha : DA X (e :: es) fa) (he : starEach (e :: es) X.env = (false, eval e X.env) :: starEach es X.env := by rfl) (hpl : (backTo pos (starEach es X.env)).any (·.1) = false := by rfl) : DE X (.Call (.Name "repr" p) (e :: es) [] pos) (callB fRepr fa) :=
  de_callB (cr_repr hG hr.units) cd_repr hg hm (by decide +kernel) ha (by decide) (by decide) he hpl
variable {a b : Expr} {fp fq : PEV} {k : Nat}
theorem de_lt (ha : DP X a fp) (hb : DP X b fq) : DE X (.Compare a [.Lt] [b] pos) (bin (cmpI pLt) fp fq) := de_cmp or_lt od_cmp ha hb (nomark _)
theorem de_le (ha : DP X a fp) (hb : DP X b fq) : DE X (.Compare a [.LtE] [b] pos) (bin (cmpI pLe) fp fq) := de_cmp or_le od_cmp ha hb (nomark _)
theorem de_gt (ha : DP X a fp) (hb : DP X b fq) : DE X (.Compare a [.Gt] [b] pos) (bin (cmpI pGt) fp fq) := de_cmp or_gt od_cmp ha hb (nomark _)
theorem de_ge (ha : DP X a fp) (hb : DP X b fq) : DE X (.Compare a [.GtE] [b] pos) (bin (cmpI pGe) fp fq) := de_cmp or_ge od_cmp ha hb (nomark _)
theorem de_eq (hr : Room k X.A) (ha : DP X a fp) (hb : DP X b fq) : DE X (.Compare a [.Eq] [b] pos) (bin opEq fp fq) := de_cmp (opr_or op_eq (op_eqD hr.units)) od_eq ha hb (nomark _)
theorem de_ne (hr : Room k X.A) (ha : DP X a fp) (hb : DP X b fq) : DE X (.Compare a [.NotEq] [b] pos) (bin opNe fp fq) := de_cmp (opr_or op_ne (op_neD hr.units)) od_ne ha hb (nomark _)
theorem de_in (hr : Room k X.A) (ha : DP X a fp) (hb : DP X b fq) (hm : behindInMarks .In b = false := by rfl) : DE X (.Compare a [.In] [b] pos) (bin (opIn false) fp fq) := de_cmp (or_in (by have := hr.un; omega)) od_in ha hb hm
theorem de_notIn (hr : Room k X.A) (ha : DP X a fp) (hb : DP X b fq) (hm : behindInMarks .NotIn b = false := by rfl) : DE X (.Compare a [.NotIn] [b] pos) (bin (opIn true) fp fq) := de_cmp (or_notIn (by have := hr.un; omega)) od_in ha hb hm
theorem dt_lt (ha : DP X a fp) (hb : DP X b fq) : DT X (.Compare a [.Lt] [b] pos) (bl (bin (cmpI pLt) fp fq)) := dt_cmp or_lt od_cmp ha hb (nomark _)
theorem dt_le (ha : DP X a fp) (hb : DP X b fq) : DT X (.Compare a [.LtE] [b] pos) (bl (bin (cmpI pLe) fp fq)) := dt_cmp or_le od_cmp ha hb (nomark _)
theorem dt_gt (ha : DP X a fp) (hb : DP X b fq) : DT X (.Compare a [.Gt] [b] pos) (bl (bin (cmpI pGt) fp fq)) := dt_cmp or_gt od_cmp ha hb (nomark _)
theorem dt_ge (ha : DP X a fp) (hb : DP X b fq) : DT X (.Compare a [.GtE] [b] pos) (bl (bin (cmpI pGe) fp fq)) := dt_cmp or_ge od_cmp ha hb (nomark _)
theorem dt_eq (hr : Room k X.A) (ha : DP X a fp) (hb : DP X b fq) : DT X (.Compare a [.Eq] [b] pos) (bl (bin opEq fp fq)) := dt_cmp (opr_or op_eq (op_eqD hr.units)) od_eq ha hb (nomark _)
theorem dt_ne (hr : Room k X.A) (ha : DP X a fp) (hb : DP X b fq) : DT X (.Compare a [.NotEq] [b] pos) (bl (bin opNe fp fq)) := dt_cmp (opr_or op_ne (op_neD hr.units)) od_ne ha hb (nomark _)
theorem dt_in (hr : Room k X.A) (ha : DP X a fp) (hb : DP X b fq) (hm : behindInMarks .In b = false := by rfl) : DT X (.Compare a [.In] [b] pos) (bl (bin (opIn false) fp fq)) := dt_cmp (or_in (by have := hr.un; omega)) od_in ha hb hm
theorem dt_notIn (hr : Room k X.A) (ha : DP X a fp) (hb : DP X b fq) (hm : behindInMarks .NotIn b = false := by rfl) : DT X (.Compare a [.NotIn] [b] pos) (bl (bin (opIn true) fp fq)) := dt_cmp (or_notIn (by have := hr.un; omega)) od_in ha hb hm
theorem de_append {x : Str} {opos apos cpos : Pos} {i : Nat} (q : PE X (.Name x opos) (tVar i)) (ha : DA X (e :: es) fa)
    (hbase : attributeBase (.Name x opos) "append" X.env (eval (.Name x opos) X.env) = eval (.Name x opos) X.env := by rfl)
    (hfew : ((backTo cpos (starEach (e :: es) X.env)).all (fun x => !x.1) && (backToKw cpos (keywordEach [] X.env)).all (fun x => x.1.isSome)
      && decide ((e :: es).length + ([] : List Keyword).length + (if ([] : List Keyword).isEmpty then 0 else 1) < 30)) = true := by rfl)
    (hline : (apos.endLine == cpos.line) = true := by rfl) (hs : starEach (e :: es) X.env = (false, eval e X.env) :: starEach es X.env := by rfl) (hplain : (backTo cpos (starEach es X.env)).any (·.1) = false := by rfl) :
    DE X (.Call (.Attribute (.Name x opos) "append" apos) (e :: es) [] cpos) (mutL i gApp fa) := de_mut PySem.F.plainAttrs_list PySem.F.slot_list_append PySem.F.type_list_append mt_append md_append q ha hbase hfew hline hs hplain
theorem de_extend {x : Str} {opos apos cpos : Pos} {i : Nat} (q : PE X (.Name x opos) (tVar i)) (ha : DA X (e :: es) fa)
    (hbase : attributeBase (.Name x opos) "extend" X.env (eval (.Name x opos) X.env) = eval (.Name x opos) X.env := by rfl)
    (hfew : ((backTo cpos (starEach (e :: es) X.env)).all (fun x => !x.1) && (backToKw cpos (keywordEach [] X.env)).all (fun x => x.1.isSome)
      && decide ((e :: es).length + ([] : List Keyword).length + (if ([] : List Keyword).isEmpty then 0 else 1) < 30)) = true := by rfl)
    (hline : (apos.endLine == cpos.line) = true := by rfl) (hs : starEach (e :: es) X.env = (false, eval e X.env) :: starEach es X.env := by rfl) (hplain : (backTo cpos (starEach es X.env)).any (·.1) = false := by rfl) :
    DE X (.Call (.Attribute (.Name x opos) "extend" apos) (e :: es) [] cpos) (mutL i gExt fa) := de_mut PySem.F.plainAttrs_list PySem.F.slot_list_extend PySem.F.type_list_extend mt_extend md_extend q ha hbase hfew hline hs hplain
end
end DL

namespace DL
open PySem PySem.Spec PyProof.Rows L2

/-! ### comprehensions and loops, seen from the data -/
theorem set_none_self {δ : Ds} {i : Nat} (h : δ[i]? = some none) : δ.set i none = δ := by
  apply List.ext_getElem?
  intro j
  by_cases hj : i = j
  · subst hj
    rw [List.getElem?_set_self (List.getElem?_eq_some_iff.mp h).1, h]
  · rw [List.getElem?_set_ne hj]
theorem slot_none {δ : Ds} {i : Nat} (h : δ[i]? = some none) : slot δ i = none := by
  unfold slot
  rw [h]
  rfl
theorem lcD_pure {i : Nat} {tt : TEV} {te : EV} {δ : Ds} {p : PyData → Bool} {h : PyData → PyData} (hi : δ[i]? = some none) : ∀ {xs : List PyData}, (∀ x ∈ xs, tt (δ.set i (some (.d x))) = some (p x, δ.set i (some (.d x)))) → (∀ x ∈ xs, p x = true → te (δ.set i (some (.d x))) = some (.d (h x), δ.set i (some (.d x)))) →
    lcD [i] (nameG i) tt te xs δ = some ((xs.filter p).map h, δ)
  | [], _, _ => rfl
  | x :: xs, h1, h2 => by
    have hil : i < δ.length := (List.getElem?_eq_some_iff.mp hi).1
    have w : wipeD (δ.set i (some (.d x))) [i] = δ := by
      show (δ.set i (some (.d x))).set i none = δ
      rw [List.set_set, set_none_self hi]
    have no : noOwn [i] (δ.set i (some (.d x))) = true := by
      show (notOwn (slot (δ.set i (some (S.d x))) i) && true) = true
      unfold slot
      rw [List.getElem?_set_self hil]
      rfl
    have ih := lcD_pure (tt := tt) (te := te) (p := p) (h := h) hi (xs := xs) (fun y hy => h1 y (List.mem_cons_of_mem _ hy)) (fun y hy => h2 y (List.mem_cons_of_mem _ hy))
    unfold lcD
    show ((tt (δ.set i (some (.d x)))).bind _) = _
    rw [h1 x List.mem_cons_self]
    simp only [Option.bind_some]
    cases hp : p x with
    | true =>
      rw [if_pos rfl, h2 x List.mem_cons_self hp]
      simp only [Option.bind_some, frz]
      rw [if_pos no, w, ih, List.filter_cons_of_pos hp]
      rfl
    | false =>
      rw [if_neg Bool.false_ne_true, if_pos no, w, ih, List.filter_cons_of_neg (by rw [hp]; exact Bool.false_ne_true)]
theorem lcE_pure {i : Nat} {fi : IEV} {tt : TEV} {te : EV} {δ : Ds} {xs : List PyData} (p : PyData → Bool) (h : PyData → PyData) (hi : δ[i]? = some none) (hf : fi δ = some (xs, δ)) (h1 : ∀ x ∈ xs, tt (δ.set i (some (.d x))) = some (p x, δ.set i (some (.d x)))) (h2 : ∀ x ∈ xs, p x = true → te (δ.set i (some (.d x))) = some (.d (h x), δ.set i (some (.d x)))) (hl : xs.length ≤ sizeLine) :
    lcE [i] fi (nameG i) tt te δ = some (.o (.l ((xs.filter p).map h)), δ) := by
  unfold lcE
  rw [hf]
  simp only [Option.bind_some]
  have no : noOwn [i] δ = true := by
    show (notOwn (slot δ i) && true) = true
    rw [slot_none hi]
    rfl
  have w : wipeD δ [i] = δ := set_none_self hi
  rw [if_pos no, w, lcD_pure hi h1 h2]
  simp only [Option.bind_some]
  have hl2 : ((xs.filter p).map h).length ≤ sizeLine := by
    rw [List.length_map]
    exact Nat.le_trans (List.length_filter_le _ _) hl
  rw [if_pos hl2]
  show some (_, δ.set i (slot δ i)) = _
  rw [slot_none hi, set_none_self hi]
theorem lcE_map {i : Nat} {fi : IEV} {te : EV} {δ : Ds} {xs : List PyData} (h : PyData → PyData) (hi : δ[i]? = some none) (hf : fi δ = some (xs, δ)) (h2 : ∀ x ∈ xs, te (δ.set i (some (.d x))) = some (.d (h x), δ.set i (some (.d x)))) (hl : xs.length ≤ sizeLine) :
    lcE [i] fi (nameG i) yesT te δ = some (.o (.l (xs.map h)), δ) := by
  have := lcE_pure (tt := yesT) (fun _ => true) h hi hf (fun _ _ => rfl) (fun x hx _ => h2 x hx) hl
  rw [this, List.filter_eq_self.mpr (fun _ _ => rfl)]
/-- a comprehension whose turns change the state: an invariant over what is made and the state (own slot free) -/
theorem lcD_inv {i N : Nat} {te : EV} {I : Nat → List PyData → Ds → Prop} : ∀ {xs : List PyData} {δ : Ds} (n : Nat) (acc : List PyData), n + xs.length ≤ N → I n acc δ →
    (∀ (k : Nat) (x : PyData) (acc : List PyData) (δ : Ds), k < N → x ∈ xs → I k acc δ → δ[i]? = some none ∧ ∃ d δ2, te (δ.set i (some (.d x))) = some (.d d, δ2.set i (some (.d x))) ∧ δ2[i]? = some none ∧ I (k + 1) (acc ++ [d]) δ2) →
    ∃ rs δ', lcD [i] (nameG i) yesT te xs δ = some (rs, δ') ∧ I (n + xs.length) (acc ++ rs) δ' ∧ rs.length = xs.length
  | [], δ, n, acc, _, h, _ => ⟨[], δ, rfl, by rw [List.append_nil]; exact h, rfl⟩
  | x :: xs, δ, n, acc, hN, h, st => by
    have hN2 : n + (xs.length + 1) ≤ N := hN
    obtain ⟨hi, d, δ2, e, hi2, h2⟩ := st n x acc δ (by omega) List.mem_cons_self h
    have hil : i < δ2.length := (List.getElem?_eq_some_iff.mp hi2).1
    have w : wipeD (δ2.set i (some (.d x))) [i] = δ2 := by
      show (δ2.set i (some (.d x))).set i none = δ2
      rw [List.set_set, set_none_self hi2]
    have no : noOwn [i] (δ2.set i (some (.d x))) = true := by
      show (notOwn (slot (δ2.set i (some (S.d x))) i) && true) = true
      unfold slot
      rw [List.getElem?_set_self hil]
      rfl
    obtain ⟨rs, δ', e2, h3, hl⟩ := lcD_inv (N := N) (te := te) (I := I) (xs := xs) (n + 1) (acc ++ [d]) (by omega) h2 (fun k y acc δ hk hy => st k y acc δ hk (List.mem_cons_of_mem _ hy))
    refine ⟨d :: rs, δ', ?_, ?_, by rw [List.length_cons, List.length_cons, hl]⟩
    · unfold lcD
      show ((te (δ.set i (some (.d x)))).bind _) = _
      rw [e]
      simp only [Option.bind_some, frz]
      rw [if_pos no, w, e2]
      rfl
    · rw [List.append_assoc] at h3
      rw [List.length_cons, show n + (xs.length + 1) = n + 1 + xs.length by omega]
      exact h3
theorem forD_inv {tg : GEV} {body : SEV} {I : Nat → Ds → Prop} : ∀ {xs : List PyData} {δ : Ds} (n : Nat), I n δ →
    (∀ (k : Nat) (x : PyData) (δ : Ds), xs[k]? = some x → I (n + k) δ → ∃ δ1 δ2, tg x δ = some δ1 ∧ body δ1 = some (.nx δ2) ∧ I (n + k + 1) δ2) → ∃ δ', forD tg body xs δ = some (.nx δ') ∧ I (n + xs.length) δ'
  | [], δ, n, h, _ => ⟨δ, rfl, h⟩
  | x :: xs, δ, n, h, st => by
    obtain ⟨δ1, δ2, e1, e2, h2⟩ := st 0 x δ rfl h
    obtain ⟨δ', e3, h3⟩ := forD_inv (tg := tg) (body := body) (I := I) (xs := xs) (δ := δ2) (n + 1) h2 (fun k y δ hy hI => by
      have := st (k + 1) y δ (by simpa using hy) (by rw [show n + (k + 1) = n + 1 + k by omega]; exact hI)
      rw [show n + (k + 1) + 1 = n + 1 + k + 1 by omega] at this
      exact this)
    refine ⟨δ', ?_, ?_⟩
    · unfold forD
      rw [e1]
      simp only [Option.bind_some]
      rw [e2]
      exact e3
    · rw [List.length_cons, show n + (xs.length + 1) = n + 1 + xs.length by omega]
      exact h3
/-! numbers of known size -/
theorem log_lt {x : Int} {a b : Nat} (h : x.natAbs < 2 ^ a) (h0 : 0 < a) (hab : a ≤ b) : x.natAbs.log2 < b := Nat.lt_of_lt_of_le (PySem.Flt.log2_lt_of h0 h) hab
theorem bits_le {x : Int} {a : Nat} (h : x.natAbs < 2 ^ a) (h0 : 0 < a) : Builtin.Int.intBits x ≤ a := by
  have := PySem.Flt.log2_lt_of h0 h
  unfold Builtin.Int.intBits
  split <;> omega
theorem iMul_ok {i j : Int} {a b : Nat} (ha : i.natAbs < 2 ^ a) (hb : j.natAbs < 2 ^ b) (h0 : 0 < a) (h1 : 0 < b) (h : a + b ≤ 100000) : iMul i j = some (i * j) := by
  unfold iMul
  have x := log_lt ha h0 (Nat.le_refl _)
  have y := log_lt hb h1 (Nat.le_refl _)
  rw [if_pos (by omega)]
theorem iDiv_ok {i j : Int} {b : Nat} (h : 0 < j) (hb : j.natAbs < 2 ^ b) (h1 : 0 < b) (h9 : b ≤ 9000) : iDiv i j = some (i / j) := by
  unfold iDiv
  rw [if_pos ⟨h, log_lt hb h1 h9⟩]
theorem iMod_ok {i j : Int} (h : 0 < j) : iMod i j = some (i % j) := by
  unfold iMod
  rw [if_pos h]
theorem iPow_ok {i j : Int} {a : Nat} (ha : i.natAbs < 2 ^ a) (h0 : 0 < a) (hj : 0 ≤ j) (hs : (a : Int) * j ≤ 2 ^ 27) : iPow i j = some (i ^ j.toNat) := by
  unfold iPow
  refine if_pos ⟨hj, ?_⟩
  have h1 : ((Builtin.Int.intBits i : Nat) : Int) ≤ (a : Int) := by
    have := bits_le ha h0
    omega
  have h2 := Int.mul_le_mul_of_nonneg_right h1 hj
  omega
theorem lt_pow_of {x : Int} {n : Nat} (h0 : 0 ≤ x) (h : x < (2 : Int) ^ n) : x.natAbs < 2 ^ n := by
  have e : ((2 ^ n : Nat) : Int) = (2 : Int) ^ n := by simp
  omega
/-! calls, seen from the data -/
theorem resA_v (δ : Ds) : ∀ ss : List S, resA δ (ss.map PV.v) = some ss
  | [] => rfl
  | s :: ss => by
    show ((some s).bind fun s => (resA δ (ss.map PV.v)).map (s :: ·)) = _
    rw [resA_v δ ss]
    rfl
theorem ix_v : ∀ ss : List S, (ss.map PV.v).filterMap PV.ix = []
  | [] => rfl
  | s :: ss => ix_v ss
theorem wb_v (δ : Ds) : ∀ (ss : List S) (cs : List (Option C)), ss.length ≤ cs.length → wb δ (ss.map PV.v) cs = some δ
  | [], cs, _ => by cases cs <;> rfl
  | s :: ss, [], h => by simp at h
  | s :: ss, c :: cs, h => by
    have := wb_v δ ss cs (by simpa using h)
    cases c <;> exact this
theorem callE_data {F : FN} {m : Nat} {fa : AEV} {δ δ' : Ds} {r : S} {cs : List (Option C)} (ss : List S) (ha : fa δ = some (ss.map PV.v, δ')) (hl : ss.length = m) (hF : F ss = some (r, cs)) (hc : ss.length ≤ cs.length) : callE F m fa δ = some (r, δ') := by
  unfold callE
  rw [ha]
  simp only [Option.bind_some]
  rw [resA_v]
  simp only [Option.bind_some]
  rw [if_pos ⟨by rw [ix_v]; exact List.nodup_nil, hl⟩, hF]
  simp only [Option.bind_some]
  rw [wb_v δ' ss cs hc]
  rfl
theorem callE_own {F : FN} {m i : Nat} {fa : AEV} {δ δ' : Ds} {r : S} {c c' : C} {cs : List (Option C)} (ss : List S) (ha : fa δ = some (.own i :: ss.map PV.v, δ')) (hi : slot δ' i = some (.o c)) (hl : ss.length + 1 = m) (hF : F (.o c :: ss) = some (r, some c' :: cs)) (hc : ss.length ≤ cs.length) : callE F m fa δ = some (r, δ'.set i (some (.o c'))) := by
  unfold callE
  rw [ha]
  simp only [Option.bind_some]
  have hr : resA δ' (.own i :: ss.map PV.v) = some (.o c :: ss) := by
    show ((slot δ' i).bind fun s => (resA δ' (ss.map PV.v)).map (s :: ·)) = _
    rw [hi, resA_v]
    rfl
  rw [hr]
  simp only [Option.bind_some]
  have hn : ((PV.own i :: ss.map PV.v).filterMap PV.ix).Nodup := by
    show (i :: (ss.map PV.v).filterMap PV.ix).Nodup
    rw [ix_v]
    exact List.nodup_cons.mpr ⟨List.not_mem_nil, List.nodup_nil⟩
  rw [if_pos ⟨hn, by rw [List.length_cons]; exact hl⟩, hF]
  simp only [Option.bind_some]
  have hw : wb δ' (.own i :: ss.map PV.v) (some c' :: cs) = some (δ'.set i (some (.o c'))) := by
    unfold wb
    rw [hi]
    exact wb_v _ ss cs hc
  rw [hw]
  rfl
theorem bools_map {α : Type} (f : α → Bool) : ∀ xs : List α, bools (xs.map fun x => .bool (f x)) = some (xs.map f)
  | [] => rfl
  | x :: xs => by
    show (bools (xs.map fun x => .bool (f x))).map (f x :: ·) = _
    rw [bools_map f xs]
    rfl
/-! one step at a time -/
section
variable {δ δ1 δ2 δ3 : Ds}
theorem retS_of {f : EV} {s : S} (h : f δ = some (s, δ1)) : retS f δ = some (.rt s δ1) := by unfold retS; rw [h]; rfl
theorem setS_of {i : Nat} {f : EV} {s : S} (h : f δ = some (s, δ1)) : setS i f δ = some (.nx (δ1.set i (some s))) := by unfold setS; rw [h]; rfl
theorem exprS_of {f : EV} {s : S} (h : f δ = some (s, δ1)) : exprS f δ = some (.nx δ1) := by unfold exprS; rw [h]; rfl
theorem seqS_of {f g : SEV} {o : Out} (h : f δ = some (.nx δ1)) (k : g δ1 = some o) : seqS f g δ = some o := by unfold seqS; rw [h]; exact k
theorem seqS_rt {f g : SEV} {s : S} (h : f δ = some (.rt s δ1)) : seqS f g δ = some (.rt s δ1) := by unfold seqS; rw [h]; rfl
theorem ifS_t {t : TEV} {f g : SEV} {o : Out} (h : t δ = some (true, δ1)) (k : f δ1 = some o) : ifS t f g δ = some o := by unfold ifS; rw [h]; exact k
theorem ifS_f {t : TEV} {f g : SEV} {o : Out} (h : t δ = some (false, δ1)) (k : g δ1 = some o) : ifS t f g δ = some o := by unfold ifS; rw [h]; exact k
theorem ifE_t {t : TEV} {f g : EV} {o : S × Ds} (h : t δ = some (true, δ1)) (k : f δ1 = some o) : ifE t f g δ = some o := by unfold ifE; rw [h]; exact k
theorem ifE_f {t : TEV} {f g : EV} {o : S × Ds} (h : t δ = some (false, δ1)) (k : g δ1 = some o) : ifE t f g δ = some o := by unfold ifE; rw [h]; exact k
theorem bl_of {f : EV} {b : Bool} (h : f δ = some (.d (.bool b), δ1)) : bl f δ = some (b, δ1) := by unfold bl; rw [h]; rfl
theorem notT_of {f : TEV} {b : Bool} (h : f δ = some (b, δ1)) : notT f δ = some (!b, δ1) := by unfold notT; rw [h]; rfl
theorem andT_t {f g : TEV} {o : Bool × Ds} (h : f δ = some (true, δ1)) (k : g δ1 = some o) : andT f g δ = some o := by unfold andT; rw [h]; exact k
theorem orT_f {f g : TEV} {o : Bool × Ds} (h : f δ = some (false, δ1)) (k : g δ1 = some o) : orT f g δ = some o := by unfold orT; rw [h]; exact k
theorem andV_t {f g : EV} {o : S × Ds} (h : f δ = some (.d (.bool true), δ1)) (k : g δ1 = some o) : andV f g δ = some o := by unfold andV; rw [h]; exact k
theorem notV_of {f : EV} {b : Bool} (h : f δ = some (.d (.bool b), δ1)) : notV f δ = some (.d (.bool (!b)), δ1) := by unfold notV; rw [h]; rfl
theorem frzP_of {f : EV} {s : S} (h : f δ = some (s, δ1)) : frzP f δ = some (.v (frz s), δ1) := by unfold frzP; rw [h]; rfl
theorem frzP_d {f : EV} {x : PyData} (h : f δ = some (.d x, δ1)) : frzP f δ = some (.v (.d x), δ1) := by unfold frzP; rw [h]; rfl
theorem frzP_l {f : EV} {xs : List PyData} (h : f δ = some (.o (.l xs), δ1)) : frzP f δ = some (.v (.d (.list xs)), δ1) := by unfold frzP; rw [h]; rfl
theorem consA_of {f : PEV} {g : AEV} {p : PV} {ps : List PV} (h : f δ = some (p, δ1)) (k : g δ1 = some (ps, δ2)) : consA f g δ = some (p :: ps, δ2) := by unfold consA; rw [h]; simp only [Option.bind_some]; rw [k]; rfl
theorem consF_of {f : EV} {g : FEV} {s : S} {ss : List S} (h : f δ = some (s, δ1)) (k : g δ1 = some (ss, δ2)) : consF f g δ = some (s :: ss, δ2) := by unfold consF; rw [h]; simp only [Option.bind_some]; rw [k]; rfl
theorem callB_of {g : List S → Option S} {fa : AEV} {ps : List PV} {ss : List S} {r : S} (h : fa δ = some (ps, δ1)) (k : resA δ1 ps = some ss) (l : g ss = some r) : callB g fa δ = some (r, δ1) := by unfold callB; rw [h]; simp only [Option.bind_some]; rw [k]; simp only [Option.bind_some]; rw [l]; rfl
theorem bin_of {g : S → S → Option S} {fa fb : PEV} {p q : PV} {a b r : S} (h : fa δ = some (p, δ1)) (k : fb δ1 = some (q, δ2)) (ha : res δ2 p = some a) (hb : res δ2 q = some b) (l : g a b = some r) : bin g fa fb δ = some (r, δ2) := by
  unfold bin; rw [h]; simp only [Option.bind_some]; rw [k]; simp only [Option.bind_some]; rw [ha]; simp only [Option.bind_some]; rw [hb]; simp only [Option.bind_some]; rw [l]; rfl
theorem bin_I {f : Int → Int → Option Int} {fa fb : PEV} {i j z : Int} (h : fa δ = some (.v (.d (.int i)), δ1)) (k : fb δ1 = some (.v (.d (.int j)), δ2)) (l : f i j = some z) : bin (opI2 f) fa fb δ = some (.d (.int z), δ2) :=
  bin_of h k rfl rfl (by show (f i j).map _ = _; rw [l]; rfl)
theorem bin_mul {fa fb : PEV} {i j z : Int} (h : fa δ = some (.v (.d (.int i)), δ1)) (k : fb δ1 = some (.v (.d (.int j)), δ2)) (l : iMul i j = some z) : bin opMul fa fb δ = some (.d (.int z), δ2) :=
  bin_of h k rfl rfl (by show (iMul i j).map _ = _; rw [l]; rfl)
theorem bin_ix {fa fb : PEV} {a : S} {j : Int} {r : S} (h : fa δ = some (.v a, δ1)) (k : fb δ1 = some (.v (.d (.int j)), δ2)) (l : opIx a (.d (.int j)) = some r) : bin opIx fa fb δ = some (r, δ2) := bin_of h k rfl rfl l
theorem bin_add {fa fb : PEV} {i j : Int} (h : fa δ = some (.v (.d (.int i)), δ1)) (k : fb δ1 = some (.v (.d (.int j)), δ2)) : bin opAdd fa fb δ = some (.d (.int (i + j)), δ2) := bin_of h k rfl rfl rfl
theorem bin_cmp {p : Int → Int → Bool} {fa fb : PEV} {i j : Int} (h : fa δ = some (.v (.d (.int i)), δ1)) (k : fb δ1 = some (.v (.d (.int j)), δ2)) : bin (cmpI p) fa fb δ = some (.d (.bool (p i j)), δ2) := bin_of h k rfl rfl rfl
theorem tupE_of {fa : AEV} {ps : List PV} {ds : List PyData} (h : fa δ = some (ps, δ1)) (k : dataA ps = some ds) (l : ds.length ≤ sizeLine) : tupE fa δ = some (.d (.tuple ds), δ1) := by unfold tupE; rw [h]; simp only [Option.bind_some]; rw [k]; simp only [Option.bind_some]; rw [if_pos l]
theorem lstE_of {fa : AEV} {ps : List PV} {ds : List PyData} (h : fa δ = some (ps, δ1)) (k : dataA ps = some ds) (l : ds.length ≤ sizeLine) : lstE fa δ = some (.o (.l ds), δ1) := by unfold lstE; rw [h]; simp only [Option.bind_some]; rw [k]; simp only [Option.bind_some]; rw [if_pos l]
theorem parS_of {is : List Nat} {f : FEV} {ss : List S} (h : f δ = some (ss, δ1)) (l : ss.length = is.length) : parS is f δ = some (.nx (setsD is ss δ1)) := by unfold parS; rw [h]; simp only [Option.bind_some]; rw [if_pos l]
theorem forS_of {fi : IEV} {g : GEV} {f : SEV} {xs : List PyData} {o : Out} (h : fi δ = some (xs, δ1)) (k : forD g f xs δ1 = some o) : forS fi g f δ = some o := by unfold forS; rw [h]; exact k
theorem seqI_of {f : EV} {s : S} {xs : List PyData} (h : f δ = some (s, δ1)) (k : frz s = .d (.list xs) ∨ frz s = .d (.tuple xs)) : seqI f δ = some (xs, δ1) := by
  unfold seqI; rw [h]; simp only [Option.bind_some]
  rcases k with k | k <;> rw [k]
theorem rngI1_of {fa : AEV} {n : Int} (h : fa δ = some ([.v (.d (.int n))], δ1)) (l : -(2 ^ 62) ≤ n ∧ n < 2 ^ 62) : rngI1 fa δ = some (rng 0 n.toNat, δ1) := by unfold rngI1; rw [h]; simp only [Option.bind_some]; rw [if_pos l]
theorem mutL_of {i : Nat} {g : List PyData → List PyData → Option (S × List PyData)} {fa : AEV} {ps : List PV} {ds ys0 ys zs : List PyData} {s : S} (h0 : slot δ i = some (.o (.l ys0))) (h : fa δ = some (ps, δ1)) (k : dataA ps = some ds) (h1 : slot δ1 i = some (.o (.l ys))) (l : g ys ds = some (s, zs)) : mutL i g fa δ = some (s, δ1.set i (some (.o (.l zs)))) := by
  unfold mutL; rw [h0]; simp only; rw [h]; simp only [Option.bind_some]; rw [k]; simp only [Option.bind_some]; rw [h1]; simp only; rw [l]; rfl
theorem setI_of {i : Nat} {fe fi : PEV} {d : PyData} {c0 : C} {k : Int} {xs : List PyData} {j : Nat} (h : fe δ = some (.v (.d d), δ1)) (h0 : slot δ1 i = some (.o c0)) (h1 : fi δ1 = some (.v (.d (.int k)), δ2)) (h2 : slot δ2 i = some (.o (.l xs))) (h3 : ixN xs.length k = some j) : setI i fe fi δ = some (.nx (δ2.set i (some (.o (.l (xs.set j d)))))) := by
  unfold setI; rw [h]; simp only [Option.bind_some]; rw [h0]; simp only; rw [h1]; simp only [Option.bind_some]; rw [h2]; simp only; rw [h3]; rfl
theorem rgE1_of {mk : List PyData → S} {f : PEV} {p : PV} {s : S} {n : Int} (h : f δ = some (p, δ1)) (k : res δ1 p = some s) (l : asI s = some n) (m : rgOk 0 n) : rgE1 mk f δ = some (mk (rng 0 (n - 0).toNat), δ1) := by
  unfold rgE1; rw [h]; simp only [Option.bind_some]; rw [k]; simp only [Option.bind_some]; rw [l]; simp only [Option.bind_some]; rw [if_pos m]
theorem runF_rt {P : List Nat} {n : Nat} {body : SEV} {ss : List S} {s : S} {cs : List (Option C)} (h : body (ss.map some ++ List.replicate (n - ss.length) none) = some (.rt s δ)) (k : ownC P 0 ss δ = some cs) : runF P n body ss = some (s, cs) := by
  unfold runF; rw [h]; show (ownC P 0 ss δ).map _ = _; rw [k]; rfl
/-- a comprehension over a changing state -/
theorem lcE_inv {i : Nat} {fi : IEV} {te : EV} {I : Nat → List PyData → Ds → Prop} {xs : List PyData} (hf : fi δ = some (xs, δ1)) (hi : δ1[i]? = some none) (h0 : I 0 [] δ1)
    (st : ∀ (k : Nat) (x : PyData) (acc : List PyData) (δ : Ds), k < xs.length → x ∈ xs → I k acc δ → δ[i]? = some none ∧ ∃ d δ2, te (δ.set i (some (.d x))) = some (.d d, δ2.set i (some (.d x))) ∧ δ2[i]? = some none ∧ I (k + 1) (acc ++ [d]) δ2) (hl : xs.length ≤ sizeLine) (he : ∀ rs δ, I xs.length rs δ → δ[i]? = some none) :
    ∃ rs δ', lcE [i] fi (nameG i) yesT te δ = some (.o (.l rs), δ') ∧ I xs.length rs δ' ∧ rs.length = xs.length := by
  obtain ⟨rs, δ', e, h, l⟩ := lcD_inv (N := xs.length) (te := te) (I := I) (xs := xs) (δ := δ1) 0 [] (by omega) h0 st
  rw [List.nil_append, Nat.zero_add] at h
  have hi' := he rs δ' h
  refine ⟨rs, δ', ?_, h, l⟩
  unfold lcE
  rw [hf]
  simp only [Option.bind_some]
  have no : noOwn [i] δ1 = true := by
    show (notOwn (slot δ1 i) && true) = true
    rw [slot_none hi]
    rfl
  have w : wipeD δ1 [i] = δ1 := set_none_self hi
  rw [if_pos no, w, e]
  simp only [Option.bind_some]
  rw [if_pos (by rw [l]; exact hl)]
  show some (_, δ'.set i (slot δ1 i)) = _
  rw [slot_none hi, set_none_self hi']
end
section
variable {δ δ1 : Ds}
theorem lcE_pure1 {i : Nat} {fi : IEV} {tt : TEV} {te : EV} {xs : List PyData} (p : PyData → Bool) (h : PyData → PyData) (hf : fi δ = some (xs, δ1)) (hi : δ1[i]? = some none) (h1 : ∀ x ∈ xs, tt (δ1.set i (some (.d x))) = some (p x, δ1.set i (some (.d x)))) (h2 : ∀ x ∈ xs, p x = true → te (δ1.set i (some (.d x))) = some (.d (h x), δ1.set i (some (.d x)))) (hl : xs.length ≤ sizeLine) :
    lcE [i] fi (nameG i) tt te δ = some (.o (.l ((xs.filter p).map h)), δ1) := by
  have := lcE_pure (fi := fun _ => some (xs, δ1)) (tt := tt) (te := te) p h hi rfl h1 h2 hl
  unfold lcE at this ⊢
  rw [hf]
  exact this
theorem lcE_map1 {i : Nat} {fi : IEV} {te : EV} {xs : List PyData} (h : PyData → PyData) (hf : fi δ = some (xs, δ1)) (hi : δ1[i]? = some none) (h2 : ∀ x ∈ xs, te (δ1.set i (some (.d x))) = some (.d (h x), δ1.set i (some (.d x)))) (hl : xs.length ≤ sizeLine) :
    lcE [i] fi (nameG i) yesT te δ = some (.o (.l (xs.map h)), δ1) := by
  have := lcE_map (fi := fun _ => some (xs, δ1)) (te := te) h hi rfl h2 hl
  unfold lcE at this ⊢
  rw [hf]
  exact this
end
end DL

namespace DL
open PySem PySem.Spec PyProof.Rows L2

/-! ### two comparisons in one -/
def chn (g g' : S → S → Option S) (fa fb fc : PEV) : EV := fun δ => (fa δ).bind fun x => (fb x.2).bind fun y => (res y.2 x.1).bind fun s => (res y.2 y.1).bind fun u => (g s u).bind fun z => match z with
  | .d (.bool true) => (fc y.2).bind fun w => (res w.2 y.1).bind fun s' => (res w.2 w.1).bind fun u' => (g' s' u').map fun z' => (z', w.2)
  | .d (.bool false) => some (.d (.bool false), y.2)
  | _ => none
section
variable {X : Cx} {a b c : Expr} {pos : Pos} {fa fb fc : PEV}
theorem de_chain {op op' : CmpOp} {r r' : R2} {g g' : S → S → Option S} (ho : OpR X (compareOp op) r) (hd : OpD X.K r g) (ho' : OpR X (compareOp op') r') (hd' : OpD X.K r' g') (ha : DP X a fa) (hb : DP X b fb) (hc : DP X c fc) (hl : lastMarks [op, op'] [b, c] = false := by rfl) :
    DE X (.Compare a [op, op'] [b, c] pos) (chn g g' fa fb fc) := pe_imp (pe_chain ho ho' ha hb hc hl) fun σ H Q ⟨T, ρ, δ, s, δ', hs, hf, hq⟩ => by
  unfold chn at hf
  cases ea : fa δ with
  | none => rw [ea] at hf; cases hf
  | some x =>
    rw [ea] at hf
    simp only [Option.bind_some] at hf
    cases eb : fb x.2 with
    | none => rw [eb] at hf; cases hf
    | some y =>
      rw [eb] at hf
      simp only [Option.bind_some] at hf
      cases e1 : res y.2 x.1 with
      | none => rw [e1] at hf; cases hf
      | some u =>
        rw [e1] at hf
        simp only [Option.bind_some] at hf
        cases e2 : res y.2 y.1 with
        | none => rw [e2] at hf; cases hf
        | some w =>
          rw [e2] at hf
          simp only [Option.bind_some] at hf
          cases e3 : g u w with
          | none => rw [e3] at hf; cases hf
          | some z =>
            rw [e3] at hf
            simp only [Option.bind_some] at hf
            refine ⟨T, ρ, δ, x.1, x.2, hs, by rw [ea], fun ρ1 v1 H1 s1 x1 p1 => ?_⟩
            refine ⟨T, ρ1, x.2, y.1, y.2, s1, by rw [eb], fun ρ2 v2 H2 s2 x2 p2 => ?_⟩
            split at hf
            · refine hd T ρ2 H2 v1 v2 u w (.d (.bool true)) _ s2.trk (pat_at s2 x2 p1 e1) (pat_at s2 .refl p2 e2) e3 fun v3 H3 m3 d3 => ?_
              cases (show Dq _ _ v3 (.bool true) from d3)
              have x3 := s2.trk.extT m3
              have s3 := s2.mono m3
              refine ⟨true, rfl, ?_⟩
              rw [if_pos rfl]
              cases ec : fc y.2 with
              | none => rw [ec] at hf; cases hf
              | some q =>
                rw [ec] at hf
                simp only [Option.bind_some] at hf
                cases e4 : res q.2 y.1 with
                | none => rw [e4] at hf; cases hf
                | some u' =>
                  rw [e4] at hf
                  simp only [Option.bind_some] at hf
                  cases e5 : res q.2 q.1 with
                  | none => rw [e5] at hf; cases hf
                  | some w' =>
                    rw [e5] at hf
                    simp only [Option.bind_some] at hf
                    cases e6 : g' u' w' with
                    | none => rw [e6] at hf; cases hf
                    | some z' =>
                      rw [e6] at hf
                      cases hf
                      refine ⟨T, ρ2, y.2, q.1, q.2, s3, by rw [ec], fun ρ4 v4 H4 s4 x4 p4 => ?_⟩
                      exact hd' T ρ4 H4 v2 v4 u' w' s Q s4.trk (pat_at s4 (x3.trans x4) p2 e4) (pat_at s4 .refl p4 e5) e6 (post_o s4 (x1.trans (x2.trans (x3.trans x4))) hq)
            · cases hf
              refine hd T ρ2 H2 v1 v2 u w (.d (.bool false)) _ s2.trk (pat_at s2 x2 p1 e1) (pat_at s2 .refl p2 e2) e3 fun v3 H3 m3 d3 => ?_
              cases (show Dq _ _ v3 (.bool false) from d3)
              refine ⟨false, rfl, ?_⟩
              rw [if_neg Bool.false_ne_true]
              exact hq ρ2 _ H3 (s2.mono m3) (x1.trans (x2.trans (s2.trk.extT m3))) (Dq.bl false)
            · cases hf

/-! ### isinstance with a class of the language -/
def kdD : PyData → Option String
  | .none => some "NoneType"
  | .bool _ => some "bool"
  | .int _ => some "int"
  | .str _ => some "str"
  | .list _ => some "list"
  | .tuple _ => some "tuple"
  | .dict _ => some "dict"
def kdS : S → Option String
  | .d x => kdD x
  | .o (.l _) => some "list"
  | _ => none
def isiK (t c : String) : Bool := t == c || (t == "bool" && c == "int")
def isiE (c : String) (f : PEV) : EV := fun δ => (f δ).bind fun x => (res x.2 x.1).bind fun s => (kdS s).map fun t => (.d (.bool (isiK t c)), x.2)
theorem kd_ty {K : PySem.W.Frag} {T : List Addr} {ρ : List (Option Addr)} {H : Hp} {v : V} {s : S} {t : String} (h : At K T ρ H v s) (e : kdS s = some t) : TyX K H v (.type t) ∧ t ∈ ["NoneType", "bool", "int", "str", "list", "tuple", "dict"] := by
  cases s with
  | d x =>
    have hv : Dq K (hid T ρ H) v x := h
    cases hv with
    | non => cases e; exact ⟨.base .non, by decide⟩
    | bl b => cases e; exact ⟨.base (.bl b), by decide⟩
    | int i => cases e; exact ⟨.base (.int i), by decide⟩
    | str z => cases e; exact ⟨.base (.str z), by decide⟩
    | lst h1 h2 => cases e; exact ⟨.base (.lst (hid_same _ _ h1)), by decide⟩
    | tup h1 h2 => cases e; exact ⟨.base (.tup (hid_same _ _ h1)), by decide⟩
    | dctE h1 => cases e; exact ⟨.base (.dK (hid_same _ _ h1)), by decide⟩
    | dct1 h1 h2 => cases e; exact ⟨.base (.dK (hid_same _ _ h1)), by decide⟩
  | o c =>
    cases c with
    | l xs =>
      cases e
      obtain ⟨a, o, rfl, h1, vs, rfl, h2⟩ := h
      exact ⟨.base (.lst h1), by decide⟩
    | t kvs => cases e
  | t kvs => cases e
  | z ns => cases e
  | p ns => cases e
theorem isi_kit : ∀ t ∈ ["NoneType", "bool", "int", "str", "list", "tuple", "dict"], ∀ c ∈ ["int", "bool", "tuple", "list", "str"], kitB t c = some (isiK t c) := by decide +kernel
theorem de_isi {cn : String} {x y : Str} {p1 p2 : Pos} (hx : x = "isinstance") (hcn : cn ∈ ["int", "bool", "tuple", "list", "str"]) (hm : X.mg x = none) (hg : Gl X x) (hm2 : X.mg y = none) (hg2 : Gl X y) (hv : bootBuiltins y = some (.type cn)) (hn : y ≠ "__name__") (hdb : (y == ("__debug__" : Str)) = false) (ha : DP X a fa)
    (he : starEach [a, .Name y p2] X.env = (false, eval a X.env) :: starEach [.Name y p2] X.env := by rfl) (he2 : starEach [.Name y p2] X.env = (false, eval (.Name y p2) X.env) :: starEach [] X.env := by rfl) (hpl : (backTo pos (starEach [.Name y p2] X.env)).any (·.1) = false := by rfl) :
    DE X (.Call (.Name x p1) [a, .Name y p2] [] pos) (isiE cn fa) := by
  subst hx
  refine pe_imp (pe_callB call_isi hg hm (by decide +kernel) (pa_cons ha (pa_cons (pe_bltn (v := .ty cn) hg2 hm2 hv rfl hn hdb) pa_nil he2) he) (by decide) (by decide) he hpl) fun σ H Q ⟨T, ρ, δ, s, δ', hs, hf, hq⟩ => ?_
  unfold isiE at hf
  cases ea : fa δ with
  | none => rw [ea] at hf; cases hf
  | some q =>
    rw [ea] at hf
    simp only [Option.bind_some] at hf
    cases e1 : res q.2 q.1 with
    | none => rw [e1] at hf; cases hf
    | some u =>
      rw [e1] at hf
      simp only [Option.bind_some] at hf
      cases e2 : kdS u with
      | none => rw [e2] at hf; cases hf
      | some t =>
        rw [e2] at hf
        cases hf
        refine ⟨T, ρ, δ, q.1, q.2, hs, by rw [ea], fun ρ1 v1 H1 s1 x1 p1 => ?_⟩
        obtain ⟨ht, hk⟩ := kd_ty (pat_at s1 .refl p1 e1) e2
        exact ⟨_, _, _, _, _, rfl, .ty cn, ht, kit_ty (isi_kit t hk cn hcn), hq ρ1 _ H1 s1 x1 (Dq.bl _)⟩
end
end DL

namespace DL
open PySem PySem.Spec PyProof.Rows L2

/-! ### is None, is a truth -/
def isNon : S → Bool
  | .d .none => true
  | _ => false
def opIs (neg : Bool) (a b : S) : Option S := match b with
  | .d .none => some (.d (.bool (xor neg (isNon a))))
  | .d (.bool y) => match a with
    | .d (.bool x) => some (.d (.bool (xor neg (decide (x = y)))))
    | _ => none
  | _ => none
theorem at_non {K : PySem.W.Frag} {T : List Addr} {ρ : List (Option Addr)} {H : Hp} {v : V} {s : S} (h : At K T ρ H v s) : decide (v = V.non) = isNon s := by
  cases s with
  | d x =>
    have hv : Dq K (hid T ρ H) v x := h
    cases hv <;> rfl
  | o c =>
    obtain ⟨a, o, rfl, h1, h2⟩ := h
    rfl
  | t kvs =>
    obtain ⟨a, o, rfl, h1, h2⟩ := h
    rfl
  | z ns =>
    obtain ⟨a, rfl, h1⟩ := h
    rfl
  | p ns =>
    obtain ⟨a, rfl, h1⟩ := h
    rfl
theorem od_is {K : PySem.W.Frag} : OpD K (fun x y H Q => (y = V.non ∧ Q (V.bl (decide (x = V.non))) H) ∨ rIsB x y H Q) (opIs false) := fun T ρ H x y a b s Q k ha hb hg hq => by
  unfold opIs at hg
  split at hg
  · cases hg
    cases (show Dq K _ y .none from hb)
    refine .inl ⟨rfl, ?_⟩
    rw [at_non ha]
    rw [Bool.false_xor] at hq
    exact postO_same hq (.bl _)
  · split at hg
    · cases hg
      cases (show Dq K _ x (.bool _) from ha)
      cases (show Dq K _ y (.bool _) from hb)
      refine .inr ⟨_, _, rfl, rfl, ?_⟩
      rw [Bool.false_xor] at hq
      exact postO_same hq (.bl _)
    · cases hg
  · cases hg
theorem od_isNot {K : PySem.W.Frag} : OpD K (fun x y H Q => (y = V.non ∧ Q (V.bl !decide (x = V.non)) H) ∨ rNotB x y H Q) (opIs true) := fun T ρ H x y a b s Q k ha hb hg hq => by
  unfold opIs at hg
  split at hg
  · cases hg
    cases (show Dq K _ y .none from hb)
    refine .inl ⟨rfl, ?_⟩
    rw [at_non ha]
    rw [Bool.true_xor] at hq
    exact postO_same hq (.bl _)
  · split at hg
    · cases hg
      cases (show Dq K _ x (.bool _) from ha)
      cases (show Dq K _ y (.bool _) from hb)
      refine .inr ⟨_, _, rfl, rfl, ?_⟩
      rw [Bool.true_xor] at hq
      exact postO_same hq (.bl _)
    · cases hg
  · cases hg
section
variable {X : Cx} {a b : Expr} {pos : Pos} {fa fb : PEV}
theorem de_is (ha : DP X a fa) (hb : DP X b fb) : DE X (.Compare a [.Is] [b] pos) (bin (opIs false) fa fb) := de_cmp (opr_or op_isN op_isBl) od_is ha hb (nomark _)
theorem dt_is (ha : DP X a fa) (hb : DP X b fb) : DT X (.Compare a [.Is] [b] pos) (bl (bin (opIs false) fa fb)) := dt_cmp (opr_or op_isN op_isBl) od_is ha hb (nomark _)
theorem de_isNot (ha : DP X a fa) (hb : DP X b fb) : DE X (.Compare a [.IsNot] [b] pos) (bin (opIs true) fa fb) := de_cmp (opr_or op_notN op_notBl) od_isNot ha hb (nomark _)
theorem dt_isNot (ha : DP X a fa) (hb : DP X b fb) : DT X (.Compare a [.IsNot] [b] pos) (bl (bin (opIs true) fa fb)) := dt_cmp (opr_or op_notN op_notBl) od_isNot ha hb (nomark _)
end
end DL

namespace DL
open PySem PySem.Spec PyProof.Rows L2

/-! ### insert, pop -/
theorem dqAll_erase {K : PySem.W.Frag} {G : Hp} : ∀ {vs : List V} {ds : List PyData} (n : Nat), DqAll K G vs ds → DqAll K G (vs.eraseIdx n) (ds.eraseIdx n)
  | _, _, _, .nil => .nil
  | _, _, 0, .cons h t => t
  | _, _, n + 1, .cons h t => .cons h (dqAll_erase n t)
def gIns (xs ds : List PyData) : Option (S × List PyData) := match ds with
  | [.int i, d] => if xs.length < sizeLine ∧ 0 ≤ i ∧ i < 2 ^ 63 then some (.d .none, xs.take i.toNat ++ [d] ++ xs.drop i.toNat) else none
  | _ => none
def gPopAt (xs ds : List PyData) : Option (S × List PyData) := match ds with
  | [.int i] => if -(2 ^ 63) ≤ i ∧ i < 2 ^ 63 then (seqIndex? i xs.length).bind fun k => (xs[k]?).map fun y => (.d y, xs.eraseIdx k) else none
  | _ => none
theorem md_insert {K : PySem.W.Frag} : MutD K (fun x vs H Q => ∃ (l : Addr) (xs : List V) (i : Int) (y : V), x = .ref l ∧ vs = [.int i, y] ∧ H l = some (.lst xs) ∧ xs.length < sizeLine ∧ 0 ≤ i ∧ i < 2 ^ 63 ∧ Q .non (upd H l (.lst (xs.take i.toNat ++ [y] ++ xs.drop i.toNat)))) gIns := fun T ρ H a ys xs ds vs s zs Q h1 h2 h3 h4 h5 => by
  unfold gIns at h4
  split at h4
  · rename_i i d
    split at h4
    · rename_i hl
      cases h4
      cases h3 with
      | cons q1 q2 =>
        cases q1
        cases q2 with
        | cons q3 q4 =>
          cases q4
          exact ⟨a, ys, i, _, rfl, rfl, h1, by rw [dpAll_len h2]; exact hl.1, hl.2.1, hl.2.2, h5 _ _ (dpAll_app (dpAll_app (dpAll_take _ h2) (.cons q3 .nil)) (dpAll_drop _ h2)) .non⟩
    · cases h4
  · cases h4
theorem md_popAt {K : PySem.W.Frag} : MutD K rPopAt gPopAt := fun T ρ H a ys xs ds vs s zs Q h1 h2 h3 h4 h5 => by
  unfold gPopAt at h4
  split at h4
  · rename_i i
    split at h4
    · rename_i hl
      cases e : seqIndex? i xs.length with
      | none => rw [e] at h4; cases h4
      | some k =>
        rw [e] at h4
        simp only [Option.bind_some] at h4
        cases e2 : xs[k]? with
        | none => rw [e2] at h4; cases h4
        | some y =>
          rw [e2] at h4
          cases h4
          cases h3 with
          | cons q1 q2 =>
            cases q1
            cases q2
            obtain ⟨v, v1, v2⟩ := dpAll_get h2 e2
            exact ⟨a, ys, i, k, v, rfl, rfl, h1, hl.1, hl.2, by rw [dpAll_len h2]; exact e, v1, h5 _ _ (dqAll_erase _ h2) v2⟩
    · cases h4
  · cases h4
section
variable {X : Cx} {pos p : Pos} {e : Expr} {es : List Expr} {fa : AEV}
theorem de_insert {x : Str} {opos apos cpos : Pos} {i : Nat} (q : PE X (.Name x opos) (tVar i)) (ha : DA X (e :: es) fa)
    (hbase : attributeBase (.Name x opos) "insert" X.env (eval (.Name x opos) X.env) = eval (.Name x opos) X.env := by rfl)
    (hfew : ((backTo cpos (starEach (e :: es) X.env)).all (fun x => !x.1) && (backToKw cpos (keywordEach [] X.env)).all (fun x => x.1.isSome)
      && decide ((e :: es).length + ([] : List Keyword).length + (if ([] : List Keyword).isEmpty then 0 else 1) < 30)) = true := by rfl)
    (hline : (apos.endLine == cpos.line) = true := by rfl) (hs : starEach (e :: es) X.env = (false, eval e X.env) :: starEach es X.env := by rfl) (hplain : (backTo cpos (starEach es X.env)).any (·.1) = false := by rfl) :
    DE X (.Call (.Attribute (.Name x opos) "insert" apos) (e :: es) [] cpos) (mutL i gIns fa) := de_mut PySem.F.plainAttrs_list PySem.F.slot_list_insert PySem.F.type_list_insert mt_insert md_insert q ha hbase hfew hline hs hplain
theorem de_popAt {x : Str} {opos apos cpos : Pos} {i : Nat} (q : PE X (.Name x opos) (tVar i)) (ha : DA X (e :: es) fa)
    (hbase : attributeBase (.Name x opos) "pop" X.env (eval (.Name x opos) X.env) = eval (.Name x opos) X.env := by rfl)
    (hfew : ((backTo cpos (starEach (e :: es) X.env)).all (fun x => !x.1) && (backToKw cpos (keywordEach [] X.env)).all (fun x => x.1.isSome)
      && decide ((e :: es).length + ([] : List Keyword).length + (if ([] : List Keyword).isEmpty then 0 else 1) < 30)) = true := by rfl)
    (hline : (apos.endLine == cpos.line) = true := by rfl) (hs : starEach (e :: es) X.env = (false, eval e X.env) :: starEach es X.env := by rfl) (hplain : (backTo cpos (starEach es X.env)).any (·.1) = false := by rfl) :
    DE X (.Call (.Attribute (.Name x opos) "pop" apos) (e :: es) [] cpos) (mutL i gPopAt fa) := de_mut PySem.F.plainAttrs_list PySem.F.slot_list_pop PySem.F.type_list_pop mt_popAt md_popAt q ha hbase hfew hline hs hplain
end
end DL

namespace DL
open PySem PySem.Spec PyProof.Rows L2

/-! ### a comprehension with two for -/
def lcD2 (vs vs1 : List Nat) (g : GEV) (tt : TEV) (fi1 : IEV) (g1 : GEV) (tt1 : TEV) (te : EV) : List PyData → Ds → Option (List PyData × Ds)
  | [], δ => some ([], δ)
  | x :: xs, δ => (g x δ).bind fun δ1 => (tt δ1).bind fun b =>
    if b.1 then (fi1 b.2).bind fun z => if noOwn vs1 z.2 then (lcD vs1 g1 tt1 te z.1 (wipeD z.2 vs1)).bind fun r =>
      if noOwn vs r.2 then (lcD2 vs vs1 g tt fi1 g1 tt1 te xs (wipeD r.2 vs)).map fun q => (r.1 ++ q.1, q.2) else none else none
    else if noOwn vs b.2 then lcD2 vs vs1 g tt fi1 g1 tt1 te xs (wipeD b.2 vs) else none
def lc2E (vs vs1 : List Nat) (fi : IEV) (g : GEV) (tt : TEV) (fi1 : IEV) (g1 : GEV) (tt1 : TEV) (te : EV) : EV := fun δ => (fi δ).bind fun x =>
  if noOwn vs x.2 then (lcD2 vs vs1 g tt fi1 g1 tt1 te x.1 (wipeD x.2 vs)).bind fun r => if r.1.length ≤ sizeLine then some (.o (.l r.1), restD x.2 r.2 vs) else none else none
theorem wipe_sub {σ : L2.St} {vs vs1 : List Nat} (h : ∀ j ∈ vs1, j ∈ vs) : L2.wipe (L2.wipe σ vs1) vs = L2.wipe σ vs := wipe_only (ws := vs1) ⟨wipe_length _ _, fun j hj => wipe_ne hj⟩ h
section
variable {K : PySem.W.Frag}
theorem lc_in {vs1 ws1 : List Nat} {fi1 : IEV} {g1 : GEV} {tt1 : TEV} {te : EV} (hw1 : ∀ j ∈ ws1, j ∈ vs1) {T : List Addr} {ρ : List (Option Addr)} {δ δ1 δe : Ds} {σ : L2.St} {H : Hp} {D : Addr} {acc : List V} {dn ys out : List PyData} (hD : D ∈ T) (s : Sim K T ρ δ σ H) (hacc : H D = some (.lst acc)) (hdn : DqAll K (hid T ρ H) acc dn)
    (ei : fi1 δ = some (ys, δ1)) (hno : noOwn vs1 δ1 = true) (el : lcD vs1 g1 tt1 te ys (wipeD δ1 vs1) = some (out, δe)) (hsz : dn.length + out.length ≤ sizeLine) {Nx : Hp → Prop}
    (fin : ∀ ρ' H' acc', Sim K T ρ' δe (L2.wipe σ vs1) H' → Same (hid T ρ H) (hid T ρ' H') → (∀ a ∈ T, a ≠ D → H' a = H a) → H' D = some (.lst acc') → DqAll K (hid T ρ' H') acc' (dn ++ out) → Nx H') :
    liftI K fi1 σ H fun J1 H4 => ∃ W1 : Nat → Nat → Hp → Prop, (∃ m, W1 0 m H4) ∧ ∀ (j k : Nat) (H : Hp), W1 j k H → J1.stop j H ∧ Nx H ∨ J1.go j H ∧ ∃ Nx1 : Hp → Prop, (∀ H', Nx1 H' → ∃ k', k' < k ∧ W1 (j + 1) k' H') ∧ ∀ x H', J1.yld j H x H' → liftG K ws1 g1 x (L2.wipe σ vs1) H' fun σ3 H5 => L2.wipe σ3 vs1 = L2.wipe σ vs1 ∧ liftT K tt1 σ3 H5 fun b H6 => if b = true then lift K te σ3 H6 fun y H7 => ∃ acc, H7 D = some (.lst acc) ∧ acc.length < sizeLine ∧ Nx1 (upd H7 D (.lst (acc ++ [y]))) else Nx1 H6 := by
  refine ⟨T, ρ, δ, ys, δ1, s, ei, fun ρ1 H1 J s1 x1 sv => ?_⟩
  refine ⟨fun i m H' => ∃ ρ' δ2 acc' dn' rs, i + m = ys.length ∧ Sim K T ρ' δ2 (L2.wipe σ vs1) H' ∧ Same (hid T ρ1 H1) (hid T ρ' H') ∧ (∀ a ∈ T, a ≠ D → H' a = H1 a) ∧ H' D = some (.lst acc') ∧ DqAll K (hid T ρ' H') acc' (dn ++ dn') ∧
    lcD vs1 g1 tt1 te (ys.drop i) δ2 = some (rs, δe) ∧ dn' ++ rs = out, ⟨ys.length, ρ1, wipeD δ1 vs1, acc, [], out, by omega, s1.wipe hno, Same.refl _, fun _ _ _ => rfl, (x1.tmp D hD).trans hacc, by rw [List.append_nil]; exact dpAllM x1.same _ hdn, el, rfl⟩, ?_⟩
  rintro i m H2 ⟨ρ2, δ2, acc2, dn2, rs, him, s2, sm, tm, hacc2, hdn2, hl, hout⟩
  have alen : acc2.length = dn.length + dn2.length := by rw [dpAll_len hdn2, List.length_append]
  by_cases hi : i < ys.length
  · have hd : ys.drop i = ys[i] :: ys.drop (i + 1) := by rw [List.drop_eq_getElem_cons hi]
    rw [hd] at hl
    unfold lcD at hl
    cases eg : g1 ys[i] δ2 with
    | none => rw [eg] at hl; cases hl
    | some δ3 =>
      rw [eg] at hl
      simp only [Option.bind_some] at hl
      cases et : tt1 δ3 with
      | none => rw [et] at hl; cases hl
      | some b =>
        obtain ⟨b, δ4⟩ := b
        rw [et] at hl
        simp only [Option.bind_some] at hl
        obtain ⟨go, yl⟩ := (sv i T ρ2 H2 sm s2.trk).1 _ (List.getElem?_eq_getElem hi)
        refine .inr ⟨go, fun H' => ∃ ρ' δ2 acc' dn' rs, Sim K T ρ' δ2 (L2.wipe σ vs1) H' ∧ Same (hid T ρ1 H1) (hid T ρ' H') ∧ (∀ a ∈ T, a ≠ D → H' a = H1 a) ∧ H' D = some (.lst acc') ∧ DqAll K (hid T ρ' H') acc' (dn ++ dn') ∧
          lcD vs1 g1 tt1 te (ys.drop (i + 1)) δ2 = some (rs, δe) ∧ dn' ++ rs = out, ?_, fun x H3 hy => ?_⟩
        · rintro H' ⟨ρ', δ5, acc', dn', rs', q1, q2, q3, q4, q5, q6, q7⟩
          exact ⟨m - 1, by omega, ρ', δ5, acc', dn', rs', by omega, q1, q2, q3, q4, q5, q6, q7⟩
        obtain ⟨y1, y2⟩ := yl x H3 hy
        have e2 := s2.trk.extT y1
        refine ⟨T, ρ2, δ2, ys[i], δ3, s2.mono y1, y2, eg, fun ρ4 σ4 H4 s4 x4 o4 => ?_⟩
        have hwp : L2.wipe σ4 vs1 = L2.wipe σ vs1 := by rw [wipe_only o4 hw1, wipe_idem]
        refine ⟨hwp, T, ρ4, δ3, b, δ4, s4, et, fun ρ5 H5 s5 x5 => ?_⟩
        have xx : Ext T ρ2 H2 ρ5 H5 := e2.trans (x4.trans x5)
        have fn : ∀ (ρ6 : List (Option Addr)) (δ6 : Ds) (H6 : Hp), Sim K T ρ6 δ6 σ4 H6 → Ext T ρ2 H2 ρ6 H6 → noOwn vs1 δ6 = true →
            Sim K T ρ6 (wipeD δ6 vs1) (L2.wipe σ vs1) H6 ∧ Same (hid T ρ1 H1) (hid T ρ6 H6) ∧ (∀ a ∈ T, a ≠ D → H6 a = H1 a) ∧ H6 D = some (.lst acc2) ∧ DqAll K (hid T ρ6 H6) acc2 (dn ++ dn2) := by
          intro ρ6 δ6 H6 s6 x6 n6
          have q := s6.wipe n6
          rw [hwp] at q
          exact ⟨q, sm.trans x6.same, fun a ha ne => (x6.tmp a ha).trans (tm a ha ne), (x6.tmp D hD).trans hacc2, dpAllM x6.same _ hdn2⟩
        cases b with
        | false =>
          refine L2.iteF ?_
          rw [if_neg Bool.false_ne_true] at hl
          split at hl
          case isFalse => cases hl
          rename_i n5
          obtain ⟨q1, q2, q3, q4, q5⟩ := fn ρ5 δ4 H5 s5 xx n5
          exact ⟨ρ5, _, acc2, dn2, rs, q1, q2, q3, q4, q5, hl, hout⟩
        | true =>
          refine L2.iteT ?_
          rw [if_pos rfl] at hl
          cases ey : te δ4 with
          | none => rw [ey] at hl; cases hl
          | some y =>
            obtain ⟨u, δ6⟩ := y
            rw [ey] at hl
            simp only [Option.bind_some] at hl
            split at hl
            case h_2 => cases hl
            rename_i d hd'
            split at hl
            case isFalse => cases hl
            rename_i n6
            cases er : lcD vs1 g1 tt1 te (ys.drop (i + 1)) (wipeD δ6 vs1) with
            | none => rw [er] at hl; cases hl
            | some r =>
              obtain ⟨rs', δz⟩ := r
              rw [er] at hl
              cases hl
              have hlen : acc2.length < sizeLine := by
                have := hsz
                rw [← hout, List.length_append, List.length_cons] at this
                omega
              have each : ∀ (ρ7 : List (Option Addr)) (v : V) (H7 : Hp), Sim K T ρ7 δ6 σ4 H7 → Ext T ρ5 H5 ρ7 H7 → Dq K (hid T ρ7 H7) v d →
                  ∃ acc, H7 D = some (.lst acc) ∧ acc.length < sizeLine ∧ (∃ ρ' δ2 acc' dn' rs, Sim K T ρ' δ2 (L2.wipe σ vs1) (upd H7 D (.lst (acc ++ [v]))) ∧ Same (hid T ρ1 H1) (hid T ρ' (upd H7 D (.lst (acc ++ [v])))) ∧ (∀ a ∈ T, a ≠ D → (upd H7 D (.lst (acc ++ [v]))) a = H1 a) ∧ (upd H7 D (.lst (acc ++ [v]))) D = some (.lst acc') ∧ DqAll K (hid T ρ' (upd H7 D (.lst (acc ++ [v])))) acc' (dn ++ dn') ∧
                    lcD vs1 g1 tt1 te (ys.drop (i + 1)) δ2 = some (rs, δz) ∧ dn' ++ rs = out) := by
                intro ρ7 v H7 s7 x7 hv
                obtain ⟨q1, q2, q3, q4, q5⟩ := fn ρ7 δ6 H7 s7 (xx.trans x7) n6
                refine ⟨acc2, q4, hlen, ρ7, _, acc2 ++ [v], dn2 ++ [d], rs', q1.tmpW hD, ?_, ?_, upd_same, ?_, er, by rw [List.append_assoc]; exact hout⟩
                · rw [hid_tmp hD]
                  exact q2
                · intro a ha ne
                  rw [upd_ne ne]
                  exact q3 a ha ne
                · rw [hid_tmp hD, ← List.append_assoc]
                  exact dpAll_app q5 (.cons hv .nil)
              refine ⟨T, ρ5, δ4, u, δ6, s5, ey, ?_⟩
              cases u with
              | o c =>
                intro ρ7 p H7 o s7 x7 hp hc
                have hn := frz_new s7.trk hp hc
                rw [hd'] at hn
                exact each ρ7 (.ref p) _ (s7.mono (same_new hp)) (x7.trans (s7.trk.extT (same_new hp))) hn
              | d c =>
                cases hd'
                exact fun ρ7 v H7 s7 x7 hv => each ρ7 v H7 s7 x7 hv
              | t c => cases hd'
              | z c => cases hd'
              | p c => cases hd'
  · have hd : ys.drop i = [] := List.drop_eq_nil_of_le (by omega)
    rw [hd] at hl
    cases hl
    rw [List.append_nil] at hout
    subst hout
    exact .inl ⟨(sv i T ρ2 H2 sm s2.trk).2 (by omega), fin ρ2 H2 acc2 s2 (x1.same.trans sm) (fun a ha ne => (tm a ha ne).trans (x1.tmp a ha)) hacc2 hdn2⟩
end
theorem lc2_ok {K : PySem.W.Frag} {vs ws vs1 ws1 : List Nat} {fi fi1 : IEV} {g g1 : GEV} {tt tt1 : TEV} {te : EV} (hw : ∀ j ∈ ws, j ∈ vs) (hw1 : ∀ j ∈ ws1, j ∈ vs1) (hv1 : ∀ j ∈ vs1, j ∈ vs) (σ : L2.St) (H : Hp) (Q : VK) (h : lift K (lc2E vs vs1 fi g tt fi1 g1 tt1 te) σ H Q) : tLc2 (liftI K fi) (liftG K ws g) (liftT K tt) (liftI K fi1) (liftG K ws1 g1) (liftT K tt1) (lift K te) vs vs1 σ H Q := by
  obtain ⟨T, ρ, δ, s, δ', hs, hf, hq⟩ := h
  unfold lc2E at hf
  cases ea : fi δ with
  | none => rw [ea] at hf; cases hf
  | some z =>
    obtain ⟨xs, δ1⟩ := z
    rw [ea] at hf
    simp only [Option.bind_some] at hf
    split at hf
    case isFalse => cases hf
    rename_i hno
    cases el : lcD2 vs vs1 g tt fi1 g1 tt1 te xs (wipeD δ1 vs) with
    | none => rw [el] at hf; cases hf
    | some r =>
      obtain ⟨out, δe⟩ := r
      rw [el] at hf
      simp only [Option.bind_some] at hf
      split at hf
      case isFalse => cases hf
      rename_i hsz
      cases hf
      refine ⟨T, ρ, δ, xs, δ1, hs, ea, fun ρ1 H1 J s1 x1 sv => ?_⟩
      intro D hD
      refine ⟨fun i m H' => ∃ ρ' δ2 acc dn rs, i + m = xs.length ∧ Sim K (D :: T) ρ' δ2 (L2.wipe σ vs) H' ∧ Same (hid T ρ1 H1) (hid (D :: T) ρ' H') ∧ (∀ a, a ∈ T → H' a = H1 a) ∧ H' D = some (.lst acc) ∧ DqAll K (hid (D :: T) ρ' H') acc dn ∧
        lcD2 vs vs1 g tt fi1 g1 tt1 te (xs.drop i) δ2 = some (rs, δe) ∧ dn ++ rs = out, ⟨xs.length, ρ1, wipeD δ1 vs, [], [], out, by omega, (s1.wipe hno).addTmp hD, ?_, ?_, upd_same, .nil, el, rfl⟩, ?_⟩
      · rw [hid_new hD]
        exact Same.refl _
      · intro a ha
        obtain ⟨o, ho, _⟩ := s1.tmp a ha
        rw [upd_ne (ne_of_none ho hD)]
      rintro i m H2 ⟨ρ2, δ2, acc, dn, rs, him, s2, sm, tm, hacc, hdn, hl, hout⟩
      have alen : acc.length = dn.length := dpAll_len hdn
      by_cases hi : i < xs.length
      · have hd : xs.drop i = xs[i] :: xs.drop (i + 1) := by rw [List.drop_eq_getElem_cons hi]
        rw [hd] at hl
        unfold lcD2 at hl
        cases eg : g xs[i] δ2 with
        | none => rw [eg] at hl; cases hl
        | some δ3 =>
          rw [eg] at hl
          simp only [Option.bind_some] at hl
          cases et : tt δ3 with
          | none => rw [et] at hl; cases hl
          | some b =>
            obtain ⟨b, δ4⟩ := b
            rw [et] at hl
            simp only [Option.bind_some] at hl
            obtain ⟨go, yl⟩ := (sv i (D :: T) ρ2 H2 sm s2.trk).1 _ (List.getElem?_eq_getElem hi)
            refine .inr ⟨go, fun H' => ∃ ρ' δ2 acc dn rs, Sim K (D :: T) ρ' δ2 (L2.wipe σ vs) H' ∧ Same (hid T ρ1 H1) (hid (D :: T) ρ' H') ∧ (∀ a, a ∈ T → H' a = H1 a) ∧ H' D = some (.lst acc) ∧ DqAll K (hid (D :: T) ρ' H') acc dn ∧
              lcD2 vs vs1 g tt fi1 g1 tt1 te (xs.drop (i + 1)) δ2 = some (rs, δe) ∧ dn ++ rs = out, ?_, fun x H3 hy => ?_⟩
            · rintro H' ⟨ρ', δ5, acc', dn', rs', q1, q2, q3, q4, q5, q6, q7⟩
              exact ⟨m - 1, by omega, ρ', δ5, acc', dn', rs', by omega, q1, q2, q3, q4, q5, q6, q7⟩
            obtain ⟨y1, y2⟩ := yl x H3 hy
            have e2 := s2.trk.extT y1
            refine ⟨D :: T, ρ2, δ2, xs[i], δ3, s2.mono y1, y2, eg, fun ρ4 σ4 H4 s4 x4 o4 => ?_⟩
            have hwp : L2.wipe σ4 vs = L2.wipe σ vs := by rw [wipe_only o4 hw, wipe_idem]
            refine ⟨hwp, D :: T, ρ4, δ3, b, δ4, s4, et, fun ρ5 H5 s5 x5 => ?_⟩
            have xx : Ext (D :: T) ρ2 H2 ρ5 H5 := e2.trans (x4.trans x5)
            -- a turn's end
            have fin : ∀ (ρ6 : List (Option Addr)) (δ6 : Ds) (H6 : Hp), Sim K (D :: T) ρ6 δ6 σ4 H6 → Ext (D :: T) ρ2 H2 ρ6 H6 → noOwn vs δ6 = true →
                Sim K (D :: T) ρ6 (wipeD δ6 vs) (L2.wipe σ vs) H6 ∧ Same (hid T ρ1 H1) (hid (D :: T) ρ6 H6) ∧ (∀ a, a ∈ T → H6 a = H1 a) ∧ H6 D = some (.lst acc) ∧ DqAll K (hid (D :: T) ρ6 H6) acc dn := by
              intro ρ6 δ6 H6 s6 x6 n6
              have q := s6.wipe n6
              rw [hwp] at q
              exact ⟨q, sm.trans x6.same, fun a ha => (x6.tmp a (List.mem_cons_of_mem _ ha)).trans (tm a ha), (x6.tmp D List.mem_cons_self).trans hacc, dpAllM x6.same _ hdn⟩
            cases b with
            | false =>
              refine L2.iteF ?_
              rw [if_neg Bool.false_ne_true] at hl
              split at hl
              case isFalse => cases hl
              rename_i n5
              obtain ⟨q1, q2, q3, q4, q5⟩ := fin ρ5 δ4 H5 s5 xx n5
              exact ⟨ρ5, _, acc, dn, rs, q1, q2, q3, q4, q5, hl, hout⟩
            | true =>
              refine L2.iteT ?_
              rw [if_pos rfl] at hl
              cases ei : fi1 δ4 with
              | none => rw [ei] at hl; cases hl
              | some y =>
                obtain ⟨ys, δ5⟩ := y
                rw [ei] at hl
                simp only [Option.bind_some] at hl
                split at hl
                case isFalse => cases hl
                rename_i n5
                cases er : lcD vs1 g1 tt1 te ys (wipeD δ5 vs1) with
                | none => rw [er] at hl; cases hl
                | some r =>
                  obtain ⟨o1, δ6⟩ := r
                  rw [er] at hl
                  simp only [Option.bind_some] at hl
                  split at hl
                  case isFalse => cases hl
                  rename_i n6
                  cases et2 : lcD2 vs vs1 g tt fi1 g1 tt1 te (xs.drop (i + 1)) (wipeD δ6 vs) with
                  | none => rw [et2] at hl; cases hl
                  | some q =>
                    obtain ⟨rs', δz⟩ := q
                    rw [et2] at hl
                    cases hl
                    have hlen : dn.length + o1.length ≤ sizeLine := by
                      have := hsz
                      rw [← hout, List.length_append, List.length_append] at this
                      omega
                    refine lc_in hw1 List.mem_cons_self s5 ((xx.tmp D List.mem_cons_self).trans hacc) (dpAllM xx.same _ hdn) ei n5 er hlen fun ρ7 H7 acc7 s7 m7 t7 a7 d7 => ?_
                    have q := s7.wipe n6
                    rw [wipe_sub hv1, hwp] at q
                    exact ⟨ρ7, _, acc7, dn ++ o1, rs', q, sm.trans (xx.same.trans m7), fun a ha => by
                      have ne : a ≠ D := fun z => by
                        subst z
                        exact (s1.trk.fresh hD).1 ha
                      exact (t7 a (List.mem_cons_of_mem _ ha) ne).trans ((xx.tmp a (List.mem_cons_of_mem _ ha)).trans (tm a ha)), a7, d7, et2, by rw [List.append_assoc]; exact hout⟩
      · have hd : xs.drop i = [] := List.drop_eq_nil_of_le (by omega)
        rw [hd] at hl
        cases hl
        rw [List.append_nil] at hout
        subst hout
        refine .inl ⟨(sv i (D :: T) ρ2 H2 sm s2.trk).2 (by omega), ?_⟩
        have hh : hid T ρ2 (rm H2 D) = hid (D :: T) ρ2 H2 := hid_rm
        rw [← rm_upd hacc]
        refine hq ρ2 D (rm H2 D) (.lst acc) ?_ (x1.trans ⟨by rw [hh]; exact sm, fun a ha => ?_⟩) rm_self ⟨acc, rfl, by rw [hh]; exact hdn⟩
        · have lenE : δe.length = σ.length := by
            have := s2.slen
            rw [wipe_length] at this
            exact this.symm
          refine ⟨by rw [restD_len]; exact s2.len, by rw [restD_len]; exact lenE.symm, fun j u hj => ?_, fun j c hj => ?_, fun j a hj => ?_, s2.inj, fun j a hj hm => s2.nt j a hj (List.mem_cons_of_mem _ hm), fun a ha => ?_⟩
          · by_cases hjv : j ∈ vs
            · have hjl : j < δe.length := by
                have := (List.getElem?_eq_some_iff.mp hj).1
                rw [restD_len] at this
                exact this
              rw [restD_in hjv hjl] at hj
              have hj' := slot_some (Option.some.inj hj)
              obtain ⟨v, e1, e2⟩ := s1.slot j u hj'
              refine ⟨v, e1, ?_⟩
              cases u with
              | o c => exact (notOwn_no (noOwn_mem hno hjv) hj').elim
              | d x => exact (show SV K (hid T ρ2 (rm H2 D)) v (.d x) by rw [hh]; exact svM (s := .d x) sm e2)
              | t x => exact (show SV K (hid T ρ2 (rm H2 D)) v (.t x) by rw [hh]; exact svM (s := .t x) sm e2)
              | z x => exact (show SV K (hid T ρ2 (rm H2 D)) v (.z x) by rw [hh]; exact svM (s := .z x) sm e2)
              | p x => exact (show SV K (hid T ρ2 (rm H2 D)) v (.p x) by rw [hh]; exact svM (s := .p x) sm e2)
            · rw [restD_ne hjv] at hj
              obtain ⟨v, e1, e2⟩ := s2.slot j u hj
              rw [wipe_ne hjv] at e1
              refine ⟨v, e1, ?_⟩
              cases u with
              | o c =>
                obtain ⟨b, f1, f2⟩ := s2.own j c hj
                rw [wipe_ne hjv, e1] at f2
                cases f2
                obtain ⟨a, x, z1, z2, z3⟩ := e2
                cases z1
                have ne : b ≠ D := fun z => by
                  subst z
                  exact s2.nt j b f1 List.mem_cons_self
                exact ⟨b, x, rfl, by rw [rm_ne ne]; exact z2, by rw [hh]; exact z3⟩
              | d x => exact (show SV K (hid T ρ2 (rm H2 D)) v (.d x) by rw [hh]; exact e2)
              | t x => exact (show SV K (hid T ρ2 (rm H2 D)) v (.t x) by rw [hh]; exact e2)
              | z x => exact (show SV K (hid T ρ2 (rm H2 D)) v (.z x) by rw [hh]; exact e2)
              | p x => exact (show SV K (hid T ρ2 (rm H2 D)) v (.p x) by rw [hh]; exact e2)
          · by_cases hjv : j ∈ vs
            · have hjl : j < δe.length := by
                have := (List.getElem?_eq_some_iff.mp hj).1
                rw [restD_len] at this
                exact this
              rw [restD_in hjv hjl] at hj
              exact (notOwn_no (noOwn_mem hno hjv) (slot_some (Option.some.inj hj))).elim
            · rw [restD_ne hjv] at hj
              obtain ⟨a, f1, f2⟩ := s2.own j c hj
              rw [wipe_ne hjv] at f2
              exact ⟨a, f1, f2⟩
          · obtain ⟨c, hc⟩ := s2.own' j a hj
            by_cases hjv : j ∈ vs
            · obtain ⟨b, f1, f2⟩ := s2.own j c hc
              have hjl : j < σ.length := by
                have := (List.getElem?_eq_some_iff.mp hc).1
                omega
              rw [wipe_in hjv hjl] at f2
              cases f2
            · exact ⟨c, by rw [restD_ne hjv]; exact hc⟩
          · have ne : a ≠ D := fun z => by
              subst z
              exact (s1.trk.fresh hD).1 ha
            obtain ⟨o, ho, hn⟩ := s1.tmp a ha
            exact ⟨o, by rw [rm_ne ne, tm a ha]; exact ho, hn⟩
        · have ne : a ≠ D := fun z => by
            subst z
            exact (s1.trk.fresh hD).1 ha
          rw [rm_ne ne]
          exact tm a ha

section
variable {X : Cx}
theorem de_lc2 {elt tg iter tg1 iter1 : Expr} {ifs ifs1 : List Expr} {scope : Scope} {own : List (Str × Nat)} {pos : Pos} {ws vs1 ws1 : List Nat} {fi fi1 : IEV} {g g1 : GEV} {tt tt1 : TEV} {te : EV} (hc : X.calm = true) (hN : X.N.Nodup) (hi : DI X tg iter fi) (ok : BlkOk X.N X.env.scope scope own) (hw : ∀ j ∈ ws, j ∈ own.map (·.2)) (hw1 : ∀ j ∈ ws1, j ∈ vs1) (hv1 : ∀ j ∈ vs1, j ∈ own.map (·.2))
    (hg : ∀ (s : Shared) (H : Hp) (C : Addr) (cl : List (Str × Addr)) (fp : List Addr), DG (X.blk s H scope (compEnvC scope cl C X.env) fp) ws tg g)
    (ht : ∀ (s : Shared) (H : Hp) (C : Addr) (cl : List (Str × Addr)) (fp : List Addr), DTs (X.blk s H scope (compEnvC scope cl C X.env) fp) ifs tt)
    (hi1 : ∀ (s : Shared) (H : Hp) (C : Addr) (cl : List (Str × Addr)) (fp : List Addr), DI (X.blk s H scope (compEnvC scope cl C X.env) fp) tg1 iter1 fi1)
    (hg1 : ∀ (s : Shared) (H : Hp) (C : Addr) (cl : List (Str × Addr)) (fp : List Addr), DG (X.blk s H scope (compEnvC scope cl C X.env) fp) ws1 tg1 g1)
    (ht1 : ∀ (s : Shared) (H : Hp) (C : Addr) (cl : List (Str × Addr)) (fp : List Addr), DTs (X.blk s H scope (compEnvC scope cl C X.env) fp) ifs1 tt1)
    (he : ∀ (s : Shared) (H : Hp) (C : Addr) (cl : List (Str × Addr)) (fp : List Addr), DE (X.blk s H scope (compEnvC scope cl C X.env) fp) elt te) (hs : ∀ x, foldedSetIterable iter X.env x = pure x := by intro _; rfl) (hs1 : ∀ (env : Env) x, foldedSetIterable iter1 env x = pure x := by intro _ _; rfl) :
    DE X (.ListComp elt [⟨tg, iter, ifs, 0⟩, ⟨tg1, iter1, ifs1, 0⟩] scope pos) (lc2E (own.map (·.2)) vs1 fi g tt fi1 g1 tt1 te) := pe_imp (pe_lc2 hc hN hi ok hv1 hg ht hi1 hg1 ht1 he hs hs1) (lc2_ok hw hw1 hv1)
end
end DL

namespace DL
open PySem PySem.Spec PyProof.Rows L2

/-! ### tables -/
def key1 : PyData → Option Key
  | .int i => some (.inl i)
  | .str x => some (.inr x)
  | _ => none
def keyL : List PyData → Option (List Key)
  | [] => some []
  | d :: ds => (key1 d).bind fun k => (keyL ds).map fun ks => k :: ks
/-- whether it is flat, and the key -/
def keyS : S → Option (Bool × List Key)
  | .d (.tuple ds) => (keyL ds).map fun ks => (false, ks)
  | .d x => (key1 x).map fun k => (true, [k])
  | _ => none
def asTb : S → Option Tab
  | .t kvs => some kvs
  | .o (.t kvs) => some kvs
  | _ => none
theorem key1_v {K : PySem.W.Frag} {G : Hp} {v : V} {d : PyData} {k : Key} (h : Dq K G v d) (e : key1 d = some k) : v = kV k := by
  cases h with
  | int i => cases e; rfl
  | str x => cases e; rfl
  | non => cases e
  | bl b => cases e
  | lst a b => cases e
  | tup a b => cases e
  | dctE a => cases e
  | dct1 a b => cases e
theorem keyL_v {K : PySem.W.Frag} {G : Hp} : ∀ {vs : List V} {ds : List PyData} {ks : List Key}, DqAll K G vs ds → keyL ds = some ks → vs = ks.map kV
  | _, _, _, .nil, e => by cases e; rfl
  | _, _, _, .cons (d := d) (ds := ds) h t, e => by
    unfold keyL at e
    cases e1 : key1 d with
    | none => rw [e1] at e; cases e
    | some k =>
      rw [e1] at e
      simp only [Option.bind_some] at e
      cases e2 : keyL ds with
      | none => rw [e2] at e; cases e
      | some ks' =>
        rw [e2] at e
        cases e
        rw [key1_v h e1, keyL_v t e2]
        rfl
theorem at_key {K : PySem.W.Frag} {T : List Addr} {ρ : List (Option Addr)} {H : Hp} {v : V} {s : S} {f : Bool} {k : List Key} (h : At K T ρ H v s) (e : keyS s = some (f, k)) : (f = false ∧ ∃ b, v = .ref b ∧ hid T ρ H b = some (.tup (k.map kV))) ∨ (f = true ∧ ∃ x, k = [x] ∧ v = kV x) := by
  unfold keyS at e
  split at e
  · rename_i ds
    cases e1 : keyL ds with
    | none => rw [e1] at e; cases e
    | some ks =>
      rw [e1] at e
      cases e
      cases (show Dq K (hid T ρ H) v (.tuple _) from h) with
      | tup h1 h2 => exact .inl ⟨rfl, _, rfl, by rw [h1, keyL_v h2 e1]⟩
  · rename_i x _
    cases e1 : key1 x with
    | none => rw [e1] at e; cases e
    | some k1 =>
      rw [e1] at e
      cases e
      exact .inr ⟨rfl, k1, rfl, key1_v (show Dq K (hid T ρ H) v x from h) e1⟩
  · cases e
theorem at_tb {K : PySem.W.Frag} {T : List Addr} {ρ : List (Option Addr)} {H : Hp} {v : V} {s : S} {t : Tab} (h : At K T ρ H v s) (e : asTb s = some t) : ∃ a o, v = .ref a ∧ H a = some o ∧ TbO K (hid T ρ H) o t := by
  unfold asTb at e
  split at e
  · cases e
    obtain ⟨a, o, h1, h2, h3⟩ := h
    exact ⟨a, o, h1, hid_same _ _ h2, h3⟩
  · cases e
    obtain ⟨a, o, h1, h2, h3⟩ := h
    exact ⟨a, o, h1, h2, h3⟩
  · cases e
def valK (kvs : List (List Key × PyData)) (k : List Key) : Option PyData := (kvs.find? fun p => decide (p.1 = k)).map (·.2)
theorem tv_val {K : PySem.W.Frag} {G : Hp} : ∀ {ws : List (List Key × V)} {kvs : List (List Key × PyData)} {k : List Key}, TV K G ws kvs → (valV ws k = none ∧ valK kvs k = none) ∨ ∃ v d, valV ws k = some v ∧ valK kvs k = some d ∧ Dq K G v d
  | _, _, _, .nil => .inl ⟨rfl, rfl⟩
  | _, _, k, .cons (a := p) (b := q) h t => by
    have ih := tv_val (k := k) t
    unfold valV valK at *
    rw [List.find?_cons, List.find?_cons, h.1]
    cases decide (q.1 = k) with
    | true => exact .inr ⟨_, _, rfl, rfl, h.2⟩
    | false => exact ih
theorem valV_one : ∀ (ws : List (Key × V)) (k : Key), valV (ws.map fun p => ([p.1], p.2)) [k] = valV ws k
  | [], _ => rfl
  | p :: ws, k => by
    have ih := valV_one ws k
    unfold valV at *
    rw [List.map_cons, List.find?_cons, List.find?_cons]
    have e : decide ([p.1] = [k]) = decide (p.1 = k) := by
      by_cases h : p.1 = k
      · rw [h, decide_eq_true rfl, decide_eq_true rfl]
      · rw [decide_eq_false h, decide_eq_false (fun z => h (List.cons.inj z).1)]
    rw [e]
    cases decide (p.1 = k) with
    | true => rfl
    | false => exact ih
/-- what a table holds at a key -/
theorem tb_get {K : PySem.W.Frag} {T : List Addr} {ρ : List (Option Addr)} {H : Hp} {x y : V} {a b : S} {k : List Key} {t : Tab} (ha : At K T ρ H x a) (hb : At K T ρ H y b) (e1 : keyS a = some (t.fl, k)) (e2 : asTb b = some t) :
    ∃ c r, y = .ref c ∧ DGet H c x r ∧ ((r = none ∧ valK t.kvs k = none) ∨ ∃ v d, r = some v ∧ valK t.kvs k = some d ∧ Dq K (hid T ρ H) v d) := by
  obtain ⟨c, o, rfl, hc, to⟩ := at_tb hb e2
  rcases to with ⟨f, ws, rfl, tv⟩ | ⟨f, ws, rfl, tv⟩
  · rcases at_key ha e1 with ⟨_, p, rfl, hp⟩ | ⟨f', _⟩
    · exact ⟨c, valV ws k, rfl, .inr ⟨ws, k, p, .inl hc, rfl, hid_same _ _ hp, rfl⟩, tv_val tv⟩
    · rw [f] at f'; cases f'
  · rcases at_key ha e1 with ⟨f', _⟩ | ⟨_, k1, rfl, rfl⟩
    · rw [f] at f'; cases f'
    · refine ⟨c, valV ws k1, rfl, .inl ⟨ws, k1, .inl hc, rfl, rfl⟩, ?_⟩
      rw [← valV_one ws k1]
      exact tv_val tv
def opInT (neg : Bool) (a b : S) : Option S := (keyS a).bind fun k => (asTb b).bind fun t => if k.1 = t.fl then some (.d (.bool (xor neg (valK t.kvs k.2).isSome))) else none
def rDIn (neg : Bool) : R2 := fun y x H Q => ∃ a o, x = .ref a ∧ DGet H a y o ∧ Q (.bl (xor neg o.isSome)) H
theorem od_inT {K : PySem.W.Frag} {neg : Bool} : OpD K (rDIn neg) (opInT neg) := fun T ρ H x y a b s Q k ha hb hg hq => by
  unfold opInT at hg
  cases e1 : keyS a with
  | none => rw [e1] at hg; cases hg
  | some ks =>
    rw [e1] at hg
    simp only [Option.bind_some] at hg
    cases e2 : asTb b with
    | none => rw [e2] at hg; cases hg
    | some t =>
      rw [e2] at hg
      simp only [Option.bind_some] at hg
      split at hg
      case isFalse => cases hg
      rename_i hf
      cases hg
      obtain ⟨c, r, rfl, g, hr⟩ := tb_get ha hb (k := ks.2) (by rw [← hf]; exact e1) e2
      refine ⟨c, r, rfl, g, ?_⟩
      rcases hr with ⟨rfl, hk⟩ | ⟨v, d, rfl, hk, _⟩ <;> rw [hk] at hq <;> exact postO_same hq (.bl _)
/-! either rule of two -/
theorem pe_or2 {X : Cx} {e : Expr} {t t' : TE} (p : PE X e t) (p' : PE X e t') : PE X e (fun σ H Q => t σ H Q ∨ t' σ H Q) := ⟨fun pins s σ H Q I h => h.elim (p.run pins s σ H Q I) (p'.run pins s σ H Q I)⟩
def opInX (neg : Bool) (a b : S) : Option S := match opInT neg a b with
  | some z => some z
  | none => opIn neg a b
theorem bin_x {g g' : S → S → Option S} {fa fb : PEV} {δ : Ds} {r : S × Ds} (h : bin (fun a b => match g a b with | some z => some z | none => g' a b) fa fb δ = some r) : bin g fa fb δ = some r ∨ bin g' fa fb δ = some r := by
  unfold bin at *
  cases ea : fa δ with
  | none => rw [ea] at h; cases h
  | some x =>
    rw [ea] at h
    simp only [Option.bind_some] at *
    cases eb : fb x.2 with
    | none => rw [eb] at h; cases h
    | some y =>
      rw [eb] at h
      simp only [Option.bind_some] at *
      cases e1 : res y.2 x.1 with
      | none => rw [e1] at h; cases h
      | some u =>
        rw [e1] at h
        simp only [Option.bind_some] at *
        cases e2 : res y.2 y.1 with
        | none => rw [e2] at h; cases h
        | some w =>
          rw [e2] at h
          simp only [Option.bind_some] at *
          cases e3 : g u w with
          | none => rw [e3] at h; exact .inr h
          | some z => rw [e3] at h; exact .inl h
theorem lift_x {K : PySem.W.Frag} {g g' : S → S → Option S} {fa fb : PEV} {σ : L2.St} {H : Hp} {Q : VK} (h : lift K (bin (fun a b => match g a b with | some z => some z | none => g' a b) fa fb) σ H Q) : lift K (bin g fa fb) σ H Q ∨ lift K (bin g' fa fb) σ H Q := by
  obtain ⟨T, ρ, δ, s, δ', hs, hf, hq⟩ := h
  exact (bin_x hf).elim (fun e => .inl ⟨T, ρ, δ, s, δ', hs, e, hq⟩) fun e => .inr ⟨T, ρ, δ, s, δ', hs, e, hq⟩
section
variable {X : Cx} {a b : Expr} {pos : Pos} {fp fq : PEV} {k : Nat}
theorem de_inT (hr : Room k X.A) (ha : DP X a fp) (hb : DP X b fq) (hm : behindInMarks .In b = false := by rfl) : DE X (.Compare a [.In] [b] pos) (bin (opInT false) fp fq) :=
  pe_imp (pe_cmp (pc_din (by have := hr.un; omega) ha hb) hm) fun σ H Q h => by
    have q := bin_ok (r := rDIn false) (X := X) od_inT σ H Q h
    simp only [tOp, rDIn, Bool.false_xor] at q
    exact q
theorem de_inX (hr : Room k X.A) (ha : DP X a fp) (hb : DP X b fq) (hm : behindInMarks .In b = false := by rfl) : DE X (.Compare a [.In] [b] pos) (bin (opInX false) fp fq) :=
  pe_imp (pe_or2 (de_inT hr ha hb hm) (de_in hr ha hb hm)) fun σ H Q h => lift_x h
theorem de_notInT (hr : Room k X.A) (ha : DP X a fp) (hb : DP X b fq) (hm : behindInMarks .NotIn b = false := by rfl) : DE X (.Compare a [.NotIn] [b] pos) (bin (opInT true) fp fq) :=
  pe_imp (pe_cmp (pc_dnotin (by have := hr.un; omega) ha hb) hm) fun σ H Q h => by
    have q := bin_ok (r := rDIn true) (X := X) od_inT σ H Q h
    simp only [tOp, rDIn, Bool.true_xor] at q
    exact q
theorem de_notInX (hr : Room k X.A) (ha : DP X a fp) (hb : DP X b fq) (hm : behindInMarks .NotIn b = false := by rfl) : DE X (.Compare a [.NotIn] [b] pos) (bin (opInX true) fp fq) :=
  pe_imp (pe_or2 (de_notInT hr ha hb hm) (de_notIn hr ha hb hm)) fun σ H Q h => lift_x h
theorem pt_or2 {e : Expr} {t t' : TT} (p : PT X e t) (p' : PT X e t') : PT X e (fun σ H Q => t σ H Q ∨ t' σ H Q) := ⟨fun pins s σ H Q I h => h.elim (p.run pins s σ H Q I) (p'.run pins s σ H Q I)⟩
theorem dt_inX (hr : Room k X.A) (ha : DP X a fp) (hb : DP X b fq) (hm : behindInMarks .In b = false := by rfl) : DT X (.Compare a [.In] [b] pos) (bl (bin (opInX false) fp fq)) :=
  pt_imp (pt_or2 (pt_cmp (pc_din (by have := hr.un; omega) ha hb) hm) (pt_cmpR (or_in (by have := hr.un; omega)) ha hb hm)) fun σ H Q h => by
    have q := bl_ok σ H Q h
    rcases lift_x q with q | q
    · have q := bin_ok (r := rDIn false) (X := X) od_inT σ H _ q
      simp only [tOp, rDIn, Bool.false_xor] at q
      exact .inl q
    · exact .inr (bin_ok (X := X) od_in σ H _ q)
theorem dt_notInX (hr : Room k X.A) (ha : DP X a fp) (hb : DP X b fq) (hm : behindInMarks .NotIn b = false := by rfl) : DT X (.Compare a [.NotIn] [b] pos) (bl (bin (opInX true) fp fq)) :=
  pt_imp (pt_or2 (pt_cmp (pc_dnotin (by have := hr.un; omega) ha hb) hm) (pt_cmpR (or_notIn (by have := hr.un; omega)) ha hb hm)) fun σ H Q h => by
    have q := bl_ok σ H Q h
    rcases lift_x q with q | q
    · have q := bin_ok (r := rDIn true) (X := X) od_inT σ H _ q
      simp only [tOp, rDIn, Bool.true_xor] at q
      exact .inl q
    · exact .inr (bin_ok (X := X) od_in σ H _ q)
end
end DL

namespace DL
open PySem PySem.Spec PyProof.Rows L2

section
variable {X : Cx} {a b e : Expr} {es : List Expr} {pos p : Pos} {fa fb : PEV} {fs : AEV}
/-! x.bit_length() -/
theorem de_bits {apos : Pos} (ha : DP X a fa) (hbase : attributeBase a "bit_length" X.env (eval a X.env) = eval a X.env := by rfl) (hline : (apos.endLine == pos.line) = true := by rfl) :
    DE X (.Call (.Attribute a "bit_length" apos) [] [] pos) (unI fa fun i => (Builtin.Int.intBits i : Nat)) := pe_imp (pe_bits ha hbase hline) fun σ H Q ⟨T, ρ, δ, s, δ', hs, hf, hq⟩ => by
  unfold unI at hf
  cases e1 : fa δ with
  | none => rw [e1] at hf; cases hf
  | some x =>
    rw [e1] at hf
    simp only [Option.bind_some] at hf
    cases e2 : res x.2 x.1 with
    | none => rw [e2] at hf; cases hf
    | some u =>
      rw [e2] at hf
      simp only [Option.bind_some] at hf
      cases e3 : asI u with
      | none => rw [e3] at hf; cases hf
      | some i =>
        rw [e3] at hf
        cases hf
        refine ⟨T, ρ, δ, x.1, x.2, hs, by rw [e1], fun ρ1 v H1 s1 x1 p1 => ?_⟩
        exact ⟨i, at_I (pat_at s1 .refl p1 e2) e3, hq ρ1 _ H1 s1 x1 (.int _)⟩
/-! << -/
def iShl (i j : Int) : Option Int := if 0 ≤ j ∧ (Builtin.Int.intBits i : Int) + j ≤ 2 ^ 27 then some (i * 2 ^ j.toNat) else none
theorem de_shl (ha : DP X a fa) (hb : DP X b fb) : DE X (.BinOp a .LShift b pos) (bin (opI2 iShl) fa fb) := de_op op_shlW (od_I fun i j z h => by
  unfold iShl at h
  split at h
  · rename_i hc
    exact ⟨hc, Option.some.inj h⟩
  · cases h) ha hb
/-! repr, of numbers too -/
def fReprX : List S → Option S
  | [.d (.int i)] => if i.natAbs.log2 < 1920 then some (.d (.str (toString i))) else none
  | ss => fRepr ss
theorem cd_reprX {K : PySem.W.Frag} : CallD K (fun vs H Q => (∃ i, vs = [.int i] ∧ i.natAbs.log2 < 1920 ∧ Q (.str (toString i)) H) ∨ rRepr K vs H Q) fReprX := fun T ρ H vs ss s Q k hp hg hq => by
  unfold fReprX at hg
  split at hg
  · rename_i i
    split at hg
    · rename_i hc
      cases hg
      obtain ⟨v, rfl, h⟩ := paired1 hp
      exact .inl ⟨i, by rw [at_I h rfl], hc, postO_same hq (.str _)⟩
    · cases hg
  · exact .inr (cd_repr T ρ H vs ss s Q k hp hg hq)
theorem de_reprX {k : Nat} (hG : X.A.guards = some []) (hr : Room k X.A) (hm : X.mg "repr" = none) (hg : Gl X "repr") (ha : DA X (e :: es) fs) (he : starEach (e :: es) X.env = (false, eval e X.env) :: starEach es X.env := by rfl) (hpl : (backTo pos (starEach es X.env)).any (·.1) = false := by rfl) : DE X (.Call (.Name "repr" p) (e :: es) [] pos) (callB fReprX fs) :=
  de_callB (callr_or SkE.call_repr_int (cr_repr hG hr.units)) cd_reprX hg hm (by decide +kernel) ha (by decide) (by decide) he hpl
end
/-! a while, seen from the data -/
theorem whD_t {t : TEV} {body : SEV} {n : Nat} {δ δ1 δ2 : Ds} {o : Out} (h : t δ = some (true, δ1)) (k : body δ1 = some (.nx δ2)) (l : whD t body n δ2 = some o) : whD t body (n + 1) δ = some o := by
  unfold whD; rw [h]; simp only [Option.bind_some, if_true]; rw [k]; exact l
theorem whD_f {t : TEV} {body : SEV} {n : Nat} {δ δ1 : Ds} (h : t δ = some (false, δ1)) : whD t body (n + 1) δ = some (.nx δ1) := by
  unfold whD; rw [h]; rfl
theorem iShl_ok {i j : Int} {a : Nat} (ha : i.natAbs < 2 ^ a) (h0 : 0 < a) (hj : 0 ≤ j) (hs : (a : Int) + j ≤ 2 ^ 27) : iShl i j = some (i * 2 ^ j.toNat) := by
  unfold iShl
  refine if_pos ⟨hj, ?_⟩
  have := bits_le ha h0
  omega
theorem unI_of {f : PEV} {g : Int → Int} {δ δ1 : Ds} {i : Int} (h : f δ = some (.v (.d (.int i)), δ1)) : unI f g δ = some (.d (.int (g i)), δ1) := by
  unfold unI; rw [h]; rfl
end DL

namespace DL
open PySem PySem.Spec PyProof.Rows L2

/-! ### {k: v for ..}, a table of whichever kind of key -/
theorem dset_put {X : Cx} {pins : List (Addr × Obj)} {σ : L2.St} {G G' : Hp} {s : Shared} {E : Value → Shared → Prop} {D : Addr} {y v : V} {u r : Value} {Q : Unit → Shared → Prop} (hu : X.A.units + 1 < cLine) (I : Inv X pins σ G s) (p : DPut G D y v G') (ry : RelV y u) (rv : RelV v r)
    (h : ∀ s', Inv X pins σ G' s' → Q () s') : wpAny (model X.prog X.w) X.A (dictSet D u r) Q E s := by
  rcases p with ⟨kvs, k, e, rfl, l, rfl⟩ | ⟨kvs, k, b, e, rfl, eb, l, rfl⟩
  · exact d_dictSet I e l ry rv h
  · cases (show u = Value.ref b from ry)
    obtain ⟨lz, nm, xs, kt, dd⟩ := dt_of I.hok e
    have lx : xs.length ≤ sizeLine := Paired.length kt ▸ lz
    refine wpAny_dictSet_heap (hsz := lx) (show X.A.units < cLine by omega) (key_of I.hok eb) dd fun g' d' sb => h _ ?_
    obtain ⟨ob, es, ep, g1, g2, g3, g4, _, g5⟩ := d'
    have lp : (putK kvs k v).length ≤ sizeLine := Nat.le_trans (length_putK kvs k v) l
    have same : ∀ c ys, G c = some (.tup ys) → upd G D (.dT (putK kvs k v)) c = some (.tup ys) := fun c ys ec => (upd_ne (ne_of ec e (fun z => nomatch z))).trans ec
    exact d_write I (by rw [e]; trivial) sb ⟨ob, g1⟩ ⟨lp, nm, _, (kt.put k eb rv).keeps same, ob, es, ep, g1, g2, g3, g4, g5⟩
def tGd (o0 : HO) (wi : TI) (g : TG) (tt : TT) (tk tv : TE) (vs : List Nat) : TE := fun σ H Q => wi σ H fun J H1 => ∀ D, H1 D = none →
  ∃ W : Nat → Nat → Hp → Prop, (∃ m, W 0 m (upd H1 D o0)) ∧ ∀ i m G, W i m G → (J.stop i G ∧ Q (.ref D) G) ∨
    (J.go i G ∧ ∃ N : Hp → Prop, (∀ G', N G' → ∃ m', m' < m ∧ W (i + 1) m' G') ∧ ∀ x G', J.yld i G x G' → g x (L2.wipe σ vs) G' fun σ2 G2 => L2.wipe σ2 vs = L2.wipe σ vs ∧
      tt σ2 G2 fun b G3 => if b = true then tk σ2 G3 fun y G4 => tv σ2 G4 fun z G5 => ∃ G6, DPut G5 D y z G6 ∧ N G6 else N G3)
def NewOk (X : Cx) (o0 : HO) : Prop := ∀ (h : Heap) (G : Hp), sysModules < h.objs.size → ObjOk X.prog X.w G (h.push { cls := .type "dict", data := .dict #[] }) h.objs.size o0
theorem newT {X : Cx} : NewOk X (.dT []) := fun h _ hb => dt_empty h hb
theorem newK {X : Cx} : NewOk X (.dK []) := fun h _ hb => dk_empty h hb
section
variable {X : Cx} {kx vx tg iter : Expr} {ifs : List Expr} {scope : Scope} {own : List (Str × Nat)} {pos : Pos} {wi : TI} {g : TG} {tt : TT} {tk tv : TE} {o0 : HO}
/-- all turns of the block -/
theorem gd_turns {s0 : Shared} {H0 : Hp} {ce : Env} {fp : List Addr} {it D : Addr} {tn : Nat → Heap → Prop} {J : It} {W : Nat → Nat → Hp → Prop} {σ : L2.St} {vs : List Nat} {Q : Hp → Prop} {R : Result → Shared → Prop} (hu : X.A.units + 1 < cLine) (hc : X.calm = true) (T : Turn X.prog X.w X.K tg J fp it tn)
    (pg : PG (X.blk s0 H0 scope ce fp) tg g) (pt : PTs (X.blk s0 H0 scope ce fp) ifs tt) (pk : PE (X.blk s0 H0 scope ce fp) kx tk) (pe : PE (X.blk s0 H0 scope ce fp) vx tv)
    (turn : ∀ i m G, W i m G → (J.stop i G ∧ Q G) ∨ (J.go i G ∧ ∃ N : Hp → Prop, (∀ G', N G' → ∃ m', m' < m ∧ W (i + 1) m' G') ∧ ∀ x G', J.yld i G x G' → g x (L2.wipe σ vs) G' fun σ2 G2 => L2.wipe σ2 vs = L2.wipe σ vs ∧
      tt σ2 G2 fun b G3 => if b = true then tk σ2 G3 fun y G4 => tv σ2 G4 fun z G5 => ∃ G6, DPut G5 D y z G6 ∧ N G6 else N G3))
    (fin : ∀ G s', Inv (X.blk s0 H0 scope ce fp) [] (L2.wipe σ vs) G s' → Q G → R (.ok .next) s') {s : Shared} {m0 : Nat} {G0 : Hp} (I0 : Inv (X.blk s0 H0 scope ce fp) [] (L2.wipe σ vs) G0 s) (t0 : tn 0 s.heap) (n0 : ∀ b ∈ fp, G0 b = none) (w0 : W 0 m0 G0) :
    codeAny (model X.prog X.w) X.A (.compLoop (.DictComp kx vx [⟨tg, iter, ifs, 0⟩] scope pos) 0 (.ref it) (.ref D) ce) R s := by
  have hst : ∀ {σ' : L2.St} {G : Hp} {s' : Shared}, Inv (X.blk s0 H0 scope ce fp) [] σ' G s' → (∀ b ∈ fp, G b = none) → ∀ b ∈ fp, FpOk (X.blk s0 H0 scope ce fp) [] G b := fun {σ' G s'} I' hn b hb =>
    ⟨hn b hb, (I'.ok.exf b hb).1, I'.ok.exfs b hb, .inl hb, fun x c e => (I'.ok.exf b hb).2 x c e, fun p hp => by
      have hp' : p ∈ ([] : List (Addr × Obj)) ++ [] := hp
      simp at hp'⟩
  let L : Nat → Shared → Prop := fun n s' => ∃ i G, Inv (X.blk s0 H0 scope ce fp) [] (L2.wipe σ vs) G s' ∧ tn i s'.heap ∧ (∀ b ∈ fp, G b = none) ∧ W i n G
  refine compLoop_anyD L (fun n s1 hL => ?_) m0 ⟨0, G0, I0, t0, n0, w0⟩
  obtain ⟨i, G1, I1, t1, n1, w1⟩ := hL
  rcases turn i n G1 w1 with ⟨hs, q⟩ | ⟨hg, N, down, each⟩
  · refine thnF (T.done (X.blk s0 H0 scope ce fp) rfl rfl rfl hc i [] s1 _ G1 (fun _ _ => False) I1 (hst I1 n1) t1 hs) fun r s2 ⟨er, I2⟩ => ?_
    subst er
    exact fin G1 s2 I2 q
  · refine thnF (T.item (X.blk s0 H0 scope ce fp) rfl rfl rfl hc i [] s1 _ G1 (fun _ _ => False) I1 (hst I1 n1) t1 hg) fun r s2 ⟨u, er, h2⟩ => ?_
    subst er
    refine thnF h2 fun _ s3 ⟨x, G3, I3, r3, y3, t3, n3⟩ => ?_
    -- what a turn leaves
    have leave : ∀ {σ4 : L2.St} {s' : Shared} {G' : Hp}, L2.wipe σ4 vs = L2.wipe σ vs → Inv (X.blk s0 H0 scope ce fp) ([] ++ pinsAt fp s3.heap) σ4 G' s' → N G' → ∃ m, m < n ∧ L m s' := fun {σ4 s' G'} ew I' hN => by
      obtain ⟨m', lt, w'⟩ := down G' hN
      have held : ∀ b ∈ fp, ∀ o, s3.heap.get? b = some o → s'.heap.get? b = some o ∧ G' b = none := fun b hb o e => by
        have z := I'.pin (b, o) (List.mem_append_right _ (List.mem_append_right _ (mem_pinsAt hb e)))
        exact ⟨z.1, z.2.1⟩
      have len : (L2.wipe σ vs).length = σ4.length := by rw [← ew, wipe_length]
      have I5 : Inv (X.blk s0 H0 scope ce fp) [] (L2.wipe σ vs) G' s' := (I'.unpinned (pins := [])).weak len fun j v e => (wipe_some (by rw [ew]; exact e)).1
      refine ⟨m', lt, i + 1, G', I5, T.keep _ _ _ t3 fun b hb o e => (held b hb o e).1, fun b hb => ?_, w'⟩
      obtain ⟨o, e, _⟩ := T.obj _ _ t3 b hb
      exact (held b hb o e).2
    refine thnF (pg.run _ s3 _ G3 x u _ (I3.pinned (hst I3 n3) (T.obj _ _ t3)) r3 (each x G3 y3)) fun _ s4 ⟨σ4, G4, I4, ew, q4⟩ => ?_
    refine thnF (pt.run _ s4 σ4 G4 _ I4 q4) fun b s5 ⟨G5, I5, q5⟩ => ?_
    cases b with
    | false => exact leave ew I5 q5
    | true =>
      refine thnF (pk.run _ s5 σ4 G5 _ I5 q5) fun kv s6 ⟨yk, G6, I6, r6, q6⟩ => ?_
      refine thnF (pe.run _ s6 σ4 G6 _ I6 q6) fun vv s7 ⟨yv, G7, I7, r7, G8, hp, hN⟩ => ?_
      exact dset_put (X := X.blk s0 H0 scope ce fp) hu I7 hp r6 r7 fun s8 I8 => leave ew I8 hN
theorem pe_gd (hnew : NewOk X o0) (hu : X.A.units + 1 < cLine) (hc : X.calm = true) (hN : X.N.Nodup) (hi : PI X tg iter wi) (ok : BlkOk X.N X.env.scope scope own)
    (hg : ∀ (s : Shared) (G : Hp) (C : Addr) (cl : List (Str × Addr)) (fp : List Addr), PG (X.blk s G scope (compEnvC scope cl C X.env) fp) tg g) (ht : ∀ (s : Shared) (G : Hp) (C : Addr) (cl : List (Str × Addr)) (fp : List Addr), PTs (X.blk s G scope (compEnvC scope cl C X.env) fp) ifs tt)
    (hk : ∀ (s : Shared) (G : Hp) (C : Addr) (cl : List (Str × Addr)) (fp : List Addr), PE (X.blk s G scope (compEnvC scope cl C X.env) fp) kx tk)
    (he : ∀ (s : Shared) (G : Hp) (C : Addr) (cl : List (Str × Addr)) (fp : List Addr), PE (X.blk s G scope (compEnvC scope cl C X.env) fp) vx tv) (hs : ∀ x, foldedSetIterable iter X.env x = pure x := by intro _; rfl) :
    PE X (.DictComp kx vx [⟨tg, iter, ifs, 0⟩] scope pos) (tGd o0 wi g tt tk tv (own.map (·.2))) := ⟨fun pins s σ H Q I h => by
  rw [arm_eval_DictComp]
  have cells : ∀ y ∈ scope.names, y.2 = .free → ∃ c, X.env.cells.lookup y.1 = some c := fun y hy e => (ok.free y hy e).elim (fun k => I.ok.has _ (.inl k)) fun k => I.ok.has _ (.inr k)
  refine wpAny_comprehension_free (use := none) rfl hs (closure_ok cells) ok.kind (fun y hy e => (ok.uniq y hy).trans (congrArg some e)) (thn (hi.run pins s σ H _ I h) fun xv s1 hx => thn hx fun itv s2 hy => ?_)
  obtain ⟨it, fp, tn, J, G2, rfl, I2, T, t2, f2, q⟩ := hy
  obtain ⟨W, ⟨m0, w0⟩, turn⟩ := q s2.heap.objs.size (I2.hok.fresh (Nat.le_refl _))
  have I3 : Inv X pins σ (upd G2 s2.heap.objs.size o0) { s2 with heap := s2.heap.push { cls := .type "dict", data := .dict #[] } } :=
    I2.laid (t' := s2.toks) (fun b o e => Heap.get?_push_of_some _ e) (Nat.le_refl _) (hnew s2.heap _ I2.big)
  have f3 : ∀ b ∈ fp, FpOk X pins (upd G2 s2.heap.objs.size o0) b ∧ b < (s2.heap.push { cls := .type "dict", data := .dict #[] }).objs.size := fun b hb => by
    obtain ⟨o, e, _⟩ := T.obj _ _ t2 b hb
    have lt : b < s2.heap.objs.size := Heap.lt_size e
    refine ⟨⟨(upd_ne (Nat.ne_of_lt lt)).trans (f2 b hb).1, (f2 b hb).2⟩, ?_⟩
    rw [Heap.size_push]
    exact Nat.lt_succ_of_lt lt
  have t3 : tn 0 (s2.heap.push { cls := .type "dict", data := .dict #[] }) := T.keep _ _ _ t2 fun b _ o e => Heap.get?_push_of_some _ e
  have I4 := block_start I3 ok hN f3
  have t4 := T.keep _ _ (pushCells ((s2.heap.push { cls := .type "dict", data := .dict #[] }).push { cls := .type "dict", data := .dict #[] }) scope.names) t3 fun b _ o e => pushCells_keeps _ _ _ _ (Heap.get?_push_of_some _ e)
  refine wpAny_newObj_type (newEnv_comp ?_)
  have all := gd_turns (X := X) (pos := pos) (iter := iter) (R := compPost (model X.prog X.w) X.A X.xe none (fun v s' => ∃ x G', Inv X pins σ G' s' ∧ RelV x v ∧ Q x G') (.ref s2.heap.objs.size) (s2.heap.push { cls := .type "dict", data := .dict #[] }).objs.size) (Q := fun G => Q (.ref s2.heap.objs.size) G) hu hc T (hg _ _ _ _ _) (ht _ _ _ _ _) (hk _ _ _ _ _) (he _ _ _ _ _) turn (fun G s' J' hq => by
    have J1 : Inv X pins σ G s' := I3.call' (ch := fp) J'.os J'.base J'.hok J'.bare fun b hb => ⟨(f3 b hb).1.2.2.2.1, (f3 b hb).1.2.1, (f3 b hb).1.2.2.2.2.1, (f3 b hb).1.2.2.2.2.2⟩
    have free : G (s2.heap.push { cls := .type "dict", data := .dict #[] }).objs.size = none := J'.free
    obtain ⟨m, ns, _⟩ := J'.loc
    obtain ⟨a0, a1, a2, a3, a4, a5⟩ := I3.fpOk (Nat.le_refl _) free
    exact ⟨m, ns, fun h'' sb => ⟨.ref s2.heap.objs.size, G, J1.turned (t' := s'.toks) (fun b o hb e => (sb.2 b hb).trans e) a0 a1 a3 a4 a5, rfl, hq⟩⟩) I4 t4 (fun b hb => (f3 b hb).1.1) w0
  exact codeAny_compStart_dict all (T.self X.A 0 _ _ _ t4 all)⟩
end
end DL

namespace DL
open PySem PySem.Spec PyProof.Rows L2

/-! ### {k: v for ..}, seen from the data -/
def putD (kvs : List (List Key × PyData)) (k : List Key) (d : PyData) : List (List Key × PyData) :=
  if (kvs.any fun p => decide (p.1 = k)) = true then kvs.map (fun p => if p.1 = k then (p.1, d) else p) else kvs ++ [(k, d)]
theorem putD_len (kvs : List (List Key × PyData)) (k : List Key) (d : PyData) : (putD kvs k d).length ≤ kvs.length + 1 := by
  unfold putD
  split
  · rw [List.length_map]; omega
  · rw [List.length_append]; exact Nat.le_refl _
section
variable {K : PySem.W.Frag} {G : Hp}
theorem tv_any : ∀ {ws : List (List Key × V)} {kvs : List (List Key × PyData)} {k : List Key}, TV K G ws kvs → (ws.any fun p => decide (p.1 = k)) = (kvs.any fun p => decide (p.1 = k))
  | _, _, _, .nil => rfl
  | _, _, k, .cons (a := p) (b := q) h t => by
    rw [List.any_cons, List.any_cons, h.1, tv_any t]
theorem tv_map {k : List Key} {v : V} {d : PyData} (hv : Dq K G v d) : ∀ {ws : List (List Key × V)} {kvs : List (List Key × PyData)}, TV K G ws kvs → TV K G (ws.map fun p => if p.1 = k then (p.1, v) else p) (kvs.map fun p => if p.1 = k then (p.1, d) else p)
  | _, _, .nil => .nil
  | _, _, .cons (a := p) (b := q) h t => by
    refine .cons ?_ (tv_map hv t)
    show (if p.1 = k then (p.1, v) else p).1 = (if q.1 = k then (q.1, d) else q).1 ∧ Dq K G (if p.1 = k then (p.1, v) else p).2 (if q.1 = k then (q.1, d) else q).2
    by_cases e : q.1 = k
    · rw [if_pos e, if_pos (h.1.trans e)]
      exact ⟨h.1, hv⟩
    · rw [if_neg e, if_neg (fun z => e (h.1.symm.trans z))]
      exact h
theorem tv_put {ws : List (List Key × V)} {kvs : List (List Key × PyData)} {k : List Key} {v : V} {d : PyData} (h : TV K G ws kvs) (hv : Dq K G v d) : TV K G (putK ws k v) (putD kvs k d) := by
  unfold putK putD
  rw [tv_any h]
  split
  · exact tv_map hv h
  · exact Paired.snoc h ⟨rfl, hv⟩
theorem put_one (ws : List (Key × V)) (k : Key) (v : V) : (putK ws k v).map (fun p => ([p.1], p.2)) = putK (ws.map fun p => ([p.1], p.2)) [k] v := by
  have e : ∀ p : Key × V, decide ([p.1] = [k]) = decide (p.1 = k) := fun p => by
    by_cases h : p.1 = k
    · rw [h, decide_eq_true rfl, decide_eq_true rfl]
    · rw [decide_eq_false h, decide_eq_false (fun z => h (List.cons.inj z).1)]
  unfold putK
  rw [List.any_map]
  have ea : (ws.any fun kv => decide (kv.1 = k)) = ws.any ((fun kv => decide (kv.1 = [k])) ∘ fun p : Key × V => ([p.1], p.2)) := by
    congr 1
    funext p
    exact (e p).symm
  rw [ea]
  split
  · rw [List.map_map, List.map_map]
    congr 1
    funext p
    show _ = if [p.1] = [k] then _ else _
    by_cases h : p.1 = k
    · rw [if_pos (show [p.1] = [k] by rw [h])]
      show ((fun q : Key × V => ([q.1], q.2)) (if p.1 = k then (p.1, v) else p)) = _
      rw [if_pos h]
    · rw [if_neg (fun z => h (List.cons.inj z).1)]
      show ((fun q : Key × V => ([q.1], q.2)) (if p.1 = k then (p.1, v) else p)) = _
      rw [if_neg h]
  · rw [List.map_append]
    rfl
theorem tbo_len {o : HO} {t : Tab} (h : TbO K G o t) : (∃ ws, o = .dT ws ∧ ws.length = t.kvs.length) ∨ ∃ ws, o = .dK ws ∧ ws.length = t.kvs.length := by
  rcases h with ⟨_, ws, rfl, tv⟩ | ⟨_, ws, rfl, tv⟩
  · exact .inl ⟨ws, rfl, Paired.length tv⟩
  · refine .inr ⟨ws, rfl, ?_⟩
    have := Paired.length tv
    rw [List.length_map] at this
    exact this
end
section
variable {K : PySem.W.Frag} {T : List Addr} {ρ : List (Option Addr)} {H : Hp}
/-- a table is written at a key: the new object -/
theorem tb_put {D : Addr} {o : HO} {t : Tab} {x v : V} {a : S} {k : List Key} {d : PyData} (hx : At K T ρ H x a) (e1 : keyS a = some (t.fl, k)) (hD : H D = some o) (ht : TbO K (hid T ρ H) o t) (hv : Dq K (hid T ρ H) v d) (hl : t.kvs.length < sizeLine) :
    ∃ o', DPut H D x v (upd H D o') ∧ TbO K (hid T ρ H) o' ⟨t.fl, putD t.kvs k d⟩ := by
  rcases ht with ⟨f, ws, rfl, tv⟩ | ⟨f, ws, rfl, tv⟩
  · rcases at_key hx e1 with ⟨_, p, rfl, hp⟩ | ⟨f', _⟩
    · exact ⟨.dT (putK ws k v), DPut.t hD (hid_same _ _ hp) (by rw [Paired.length tv]; exact hl), .inl ⟨f, _, rfl, tv_put tv hv⟩⟩
    · rw [f] at f'; cases f'
  · rcases at_key hx e1 with ⟨f', _⟩ | ⟨_, k1, rfl, rfl⟩
    · rw [f] at f'; cases f'
    · refine ⟨.dK (putK ws k1 v), DPut.k hD ?_, .inr ⟨f, _, rfl, ?_⟩⟩
      · have := Paired.length tv
        rw [List.length_map] at this
        omega
      · rw [put_one]
        exact tv_put tv hv
end
def oNew (fl : Bool) : HO := if fl then .dK [] else .dT []
theorem newOk {X : Cx} (fl : Bool) : NewOk X (oNew fl) := by
  cases fl
  · exact newT
  · exact newK
theorem tbo_new {K : PySem.W.Frag} {G : Hp} (fl : Bool) : TbO K G (oNew fl) ⟨fl, []⟩ := by
  cases fl
  · exact .inl ⟨rfl, [], rfl, .nil⟩
  · exact .inr ⟨rfl, [], rfl, .nil⟩
def dcD (fl : Bool) (vs : List Nat) (g : GEV) (tt : TEV) (tk tv : EV) : List PyData → List (List Key × PyData) → Ds → Option (List (List Key × PyData) × Ds)
  | [], acc, δ => some (acc, δ)
  | x :: xs, acc, δ => (g x δ).bind fun δ1 => (tt δ1).bind fun b =>
    if b.1 then (tk b.2).bind fun y => match y.1 with
      | .d yk => (tv y.2).bind fun z => match frz z.1, keyS (.d yk) with
        | .d d, some (f, k) => if f = fl ∧ noOwn vs z.2 = true ∧ acc.length < sizeLine then dcD fl vs g tt tk tv xs (putD acc k d) (wipeD z.2 vs) else none
        | _, _ => none
      | _ => none
    else if noOwn vs b.2 then dcD fl vs g tt tk tv xs acc (wipeD b.2 vs) else none
def dcE (fl : Bool) (vs : List Nat) (fi : IEV) (g : GEV) (tt : TEV) (tk tv : EV) : EV := fun δ => (fi δ).bind fun x =>
  if noOwn vs x.2 then (dcD fl vs g tt tk tv x.1 [] (wipeD x.2 vs)).map fun r => (.o (.t ⟨fl, r.1⟩), restD x.2 r.2 vs) else none
section
variable {K : PySem.W.Frag}
theorem comp_end {T : List Addr} {ρ1 ρ2 : List (Option Addr)} {δ1 δe : Ds} {σ : L2.St} {vs : List Nat} {H1 H2 : Hp} {D : Addr} (s1 : Sim K T ρ1 δ1 σ H1) (hno : noOwn vs δ1 = true) (s2 : Sim K (D :: T) ρ2 δe (L2.wipe σ vs) H2) (sm : Same (hid T ρ1 H1) (hid (D :: T) ρ2 H2)) (tm : ∀ a, a ∈ T → H2 a = H1 a) (hD : H1 D = none) :
    Sim K T ρ2 (restD δ1 δe vs) σ (rm H2 D) ∧ Ext T ρ1 H1 ρ2 (rm H2 D) := by
  have hh : hid T ρ2 (rm H2 D) = hid (D :: T) ρ2 H2 := hid_rm
  have neT : ∀ a, a ∈ T → a ≠ D := fun a ha z => by
    subst z
    exact (s1.trk.fresh hD).1 ha
  have lenE : δe.length = σ.length := by
    have := s2.slen
    rw [wipe_length] at this
    exact this.symm
  refine ⟨⟨by rw [restD_len]; exact s2.len, by rw [restD_len]; exact lenE.symm, fun j u hj => ?_, fun j c hj => ?_, fun j a hj => ?_, s2.inj, fun j a hj hm => s2.nt j a hj (List.mem_cons_of_mem _ hm), fun a ha => ?_⟩, by rw [hh]; exact sm, fun a ha => ?_⟩
  · by_cases hjv : j ∈ vs
    · have hjl : j < δe.length := by
        have := (List.getElem?_eq_some_iff.mp hj).1
        rw [restD_len] at this
        exact this
      rw [restD_in hjv hjl] at hj
      have hj' := slot_some (Option.some.inj hj)
      obtain ⟨v, e1, e2⟩ := s1.slot j u hj'
      refine ⟨v, e1, ?_⟩
      cases u with
      | o c => exact (notOwn_no (noOwn_mem hno hjv) hj').elim
      | d x => exact (show SV K (hid T ρ2 (rm H2 D)) v (.d x) by rw [hh]; exact svM (s := .d x) sm e2)
      | t x => exact (show SV K (hid T ρ2 (rm H2 D)) v (.t x) by rw [hh]; exact svM (s := .t x) sm e2)
      | z x => exact (show SV K (hid T ρ2 (rm H2 D)) v (.z x) by rw [hh]; exact svM (s := .z x) sm e2)
      | p x => exact (show SV K (hid T ρ2 (rm H2 D)) v (.p x) by rw [hh]; exact svM (s := .p x) sm e2)
    · rw [restD_ne hjv] at hj
      obtain ⟨v, e1, e2⟩ := s2.slot j u hj
      rw [wipe_ne hjv] at e1
      refine ⟨v, e1, ?_⟩
      cases u with
      | o c =>
        obtain ⟨b, f1, f2⟩ := s2.own j c hj
        rw [wipe_ne hjv, e1] at f2
        cases f2
        obtain ⟨a, x, z1, z2, z3⟩ := e2
        cases z1
        have ne : b ≠ D := fun z => by
          subst z
          exact s2.nt j b f1 List.mem_cons_self
        exact ⟨b, x, rfl, by rw [rm_ne ne]; exact z2, by rw [hh]; exact z3⟩
      | d x => exact (show SV K (hid T ρ2 (rm H2 D)) v (.d x) by rw [hh]; exact e2)
      | t x => exact (show SV K (hid T ρ2 (rm H2 D)) v (.t x) by rw [hh]; exact e2)
      | z x => exact (show SV K (hid T ρ2 (rm H2 D)) v (.z x) by rw [hh]; exact e2)
      | p x => exact (show SV K (hid T ρ2 (rm H2 D)) v (.p x) by rw [hh]; exact e2)
  · by_cases hjv : j ∈ vs
    · have hjl : j < δe.length := by
        have := (List.getElem?_eq_some_iff.mp hj).1
        rw [restD_len] at this
        exact this
      rw [restD_in hjv hjl] at hj
      exact (notOwn_no (noOwn_mem hno hjv) (slot_some (Option.some.inj hj))).elim
    · rw [restD_ne hjv] at hj
      obtain ⟨a, f1, f2⟩ := s2.own j c hj
      rw [wipe_ne hjv] at f2
      exact ⟨a, f1, f2⟩
  · obtain ⟨c, hc⟩ := s2.own' j a hj
    by_cases hjv : j ∈ vs
    · obtain ⟨b, f1, f2⟩ := s2.own j c hc
      have hjl : j < σ.length := by
        have := (List.getElem?_eq_some_iff.mp hc).1
        omega
      rw [wipe_in hjv hjl] at f2
      cases f2
    · exact ⟨c, by rw [restD_ne hjv]; exact hc⟩
  · obtain ⟨o, ho, hn⟩ := s1.tmp a ha
    exact ⟨o, by rw [rm_ne (neT a ha), tm a ha]; exact ho, hn⟩
  · rw [rm_ne (neT a ha)]
    exact tm a ha
theorem dc_ok {fl : Bool} {vs ws : List Nat} {fi : IEV} {g : GEV} {tt : TEV} {tk tv : EV} (hw : ∀ j ∈ ws, j ∈ vs) (σ : L2.St) (H : Hp) (Q : VK) (h : lift K (dcE fl vs fi g tt tk tv) σ H Q) : tGd (oNew fl) (liftI K fi) (liftG K ws g) (liftT K tt) (lift K tk) (lift K tv) vs σ H Q := by
  obtain ⟨T, ρ, δ, s, δ', hs, hf, hq⟩ := h
  unfold dcE at hf
  cases ea : fi δ with
  | none => rw [ea] at hf; cases hf
  | some z =>
    obtain ⟨xs, δ1⟩ := z
    rw [ea] at hf
    simp only [Option.bind_some] at hf
    split at hf
    case isFalse => cases hf
    rename_i hno
    cases el : dcD fl vs g tt tk tv xs [] (wipeD δ1 vs) with
    | none => rw [el] at hf; cases hf
    | some r =>
      obtain ⟨out, δe⟩ := r
      rw [el] at hf
      cases hf
      refine ⟨T, ρ, δ, xs, δ1, hs, ea, fun ρ1 H1 J s1 x1 sv => ?_⟩
      intro D hD
      let Wn : Nat → Hp → Prop := fun i H' => ∃ ρ' δ2 o kvs, Sim K (D :: T) ρ' δ2 (L2.wipe σ vs) H' ∧ Same (hid T ρ1 H1) (hid (D :: T) ρ' H') ∧ (∀ a, a ∈ T → H' a = H1 a) ∧ H' D = some o ∧ TbO K (hid (D :: T) ρ' H') o ⟨fl, kvs⟩ ∧ dcD fl vs g tt tk tv (xs.drop i) kvs δ2 = some (out, δe)
      refine ⟨fun i m H' => i + m = xs.length ∧ Wn i H', ⟨xs.length, by omega, ρ1, wipeD δ1 vs, oNew fl, [], (s1.wipe hno).addTmp hD (tb_nt (tbo_new (K := K) (G := H1) fl)), ?_, ?_, upd_same, tbo_new fl, el⟩, ?_⟩
      · rw [hid_new hD]
        exact Same.refl _
      · intro a ha
        obtain ⟨o, ho, _⟩ := s1.tmp a ha
        rw [upd_ne (ne_of_none ho hD)]
      rintro i m H2 ⟨him, ρ2, δ2, o, kvs, s2, sm, tm, hacc, hto, hl⟩
      by_cases hi : i < xs.length
      · have hd : xs.drop i = xs[i] :: xs.drop (i + 1) := by rw [List.drop_eq_getElem_cons hi]
        rw [hd] at hl
        unfold dcD at hl
        cases eg : g xs[i] δ2 with
        | none => rw [eg] at hl; cases hl
        | some δ3 =>
          rw [eg] at hl
          simp only [Option.bind_some] at hl
          cases et : tt δ3 with
          | none => rw [et] at hl; cases hl
          | some b =>
            obtain ⟨b, δ4⟩ := b
            rw [et] at hl
            simp only [Option.bind_some] at hl
            obtain ⟨go, yl⟩ := (sv i (D :: T) ρ2 H2 sm s2.trk).1 _ (List.getElem?_eq_getElem hi)
            refine .inr ⟨go, Wn (i + 1), fun H' hW => ⟨m - 1, by omega, by omega, hW⟩, fun x H3 hy => ?_⟩
            obtain ⟨y1, y2⟩ := yl x H3 hy
            have e2 := s2.trk.extT y1
            refine ⟨D :: T, ρ2, δ2, xs[i], δ3, s2.mono y1, y2, eg, fun ρ4 σ4 H4 s4 x4 o4 => ?_⟩
            have hwp : L2.wipe σ4 vs = L2.wipe σ vs := by rw [wipe_only o4 hw, wipe_idem]
            refine ⟨hwp, D :: T, ρ4, δ3, b, δ4, s4, et, fun ρ5 H5 s5 x5 => ?_⟩
            have xx : Ext (D :: T) ρ2 H2 ρ5 H5 := e2.trans (x4.trans x5)
            -- a turn's end
            have fin : ∀ (ρ6 : List (Option Addr)) (δ6 : Ds) (H6 : Hp), Sim K (D :: T) ρ6 δ6 σ4 H6 → Ext (D :: T) ρ2 H2 ρ6 H6 → noOwn vs δ6 = true →
                Sim K (D :: T) ρ6 (wipeD δ6 vs) (L2.wipe σ vs) H6 ∧ Same (hid T ρ1 H1) (hid (D :: T) ρ6 H6) ∧ (∀ a, a ∈ T → H6 a = H1 a) ∧ H6 D = some o ∧ TbO K (hid (D :: T) ρ6 H6) o ⟨fl, kvs⟩ := by
              intro ρ6 δ6 H6 s6 x6 n6
              have q := s6.wipe n6
              rw [hwp] at q
              exact ⟨q, sm.trans x6.same, fun a ha => (x6.tmp a (List.mem_cons_of_mem _ ha)).trans (tm a ha), (x6.tmp D List.mem_cons_self).trans hacc, tbM x6.same hto⟩
            cases b with
            | false =>
              refine L2.iteF ?_
              rw [if_neg Bool.false_ne_true] at hl
              split at hl
              case isFalse => cases hl
              rename_i n5
              obtain ⟨q1, q2, q3, q4, q5⟩ := fin ρ5 δ4 H5 s5 xx n5
              exact ⟨ρ5, _, o, kvs, q1, q2, q3, q4, q5, hl⟩
            | true =>
              refine L2.iteT ?_
              rw [if_pos rfl] at hl
              cases ey : tk δ4 with
              | none => rw [ey] at hl; cases hl
              | some y =>
                obtain ⟨u, δ6⟩ := y
                rw [ey] at hl
                simp only [Option.bind_some] at hl
                split at hl
                case h_2 => cases hl
                rename_i yk
                cases ez : tv δ6 with
                | none => rw [ez] at hl; cases hl
                | some z =>
                  obtain ⟨w, δ7⟩ := z
                  rw [ez] at hl
                  simp only [Option.bind_some] at hl
                  split at hl
                  case h_2 => cases hl
                  rename_i d f k hd' hk'
                  split at hl
                  case isFalse => cases hl
                  rename_i hc
                  obtain ⟨hf, n7, hlen⟩ := hc
                  refine ⟨D :: T, ρ5, δ4, .d yk, δ6, s5, ey, fun ρ6 v6 H6 s6 x6 hv6 => ?_⟩
                  -- the value
                  have each : ∀ (ρ7 : List (Option Addr)) (v : V) (H7 : Hp), Sim K (D :: T) ρ7 δ7 σ4 H7 → Ext (D :: T) ρ6 H6 ρ7 H7 → Dq K (hid (D :: T) ρ7 H7) v d → ∃ H8, DPut H7 D v6 v H8 ∧ Wn (i + 1) H8 := by
                    intro ρ7 v H7 s7 x7 hv
                    obtain ⟨q1, q2, q3, q4, q5⟩ := fin ρ7 δ7 H7 s7 (xx.trans (x6.trans x7)) n7
                    have hkey : At K (D :: T) ρ7 H7 v6 (.d yk) := svM (s := .d yk) x7.same hv6
                    obtain ⟨o', hp, ht'⟩ := tb_put hkey (t := ⟨fl, kvs⟩) (k := k) (by rw [hk', hf]) q4 q5 hv hlen
                    refine ⟨_, hp, ρ7, _, o', putD kvs k d, q1.tmpW List.mem_cons_self (tb_nt ht'), ?_, ?_, upd_same, ?_, hl⟩
                    · rw [hid_tmp List.mem_cons_self]
                      exact q2
                    · intro a ha
                      have ne : a ≠ D := fun z => by
                        subst z
                        exact (s1.trk.fresh hD).1 ha
                      rw [upd_ne ne]
                      exact q3 a ha
                    · rw [hid_tmp List.mem_cons_self]
                      exact ht'
                  refine ⟨D :: T, ρ6, δ6, w, δ7, s6, ez, ?_⟩
                  cases w with
                  | o c =>
                    intro ρ7 p H7 o s7 x7 hp hc
                    have hn := frz_new s7.trk hp hc
                    rw [hd'] at hn
                    exact each ρ7 (.ref p) _ (s7.mono (same_new hp)) (x7.trans (s7.trk.extT (same_new hp))) hn
                  | d c =>
                    cases hd'
                    exact fun ρ7 v H7 s7 x7 hv => each ρ7 v H7 s7 x7 hv
                  | t c => cases hd'
                  | z c => cases hd'
                  | p c => cases hd'
      · have hd : xs.drop i = [] := List.drop_eq_nil_of_le (by omega)
        rw [hd] at hl
        cases hl
        refine .inl ⟨(sv i (D :: T) ρ2 H2 sm s2.trk).2 (by omega), ?_⟩
        have hh : hid T ρ2 (rm H2 D) = hid (D :: T) ρ2 H2 := hid_rm
        obtain ⟨a, b⟩ := comp_end s1 hno s2 sm tm hD
        rw [← rm_upd hacc]
        exact hq ρ2 D (rm H2 D) o a (x1.trans b) rm_self (show TbO K (hid T ρ2 (rm H2 D)) o _ by rw [hh]; exact hto)
end
section
variable {X : Cx}
theorem de_dc (fl : Bool) {k : Nat} {kx vx tg iter : Expr} {ifs : List Expr} {scope : Scope} {own : List (Str × Nat)} {pos : Pos} {ws : List Nat} {fi : IEV} {g : GEV} {tt : TEV} {tk tv : EV} (hr : Room k X.A) (hc : X.calm = true) (hN : X.N.Nodup) (hi : DI X tg iter fi) (ok : BlkOk X.N X.env.scope scope own) (hw : ∀ j ∈ ws, j ∈ own.map (·.2))
    (hg : ∀ (s : Shared) (H : Hp) (C : Addr) (cl : List (Str × Addr)) (fp : List Addr), DG (X.blk s H scope (compEnvC scope cl C X.env) fp) ws tg g)
    (ht : ∀ (s : Shared) (H : Hp) (C : Addr) (cl : List (Str × Addr)) (fp : List Addr), DTs (X.blk s H scope (compEnvC scope cl C X.env) fp) ifs tt)
    (hk : ∀ (s : Shared) (H : Hp) (C : Addr) (cl : List (Str × Addr)) (fp : List Addr), DE (X.blk s H scope (compEnvC scope cl C X.env) fp) kx tk)
    (he : ∀ (s : Shared) (H : Hp) (C : Addr) (cl : List (Str × Addr)) (fp : List Addr), DE (X.blk s H scope (compEnvC scope cl C X.env) fp) vx tv) (hs : ∀ x, foldedSetIterable iter X.env x = pure x := by intro _; rfl) :
    DE X (.DictComp kx vx [⟨tg, iter, ifs, 0⟩] scope pos) (dcE fl (own.map (·.2)) fi g tt tk tv) := pe_imp (pe_gd (newOk fl) (by have := hr.un; omega) hc hN hi ok hg ht hk he hs) (dc_ok hw)
end
end DL

namespace DL
open PySem PySem.Spec PyProof.Rows L2

section
variable {X : Cx} {P : List Nat} {a b e : Expr} {es : List Expr} {pos p : Pos} {fp fq : PEV} {k : Nat}
/-! ### table[key] -/
def opIxT (a b : S) : Option S := (asTb a).bind fun t => (keyS b).bind fun q => if q.1 = t.fl then (valK t.kvs q.2).map fun d => .d d else none
def rDGet : R2 := fun x y H Q => ∃ a v, x = .ref a ∧ DGet H a y (some v) ∧ Q v H
theorem od_ixT {K : PySem.W.Frag} : OpD K rDGet opIxT := fun T ρ H x y a b s Q k ha hb hg hq => by
  unfold opIxT at hg
  cases e2 : asTb a with
  | none => rw [e2] at hg; cases hg
  | some t =>
    rw [e2] at hg
    simp only [Option.bind_some] at hg
    cases e1 : keyS b with
    | none => rw [e1] at hg; cases hg
    | some ks =>
      rw [e1] at hg
      simp only [Option.bind_some] at hg
      split at hg
      case isFalse => cases hg
      rename_i hf
      obtain ⟨c, r, rfl, g, hr⟩ := tb_get hb ha (k := ks.2) (by rw [← hf]; exact e1) e2
      rcases hr with ⟨rfl, hk⟩ | ⟨v, d, rfl, hk, hd⟩
      · rw [hk] at hg; cases hg
      · rw [hk] at hg
        cases hg
        exact ⟨c, v, rfl, g, postO_same hq hd⟩
def opIxX (a b : S) : Option S := match opIxT a b with
  | some z => some z
  | none => opIx a b
theorem de_itemX (hr : Room k X.A) (ha : DP X a fp) (hb : DP X b fq) (hs : PlainIx b) (hn : NoSl b := by exact fun _ _ => rfl) : DE X (.Subscript a b pos) (bin opIxX fp fq) :=
  pe_imp (pe_or2 (pe_imp (pe_dget (by have := hr.un; omega) ha hb hn) fun σ H Q h => bin_ok (r := rDGet) (X := X) od_ixT σ H Q h) (de_item ha hb hs)) fun σ H Q h => lift_x h
/-! ### {} -/
def tabE (fl : Bool) : EV := fun δ => some (.o (.t ⟨fl, []⟩), δ)
theorem de_tab (fl : Bool) : DE X (.Dict [] [] pos) (tabE fl) := by
  cases fl
  · exact pe_imp pe_dnewT fun σ H Q ⟨T, ρ, δ, s, δ', hs, hf, hq⟩ => by
      cases hf
      exact fun q hn => hq ρ q H _ hs .refl hn (tbo_new false)
  · exact pe_imp pe_dnewK fun σ H Q ⟨T, ρ, δ, s, δ', hs, hf, hq⟩ => by
      cases hf
      exact fun q hn => hq ρ q H _ hs .refl hn (tbo_new true)
/-! ### table[key] = value, the table owned -/
def setT (i : Nat) (fe fi : PEV) : SEV := fun δ => (fe δ).bind fun x => match x.1, slot x.2 i with
  | .v (.d d), some (.o _) => (fi x.2).bind fun y => (res y.2 y.1).bind fun ks => match slot y.2 i, keyS ks with
    | some (.o (.t t)), some (f, k) => if f = t.fl ∧ t.kvs.length < sizeLine then some (.nx (y.2.set i (some (.o (.t ⟨t.fl, putD t.kvs k d⟩))))) else none
    | _, _ => none
  | _, _ => none
theorem ds_setT {i : Nat} {ix : Expr} {x : Str} {opos : Pos} {fe fi : PEV} {spos : Pos} (hr : Room k X.A) (he : DP X e fe) (q : PE X (.Name x opos) (tVar i)) (hi : DP X ix fi)
    (ha : ∀ v, assign (.Subscript (.Name x opos) ix spos) X.env v = (do
      let ov ← holding [v] (eval (.Name x opos) X.env)
      let iv ← holding [v, ov] (eval ix X.env)
      standAt spos
      holding [v, ov, iv] (setItem ov iv v)
      release [v, ov, iv] []) := by intro _; rfl)
    (hs : swapsWithSole [.Subscript (.Name x opos) ix spos] e pos.line X.env = pure false := by rfl) (hw : swappedStores [.Subscript (.Name x opos) ix spos] e X.env = pure none := by rfl)
    (h1 : (assignEach [.Subscript (.Name x opos) ix spos] X.env).map (·.2) = [assign (.Subscript (.Name x opos) ix spos) X.env] := by rfl) :
    DS X P (.Assign [.Subscript (.Name x opos) ix spos] e pos) (setT i fe fi) := ps_imp (ps_asg he (pg_sub q hi (set_dict (by have := hr.un; omega)) ha) hs hw h1) fun D σ H ⟨T, ρ, δ, o, hs, hf, hq⟩ => by
  unfold setT at hf
  cases ea : fe δ with
  | none => rw [ea] at hf; cases hf
  | some z =>
    obtain ⟨pv, δ1⟩ := z
    rw [ea] at hf
    simp only [Option.bind_some] at hf
    split at hf
    case h_2 => cases hf
    rename_i d c0 hi1
    cases eb : fi δ1 with
    | none => rw [eb] at hf; cases hf
    | some y =>
      obtain ⟨pw, δ2⟩ := y
      rw [eb] at hf
      simp only [Option.bind_some] at hf
      cases er : res δ2 pw with
      | none => rw [er] at hf; cases hf
      | some ks =>
        rw [er] at hf
        simp only [Option.bind_some] at hf
        split at hf
        case h_2 => cases hf
        rename_i t f kk hsl hks
        split at hf
        case isFalse => cases hf
        rename_i hc
        cases hf
        refine ⟨T, ρ, δ, _, δ1, hs, ea, fun ρ1 v1 H1 s1 x1 p1 => ?_⟩
        obtain ⟨a, ob, a1, a2, a3, a4⟩ := sim_owned s1 hi1
        refine ⟨.ref a, a1, T, ρ1, δ1, _, δ2, s1, eb, fun ρ2 v2 H2 s2 x2 p2 => ?_⟩
        obtain ⟨b, ob2, b1, b2, b3, b4⟩ := sim_owned s2 hsl
        rw [a1] at b1
        cases b1
        have p1' : Dq X.K (hid T ρ2 H2) v1 d := dpM x2.same _ p1
        obtain ⟨o', hp, ht⟩ := tb_put (pat_at s2 .refl p2 er) (t := t) (k := kk) (by rw [hks, hc.1]) b3 b4 p1' hc.2
        refine ⟨a, _, rfl, hp, ?_⟩
        obtain ⟨c1, c2⟩ := s2.write (slot_some hsl) b2 (o := o') (c := .t ⟨t.fl, putD t.kvs kk d⟩) ht
        exact hq ρ2 σ _ c1 ((x1.trans x2).trans c2) .refl
/-! ### the truth of a list or tuple -/
def truT (f : PEV) : TEV := fun δ => (f δ).bind fun x => (res x.2 x.1).bind fun s => (asS s).map fun xs => (!xs.isEmpty, x.2)
theorem dt_tru (ha : DP X a fp) (he : ∀ whole, isTrue a X.env whole = (do let v ← whole; standAt a.pos; holding [v] (truthy v)) := by intro _; rfl) : DT X a (truT fp) := pt_imp (pt_truth ha he) fun σ H Q ⟨T, ρ, δ, b, δ', hs, hf, hq⟩ => by
  unfold truT at hf
  cases e1 : fp δ with
  | none => rw [e1] at hf; cases hf
  | some x =>
    rw [e1] at hf
    simp only [Option.bind_some] at hf
    cases e2 : res x.2 x.1 with
    | none => rw [e2] at hf; cases hf
    | some u =>
      rw [e2] at hf
      simp only [Option.bind_some] at hf
      cases e3 : asS u with
      | none => rw [e3] at hf; cases hf
      | some xs =>
        rw [e3] at hf
        cases hf
        refine ⟨T, ρ, δ, x.1, x.2, hs, by rw [e1], fun ρ1 v H1 s1 x1 p1 => ?_⟩
        obtain ⟨a, vs, rfl, h1, h2⟩ := at_seq (pat_at s1 .refl p1 e2) e3
        have hl := dpAll_len h2
        have hE : (!xs.isEmpty) = !vs.isEmpty := by
          cases vs <;> cases xs <;> first | rfl | cases hl
        refine ⟨_, ?_, hq ρ1 H1 s1 x1⟩
        rcases h1 with h1 | h1
        · exact .inl ⟨vs, h1, hE⟩
        · exact .inr (.inl ⟨vs, h1, hE⟩)
/-! ### a, b = what -/
def unpS (f : PEV) (g : GEV) : SEV := fun δ => (f δ).bind fun x => match x.1 with
  | .v (.d d) => (g d x.2).map fun δ' => .nx δ'
  | _ => none
theorem ds_unp {vs : List Nat} {tg : Expr} {g : GEV} (hP : ∀ i ∈ P, i ∉ vs) (he : DP X e fp) (hg : DG X vs tg g) (hs : swapsWithSole [tg] e pos.line X.env = pure false := by rfl) (hw : swappedStores [tg] e X.env = pure none := by rfl)
    (h1 : (assignEach [tg] X.env).map (·.2) = [assign tg X.env] := by rfl) : DS X P (.Assign [tg] e pos) (unpS fp g) := ps_imp (ps_asg he hg hs hw h1) fun D σ H ⟨T, ρ, δ, o, hs, hf, hq⟩ => by
  unfold unpS at hf
  cases ea : fp δ with
  | none => rw [ea] at hf; cases hf
  | some x =>
    obtain ⟨pv, δ1⟩ := x
    rw [ea] at hf
    simp only [Option.bind_some] at hf
    split at hf
    case h_2 => cases hf
    rename_i d
    cases eg : g d δ1 with
    | none => rw [eg] at hf; cases hf
    | some δ2 =>
      rw [eg] at hf
      cases hf
      refine ⟨T, ρ, δ, _, δ1, hs, ea, fun ρ1 v H1 s1 x1 p1 => ?_⟩
      refine ⟨T, ρ1, δ1, d, δ2, s1, p1, eg, fun ρ2 σ2 H2 s2 x2 o2 => ?_⟩
      exact hq ρ2 σ2 H2 s2 (x1.trans x2) fun i hi => o2.2 i (hP i hi)
/-! ### n += e -/
def augS (i : Nat) (f : PEV) : SEV := fun δ => match slot δ i with
  | some (.d (.int m)) => (f δ).bind fun x => match x.1 with
    | .v (.d (.int n)) => some (.nx (x.2.set i (some (.d (.int (m + n))))))
    | _ => none
  | _ => none
theorem ds_aug {i : Nat} {x : Str} {pos' : Pos} (hN : X.N.Nodup) (hi : X.N[i]? = some x) (hx : Loc X.env.scope x) (hP : i ∉ P) (he : DP X e fp) (hf : X.fn x = true ∨ X.env.scope.names.lookup x = some .local := by first | exact .inl rfl | exact .inr rfl | assumption) :
    DS X P (.AugAssign (.Name x pos') .Add e pos) (augS i fp) := ps_imp (ps_aug hN hi hx he ip_add hf) fun D σ H ⟨T, ρ, δ, o, hs, hf, hq⟩ => by
  unfold augS at hf
  split at hf
  case h_2 => cases hf
  rename_i m hm
  obtain ⟨v, v1, v2⟩ := hs.slot i _ (slot_some hm)
  cases (show Dq X.K _ v (.int m) from v2)
  cases ea : fp δ with
  | none => rw [ea] at hf; cases hf
  | some z =>
    obtain ⟨pv, δ1⟩ := z
    rw [ea] at hf
    simp only [Option.bind_some] at hf
    split at hf
    case h_2 => cases hf
    rename_i n
    cases hf
    refine ⟨.int m, v1, T, ρ, δ, _, δ1, hs, ea, fun ρ1 w H1 s1 x1 p1 => ?_⟩
    cases (show Dq X.K _ w (.int n) from p1)
    obtain ⟨c1, c2⟩ := s1.setD (i := i) (v := .int (m + n)) (s := .d (.int (m + n))) (Dq.int _)
    exact ⟨m, n, rfl, rfl, hq _ _ _ c1 (x1.trans c2) fun j hj => List.getElem?_set_ne (fun z : i = j => hP (by rw [z]; exact hj))⟩
/-! ### >>, & -/
def iShr (i j : Int) : Option Int := if 0 ≤ j then some (i / 2 ^ j.toNat) else none
theorem de_shr (ha : DP X a fp) (hb : DP X b fq) : DE X (.BinOp a .RShift b pos) (bin (opI2 iShr) fp fq) := de_op op_shr (od_I fun i j z h => by
  unfold iShr at h
  split at h
  · rename_i hc
    exact ⟨hc, Option.some.inj h⟩
  · cases h) ha hb
end
end DL

namespace DL
open PySem PySem.Spec PyProof.Rows L2

/-! ### list(table), list of others -/
def keyD1 : Key → PyData
  | .inl i => .int i
  | .inr x => .str x
def keyD (k : List Key) : PyData := .tuple (k.map keyD1)
def fListX : List S → Option S
  | [s] => match asTb s with
    | some t => if t.fl = false then some (.o (.l (t.kvs.map fun p => keyD p.1))) else none
    | none => fList [s]
  | _ => none
theorem dq_key {K : PySem.W.Frag} {G : Hp} : ∀ k : List Key, DqAll K G (k.map kV) (k.map keyD1)
  | [] => .nil
  | .inl i :: k => .cons (.int i) (dq_key k)
  | .inr x :: k => .cons (.str x) (dq_key k)
theorem dq_keys {K : PySem.W.Frag} {T : List Addr} {ρ : List (Option Addr)} {H : Hp} (k : Trk T ρ H) : ∀ {ws : List (List Key × V)} {kvs : List (List Key × PyData)} {bs : List Addr}, TV K (hid T ρ H) ws kvs → IsKeys H ws bs → DqAll K (hid T ρ H) (bs.map V.ref) (kvs.map fun p => keyD p.1)
  | _, _, _, .nil, h => by cases h; exact .nil
  | _, _, _, .cons (a := p) (b := q) h t, hk => by
    cases hk with
    | cons hb ht =>
      refine .cons ?_ (dq_keys k t ht)
      rw [h.1] at hb
      refine Dq.tup (hid_some.mpr ⟨hb, fun z => ?_, fun z => ?_⟩) (dq_key q.1)
      · obtain ⟨o, ho, hn⟩ := k.tmp _ z
        rw [hb] at ho
        cases ho
        exact hn
      · obtain ⟨o, ho, hn⟩ := k.own _ z
        rw [hb] at ho
        cases ho
        exact hn
theorem cd_listX {K : PySem.W.Frag} : CallD K (fun xs H Q => (∃ d kvs, xs = [V.ref d] ∧ Rd H d (.dT kvs) ∧ ∀ p bs, H p = none → IsKeys H kvs bs → Q (.ref p) (upd H p (.lst (bs.map V.ref)))) ∨ (∃ p ys, xs = [.ref p] ∧ (SqL K H p ys ∨ SqT K H p ys) ∧ ∀ l, H l = none → Q (.ref l) (upd H l (.lst ys)))) fListX := fun T ρ H vs ss s Q k hp hg hq => by
  unfold fListX at hg
  split at hg
  case h_2 => cases hg
  rename_i u
  split at hg
  · rename_i t et
    split at hg
    case isFalse => cases hg
    rename_i hfl
    cases hg
    obtain ⟨v, rfl, h⟩ := paired1 hp
    obtain ⟨a, o, rfl, ha, to⟩ := at_tb h et
    rcases to with ⟨_, ws, rfl, tv⟩ | ⟨f', _⟩
    · refine .inl ⟨a, ws, rfl, .inl ha, fun p bs hn hk => hq p _ hn ⟨_, rfl, dq_keys k tv hk⟩⟩
    · rw [hfl] at f'; cases f'
  · exact .inr (cd_list T ρ H vs [u] s Q k hp hg hq)
section
variable {X : Cx} {e : Expr} {es : List Expr} {pos p : Pos} {fa : AEV} {tg : Expr}
theorem de_listX (hc : X.calm = true) (hm : X.mg "list" = none) (hg : Gl X "list") (ha : DA X (e :: es) fa) (he : starEach (e :: es) X.env = (false, eval e X.env) :: starEach es X.env := by rfl) (hpl : (backTo pos (starEach es X.env)).any (·.1) = false := by rfl) : DE X (.Call (.Name "list" p) (e :: es) [] pos) (callB fListX fa) :=
  de_callTy (callr_or (call_list_dT hc) call_list_of) cd_listX hg hm (by decide +kernel) ha (by decide) (by decide) he hpl
/-! ### range(i, j, c) -/
def rngC (i c : Int) (n : Nat) : List PyData := (List.range n).map fun k => .int (i + (k : Nat) * c)
def rgSmall (i j c : Int) : Bool := decide (c ≠ 0) && decide (c.natAbs < 1073741824) && Builtin.Range.small i j c
def rngI3 (fa : AEV) : IEV := fun δ => (fa δ).bind fun x => match x.1 with
  | [.v (.d (.int i)), .v (.d (.int j)), .v (.d (.int c))] => if rgSmall i j c = true ∧ 0 ≤ Builtin.Range.rangeSize i j c then some (rngC i c (Builtin.Range.rangeSize i j c).toNat, x.2) else none
  | _ => none
theorem serves_C {K : PySem.W.Frag} {T : List Addr} {ρ : List (Option Addr)} {H : Hp} {lo c : Int} {n : Nat} : Serves K T ρ H (Itc lo c n) (rngC lo c n) := fun i T2 ρ2 H2 sm tr => by
  unfold rngC
  refine ⟨fun d hi => ?_, fun hi => (show n ≤ i by simpa using hi)⟩
  rw [List.getElem?_map] at hi
  cases e : (List.range n)[i]? with
  | none => rw [e] at hi; cases hi
  | some k =>
    rw [e] at hi
    obtain ⟨h1, h2⟩ := List.getElem?_eq_some_iff.mp e
    rw [List.getElem_range] at h2
    subst h2
    cases hi
    refine ⟨(show i < n by simpa using h1), fun x H3 hy => ?_⟩
    obtain ⟨rfl, rfl⟩ := hy
    exact ⟨Same.refl _, .int _⟩
theorem di_range3 {a b c : Expr} (hg : Gl X "range") (hm : X.mg "range" = none) (ha : DA X [a, b, c] fa) (hs : starEach [a, b, c] X.env = (false, eval a X.env) :: starEach [b, c] X.env := by rfl) (hpl : (backTo pos (starEach [b, c] X.env)).any (·.1) = false := by rfl) : DI X tg (.Call (.Name "range" p) [a, b, c] [] pos) (rngI3 fa) := pi_imp (pi_range3 hg hm ha hs hpl) fun σ H R ⟨T, ρ, δ, xs, δ', hs, hf, hq⟩ => by
  unfold rngI3 at hf
  cases ea : fa δ with
  | none => rw [ea] at hf; cases hf
  | some z =>
    obtain ⟨ps, δ1⟩ := z
    rw [ea] at hf
    simp only [Option.bind_some] at hf
    refine ⟨T, ρ, δ, ps, δ1, hs, ea, fun ρ1 vs H1 s1 x1 p1 => ?_⟩
    split at hf
    case h_2 => cases hf
    rename_i i j k
    split at hf
    case isFalse => cases hf
    rename_i hn
    cases hf
    unfold rgSmall at hn
    simp only [Bool.and_eq_true, decide_eq_true_eq] at hn
    cases p1 with
    | cons q1 q2 =>
      cases q2 with
      | cons q2 q3 =>
        cases q3 with
        | cons q3 q4 =>
          cases q4
          cases (show Dq X.K (hid T ρ1 H1) _ (.int i) from q1)
          cases (show Dq X.K (hid T ρ1 H1) _ (.int j) from q2)
          cases (show Dq X.K (hid T ρ1 H1) _ (.int k) from q3)
          exact ⟨i, j, k, _, rfl, ⟨hn.1.1.1, hn.1.1.2, hn.1.2, by omega⟩, hq ρ1 H1 _ s1 x1 serves_C⟩
/-! ### f() -/
theorem pe_callG0 {x : Str} {k : Nat} {f : Addr} {fd : FuncData} {ps : List Str} {sp : Sp} (F : FnG X.prog X.w X.K X.mg X.base k f fd ps sp) (hG : X.A.guards = some []) (hr : Room k X.A) (hg : Gl X x) (hm : X.mg x = some (.ref f)) (hk : PySem.W.keepIn X.K (.ref f) = true) (hb : Binds X.K fd ps [])
    (hdb : (x == ("__debug__" : Str)) = false := by decide) : PE X (.Call (.Name x p) [] [] pos) (fun σ H Q => sp [] H Q E0) := by
  constructor
  intro pins s σ H Q I h
  apply wpAny_Call_Name_kw
  apply ld_glob I hg hm _ hdb
  refine PySem.W.callWith_K0 I.kIn hk ?_
  have bt := hb s [] I.kIn (by
    have := F.len _ _ _ _ h
    simpa using this)
  refine wpAny_call (codeAny_mono (F.run X.A X.stack s H ⟨[], []⟩ [] [] Q E0 hG hr I.env0 bt .nil h) ?_)
  intro rs s2 hq
  cases rs with
  | error e => exact hq.elim
  | ok fl =>
    cases fl with
    | ret u => exact I.after hq
    | next => exact hq.elim
    | brk => exact hq.elim
    | cont => exact hq.elim
theorem de_own0 {k j : Nat} {x : Str} {F : FN} (D : Def X.prog X.w X.K X.mg X.base k x [] F) (hG : X.A.guards = some []) (hr : Room j X.A) (hk : k ≤ j) (hg : Gl X x) (hdb : (x == ("__debug__" : Str)) = false := by decide) : DE X (.Call (.Name x p) [] [] pos) (callE F 0 nilA) := by
  obtain ⟨a, fd, h1, h2, h3, h4⟩ := D
  refine pe_imp (pe_callG0 h4 hG (hr.mono hk) hg h1 h2 h3 hdb) fun σ H Q h => ?_
  obtain ⟨T, ρ, δ, ps, δ', hs, hf, hq⟩ := call_ok σ H Q h
  cases hf
  exact hq ρ [] H hs .refl .nil
end
end DL

namespace DL
open PySem PySem.Spec PyProof.Rows L2

/-! ### comprehensions that change nothing, seen from the data -/
theorem lcD_gen {vs : List Nat} {g : GEV} {tt : TEV} {te : EV} {δ : Ds} {p : PyData → Bool} {h : PyData → PyData} : ∀ {xs : List PyData}, (∀ x ∈ xs, ∃ δ1, g x δ = some δ1 ∧ tt δ1 = some (p x, δ1) ∧ noOwn vs δ1 = true ∧ wipeD δ1 vs = δ ∧ (p x = true → ∃ s, te δ1 = some (s, δ1) ∧ frz s = .d (h x))) →
    lcD vs g tt te xs δ = some ((xs.filter p).map h, δ)
  | [], _ => rfl
  | x :: xs, H => by
    obtain ⟨δ1, e1, e2, e3, e4, e5⟩ := H x List.mem_cons_self
    have ih := lcD_gen (xs := xs) fun y hy => H y (List.mem_cons_of_mem _ hy)
    unfold lcD
    rw [e1]
    simp only [Option.bind_some]
    rw [e2]
    simp only [Option.bind_some]
    cases ep : p x with
    | false =>
      rw [if_neg Bool.false_ne_true, if_pos e3, e4, ih, List.filter_cons, if_neg (by rw [ep]; exact Bool.false_ne_true)]
    | true =>
      obtain ⟨s, e6, e7⟩ := e5 ep
      rw [if_pos rfl, e6]
      simp only [Option.bind_some]
      rw [e7]
      simp only
      rw [if_pos e3, e4, ih, List.filter_cons, if_pos ep]
      rfl
theorem lcE_gen {vs : List Nat} {fi : IEV} {g : GEV} {tt : TEV} {te : EV} {δ δ1 : Ds} {xs : List PyData} (p : PyData → Bool) (h : PyData → PyData) (hf : fi δ = some (xs, δ1)) (hn : noOwn vs δ1 = true) (hr : restD δ1 (wipeD δ1 vs) vs = δ1)
    (H : ∀ x ∈ xs, ∃ δ2, g x (wipeD δ1 vs) = some δ2 ∧ tt δ2 = some (p x, δ2) ∧ noOwn vs δ2 = true ∧ wipeD δ2 vs = wipeD δ1 vs ∧ (p x = true → ∃ s, te δ2 = some (s, δ2) ∧ frz s = .d (h x))) (hl : ((xs.filter p).map h).length ≤ sizeLine) :
    lcE vs fi g tt te δ = some (.o (.l ((xs.filter p).map h)), δ1) := by
  unfold lcE
  rw [hf]
  simp only [Option.bind_some]
  rw [if_pos hn, lcD_gen H]
  simp only [Option.bind_some]
  rw [if_pos hl, hr]
theorem lcE_all {vs : List Nat} {fi : IEV} {g : GEV} {te : EV} {δ δ1 : Ds} {xs : List PyData} (h : PyData → PyData) (hf : fi δ = some (xs, δ1)) (hn : noOwn vs δ1 = true) (hr : restD δ1 (wipeD δ1 vs) vs = δ1)
    (H : ∀ x ∈ xs, ∃ δ2, g x (wipeD δ1 vs) = some δ2 ∧ noOwn vs δ2 = true ∧ wipeD δ2 vs = wipeD δ1 vs ∧ ∃ s, te δ2 = some (s, δ2) ∧ frz s = .d (h x)) (hl : xs.length ≤ sizeLine) :
    lcE vs fi g yesT te δ = some (.o (.l (xs.map h)), δ1) := by
  have e : xs.filter (fun _ => true) = xs := List.filter_eq_self.mpr fun _ _ => rfl
  have := lcE_gen (tt := yesT) (fun _ => true) h hf hn hr (fun x hx => let ⟨δ2, a, b, c, d⟩ := H x hx; ⟨δ2, a, rfl, b, c, fun _ => d⟩) (by rw [e, List.length_map]; exact hl)
  rw [this, e]
theorem lcD2_gen {vs vs1 : List Nat} {g : GEV} {fi1 : IEV} {g1 : GEV} {tt1 : TEV} {te : EV} {δ : Ds} {h : PyData → List PyData} : ∀ {xs : List PyData}, (∀ x ∈ xs, ∃ δ1 ys δ2, g x δ = some δ1 ∧ fi1 δ1 = some (ys, δ1) ∧ noOwn vs1 δ1 = true ∧ lcD vs1 g1 tt1 te ys (wipeD δ1 vs1) = some (h x, δ2) ∧ noOwn vs δ2 = true ∧ wipeD δ2 vs = δ) →
    lcD2 vs vs1 g yesT fi1 g1 tt1 te xs δ = some (xs.flatMap h, δ)
  | [], _ => rfl
  | x :: xs, H => by
    obtain ⟨δ1, ys, δ2, e1, e2, e3, e4, e5, e6⟩ := H x List.mem_cons_self
    have ih := lcD2_gen (xs := xs) fun y hy => H y (List.mem_cons_of_mem _ hy)
    unfold lcD2
    rw [e1]
    simp only [Option.bind_some, yesT, if_true]
    rw [e2]
    simp only [Option.bind_some]
    rw [if_pos e3, e4]
    simp only [Option.bind_some]
    rw [if_pos e5, e6, ih]
    rfl
theorem lc2E_gen {vs vs1 : List Nat} {fi : IEV} {g : GEV} {fi1 : IEV} {g1 : GEV} {tt1 : TEV} {te : EV} {δ δ1 : Ds} {xs : List PyData} (h : PyData → List PyData) (hf : fi δ = some (xs, δ1)) (hn : noOwn vs δ1 = true) (hr : restD δ1 (wipeD δ1 vs) vs = δ1)
    (H : ∀ x ∈ xs, ∃ δ2 ys δ3, g x (wipeD δ1 vs) = some δ2 ∧ fi1 δ2 = some (ys, δ2) ∧ noOwn vs1 δ2 = true ∧ lcD vs1 g1 tt1 te ys (wipeD δ2 vs1) = some (h x, δ3) ∧ noOwn vs δ3 = true ∧ wipeD δ3 vs = wipeD δ1 vs) (hl : (xs.flatMap h).length ≤ sizeLine) :
    lc2E vs vs1 fi g yesT fi1 g1 tt1 te δ = some (.o (.l (xs.flatMap h)), δ1) := by
  unfold lc2E
  rw [hf]
  simp only [Option.bind_some]
  rw [if_pos hn, lcD2_gen H]
  simp only [Option.bind_some]
  rw [if_pos hl, hr]
/-! ### tables -/
abbrev Tb := List (List Key × PyData)
def hasK (kvs : Tb) (k : List Key) : Bool := kvs.any fun p => decide (p.1 = k)
theorem valK_some (kvs : Tb) (k : List Key) : (valK kvs k).isSome = hasK kvs k := by
  unfold valK hasK
  rw [Option.isSome_map]
  induction kvs with
  | nil => rfl
  | cons p kvs ih =>
    rw [List.find?_cons, List.any_cons]
    cases decide (p.1 = k) with
    | true => rfl
    | false => exact ih
theorem hasK_put (kvs : Tb) (k k' : List Key) (d : PyData) : hasK (putD kvs k d) k' = (decide (k = k') || hasK kvs k') := by
  unfold putD
  split
  · rename_i h
    unfold hasK
    rw [List.any_map]
    have e : (fun p : List Key × PyData => decide (p.1 = k')) ∘ (fun p => if p.1 = k then (p.1, d) else p) = fun p => decide (p.1 = k') := by
      funext p
      show decide ((if p.1 = k then (p.1, d) else p).1 = k') = _
      split <;> rfl
    rw [e]
    by_cases hk : k = k'
    · subst hk
      rw [decide_eq_true rfl, Bool.true_or]
      exact h
    · rw [decide_eq_false hk, Bool.false_or]
  · unfold hasK
    rw [List.any_append, Bool.or_comm]
    simp
theorem put_vals {W : List Key → PyData} {kvs : Tb} {k : List Key} {d : PyData} (h : ∀ p ∈ kvs, p.2 = W p.1) (hd : d = W k) : ∀ p ∈ putD kvs k d, p.2 = W p.1 := by
  unfold putD
  split
  · intro p hp
    obtain ⟨q, hq, rfl⟩ := List.mem_map.mp hp
    split
    · rename_i e
      rw [e]
      exact hd
    · exact h q hq
  · intro p hp
    rcases List.mem_append.mp hp with hp | hp
    · exact h p hp
    · rw [List.mem_singleton.mp hp]
      exact hd
theorem valK_of {W : List Key → PyData} {kvs : Tb} {k : List Key} (h : ∀ p ∈ kvs, p.2 = W p.1) (hk : hasK kvs k = true) : valK kvs k = some (W k) := by
  have := valK_some kvs k
  rw [hk] at this
  unfold valK at this ⊢
  cases e : kvs.find? fun p => decide (p.1 = k) with
  | none => rw [e] at this; cases this
  | some p =>
    have h1 := List.find?_some e
    have h2 := List.mem_of_find?_eq_some e
    have h3 : p.1 = k := of_decide_eq_true h1
    show some p.2 = _
    rw [h p h2, h3]
def putAll (Kf : PyData → List Key) (Vf : PyData → PyData) (xs : List PyData) (acc : Tb) : Tb := xs.foldl (fun a x => putD a (Kf x) (Vf x)) acc
theorem putAll_has {Kf : PyData → List Key} {Vf : PyData → PyData} {k : List Key} : ∀ (xs : List PyData) (acc : Tb), hasK (putAll Kf Vf xs acc) k = (hasK acc k || xs.any fun x => decide (Kf x = k))
  | [], acc => by simp [putAll]
  | x :: xs, acc => by
    show hasK (putAll Kf Vf xs (putD acc (Kf x) (Vf x))) k = _
    rw [putAll_has xs, hasK_put, List.any_cons]
    cases decide (Kf x = k) <;> cases hasK acc k <;> rfl
theorem putAll_vals {W : List Key → PyData} {Kf : PyData → List Key} {Vf : PyData → PyData} : ∀ (xs : List PyData) (acc : Tb), (∀ p ∈ acc, p.2 = W p.1) → (∀ x ∈ xs, Vf x = W (Kf x)) → ∀ p ∈ putAll Kf Vf xs acc, p.2 = W p.1
  | [], acc, h, _ => h
  | x :: xs, acc, h, hx => putAll_vals xs (putD acc (Kf x) (Vf x)) (put_vals h (hx x List.mem_cons_self)) fun y hy => hx y (List.mem_cons_of_mem _ hy)
theorem putAll_len {Kf : PyData → List Key} {Vf : PyData → PyData} : ∀ (xs : List PyData) (acc : Tb), (putAll Kf Vf xs acc).length ≤ acc.length + xs.length
  | [], acc => Nat.le_refl _
  | x :: xs, acc => by
    have h1 := putAll_len (Kf := Kf) (Vf := Vf) xs (putD acc (Kf x) (Vf x))
    have h2 := putD_len acc (Kf x) (Vf x)
    show (putAll Kf Vf xs (putD acc (Kf x) (Vf x))).length ≤ _
    rw [List.length_cons]
    omega
theorem dcD_gen {fl : Bool} {vs : List Nat} {g : GEV} {tk tv : EV} {δ : Ds} (Kf : PyData → List Key) (Vf : PyData → PyData) : ∀ {xs : List PyData} {acc : Tb}, (∀ x ∈ xs, ∃ δ1 yk s, g x δ = some δ1 ∧ tk δ1 = some (.d yk, δ1) ∧ tv δ1 = some (s, δ1) ∧ frz s = .d (Vf x) ∧ keyS (.d yk) = some (fl, Kf x) ∧ noOwn vs δ1 = true ∧ wipeD δ1 vs = δ) → acc.length + xs.length ≤ sizeLine →
    dcD fl vs g yesT tk tv xs acc δ = some (putAll Kf Vf xs acc, δ)
  | [], acc, _, _ => rfl
  | x :: xs, acc, H, hl => by
    obtain ⟨δ1, yk, s, e1, e2, e3, e4, e5, e6, e7⟩ := H x List.mem_cons_self
    have hl2 := putD_len acc (Kf x) (Vf x)
    rw [List.length_cons] at hl
    have ih := dcD_gen Kf Vf (xs := xs) (acc := putD acc (Kf x) (Vf x)) (fun y hy => H y (List.mem_cons_of_mem _ hy)) (by omega)
    unfold dcD
    rw [e1]
    simp only [Option.bind_some, yesT, if_true]
    rw [e2]
    simp only [Option.bind_some]
    rw [e3]
    simp only [Option.bind_some]
    rw [e4, e5]
    simp only
    rw [if_pos ⟨trivial, e6, by omega⟩, e7]
    exact ih
theorem dcE_gen {fl : Bool} {vs : List Nat} {fi : IEV} {g : GEV} {tk tv : EV} {δ δ1 : Ds} {xs : List PyData} (Kf : PyData → List Key) (Vf : PyData → PyData) (hf : fi δ = some (xs, δ1)) (hn : noOwn vs δ1 = true) (hr : restD δ1 (wipeD δ1 vs) vs = δ1)
    (H : ∀ x ∈ xs, ∃ δ2 yk s, g x (wipeD δ1 vs) = some δ2 ∧ tk δ2 = some (.d yk, δ2) ∧ tv δ2 = some (s, δ2) ∧ frz s = .d (Vf x) ∧ keyS (.d yk) = some (fl, Kf x) ∧ noOwn vs δ2 = true ∧ wipeD δ2 vs = wipeD δ1 vs) (hl : xs.length ≤ sizeLine) :
    dcE fl vs fi g yesT tk tv δ = some (.o (.t ⟨fl, putAll Kf Vf xs []⟩), δ1) := by
  unfold dcE
  rw [hf]
  simp only [Option.bind_some]
  rw [if_pos hn, dcD_gen Kf Vf H (by simpa using hl)]
  show some (_, restD δ1 (wipeD δ1 vs) vs) = _
  rw [hr]
/-! keys of whole numbers -/
def keyI (r : List Int) : List Key := r.map Sum.inl
theorem keyL_ints : ∀ r : List Int, keyL (r.map PyData.int) = some (keyI r)
  | [] => rfl
  | i :: r => by
    show ((some (Sum.inl i)).bind fun k => (keyL (r.map PyData.int)).map fun ks => k :: ks) = _
    rw [keyL_ints r]
    rfl
theorem keyS_ints (r : List Int) : keyS (.d (.tuple (r.map PyData.int))) = some (false, keyI r) := by
  show (keyL (r.map PyData.int)).map _ = _
  rw [keyL_ints]
  rfl
theorem keyI_inj {r q : List Int} (h : keyI r = keyI q) : r = q := List.map_inj_right (fun a b e => Sum.inl.inj e) |>.mp h
theorem keyD_ints (r : List Int) : keyD (keyI r) = .tuple (r.map PyData.int) := by
  unfold keyD keyI
  rw [List.map_map]
  rfl
theorem in_tab {neg : Bool} {r : List Int} {s : S} {kvs : Tb} (h : asTb s = some ⟨false, kvs⟩) : opInX neg (.d (.tuple (r.map PyData.int))) s = some (.d (.bool (neg ^^ hasK kvs (keyI r)))) := by
  have e : opInT neg (.d (.tuple (r.map PyData.int))) s = some (.d (.bool (neg ^^ hasK kvs (keyI r)))) := by
    unfold opInT
    rw [keyS_ints, h]
    simp only [Option.bind_some, if_true]
    rw [valK_some]
  unfold opInX
  rw [e]
theorem ix_tab {W : List Key → PyData} {r : List Int} {s : S} {kvs : Tb} (h : asTb s = some ⟨false, kvs⟩) (hv : ∀ p ∈ kvs, p.2 = W p.1) (hk : hasK kvs (keyI r) = true) : opIxX s (.d (.tuple (r.map PyData.int))) = some (.d (W (keyI r))) := by
  have e : opIxT s (.d (.tuple (r.map PyData.int))) = some (.d (W (keyI r))) := by
    unfold opIxT
    rw [keyS_ints, h]
    simp only [Option.bind_some, if_true]
    rw [valK_of hv hk]
    rfl
  unfold opIxX
  rw [e]
theorem setT_of {i : Nat} {fe fi : PEV} {d : PyData} {c0 : C} {δ δ1 δ2 : Ds} {pv : PV} {ks : S} {k : List Key} {t : Tab} (h : fe δ = some (.v (.d d), δ1)) (h0 : slot δ1 i = some (.o c0)) (h1 : fi δ1 = some (pv, δ2)) (h2 : res δ2 pv = some ks) (h3 : slot δ2 i = some (.o (.t t))) (h4 : keyS ks = some (t.fl, k)) (h5 : t.kvs.length < sizeLine) :
    setT i fe fi δ = some (.nx (δ2.set i (some (.o (.t ⟨t.fl, putD t.kvs k d⟩))))) := by
  unfold setT
  rw [h]
  simp only [Option.bind_some]
  rw [h0]
  simp only
  rw [h1]
  simp only [Option.bind_some]
  rw [h2]
  simp only [Option.bind_some]
  rw [h3, h4]
  simp only
  rw [if_pos ⟨trivial, h5⟩]
theorem truT_of {f : PEV} {δ δ1 : Ds} {pv : PV} {s : S} {xs : List PyData} (h : f δ = some (pv, δ1)) (h1 : res δ1 pv = some s) (h2 : asS s = some xs) : truT f δ = some (!xs.isEmpty, δ1) := by
  unfold truT
  rw [h]
  simp only [Option.bind_some]
  rw [h1]
  simp only [Option.bind_some]
  rw [h2]
  rfl
end DL

namespace DL
open PySem PySem.Spec PyProof.Rows L2

/-! ### enumerate(list) -/
def enumF : Nat → List PyData → List PyData
  | _, [] => []
  | i, x :: xs => .tuple [.int (i : Nat), x] :: enumF (i + 1) xs
theorem enumF_len : ∀ (k : Nat) (xs : List PyData), (enumF k xs).length = xs.length
  | _, [] => rfl
  | k, x :: xs => congrArg (· + 1) (enumF_len (k + 1) xs)
theorem enumF_at : ∀ (k : Nat) (xs : List PyData) (i : Nat), (enumF k xs)[i]? = (xs[i]?).map fun x => .tuple [.int ((k + i : Nat) : Int), x]
  | _, [], i => by simp [enumF]
  | k, x :: xs, 0 => by simp [enumF]
  | k, x :: xs, i + 1 => by
    show (enumF (k + 1) xs)[i]? = _
    rw [enumF_at (k + 1) xs i, List.getElem?_cons_succ, show k + 1 + i = k + (i + 1) by omega]
def enumI (fa : AEV) : IEV := fun δ => (fa δ).bind fun x => match x.1 with
  | [.v (.d (.list xs))] => some (enumF 0 xs, x.2)
  | _ => none
theorem serves_E {K : PySem.W.Frag} {T : List Addr} {ρ : List (Option Addr)} {H : Hp} {a : Addr} {ws : List V} {xs : List PyData} (h0 : hid T ρ H a = some (.lst ws)) (hd : DqAll K (hid T ρ H) ws xs) : Serves K T ρ H (Ite K a) (enumF 0 xs) := fun i T2 ρ2 H2 sm tr => by
  have h2 : SqL K H2 a ws := SqL.of (hid_same _ _ (sm _ _ h0))
  refine ⟨fun d hi => ?_, fun hi => ⟨ws, h2, by rw [dpAll_len hd]; rw [enumF_len] at hi; exact hi⟩⟩
  rw [enumF_at] at hi
  obtain ⟨x, ex, rfl⟩ := Option.map_eq_some_iff.mp hi
  obtain ⟨v, e1, e2⟩ := dpAll_get hd ex
  refine ⟨⟨ws, v, h2, e1⟩, fun y H3 hy => ?_⟩
  obtain ⟨t, x', rfl, hn, rfl, fv⟩ := hy
  have := fv ws h2
  rw [e1] at this
  cases this
  refine ⟨same_new hn, Dq.tup (tr.hidNew hn) (.cons ?_ (.cons (dpM (hid_mono (same_new hn)) _ (dpM sm _ e2)) .nil))⟩
  rw [Nat.zero_add]
  exact .int _
section
variable {X : Cx} {e : Expr} {fa : AEV} {p pos tpos : Pos} {elts : List Expr} {kk : Nat}
theorem di_enum (hg : Gl X "enumerate") (hm : X.mg "enumerate" = none) (ha : DA X [e] fa) (hs : starEach [e] X.env = [(false, eval e X.env)] := by rfl) : DI X (.Tuple elts kk tpos) (.Call (.Name "enumerate" p) [e] [] pos) (enumI fa) := pi_imp (pi_enum hg hm ha hs) fun σ H R ⟨T, ρ, δ, xs, δ', hs, hf, hq⟩ => by
  unfold enumI at hf
  cases ea : fa δ with
  | none => rw [ea] at hf; cases hf
  | some z =>
    obtain ⟨ps, δ1⟩ := z
    rw [ea] at hf
    simp only [Option.bind_some] at hf
    refine ⟨T, ρ, δ, ps, δ1, hs, ea, fun ρ1 vs H1 s1 x1 p1 => ?_⟩
    split at hf
    case h_2 => cases hf
    rename_i ys
    cases hf
    cases p1 with
    | cons q1 q2 =>
      cases q2
      cases (show Dq X.K (hid T ρ1 H1) _ (.list ys) from q1) with
      | lst h1 h2 => exact ⟨_, _, rfl, SqL.of (hid_same _ _ h1), hq ρ1 H1 _ s1 x1 (serves_E h1 h2)⟩
end
end DL


/-! ### sorted(xs), xs a list of tuples of whole numbers -/
namespace DLS
open PySem PySem.Spec PyProof.Rows L2 SrtO
/-- as Python orders tuples -/
def lexL : List Int → List Int → Bool
  | [], ys => !ys.isEmpty
  | _ :: _, [] => false
  | x :: xs, y :: ys => if x = y then lexL xs ys else decide (x < y)
theorem lexL_asym : ∀ xs ys : List Int, lexL xs ys = true → lexL ys xs = false
  | [], [], h => by cases h
  | [], y :: ys, _ => rfl
  | x :: xs, [], h => by cases h
  | x :: xs, y :: ys, h => by
    unfold lexL at h ⊢
    split at h
    · rename_i e
      rw [if_pos e.symm]
      exact lexL_asym xs ys h
    · rename_i e
      rw [if_neg (fun z => e z.symm)]
      have := of_decide_eq_true h
      exact decide_eq_false (by omega)
theorem lexL_tr : ∀ xs ys zs : List Int, lexL ys xs = false → lexL zs ys = false → lexL zs xs = false
  | [], ys, zs, _, _ => by
    cases zs with
    | nil => rfl
    | cons z zs => rfl
  | x :: xs, [], zs, h, _ => by cases h
  | x :: xs, y :: ys, [], _, h => by cases h
  | x :: xs, y :: ys, z :: zs, h1, h2 => by
    unfold lexL at h1 h2 ⊢
    split at h1
    · rename_i e1
      split at h2
      · rename_i e2
        rw [if_pos (e2.trans e1)]
        exact lexL_tr xs ys zs h1 h2
      · rename_i e2
        have := of_decide_eq_false h2
        rw [if_neg (fun q => e2 (q.trans e1.symm))]
        exact decide_eq_false (by omega)
    · rename_i e1
      have h1' := of_decide_eq_false h1
      split at h2
      · rename_i e2
        rw [if_neg (fun q => e1 (e2.symm.trans q))]
        exact decide_eq_false (by omega)
      · rename_i e2
        have h2' := of_decide_eq_false h2
        rw [if_neg (by omega)]
        exact decide_eq_false (by omega)
theorem lexL_anti : ∀ xs ys : List Int, lexL xs ys = false → lexL ys xs = false → xs = ys
  | [], [], _, _ => rfl
  | [], y :: ys, h, _ => by cases h
  | x :: xs, [], _, h => by cases h
  | x :: xs, y :: ys, h1, h2 => by
    unfold lexL at h1 h2
    by_cases e : x = y
    · rw [if_pos e] at h1
      rw [if_pos e.symm] at h2
      rw [e, lexL_anti xs ys h1 h2]
    · rw [if_neg e] at h1
      rw [if_neg (fun z => e z.symm)] at h2
      have a := of_decide_eq_false h1
      have b := of_decide_eq_false h2
      omega
theorem swoL {α : Type} (k : α → List Int) : Swo fun v u => lexL (k v) (k u) := ⟨fun x y h => lexL_asym _ _ h, fun x y z h1 h2 => lexL_tr _ _ _ h1 h2⟩
section
variable {prog : Program} {w : World} {A : Around} {s : Shared} {E : Value → Shared → Prop}
def IsTupI (h : Heap) (v : Value) (k : List Int) : Prop := ∃ a o its n, v = .ref a ∧ h.get? a = some o ∧ o.cls = .type "tuple" ∧ o.data = .seq (List.toArray its) n ∧ Vals (k.map V.int) its
theorem IsTupI.keeps {h h' : Heap} {v : Value} {k : List Int} (x : IsTupI h v k) (kp : ∀ b o, h.get? b = some o → o.cls = .type "tuple" → h'.get? b = some o) : IsTupI h' v k := let ⟨a, o, its, n, e, ho, hc, hd, hv⟩ := x; ⟨a, o, its, n, e, kp a o ho hc, hc, hd, hv⟩
theorem lex_walk {Q : Bool → Shared → Prop} : ∀ (xs ys : List Int) (us vs : List Value) (i m n : Nat), Vals (xs.map V.int) us → Vals (ys.map V.int) vs → m = i + xs.length → n = i + ys.length → Q (lexL xs ys) s → PySem.W.KatLex prog w A true (decide (m < n)) Q (us.zip vs) i s
  | [], ys, us, vs, i, m, n, h1, h2, hm, hn, hq => by
    cases h1
    refine PySem.W.kat_nil ?_
    have e : decide (m < n) = lexL [] ys := by
      subst hm hn
      cases ys with
      | nil => simp [lexL]
      | cons y ys => simp [lexL]
    rw [e]
    exact hq
  | x :: xs, [], us, vs, i, m, n, h1, h2, hm, hn, hq => by
    cases h2
    rw [List.zip_nil_right]
    refine PySem.W.kat_nil ?_
    have e : decide (m < n) = false := by
      subst hm hn
      exact decide_eq_false (by simp)
    rw [e]
    exact hq
  | x :: xs, y :: ys, us, vs, i, m, n, h1, h2, hm, hn, hq => by
    cases h1 with
    | cons r1 t1 =>
      cases h2 with
      | cons r2 t2 =>
        obtain ⟨t, rfl⟩ := r1
        obtain ⟨u, rfl⟩ := r2
        rw [List.zip_cons_cons]
        refine PySem.W.kat_cons (SeqAt.EqAt.int_int x t y u prog w _ _ ?_)
        refine PySem.W.kat_go (fun e1 => ?_) (fun e1 => ?_)
        · have ex : x = y := by simpa using e1
          refine PySem.W.kat_yes (lex_walk xs ys _ _ (i + 1) m n t1 t2 (by rw [hm, List.length_cons]; omega) (by rw [hn, List.length_cons]; omega) ?_)
          unfold lexL at hq
          rw [if_pos ex] at hq
          exact hq
        · have ex : ¬ x = y := by simpa using e1
          unfold lexL at hq
          rw [if_neg ex] at hq
          refine PySem.W.kat_no ?_
          cases hi : i == 0 with
          | true => exact oneLt_int hq
          | false => exact PySem.W.kat_one _ _ (PyProof.Rows.lt_int hq)
theorem tup_cmp {vs : List Value} {k : Value → List Int} (hp : ∀ v ∈ vs, IsTupI s.heap v (k v)) : Cmp prog w A s (tuples' true) (fun p => p.1 ∈ vs) (lt2 fun v u => lexL (k v) (k u)) := by
  intro p q hm hm'
  obtain ⟨a, o, its, n, e, ho, hc, hd, hv⟩ := hp _ hm
  obtain ⟨a', o', its', n', e', ho', hc', hd', hv'⟩ := hp _ hm'
  show wpAny (model prog w) A (keyLt' (tuples' true) p.1 q.1) (fun r s' => s' = s ∧ r = lexL (k p.1) (k q.1)) (fun _ _ => False) s
  generalize k p.1 = x at hv ⊢
  generalize k q.1 = y at hv' ⊢
  rw [e, e']
  refine PySem.W.kat_lt ho hd ho' hd' ?_
  have l1 := hv.length
  have l2 := hv'.length
  rw [List.length_map] at l1 l2
  exact lex_walk x y its its' 0 _ _ hv hv' (by simpa using l1.symm) (by simpa using l2.symm) ⟨rfl, rfl⟩
theorem firsts : ∀ {vs : List Value} {k : Value → List Int}, (∀ v ∈ vs, IsTupI s.heap v (k v) ∧ k v ≠ []) → ∃ fs : List Value, PySem.W.KatTups s.heap vs fs ∧ fs.length = vs.length ∧ ∀ f ∈ fs, ∃ i t, f = Value.int i t
  | [], k, _ => ⟨[], trivial, rfl, fun f hf => nomatch hf⟩
  | v :: vs, k, h => by
    obtain ⟨fs, h1, h2, h3⟩ := firsts (vs := vs) (k := k) fun u hu => h u (List.mem_cons_of_mem _ hu)
    obtain ⟨⟨a, o, its, n, e, ho, hc, hd, hv⟩, hne⟩ := h v List.mem_cons_self
    cases hk : k v with
    | nil => exact absurd hk hne
    | cons x xs =>
      rw [hk] at hv
      cases hv with
      | cons r t =>
        obtain ⟨tk, rfl⟩ := r
        refine ⟨.int x tk :: fs, ⟨⟨a, o, _, n, e, ho, hc, hd, by simp⟩, h1⟩, by simp [h2], fun f hf => ?_⟩
        rcases List.mem_cons.mp hf with e | hf
        · exact ⟨x, tk, e⟩
        · exact h3 f hf
theorem tups_sortable {a : Addr} {vs : List Value} {k : Value → List Int} (h0 : 0 < vs.length) (hp : ∀ v ∈ vs, IsTupI s.heap v (k v) ∧ k v ≠ []) (ha : ∀ o, s.heap.get? a = some o → o.cls ≠ .type "tuple") : SortableO prog w A s a vs fun v u => lexL (k v) (k u) := by
  intro h' keep
  have hp' : ∀ v ∈ vs, IsTupI h' v (k v) ∧ k v ≠ [] := fun v hm => ⟨(hp v hm).1.keeps fun b o e c => keep b o (fun z => by subst z; exact ha o e c) e, (hp v hm).2⟩
  obtain ⟨fs, h1, h2, h3⟩ := firsts (s := { s with heap := h' }) hp'
  refine ⟨tuples' true, fun Q E hq => ?_, tup_cmp (s := { s with heap := h' }) fun v hv => (hp' v hv).1⟩
  refine PySem.W.kat_kind (T := .type "int") h1 (by omega) (fun f hm => ?_) (by rfl) ?_
  · obtain ⟨x, t, rfl⟩ := h3 f hm
    exact PySem.W.Looks.now
  · have e : (Value.type "int" != Value.type "tuple") = true := by first | decide +kernel | rfl | decide
    rw [e]
    exact hq
end
end DLS
namespace DL
open PySem PySem.Spec PyProof.Rows L2 DLS
def rSortedTI (K : PySem.W.Frag) : List V → Hp → VK → Prop := fun vs H Q => ∃ (a : Addr) (xs : List V) (k : V → List Int), vs = [V.ref a] ∧ SqL K H a xs ∧ (∀ x ∈ xs, ∃ t, x = V.ref t ∧ H t = some (.tup ((k x).map V.int))) ∧ (xs.length < 2 ∨ ∀ x ∈ xs, k x ≠ []) ∧
  ∀ ys p, SrtO.Srtd (fun x y => lexL (k x) (k y)) ys → SrtO.Stb (fun x y => lexL (k x) (k y)) ys xs → H p = none → Q (.ref p) (upd H p (.lst ys))
section
variable {X : Cx}
theorem cr_sortedTI : CallR X (.builtin "sorted") (rSortedTI X.K) := by
  intro pins s σ H vs us Q I r h
  obtain ⟨a, xs, k, rfl, hs, hx, hne, q⟩ := h
  obtain ⟨its, rv, hl, hz⟩ := I.list hs
  obtain ⟨u, rfl, ru⟩ := vals1 r
  cases (show u = Value.ref a from ru)
  obtain ⟨e1, e2⟩ := refs_back rv fun x m => let ⟨t, e, _⟩ := hx x m; ⟨t, e⟩
  have each : ∀ v ∈ its, IsTupI s.heap v (k (backV v)) := fun v hv => by
    obtain ⟨t, rfl⟩ := e2 v hv
    have hm : V.ref t ∈ xs := e1 ▸ List.mem_map.mpr ⟨_, hv, rfl⟩
    obtain ⟨t', e, ht⟩ := hx _ hm
    cases e
    obtain ⟨_, its2, r2, o, ho, hc, n, hd⟩ := I.hok _ _ ht
    exact ⟨t, o, its2, n, rfl, ho, hc, hd, r2⟩
  have hlen : xs.length = its.length := rv.length
  refine SrtO.sorted_ord (swoL fun u => k (backV u)) hl.isList (by rw [← hlen]; exact hz) (fun h2 h1 b hb kp => ?_) fun out h1 h2 => ?_
  · refine tups_sortable (s := { s with heap := h1 }) (by omega) (fun v hv => ⟨(each v hv).keeps fun c o e _ => (kp c o e).2, ?_⟩) fun o e => ?_
    · rcases hne with hne | hne
      · omega
      · obtain ⟨t, rfl⟩ := e2 v hv
        exact hne _ (e1 ▸ List.mem_map.mpr ⟨_, hv, rfl⟩)
    · have e' : some o = some (seqObj "list" its.toArray 0) := e.symm.trans hb
      cases e'
      exact fun c => absurd (Value.type.inj c) (by decide)
  · have h3 : ∀ u ∈ out, ∃ a, u = Value.ref a := fun u hu => e2 u (h2.perm.mem_iff.mp hu)
    have hb : SrtO.Stb (fun x y => lexL (k x) (k y)) (out.map backV) xs := e1 ▸ SrtO.Stb.map (swoL k) backV h2
    obtain ⟨n, hn⟩ := sortedAll_at s.heap its out.toArray
    refine ⟨.ref _, upd H _ (.lst (out.map backV)), I.laid (t' := s.toks) (fun b o e => sortedAll_old e) (Nat.le_succ _) ⟨?_, out, n, vals_back h3, hn⟩, rfl, q _ _ (SrtO.srtd_map h1) hb (I.hok.fresh (Nat.le_succ _))⟩
    rw [hb.len]
    exact hz
end
end DL

namespace DL
open PySem PySem.Spec PyProof.Rows L2 DLS

abbrev tupI (r : List Int) : PyData := .tuple (r.map PyData.int)
def intsP : List PyData → Option (List Int)
  | [] => some []
  | .int i :: ds => (intsP ds).map (i :: ·)
  | _ => none
theorem intsP_eq : ∀ {ds : List PyData} {r : List Int}, intsP ds = some r → ds = r.map PyData.int
  | [], r, h => by cases h; rfl
  | .int i :: ds, r, h => by
    have h' : (intsP ds).map (i :: ·) = some r := h
    cases e : intsP ds with
    | none => rw [e] at h'; cases h'
    | some q =>
      rw [e] at h'
      cases h'
      rw [intsP_eq e]
      rfl
  | .none :: _, _, h => by cases h
  | .bool _ :: _, _, h => by cases h
  | .str _ :: _, _, h => by cases h
  | .list _ :: _, _, h => by cases h
  | .tuple _ :: _, _, h => by cases h
  | .dict _ :: _, _, h => by cases h
theorem intsP_map : ∀ r : List Int, intsP (r.map PyData.int) = some r
  | [] => rfl
  | i :: r => by
    show (intsP (r.map PyData.int)).map (i :: ·) = _
    rw [intsP_map r]
    rfl
def rowsP : List PyData → Option (List (List Int))
  | [] => some []
  | .tuple ds :: xs => (intsP ds).bind fun r => (rowsP xs).map (r :: ·)
  | _ => none
theorem rowsP_eq : ∀ {xs : List PyData} {rs : List (List Int)}, rowsP xs = some rs → xs = rs.map tupI
  | [], rs, h => by cases h; rfl
  | .tuple ds :: xs, rs, h => by
    have h' : ((intsP ds).bind fun r => (rowsP xs).map (r :: ·)) = some rs := h
    cases e : intsP ds with
    | none => rw [e] at h'; cases h'
    | some r =>
      rw [e] at h'
      simp only [Option.bind_some] at h'
      cases e2 : rowsP xs with
      | none => rw [e2] at h'; cases h'
      | some q =>
        rw [e2] at h'
        cases h'
        rw [intsP_eq e, rowsP_eq e2]
        rfl
  | .none :: _, _, h => by cases h
  | .bool _ :: _, _, h => by cases h
  | .int _ :: _, _, h => by cases h
  | .str _ :: _, _, h => by cases h
  | .list _ :: _, _, h => by cases h
  | .dict _ :: _, _, h => by cases h
theorem rowsP_map : ∀ rs : List (List Int), rowsP (rs.map tupI) = some rs
  | [] => rfl
  | r :: rs => by
    show ((intsP (r.map PyData.int)).bind fun r => (rowsP (rs.map tupI)).map (r :: ·)) = _
    rw [intsP_map, rowsP_map rs]
    rfl
abbrev sortT : List (List Int) → List (List Int) := isort lexL
def fSortedT : List S → Option S
  | [s] => (asL s).bind fun xs => (rowsP xs).bind fun rs => if rs.length < 2 ∨ (rs.all fun r => !r.isEmpty) = true then some (.o (.l ((sortT rs).map tupI))) else none
  | _ => none
def intV : V → Int
  | .int i => i
  | _ => 0
def keyVT (H : Hp) : V → List Int
  | .ref t => match H t with
    | some (.tup vs) => vs.map intV
    | _ => []
  | _ => []
theorem ints_V {K : PySem.W.Frag} {G : Hp} : ∀ {vs : List V} {r : List Int}, DqAll K G vs (r.map PyData.int) → vs = r.map V.int
  | _, [], h => by cases h; rfl
  | _, i :: r, h => by
    cases h with
    | cons a b =>
      cases a
      rw [ints_V b]
      rfl
theorem dq_tupI {K : PySem.W.Frag} {G H : Hp} (e : Same G H) {v : V} {r : List Int} (h : Dq K G v (tupI r)) : keyVT H v = r ∧ ∃ t, v = .ref t ∧ H t = some (.tup (r.map V.int)) := by
  cases h with
  | @tup t xs _ h1 h2 =>
    have hv := ints_V h2
    subst hv
    have h3 := e _ _ h1
    refine ⟨?_, t, rfl, h3⟩
    show (match H t with | some (.tup vs) => vs.map intV | _ => []) = r
    rw [h3]
    show (r.map V.int).map intV = r
    rw [List.map_map]
    exact List.map_id r
theorem cd_sortedT {K : PySem.W.Frag} : CallD K (rSortedTI K) fSortedT := fun T ρ H vs ss s Q k hp hg hq => by
  unfold fSortedT at hg
  split at hg
  case h_2 => cases hg
  rename_i u
  obtain ⟨v, rfl, h⟩ := paired1 hp
  cases e : asL u with
  | none => rw [e] at hg; cases hg
  | some xs =>
    rw [e] at hg
    simp only [Option.bind_some] at hg
    cases ep : rowsP xs with
    | none => rw [ep] at hg; cases hg
    | some rs =>
      rw [ep] at hg
      simp only [Option.bind_some] at hg
      split at hg
      case isFalse => cases hg
      rename_i hc
      cases hg
      obtain ⟨a, ws, rfl, h1, h2⟩ := at_L h e
      have ex := rowsP_eq ep
      subst ex
      have each : ∀ v ∈ ws, (∃ t, v = .ref t ∧ H t = some (.tup ((keyVT H v).map V.int))) ∧ Dq K (hid T ρ H) v (tupI (keyVT H v)) ∧ keyVT H v ∈ rs := fun v hv => by
        obtain ⟨d, hd, q⟩ := dqAll_mem h2 hv
        obtain ⟨r, hr, rfl⟩ := List.mem_map.mp hd
        obtain ⟨q1, q2⟩ := dq_tupI hid_same q
        rw [q1]
        exact ⟨q2, q, hr⟩
      have hlen : ws.length = rs.length := by
        have := dpAll_len h2
        rw [List.length_map] at this
        exact this
      have kws : ws.map (keyVT H) = rs := by
        apply List.ext_getElem?
        intro i
        rw [List.getElem?_map]
        cases ei : ws[i]? with
        | none =>
          have hl := List.getElem?_eq_none_iff.mp ei
          rw [List.getElem?_eq_none (by omega)]
          rfl
        | some v =>
          obtain ⟨d, e1, q⟩ := dpAll_getV h2 ei
          rw [List.getElem?_map] at e1
          cases e2 : rs[i]? with
          | none => rw [e2] at e1; cases e1
          | some r =>
            rw [e2] at e1
            cases e1
            exact congrArg some (dq_tupI hid_same q).1
      refine ⟨a, ws, keyVT H, rfl, SqL.of h1, fun v hv => (each v hv).1, ?_, fun ys n h3 h4 hn => ?_⟩
      · rcases hc with hc | hc
        · exact .inl (by omega)
        · refine .inr fun v hv z => ?_
          have := List.all_eq_true.mp hc _ (each v hv).2.2
          rw [z] at this
          cases this
      have ey : ys.map (keyVT H) = sortT rs := by
        refine perm_uniq (R := fun a b => lexL b a = false) (fun a b h1 h2 => lexL_anti a b h2 h1) ?_ ?_ (isort_sorted (fun a b => lexL_asym a b) (fun a b c => lexL_tr a b c) _)
        · have := h4.perm.map (keyVT H)
          rw [kws] at this
          exact this.trans (isort_perm rs).symm
        · exact List.pairwise_map.mpr h3
      refine hq n _ hn ⟨ys, rfl, ?_⟩
      rw [← ey, List.map_map]
      exact dqAll_of fun v hv => (each v (h4.perm.mem_iff.mp hv)).2.1
section
variable {X : Cx} {e : Expr} {es : List Expr} {pos p : Pos} {fa : AEV}
theorem de_sortedT (hm : X.mg "sorted" = none) (hg : Gl X "sorted") (ha : DA X (e :: es) fa) (he : starEach (e :: es) X.env = (false, eval e X.env) :: starEach es X.env := by rfl) (hpl : (backTo pos (starEach es X.env)).any (·.1) = false := by rfl) : DE X (.Call (.Name "sorted" p) (e :: es) [] pos) (callB fSortedT fa) :=
  de_callB cr_sortedTI cd_sortedT hg hm (by decide +kernel) ha (by decide) (by decide) he hpl
end
end DL

namespace DL
open PySem PySem.Spec PyProof.Rows L2 DLS

/-! ### f(b = .., a = ..): all arguments by their names -/
abbrev DK (X : Cx) (kws : List Keyword) (f : AEV) : Prop := PK X kws (liftA X.K f)
section
variable {X : Cx} {e : Expr} {kws : List Keyword} {kpos p pos : Pos} {nm : Option Str}
theorem pk_imp {t t' : TA} (q : PK X kws t) (m : ∀ σ H Q, t' σ H Q → t σ H Q) : PK X kws t' := ⟨fun pos pins s σ H Q I h => q.run pos pins s σ H Q I (m σ H Q h)⟩
theorem dk_nil : DK X [] nilA := pk_imp pk_nil fun σ H Q ⟨T, ρ, δ, ps, δ', hs, hf, hq⟩ => by
  cases hf
  exact hq ρ [] H hs .refl .nil
theorem dk_cons {fp : PEV} {fa : AEV} (h1 : DP X e fp) (h2 : DK X kws fa) : DK X (⟨nm, e, kpos⟩ :: kws) (consA fp fa) := pk_imp (pk_cons h1 h2) fun σ H Q ⟨T, ρ, δ, ps, δ', hs, hf, hq⟩ => by
  unfold consA at hf
  cases ea : fp δ with
  | none => rw [ea] at hf; cases hf
  | some x =>
    rw [ea] at hf
    simp only [Option.bind_some] at hf
    cases eb : fa x.2 with
    | none => rw [eb] at hf; cases hf
    | some y =>
      rw [eb] at hf
      cases hf
      refine ⟨T, ρ, δ, x.1, x.2, hs, by rw [ea], fun ρ1 v1 H1 s1 x1 p1 => ?_⟩
      refine ⟨T, ρ1, x.2, y.1, y.2, s1, by rw [eb], fun ρ2 vs H2 s2 x2 p2 => ?_⟩
      exact hq ρ2 (v1 :: vs) H2 s2 (x1.trans x2) (.cons (patM x2 p1) p2)
/-- what was said last stands first -/
def revA (fa : AEV) : AEV := fun δ => (fa δ).map fun x => (x.1.reverse, x.2)
theorem paired_rev {α β : Type} {R : α → β → Prop} : ∀ {xs : List α} {ys : List β}, Paired R xs ys → Paired R xs.reverse ys.reverse
  | _, _, .nil => .nil
  | _, _, .cons (a := a) (b := b) h t => by
    rw [List.reverse_cons, List.reverse_cons]
    exact Paired.snoc (paired_rev t) h
/-- a def of the program that may be called by its parameters' names, said from the last to the first -/
def DefK (Pr : Program) (w : World) (K : PySem.W.Frag) (mg : Str → Option Value) (base : Heap) (k : Nat) (name : Str) (ps : List Str) (F : FN) : Prop :=
  ∃ a fd, mg name = some (.ref a) ∧ PySem.W.keepIn K (.ref a) = true ∧ (∀ (s : Shared) (ws : List Value), K.In s.heap → ws.length = ps.length → BindsTo s fd ⟨[], ps.reverse.zip ws⟩ (ps.zip ws.reverse)) ∧ FnG Pr w K mg base k a fd ps (spF K ps.length F)
theorem defK_mk {Pr : Program} {w : World} {K : PySem.W.Frag} {mg : Str → Option Value} {base : Heap} {x : Str} {st : Stmt} {f : Addr} {fd : FuncData} {N ps : List Str} {k : Nat} {P : List Nat} {body : SEV} (F : Fun K x x st f fd) (gm : mg x = some (.ref f))
    (b : ∀ (s : Shared) (ws : List Value), K.In s.heap → ws.length = ps.length → BindsTo s fd ⟨[], ps.reverse.zip ws⟩ (ps.zip ws.reverse)) (Sc : FnScope N ps (defScope st))
    (hbody : ∀ (cdv : Value) (A : Around) (outer : List Env) (s : Shared) (H : Hp) (E : XK), A.guards = some [] → Room k (A.deeper (envOfC x (defScope st) s.heap.objs.size f cdv)) → DSs (cxOf CX0 Pr w K mg base N x (defScope st) f cdv A outer s H E).nox P (defBody st) body) :
    DefK Pr w K mg base (k + 1) x ps (runF P N.length body) := ⟨f, fd, gm, F.kp, b, fn_ok F Sc hbody⟩
theorem de_ownK {k j m : Nat} {x : Str} {ps : List Str} {F : FN} {fa : AEV} (D : DefK X.prog X.w X.K X.mg X.base k x ps F) (hm : ps.length = m) (hG : X.A.guards = some []) (hr : Room j X.A) (hk : k ≤ j) (hg : Gl X x) (ha : DK X kws fa)
    (hall : (backToKw pos (keywordEach kws X.env)).all (·.1.isSome) = true := by rfl) (hks : (backToKw pos (keywordEach kws X.env)).filterMap (·.1) = ps.reverse := by rfl) (hdb : (x == ("__debug__" : Str)) = false := by decide)
    (hpl : ((backTo pos (starEach [] X.env)).any (·.1) || (backToKw pos (keywordEach kws X.env)).any (·.1.isNone)) = false := by rfl) : DE X (.Call (.Name x p) [] kws pos) (callE F m (revA fa)) := by
  subst hm
  obtain ⟨f, fd, h1, h2, h3, h4⟩ := D
  refine ⟨fun pins s σ H Q I h => ?_⟩
  have h' := call_ok σ H Q h
  obtain ⟨T, ρ, δ, pv, δ', hs, hf, hq⟩ := h'
  unfold revA at hf
  cases ea : fa δ with
  | none => rw [ea] at hf; cases hf
  | some y =>
    rw [ea] at hf
    cases hf
    refine wpAny_Call_Name_kw (ld_glob I hg h1 ?_ hdb)
    refine PySem.W.callWith_KW0 (h₀ := X.base) I.ok.mod.kin h2 hall (thn (ha.run pos pins s σ H (fun zs H2 => spF X.K ps.length F (zs.reverse ++ []) H2 Q E0) I ⟨T, ρ, δ, y.1, y.2, hs, ea, fun ρ1 vs H1 s1 x1 p1 => hq ρ1 vs.reverse H1 s1 x1 (paired_rev p1)⟩) fun ws s2 ⟨zs, H2, I2, rz, q2⟩ => ⟨I2.kIn, ?_⟩) hpl
    rw [hks]
    have q2 : spF X.K ps.length F (zs.reverse ++ []) H2 Q E0 := q2
    rw [List.append_nil] at q2
    have hl : ws.length = ps.length := by
      have a := rz.length
      have b := h4.len _ _ _ _ q2
      rw [List.length_reverse] at b
      omega
    refine wpAny_call (codeAny_mono (h4.run X.A X.stack s2 H2 ⟨[], ps.reverse.zip ws⟩ ws.reverse zs.reverse Q E0 hG (hr.mono hk) I2.env0 (h3 s2 ws I2.kIn hl) (paired_rev rz) q2) ?_)
    intro rs s3 hq
    cases rs with
    | error e => exact hq.elim
    | ok fl =>
      cases fl with
      | ret u => exact I2.after hq
      | next => exact hq.elim
      | brk => exact hq.elim
      | cont => exact hq.elim
end
theorem Fun_bindsK {K : PySem.W.Frag} {x qual : Str} {st : Stmt} {f : Addr} {fd : FuncData} {ps : List Str} (F : Fun K x qual st f fd)
    (h : ∀ (kV doc pm : Value) (an : Option Addr) (cdv ct : Value) (ws : List Value), ws.length = ps.length → bindArgs (PySem.W.fnOf x qual (defArgs st) (defBody st) (defScope st) .none kV doc pm an cdv ct) ⟨[], ps.reverse.zip ws⟩ = pure (ps.zip ws.reverse)) :
    ∀ (s : Shared) (ws : List Value), K.In s.heap → ws.length = ps.length → BindsTo s fd ⟨[], ps.reverse.zip ws⟩ (ps.zip ws.reverse) := by
  obtain ⟨oc, od, kV, doc, pm, an, cdv, ct, osl, rfl, lk, hcd⟩ := F.ex
  exact fun s ws _ hl => .of_eq (h kV doc pm an cdv ct ws hl)
end DL

namespace DL
open PySem PySem.Spec PyProof.Rows L2 DLS

/-! ### f(e), e a new list of its own that f may change; f tells data -/
def callN (F : FN) (fe : EV) : EV := fun δ => (fe δ).bind fun x => match x.1 with
  | .o c => (F [.o c]).bind fun r => match r.1 with
    | .d y => some (.d y, x.2)
    | _ => none
  | _ => none
section
variable {K : PySem.W.Frag} {T : List Addr} {ρ ρ' : List (Option Addr)} {δ δ' : Ds} {σ σ' : L2.St} {H H' : Hp}
theorem Sim.keep (s : Sim K T ρ δ σ H) (e : Same (hid T ρ H) (hid T ρ H')) (hT : ∀ a, a ∈ T ∨ some a ∈ ρ → H' a = H a) : Sim K T ρ δ σ H' where
  len := s.len
  slen := s.slen
  slot := fun i x h => by
    obtain ⟨v, h1, h2⟩ := s.slot i x h
    refine ⟨v, h1, ?_⟩
    cases x with
    | o c =>
      obtain ⟨a, o, e1, e2, e3⟩ := h2
      obtain ⟨a', r1, r2⟩ := s.own i c h
      rw [r2] at h1
      cases h1
      cases e1
      exact ⟨a, o, rfl, (hT a (.inr (ix_mem r1))).trans e2, coM e e3⟩
    | d y => exact svM (s := .d y) e h2
    | t y => exact svM (s := .t y) e h2
    | z y => exact svM (s := .z y) e h2
    | p y => exact svM (s := .p y) e h2
  own := s.own
  own' := s.own'
  inj := s.inj
  nt := s.nt
  tmp := fun a ha => by
    obtain ⟨o, h1, h2⟩ := s.tmp a ha
    exact ⟨o, (hT a (.inl ha)).trans h1, h2⟩
theorem co_nt' {G : Hp} {o : HO} {c : C} (h : CO K G o c) : NT o := co_nt h
theorem callN_ok {F : FN} {fe : EV} (σ : L2.St) (H : Hp) (Q : VK) (h : lift K (callN F fe) σ H Q) : tCall (spF K 1 F) [] E0 (tCons (lift K fe) tNil) σ H Q := by
  obtain ⟨T, ρ, δ, s, δ', hs, hf, hq⟩ := h
  unfold callN at hf
  cases ea : fe δ with
  | none => rw [ea] at hf; cases hf
  | some x =>
    obtain ⟨w, δ1⟩ := x
    rw [ea] at hf
    simp only [Option.bind_some] at hf
    cases w with
    | d y => cases hf
    | t y => cases hf
    | z y => cases hf
    | p y => cases hf
    | o c =>
      simp only at hf
      cases e3 : F [.o c] with
      | none => rw [e3] at hf; cases hf
      | some r =>
        obtain ⟨r1, cs⟩ := r
        rw [e3] at hf
        simp only [Option.bind_some] at hf
        cases r1 with
        | o y => cases hf
        | t y => cases hf
        | z y => cases hf
        | p y => cases hf
        | d y =>
          cases hf
          show lift K fe σ H fun v H1 => tNil σ H1 fun vs H2 => spF K 1 F ((v :: vs) ++ []) H2 Q E0
          refine ⟨T, ρ, δ, .o c, δ', hs, ea, ?_⟩
          intro ρ' p H0 o s1 x1 hp hc
          show spF K 1 F [.ref p] (upd H0 p o) Q E0
          have fr := s1.trk.fresh hp
          have inT : ∀ b, b ∈ T ++ ρ'.filterMap id ↔ (b ∈ T ∨ some b ∈ ρ') := fun b => by
            rw [List.mem_append]
            constructor
            · rintro (h | h)
              · exact .inl h
              · obtain ⟨z, hz, e⟩ := List.mem_filterMap.mp h
                have e' : z = some b := e
                rw [e'] at hz
                exact .inr hz
            · rintro (h | h)
              · exact .inl h
              · exact .inr (List.mem_filterMap.mpr ⟨some b, h, rfl⟩)
          have hpT : p ∉ T ++ ρ'.filterMap id := fun h => ((inT p).mp h).elim fr.1 fr.2
          have hold : ∀ a, (a ∈ T ∨ some a ∈ ρ') → ∃ o, H0 a = some o ∧ NT o := fun a ha => ha.elim (s1.trk.tmp a) (s1.trk.own a)
          have hne : ∀ a, (a ∈ T ∨ some a ∈ ρ') → a ≠ p := fun a ha e => by
            subst e
            exact ha.elim fr.1 fr.2
          have hh : hid (T ++ ρ'.filterMap id) [some p] (upd H0 p o) = hid T ρ' H0 := by
            funext b
            unfold hid
            by_cases hb : b = p
            · subst hb
              rw [if_pos (.inr (List.mem_singleton.mpr rfl)), hp]
              split <;> rfl
            · rw [upd_ne hb]
              by_cases hb2 : b ∈ T ∨ some b ∈ ρ'
              · rw [if_pos hb2, if_pos (.inl ((inT b).mpr hb2))]
              · rw [if_neg hb2, if_neg]
                rintro (h | h)
                · exact hb2 ((inT b).mp h)
                · exact hb (Option.some.inj (List.mem_singleton.mp h))
          refine ⟨T ++ ρ'.filterMap id, [some p], [.o c], .d y, cs, ⟨rfl, rfl, ?_, ?_, ?_, ?_, ?_, ?_⟩, rfl, e3, ?_⟩
          · intro i s h
            cases i with
            | zero =>
              cases h
              exact ⟨.ref p, rfl, p, o, rfl, upd_same, by rw [hh]; exact hc⟩
            | succ i => simp at h
          · intro i c' h
            cases i with
            | zero => cases h; exact ⟨p, rfl, rfl⟩
            | succ i => simp at h
          · intro i a h
            cases i with
            | zero => exact ⟨c, rfl⟩
            | succ i => simp at h
          · intro i j a hi hj
            cases i with
            | succ i => simp at hi
            | zero =>
              cases j with
              | succ j => simp at hj
              | zero => rfl
          · intro i a hi
            cases i with
            | succ i => simp at hi
            | zero => cases hi; exact hpT
          · intro a ha
            have ha' := (inT a).mp ha
            obtain ⟨o', h1, h2⟩ := hold a ha'
            exact ⟨o', by rw [upd_ne (hne a ha')]; exact h1, h2⟩
          · intro v H' hown hext hv
            have up : Same (hid (T ++ ρ'.filterMap id) [some p] H') (hid T ρ' H') := fun b u hb => by
              obtain ⟨b1, b2, b3⟩ := hid_some.mp hb
              exact hid_some.mpr ⟨b1, fun h => b2 ((inT b).mpr (.inl h)), fun h => b2 ((inT b).mpr (.inr h))⟩
            have sm : Same (hid T ρ' H0) (hid T ρ' H') := by
              have := hext.same
              rw [hh] at this
              exact this.trans up
            have same : ∀ a, (a ∈ T ∨ some a ∈ ρ') → H' a = H0 a := fun a ha => by
              rw [hext.tmp a ((inT a).mpr ha), upd_ne (hne a ha)]
            exact hq ρ' v H' (s1.keep sm same) (x1.trans ⟨sm, fun a ha => same a (.inl ha)⟩) (svM (s := .d y) up hv)
end
section
variable {X : Cx} {pos p : Pos} {e : Expr} {x : Str}
theorem de_ownN {k j : Nat} {ps : List Str} {F : FN} {fe : EV} (D : Def X.prog X.w X.K X.mg X.base k x ps F) (hm : ps.length = 1) (hG : X.A.guards = some []) (hr : Room j X.A) (hk : k ≤ j) (hg : Gl X x) (ha : DE X e fe) (hdb : (x == ("__debug__" : Str)) = false := by decide) (he : starEach (e :: []) X.env = (false, eval e X.env) :: starEach [] X.env := by rfl) (hpl : (backTo pos (starEach [] X.env)).any (·.1) = false := by rfl) :
    DE X (.Call (.Name x p) [e] [] pos) (callN F fe) := by
  obtain ⟨a, fd, h1, h2, h3, h4⟩ := D
  rw [hm] at h4
  exact pe_imp (pe_callG h4 hG (hr.mono hk) hg h1 h2 h3 (pa_cons ha pa_nil he) hdb he hpl) callN_ok
end
end DL

namespace DL
open PySem PySem.Spec PyProof.Rows L2 DLS

/-! ### sorted(table), its keys tuples of numbers -/
def rSortedKT (K : PySem.W.Frag) : List V → Hp → VK → Prop := fun vs H Q => ∃ (d : Addr) (kvs : List (List Key × V)), vs = [V.ref d] ∧ Rd H d (.dT kvs) ∧ (∀ bs, IsKeys H kvs bs → ∀ b ∈ bs, ∃ r : List Int, H b = some (.tup (r.map V.int)) ∧ keyVT H (.ref b) = r ∧ (kvs.length < 2 ∨ r ≠ [])) ∧
  ∀ bs ys p, IsKeys H kvs bs → SrtO.Srtd (fun x y => lexL (keyVT H x) (keyVT H y)) ys → SrtO.Stb (fun x y => lexL (keyVT H x) (keyVT H y)) ys (bs.map V.ref) → H p = none → Q (.ref p) (upd H p (.lst ys))
section
variable {X : Cx}
theorem cr_sortedKT (hc : X.calm = true) : CallR X (.builtin "sorted") (rSortedKT X.K) := by
  intro pins s σ H vs us Q I r h
  obtain ⟨d, kvs, rfl, hd, hk, q⟩ := h
  obtain ⟨u, rfl, rx⟩ := r.one
  cases rx
  obtain ⟨z, hs, ks, pr, o, es, ep, ho, hx, hdt, he, hn⟩ := (show ObjOk X.prog X.w H s.heap d (.dT kvs) from hd.ok I.hok)
  have l1 : es.size = ks.length := size_of_entries he
  have l2 : kvs.length = ks.length := Paired.length pr
  have isk := isKeys_of pr
  refine Calls.call_function_entry PyProof.Rows.kind_sorted PyProof.Rows.plain_sorted PyProof.Rows.entry_sorted (PyProof.Rows.args_sorted1 _) ?_
  unfold Builtin.«sorted»
  refine wpAny_bind (m := checkCount "sorted" 1 1 _) (wpAny_pure ?_)
  refine wpAny_bind (PySem.W.kdu_collect (A := X.A.in1) (kdl_raw hs hx hdt) (I.ok.hd hc) ho (by omega) fun h' tk acc hkp it => ?_)
  have ea : acc.toList = ks.map fun x => Value.ref x.2.1 := by
    have hl : acc.toList.length = ks.length := by rw [Array.length_toList, it.1]; exact l1
    apply List.ext_getElem?
    intro j
    rw [List.getElem?_map]
    cases hj : acc.toList[j]? with
    | none =>
      have h1 := List.getElem?_eq_none_iff.mp hj
      rw [List.getElem?_eq_none (by omega)]
      all_goals rfl
    | some v =>
      obtain ⟨en, hen, hv⟩ := it.2 j v (by rw [← Array.getElem?_toList]; exact hj)
      have qe := entry_at he j
      rw [hen] at qe
      cases hb : ks[j]? with
      | none =>
        rw [hb] at qe
        exact nomatch (show some en = none from qe)
      | some b =>
        rw [hb] at qe
        have e2 : en = entryOfKey (tupleKind (mixKind X.prog X.w)) b := Option.some.inj qe
        rw [hv, e2]
        all_goals rfl
  have eb : acc.toList = (ks.map fun x => x.2.1).map Value.ref := by rw [ea, List.map_map]; all_goals rfl
  have hal : acc.toList.length = ks.length := by rw [eb, List.length_map, List.length_map]
  have hz : acc.toList.length ≤ sizeLine := by rw [hal]; omega
  have I1 : Inv X pins σ H { s with heap := h', toks := tk } := I.kept hkp
  have each : ∀ v ∈ acc.toList, IsTupI h' v (keyVT H (backV v)) ∧ (kvs.length < 2 ∨ keyVT H (backV v) ≠ []) := fun v hv => by
    rw [eb] at hv
    obtain ⟨b, hb, rfl⟩ := List.mem_map.mp hv
    obtain ⟨r, h1, h2, h3⟩ := hk _ isk b hb
    have e : keyVT H (backV (Value.ref b)) = r := h2
    rw [e]
    obtain ⟨_, its2, r2, o, ho, hc, n, hd⟩ := I1.hok _ _ h1
    exact ⟨⟨b, o, its2, n, rfl, ho, hc, hd, r2⟩, h3⟩
  refine wpAny_bind (wpAny_newList ?_ hz)
  have hoL : (h'.push (seqObj "list" acc.toList.toArray 0)).get? h'.objs.size = some (seqObj "list" acc.toList.toArray 0) := Heap.get?_push_size _ rfl
  show wpAny _ _ _ _ _ { s with heap := h'.push (seqObj "list" acc.toList.toArray 0), toks := tk }
  refine wpAny_bind (wpAny_holding (wpAny_call_entry PyProof.Rows.slot_list_sort ⟨_, hoL, rfl⟩ PyProof.Rows.entry_list_sort
    (SrtO.list_sort_ord (s := { s with heap := h'.push (seqObj "list" acc.toList.toArray 0), toks := tk }) (swoL fun u => keyVT H (backV u)) hoL hz (fun h2 => ?_) fun out g1 g2 => ⟨_, rfl, ?_⟩) (PyProof.Rows.args_list_sort _)))
  · refine tups_sortable (s := { s with heap := h'.push (seqObj "list" acc.toList.toArray 0), toks := tk }) (by omega) (fun v hv => ⟨(each v hv).1.keeps fun c o e _ => Heap.get?_push_of_some _ e, ?_⟩) fun o e => ?_
    · rcases (each v hv).2 with hne | hne
      · omega
      · exact hne
    · have e' : some o = some (seqObj "list" acc.toList.toArray 0) := e.symm.trans hoL
      cases e'
      exact fun c => absurd (Value.type.inj c) (by decide)
  · have h3 : ∀ u ∈ out, ∃ a, u = Value.ref a := fun u hu => by
      have := g2.perm.mem_iff.mp hu
      rw [eb] at this
      obtain ⟨b, _, rfl⟩ := List.mem_map.mp this
      exact ⟨b, rfl⟩
    have e1 : acc.toList.map backV = (ks.map fun x => x.2.1).map V.ref := by
      rw [eb, List.map_map]
      rfl
    have hb : SrtO.Stb (fun x y => lexL (keyVT H x) (keyVT H y)) (out.map backV) ((ks.map fun x => x.2.1).map V.ref) := e1 ▸ SrtO.Stb.map (swoL (keyVT H)) backV g2
    obtain ⟨e', he'⟩ := PyProof.Rows.sortedHeap_at (vs := acc.toList) (out := out.toArray) hoL
    have hlen : (out.map backV).length ≤ sizeLine := by
      rw [List.length_map, g2.len]
      exact hz
    refine wpAny_pure ⟨_, rfl, .ref h'.objs.size, upd H h'.objs.size (.lst (out.map backV)), I1.laid (t' := tk) (fun b u e => ?_) (Nat.le_refl _)
      (show ObjOk X.prog X.w _ _ _ (.lst (out.map backV)) from ⟨hlen, out, e', vals_back h3, he'⟩), rfl, q _ _ _ isk (SrtO.srtd_map g1) hb (I1.hok.fresh (Nat.le_refl _))⟩
    have hb : b < h'.objs.size := Heap.lt_size e
    rw [PyProof.Rows.sortedHeap_old (Nat.ne_of_lt hb) (by rw [size_push']; exact Nat.lt_succ_of_lt hb)]
    exact Heap.get?_push_of_some _ e
end
end DL

namespace DL
open PySem PySem.Spec PyProof.Rows L2 DLS

def fSortedK : List S → Option S
  | [s] => (asTb s).bind fun t => if t.fl = false then (rowsP (t.kvs.map fun p => keyD p.1)).bind fun rs => if rs.length < 2 ∨ (rs.all fun r => !r.isEmpty) = true then some (.o (.l ((sortT rs).map tupI))) else none else none
  | _ => none
theorem cd_sortedK {K : PySem.W.Frag} : CallD K (rSortedKT K) fSortedK := fun T ρ H vs ss s Q k hp hg hq => by
  unfold fSortedK at hg
  split at hg
  case h_2 => cases hg
  rename_i u
  obtain ⟨v, rfl, h⟩ := paired1 hp
  cases e : asTb u with
  | none => rw [e] at hg; cases hg
  | some t =>
    rw [e] at hg
    simp only [Option.bind_some] at hg
    split at hg
    case isFalse => cases hg
    rename_i hfl
    cases ep : rowsP (t.kvs.map fun p => keyD p.1) with
    | none => rw [ep] at hg; cases hg
    | some rs =>
      rw [ep] at hg
      simp only [Option.bind_some] at hg
      split at hg
      case isFalse => cases hg
      rename_i hc
      cases hg
      obtain ⟨a, o, rfl, ha, to⟩ := at_tb h e
      rcases to with ⟨_, wt, rfl, tv⟩ | ⟨f', _⟩
      case inr => rw [hfl] at f'; cases f'
      have ex := rowsP_eq ep
      have dqs : ∀ bs, IsKeys H wt bs → DqAll K (hid T ρ H) (bs.map V.ref) (rs.map tupI) := fun bs hk => by
        have := dq_keys k tv hk
        rw [ex] at this
        exact this
      have each : ∀ bs, IsKeys H wt bs → ∀ v ∈ bs.map V.ref, (∃ t, v = .ref t ∧ H t = some (.tup ((keyVT H v).map V.int))) ∧ Dq K (hid T ρ H) v (tupI (keyVT H v)) ∧ keyVT H v ∈ rs := fun bs hk v hv => by
        obtain ⟨d, hd, q⟩ := dqAll_mem (dqs bs hk) hv
        obtain ⟨r, hr, rfl⟩ := List.mem_map.mp hd
        obtain ⟨q1, q2⟩ := dq_tupI hid_same q
        rw [q1]
        exact ⟨q2, q, hr⟩
      have hlen : wt.length = rs.length := by
        have h1 := Paired.length tv
        have h2 := congrArg List.length ex
        rw [List.length_map, List.length_map] at h2
        omega
      refine ⟨a, wt, rfl, .inl ha, fun bs hk b hb => ?_, fun bs ys n hk h3 h4 hn => ?_⟩
      · obtain ⟨⟨t', e1, e2⟩, _, e3⟩ := each bs hk (.ref b) (List.mem_map.mpr ⟨b, hb, rfl⟩)
        cases e1
        refine ⟨_, e2, rfl, ?_⟩
        rcases hc with hc | hc
        · exact .inl (by omega)
        · refine .inr fun z => ?_
          have := List.all_eq_true.mp hc _ e3
          rw [z] at this
          cases this
      · have h2 := dqs bs hk
        have kws : (bs.map V.ref).map (keyVT H) = rs := by
          apply List.ext_getElem?
          intro i
          rw [List.getElem?_map]
          cases ei : (bs.map V.ref)[i]? with
          | none =>
            have hl := List.getElem?_eq_none_iff.mp ei
            have hd := dpAll_len h2
            have hd2 : (rs.map tupI).length = rs.length := List.length_map _
            rw [List.getElem?_eq_none (by omega)]
            rfl
          | some v =>
            obtain ⟨d, e1, q⟩ := dpAll_getV h2 ei
            rw [List.getElem?_map] at e1
            cases e2 : rs[i]? with
            | none => rw [e2] at e1; cases e1
            | some r =>
              rw [e2] at e1
              cases e1
              exact congrArg some (dq_tupI hid_same q).1
        have ey : ys.map (keyVT H) = sortT rs := by
          refine perm_uniq (R := fun a b => lexL b a = false) (fun a b h1 h2 => lexL_anti a b h2 h1) ?_ ?_ (isort_sorted (fun a b => lexL_asym a b) (fun a b c => lexL_tr a b c) _)
          · have := h4.perm.map (keyVT H)
            rw [kws] at this
            exact this.trans (isort_perm rs).symm
          · exact List.pairwise_map.mpr h3
        refine hq n _ hn ⟨ys, rfl, ?_⟩
        rw [← ey, List.map_map]
        exact dqAll_of fun v hv => (each bs hk v (h4.perm.mem_iff.mp hv)).2.1
section
variable {X : Cx} {e : Expr} {es : List Expr} {pos p : Pos} {fa : AEV}
theorem de_sortedK (hc : X.calm = true) (hm : X.mg "sorted" = none) (hg : Gl X "sorted") (ha : DA X (e :: es) fa) (he : starEach (e :: es) X.env = (false, eval e X.env) :: starEach es X.env := by rfl) (hpl : (backTo pos (starEach es X.env)).any (·.1) = false := by rfl) : DE X (.Call (.Name "sorted" p) (e :: es) [] pos) (callB fSortedK fa) :=
  de_callB (cr_sortedKT hc) cd_sortedK hg hm (by decide +kernel) ha (by decide) (by decide) he hpl
end
end DL

namespace DLS
open PySem PySem.Calls PyProof.Rows PyProof.V PySem.Spec
section
variable {prog : Program} {w : World} {A : Around} {E : Value → Shared → Prop} {s : Shared}
theorem same_bare {nm : String} {a b : Addr} {oa ob : Obj} {es : Array DictEntry} {ep ep' : Nat} {Q : Bool → Shared → Prop} (ha : (a == sysModules) = false) (hb : (b == sysModules) = false)
    (hoa : s.heap.get? a = some oa) (hda : oa.data = .dict es ep) (hob : s.heap.get? b = some ob) (hdb : ob.data = .dict #[] ep') (h : Q (es.size == 0) s) :
    wpAny (model prog w) A (Builtin.Dict.samePairs nm a b) Q E s := by
  unfold Builtin.Dict.samePairs Builtin.Dict.showsAll
  rw [if_neg (show ¬ (a == sysModules) = true by rw [ha]; exact Bool.false_ne_true), if_neg (show ¬ (b == sysModules) = true by rw [hb]; exact Bool.false_ne_true)]
  refine wpAny_bind (wpAny_pure (wpAny_bind (wpAny_pure ?_)))
  refine wpAny_bind (wpAny_dictEntries hoa hda ?_)
  dsimp only
  refine wpAny_bind (wpAny_dictEntries hob hdb ?_)
  by_cases hsz : es.size = 0
  case neg =>
    rw [if_pos (by simpa using hsz)]
    have hbf : (es.size == 0) = false := by simpa using hsz
    rw [hbf] at h
    exact wpAny_bind (wpAny_rule (wpAny_pure h))
  case pos =>
    have h' : Q true s := by simpa [hsz] using h
    rw [if_neg (by rw [hsz]; simp)]
    refine wpAny_bind (wpAny_dictEpoch hoa hda ?_)
    refine wpAny_bind ?_
    rw [Std.Legacy.Range.forIn_eq_forIn_range']
    simp only [Std.Legacy.Range.size, Nat.sub_zero, Nat.add_sub_cancel, Nat.div_one, hsz]
    exact wpAny_pure (wpAny_pure h')
theorem ne_bare {a b : Addr} {oa ob : Obj} {es : Array DictEntry} {ep ep' : Nat} {Q : Value → Shared → Prop} (ha : (a == sysModules) = false) (hb : (b == sysModules) = false)
    (hoa : s.heap.get? a = some oa) (xa : oa.ExactDict) (hda : oa.data = .dict es ep) (hob : s.heap.get? b = some ob) (xb : ob.ExactDict) (hdb : ob.data = .dict #[] ep') (hu : A.units < cLine) (h : Q (.bool (!(es.size == 0))) s) :
    wpAny (model prog w) A (compareOp .NotEq (.ref a) (.ref b)) Q E s := by
  refine wpAny_richCompare_same_room (op := .NotEq) ⟨oa, hoa, xa.1⟩ ⟨ob, hob, xb.1⟩ PySem.F.slot_dict_ne (wpAny_call_entry PySem.F.slot_dict_ne ⟨oa, hoa, xa.1⟩ PySem.F.entry_dict_ne ?_ (PySem.F.args_dict_ne_2 _ _)) hu
  show wpAny _ _ (Builtin.Dict.dictSlotArgs "__ne__" ⟨[.ref a, .ref b], []⟩ >>= _) _ _ s
  refine wpAny_bind ?_
  unfold Builtin.Dict.dictSlotArgs
  refine wpAny_bind (wpAny_notOrdered_dict ⟨oa, hoa, xa.1⟩ ?_)
  show wpAny _ _ (pure (Value.ref a, Value.ref b)) _ _ s
  refine wpAny_pure ?_
  refine wpAny_bind (wpAny_isInstance (T := "dict") ⟨ob, hob, xb.1⟩ PySem.F.sub_dict_dict ?_)
  simp only [Bool.not_true, Bool.false_eq_true, if_false]
  refine wpAny_bind (wpAny_pure (wpAny_bind (wpAny_pure ?_)))
  refine wpAny_bind (same_bare ha hb hoa hda hob hdb ?_)
  refine wpAny_pure ⟨_, rfl, ?_, ?_⟩
  · exact fun x => nomatch x
  · simpa using h
end
end DLS
namespace DL
open PySem PySem.Spec PyProof.Rows L2 DLS
/-! ### table != {} -/
def rNeB : R2 := fun x y H Q => ∃ a b kvs, x = .ref a ∧ y = .ref b ∧ Rd H a (.dT kvs) ∧ Rd H b (.dT []) ∧ Q (.bl (!(kvs.length == 0))) H
def opNeB (a b : S) : Option S := (asTb a).bind fun t => (asTb b).bind fun u => if t.fl = false ∧ u.fl = false ∧ u.kvs.length = 0 then some (.d (.bool (!(t.kvs.length == 0)))) else none
section
variable {X : Cx} {a b : Expr} {pos : Pos} {fp fq : PEV} {k : Nat}
theorem or_neB (hu : X.A.units < cLine) : OpR X (compareOp .NotEq) rNeB := by
  intro pins s σ H x y v u Q I rx ry h
  obtain ⟨a, b, kvs, rfl, rfl, ea, eb, q⟩ := h
  obtain rfl : v = Value.ref a := rx
  obtain rfl : u = Value.ref b := ry
  obtain ⟨_, ya, xa, pa, oa, es, ep, hoa, hxa, hda, hea, _⟩ := (show ObjOk X.prog X.w H s.heap a (.dT kvs) from ea.ok I.hok)
  obtain ⟨_, yb, xb, pb, ob, es', ep', hob, hxb, hdb, heb, _⟩ := (show ObjOk X.prog X.w H s.heap b (.dT []) from eb.ok I.hok)
  have l1 : es.size = xa.length := size_of_entries hea
  have l2 : kvs.length = xa.length := Paired.length pa
  have l3 : es'.size = xb.length := size_of_entries heb
  have l4 : ([] : List (List Key × V)).length = xb.length := Paired.length pb
  have e0 : es' = #[] := Array.eq_empty_of_size_eq_zero (by simp at l4; omega)
  subst e0
  exact ne_bare ya yb hoa hxa hda hob hxb hdb hu (fin_bl I q (by rw [l1, l2]))
theorem od_neB {K : PySem.W.Frag} : OpD K rNeB opNeB := fun T ρ H x y a b s Q k ha hb hg hq => by
  unfold opNeB at hg
  cases e1 : asTb a with
  | none => rw [e1] at hg; cases hg
  | some t =>
    rw [e1] at hg
    simp only [Option.bind_some] at hg
    cases e2 : asTb b with
    | none => rw [e2] at hg; cases hg
    | some u =>
      rw [e2] at hg
      simp only [Option.bind_some] at hg
      split at hg
      case isFalse => cases hg
      rename_i hc
      cases hg
      obtain ⟨p, o, rfl, hp, tp⟩ := at_tb ha e1
      obtain ⟨q, o', rfl, hq', tq⟩ := at_tb hb e2
      rcases tp with ⟨_, w1, rfl, tv1⟩ | ⟨f', _⟩
      case inr => rw [hc.1] at f'; cases f'
      rcases tq with ⟨_, w2, rfl, tv2⟩ | ⟨f', _⟩
      case inr => rw [hc.2.1] at f'; cases f'
      have l1 : w1.length = t.kvs.length := Paired.length tv1
      have l2 : w2.length = u.kvs.length := Paired.length tv2
      have e0 : w2 = [] := List.length_eq_zero_iff.mp (by omega)
      subst e0
      refine ⟨p, q, w1, rfl, rfl, .inl hp, .inl hq', ?_⟩
      rw [l1]
      exact postO_same hq (.bl _)
theorem de_neB (hr : Room k X.A) (ha : DP X a fp) (hb : DP X b fq) : DE X (.Compare a [.NotEq] [b] pos) (bin opNeB fp fq) := de_cmp (or_neB (by have := hr.un; omega)) od_neB ha hb (nomark _)
end
end DL

namespace DL
open PySem PySem.Spec PyProof.Rows L2 DLS
/-! ### i & 1 -/
def opAnd1 (a b : S) : Option S := (asI a).bind fun i => (asI b).bind fun j => if j = 1 then some (.d (.int (i % 2))) else none
theorem od_and1 {K : PySem.W.Frag} : OpD K (fun x y H Q => ∃ (i : Int) (k : Nat), x = .int i ∧ y = .int (2 ^ k - 1) ∧ Q (.int (i % 2 ^ k)) H) opAnd1 := fun T ρ H x y a b s Q k ha hb hg hq => by
  unfold opAnd1 at hg
  cases e1 : asI a with
  | none => rw [e1] at hg; cases hg
  | some i =>
    rw [e1] at hg
    simp only [Option.bind_some] at hg
    cases e2 : asI b with
    | none => rw [e2] at hg; cases hg
    | some j =>
      rw [e2] at hg
      simp only [Option.bind_some] at hg
      split at hg
      case isFalse => cases hg
      rename_i hj
      subst hj
      cases hg
      exact ⟨i, 1, at_I ha e1, at_I hb e2, postO_same hq (.int _)⟩
section
variable {X : Cx} {a b : Expr} {pos : Pos} {fp fq : PEV} {k : Nat}
theorem de_and1 (ha : DP X a fp) (hb : DP X b fq) : DE X (.BinOp a .BitAnd b pos) (bin opAnd1 fp fq) := de_op op_andM od_and1 ha hb
end
end DL

namespace DL
open PySem PySem.Spec PyProof.Rows L2

/-! ### list(table.values()), tuple keys -/
def tListVals (td : TE) : TE := fun σ H Q => td σ H fun x H1 => ∃ a kvs, x = V.ref a ∧ H1 a = some (.dT kvs) ∧ ∀ p, H1 p = none → Q (.ref p) (upd H1 p (.lst (kvs.map (·.2))))
section
variable {X : Cx} {o : Expr} {p pos apos mpos : Pos} {td : TE}
theorem kt_vals {H : Hp} {kvs : List (List Key × V)} {xs : List (List Key × Addr × Value)} (r : KT H kvs xs) : Vals (kvs.map (·.2)) (xs.map fun x => x.2.2) := by
  induction r with
  | nil => exact .nil
  | cons h t ih => exact .cons h.2.2 ih
theorem pe_listVals (hc : X.calm = true) (hg : Gl X "list") (hm : X.mg "list" = none) (hd : PE X o td) (hbase : attributeBase o "values" X.env (eval o X.env) = eval o X.env := by rfl) (hline : (apos.endLine == mpos.line) = true := by rfl)
    (hse : starEach [Expr.Call (.Attribute o "values" apos) [] [] mpos] X.env = [(false, eval (Expr.Call (.Attribute o "values" apos) [] [] mpos) X.env)] := by rfl) :
    PE X (.Call (.Name "list" p) [.Call (.Attribute o "values" apos) [] [] mpos] [] pos) (tListVals td) := by
  refine ⟨fun pins s σ H Q I h => ?_⟩
  refine wpAny_Call_Name_kw (ld_blt I hg hm (u := .type "list") (by first | rfl | decide +kernel) ?_ (by first | decide +kernel | decide) (by first | decide +kernel | decide))
  rw [hse]
  refine PySem.callWith_type1 (wpAny_Call_method0_late hbase hline (thn (hd.run pins s σ H _ I h) fun v s1 ⟨x, H1, I1, r1, a, kvs, ex, ha, q⟩ => ?_))
  subst ex
  obtain rfl : v = Value.ref a := r1
  obtain ⟨z, hsys, ks, pr, ob, es, ep, ho, hx, hdt, he, hn⟩ := (show ObjOk X.prog X.w H1 s1.heap a (.dT kvs) from I1.hok a _ ha)
  have l1 : es.size = ks.length := size_of_entries he
  have l2 : kvs.length = ks.length := Paired.length pr
  refine ⟨"dict", "dict.values", F.plainAttrs_dict, F.slot_dict_values, F.type_dict_values, ⟨ob, ho, hx.1⟩, fun b e => ?_, Calls.callWith_builtin rfl (PySem.evalArgs_none ?_)⟩
  · cases e
    exact ⟨ob, ho, hx.2.1⟩
  refine call_meetsIn F.slot_dict_values ⟨ob, ho, hx.1⟩ F.entry_dict_values (F.args_dict_values_1 _) (meets_dict_values_raw a hsys) ⟨⟨es, ep, ob, ho, hx, hdt⟩, ?_⟩
  have k1 : ∀ b u, s1.heap.get? b = some u → (s1.heap.push { cls := .type "dict_values", data := .fields #[.ref a] }).get? b = some u := fun b u e => Heap.get?_push_of_some _ e
  refine PySem.W.kdl_call (KdlSrc.rawValues (r := s1.heap.objs.size) (d := a) (es := es) (ep := ep)) (I.ok.hd hc) ⟨⟨_, Heap.get?_push_size _ rfl, rfl, rfl⟩, ⟨ob, k1 _ _ ho, hx, hdt⟩⟩ (by omega) fun h' tk acc' c' kp e it => ?_
  have ea : acc'.toList = ks.map fun x => x.2.2 := by
    have hl : acc'.toList.length = ks.length := by rw [Array.length_toList, it.1]; exact l1
    apply List.ext_getElem?
    intro j
    rw [List.getElem?_map]
    cases hj : acc'.toList[j]? with
    | none =>
      have h1 := List.getElem?_eq_none_iff.mp hj
      rw [List.getElem?_eq_none (by omega)]
      all_goals rfl
    | some v =>
      obtain ⟨hi, hv⟩ := it.2 j v (by rw [← Array.getElem?_toList]; exact hj)
      have qe := entry_at he j
      have hen : es[j]? = some es[j] := Array.getElem?_eq_getElem hi
      rw [hen] at qe
      cases hb : ks[j]? with
      | none =>
        rw [hb] at qe
        exact nomatch (show some es[j] = none from qe)
      | some b =>
        rw [hb] at qe
        have e2 : es[j] = entryOfKey (tupleKind (mixKind X.prog X.w)) b := Option.some.inj qe
        rw [hv, e2]
        all_goals rfl
  have hz : (kvs.map (·.2)).length ≤ sizeLine := by rw [List.length_map]; omega
  have hsz : (s1.heap.push { cls := .type "dict_values", data := .fields #[.ref a] }).objs.size = s1.heap.objs.size + 1 := Heap.size_push _ _
  refine ⟨.ref (s1.heap.push { cls := .type "dict_values", data := .fields #[.ref a] }).objs.size, _, I1.laid (t' := tk) (o := .lst (kvs.map (·.2))) (fun b u e => kp b u (k1 b u e)) (by omega) ?_, rfl, q _ (I1.hok.fresh (by omega))⟩
  exact ⟨hz, acc'.toList, c', by rw [ea]; exact kt_vals pr, by rw [Array.toArray_toList]; exact e⟩
def listVE (fa : PEV) : EV := fun δ => (fa δ).bind fun x => (res x.2 x.1).bind fun u => (asTb u).bind fun t => if t.fl = false then some (.o (.l (t.kvs.map (·.2))), x.2) else none
theorem tv_vals {K : PySem.W.Frag} {G : Hp} : ∀ {ws : List (List Key × V)} {kvs : List (List Key × PyData)}, TV K G ws kvs → DqAll K G (ws.map (·.2)) (kvs.map (·.2))
  | _, _, .nil => .nil
  | _, _, .cons h t => .cons h.2 (tv_vals t)
theorem de_listV {fa : PEV} (hc : X.calm = true) (hm : X.mg "list" = none) (hg : Gl X "list") (ha : DP X o fa) (hbase : attributeBase o "values" X.env (eval o X.env) = eval o X.env := by rfl) (hline : (apos.endLine == mpos.line) = true := by rfl)
    (hse : starEach [Expr.Call (.Attribute o "values" apos) [] [] mpos] X.env = [(false, eval (Expr.Call (.Attribute o "values" apos) [] [] mpos) X.env)] := by rfl) :
    DE X (.Call (.Name "list" p) [.Call (.Attribute o "values" apos) [] [] mpos] [] pos) (listVE fa) := pe_imp (pe_listVals hc hg hm ha hbase hline hse) fun σ H Q ⟨T, ρ, δ, s, δ', hs, hf, hq⟩ => by
  unfold listVE at hf
  cases e1 : fa δ with
  | none => rw [e1] at hf; cases hf
  | some x =>
    rw [e1] at hf
    simp only [Option.bind_some] at hf
    cases e2 : res x.2 x.1 with
    | none => rw [e2] at hf; cases hf
    | some u =>
      rw [e2] at hf
      simp only [Option.bind_some] at hf
      cases e3 : asTb u with
      | none => rw [e3] at hf; cases hf
      | some t =>
        rw [e3] at hf
        simp only [Option.bind_some] at hf
        split at hf
        case isFalse => cases hf
        rename_i hfl
        cases hf
        refine ⟨T, ρ, δ, x.1, x.2, hs, by rw [e1], fun ρ1 v H1 s1 x1 p1 => ?_⟩
        obtain ⟨a, o, rfl, ha, to⟩ := at_tb (pat_at s1 .refl p1 e2) e3
        rcases to with ⟨_, ws, rfl, tv⟩ | ⟨f', _⟩
        · exact ⟨a, ws, rfl, ha, fun p hn => hq ρ1 p H1 _ s1 x1 hn ⟨_, rfl, tv_vals tv⟩⟩
        · rw [hfl] at f'; cases f'
end
end DL

namespace DL
open PySem PySem.Spec PyProof.Rows L2

/-! ### max, min, sum of a list of whole numbers -/
def bigL : List Int → Int
  | [] => 0
  | [a] => a
  | a :: b :: r => max a (bigL (b :: r))
def lowL : List Int → Int
  | [] => 0
  | [a] => a
  | a :: b :: r => min a (lowL (b :: r))
theorem bigL_mem : ∀ {ns : List Int}, ns ≠ [] → bigL ns ∈ ns
  | [], h => absurd rfl h
  | [a], _ => List.mem_singleton.mpr rfl
  | a :: b :: r, _ => by
    have := bigL_mem (ns := b :: r) (by simp)
    show max a (bigL (b :: r)) ∈ _
    by_cases h : a ≤ bigL (b :: r)
    · rw [Int.max_eq_right h]; exact List.mem_cons_of_mem _ this
    · rw [Int.max_eq_left (by omega)]; exact List.mem_cons_self
theorem bigL_le : ∀ {ns : List Int} {y : Int}, y ∈ ns → y ≤ bigL ns
  | [a], y, h => by rw [List.mem_singleton.mp h]; exact Int.le_refl _
  | a :: b :: r, y, h => by
    show y ≤ max a (bigL (b :: r))
    rcases List.mem_cons.mp h with h | h
    · subst h; exact Int.le_max_left _ _
    · exact Int.le_trans (bigL_le h) (Int.le_max_right _ _)
theorem bigL_uniq {ns : List Int} {m : Int} (h : m ∈ ns) (k : ∀ y ∈ ns, y ≤ m) : m = bigL ns := Int.le_antisymm (bigL_le h) (k _ (bigL_mem fun z => by rw [z] at h; cases h))
theorem lowL_mem : ∀ {ns : List Int}, ns ≠ [] → lowL ns ∈ ns
  | [], h => absurd rfl h
  | [a], _ => List.mem_singleton.mpr rfl
  | a :: b :: r, _ => by
    have := lowL_mem (ns := b :: r) (by simp)
    show min a (lowL (b :: r)) ∈ _
    by_cases h : a ≤ lowL (b :: r)
    · rw [Int.min_eq_left h]; exact List.mem_cons_self
    · rw [Int.min_eq_right (by omega)]; exact List.mem_cons_of_mem _ this
theorem lowL_le : ∀ {ns : List Int} {y : Int}, y ∈ ns → lowL ns ≤ y
  | [a], y, h => by rw [List.mem_singleton.mp h]; exact Int.le_refl _
  | a :: b :: r, y, h => by
    show min a (lowL (b :: r)) ≤ y
    rcases List.mem_cons.mp h with h | h
    · subst h; exact Int.min_le_left _ _
    · exact Int.le_trans (Int.min_le_right _ _) (lowL_le h)
theorem lowL_uniq {ns : List Int} {m : Int} (h : m ∈ ns) (k : ∀ y ∈ ns, m ≤ y) : m = lowL ns := Int.le_antisymm (k _ (lowL_mem fun z => by rw [z] at h; cases h)) (lowL_le h)
def fMaxL : List S → Option S
  | [s] => (asL s).bind fun xs => (intsP xs).bind fun ns => if ns = [] then none else some (.d (.int (bigL ns)))
  | _ => none
def fMinL : List S → Option S
  | [s] => (asL s).bind fun xs => (intsP xs).bind fun ns => if ns = [] then none else some (.d (.int (lowL ns)))
  | _ => none
def fSum : List S → Option S
  | [s] => (asL s).bind fun xs => (intsP xs).map fun ns => .d (.int ns.sum)
  | _ => none
theorem cd_maxL {K : PySem.W.Frag} : CallD K (rMax K) fMaxL := fun T ρ H vs ss s Q k hp hg hq => by
  unfold fMaxL at hg
  split at hg
  case h_2 => cases hg
  rename_i u
  obtain ⟨v, rfl, h⟩ := paired1 hp
  cases e : asL u with
  | none => rw [e] at hg; cases hg
  | some xs =>
    rw [e] at hg
    simp only [Option.bind_some] at hg
    cases eb : intsP xs with
    | none => rw [eb] at hg; cases hg
    | some ns =>
      rw [eb] at hg
      simp only [Option.bind_some] at hg
      split at hg
      case isTrue => cases hg
      rename_i hne
      cases hg
      obtain ⟨a, ws, rfl, h1, h2⟩ := at_L h e
      rw [intsP_eq eb] at h2
      have := ints_V h2
      subst this
      exact ⟨a, ns, rfl, SqL.of h1, List.length_pos_iff.mpr hne, fun m m1 m2 => by rw [bigL_uniq m1 m2]; exact postO_same hq (.int _)⟩
theorem cd_minL {K : PySem.W.Frag} : CallD K (rMin K) fMinL := fun T ρ H vs ss s Q k hp hg hq => by
  unfold fMinL at hg
  split at hg
  case h_2 => cases hg
  rename_i u
  obtain ⟨v, rfl, h⟩ := paired1 hp
  cases e : asL u with
  | none => rw [e] at hg; cases hg
  | some xs =>
    rw [e] at hg
    simp only [Option.bind_some] at hg
    cases eb : intsP xs with
    | none => rw [eb] at hg; cases hg
    | some ns =>
      rw [eb] at hg
      simp only [Option.bind_some] at hg
      split at hg
      case isTrue => cases hg
      rename_i hne
      cases hg
      obtain ⟨a, ws, rfl, h1, h2⟩ := at_L h e
      rw [intsP_eq eb] at h2
      have := ints_V h2
      subst this
      exact ⟨a, ns, rfl, SqL.of h1, List.length_pos_iff.mpr hne, fun m m1 m2 => by rw [lowL_uniq m1 m2]; exact postO_same hq (.int _)⟩
theorem cd_sum {K : PySem.W.Frag} : CallD K (rSum K) fSum := fun T ρ H vs ss s Q k hp hg hq => by
  unfold fSum at hg
  split at hg
  case h_2 => cases hg
  rename_i u
  obtain ⟨v, rfl, h⟩ := paired1 hp
  cases e : asL u with
  | none => rw [e] at hg; cases hg
  | some xs =>
    rw [e] at hg
    simp only [Option.bind_some] at hg
    cases eb : intsP xs with
    | none => rw [eb] at hg; cases hg
    | some ns =>
      rw [eb] at hg
      cases hg
      obtain ⟨a, ws, rfl, h1, h2⟩ := at_L h e
      rw [intsP_eq eb] at h2
      have := ints_V h2
      subst this
      exact ⟨a, ns, rfl, SqL.of h1, postO_same hq (.int _)⟩
section
variable {X : Cx} {e : Expr} {es : List Expr} {pos p : Pos} {fa : AEV}
theorem de_maxL (hc : X.calm = true) (hm : X.mg "max" = none) (hg : Gl X "max") (ha : DA X (e :: es) fa) (he : starEach (e :: es) X.env = (false, eval e X.env) :: starEach es X.env := by rfl) (hpl : (backTo pos (starEach es X.env)).any (·.1) = false := by rfl) : DE X (.Call (.Name "max" p) (e :: es) [] pos) (callB fMaxL fa) :=
  de_callB (cr_max hc) cd_maxL hg hm (by decide +kernel) ha (by decide) (by decide) he hpl
theorem de_minL (hc : X.calm = true) (hm : X.mg "min" = none) (hg : Gl X "min") (ha : DA X (e :: es) fa) (he : starEach (e :: es) X.env = (false, eval e X.env) :: starEach es X.env := by rfl) (hpl : (backTo pos (starEach es X.env)).any (·.1) = false := by rfl) : DE X (.Call (.Name "min" p) (e :: es) [] pos) (callB fMinL fa) :=
  de_callB (cr_min hc) cd_minL hg hm (by decide +kernel) ha (by decide) (by decide) he hpl
theorem de_sum (hc : X.calm = true) (hm : X.mg "sum" = none) (hg : Gl X "sum") (ha : DA X (e :: es) fa) (he : starEach (e :: es) X.env = (false, eval e X.env) :: starEach es X.env := by rfl) (hpl : (backTo pos (starEach es X.env)).any (·.1) = false := by rfl) : DE X (.Call (.Name "sum" p) (e :: es) [] pos) (callB fSum fa) :=
  de_callB (cr_sum hc) cd_sum hg hm (by decide +kernel) ha (by decide) (by decide) he hpl
end
end DL

namespace DL
open PySem PySem.Spec PyProof.Rows L2

/-! ### what may be shown: how deep, how long -/
structure Rp (d w : Nat) (x : PyData) : Prop where
  sh : x.showable = true
  nd : x.hasDict = false
  ly : x.canLay0 = true
  dp : x.depth ≤ d
  ln : x.shown.length ≤ w
structure RpA (d w : Nat) (xs : List PyData) : Prop where
  sh : PyData.showableAll xs = true
  nd : PyData.hasDictAll xs = false
  ly : PyData.canLayAll0 xs = true
  dp : PyData.depthAll xs ≤ d
  ln : piled (PyData.shownAll xs) ≤ (w + 2) * xs.length
theorem rpA {d w : Nat} : ∀ {xs : List PyData}, (∀ x ∈ xs, Rp d w x) → RpA d w xs
  | [], _ => ⟨rfl, rfl, rfl, Nat.zero_le _, Nat.zero_le _⟩
  | x :: xs, h => by
    have a := h x List.mem_cons_self
    have b := rpA fun y hy => h y (List.mem_cons_of_mem _ hy)
    refine ⟨?_, ?_, ?_, ?_, ?_⟩
    · show (x.showable && PyData.showableAll xs) = true
      rw [a.sh, b.sh]; rfl
    · show (x.hasDict || PyData.hasDictAll xs) = false
      rw [a.nd, b.nd]; rfl
    · show (x.canLay0 && PyData.canLayAll0 xs) = true
      rw [a.ly, b.ly]; rfl
    · show max x.depth (PyData.depthAll xs) ≤ d
      exact Nat.max_le.mpr ⟨a.dp, b.dp⟩
    · show piled (x.shown :: PyData.shownAll xs) ≤ _
      rw [piled_cons, List.length_cons, Nat.mul_succ]
      have := a.ln
      have := b.ln
      omega
theorem Rp.mono {d w d' w' : Nat} {x : PyData} (h : Rp d w x) (hd : d ≤ d') (hw : w ≤ w') : Rp d' w' x := ⟨h.sh, h.nd, h.ly, Nat.le_trans h.dp hd, Nat.le_trans h.ln hw⟩
theorem Rp.bool (b : Bool) : Rp 0 5 (.bool b) := ⟨rfl, rfl, rfl, Nat.le_refl _, by cases b <;> decide +kernel⟩
theorem Rp.nil : Rp 0 4 .none := ⟨rfl, rfl, rfl, Nat.le_refl _, by decide +kernel⟩
theorem shown_1000 : ∀ k : Fin 1000, (PyData.shown (.int (k.val : Int))).length ≤ 3 := by decide +kernel
theorem Rp.int {i : Int} (h : 0 ≤ i ∧ i < 1000) : Rp 0 3 (.int i) := ⟨decide_eq_true (log_lt (a := 10) (lt_pow_of h.1 (by omega)) (by decide) (by decide)), rfl, rfl, Nat.le_refl _, by
  have := shown_1000 ⟨i.toNat, by omega⟩
  rw [show ((i.toNat : Nat) : Int) = i by omega] at this
  exact this⟩
theorem text_len (ts : List Str) : ∀ (i : Nat) (a : Str), (textFrom i a ts).length ≤ a.length + piled ts := by
  induction ts with
  | nil => intro i a; exact Nat.le_add_right _ _
  | cons t ts ih =>
    intro i a
    rw [piled_cons]
    unfold textFrom
    refine Nat.le_trans (ih _ _) ?_
    split <;> simp only [Str.length_append] <;> (have : ((", " : String) : Str).length ≤ 2 := by decide +kernel) <;> (have : (("" : String) : Str).length ≤ 0 := by decide +kernel) <;> omega
theorem Rp.list {d w : Nat} {xs : List PyData} (h : ∀ x ∈ xs, Rp d w x) : Rp (d + 1) ((w + 2) * xs.length + 3) (.list xs) := by
  have b := rpA h
  refine ⟨b.sh, b.nd, b.ly, Nat.succ_le_succ b.dp, ?_⟩
  show (listText (PyData.shownAll xs)).length ≤ _
  unfold listText
  rw [Str.length_append]
  have h1 := text_len (PyData.shownAll xs) 0 "["
  have h2 : (("[" : String) : Str).length ≤ 1 := by decide +kernel
  have h3 : (("]" : String) : Str).length ≤ 1 := by decide +kernel
  have := b.ln
  omega
theorem Rp.tuple {d w : Nat} {xs : List PyData} (h : ∀ x ∈ xs, Rp d w x) : Rp (d + 1) ((w + 2) * xs.length + 3) (.tuple xs) := by
  have b := rpA h
  refine ⟨b.sh, b.nd, b.ly, Nat.succ_le_succ b.dp, ?_⟩
  show (tupleText (PyData.shownAll xs)).length ≤ _
  unfold tupleText
  rw [Str.length_append, Str.length_append]
  have h3 : (Str.join ", " (PyData.shownAll xs)).length ≤ (w + 2) * xs.length := by
    cases xs with
    | nil => exact Nat.zero_le _
    | cons i r =>
      have e := join_length_add (PyData.shownAll (i :: r)) (by show PyData.shown i :: _ ≠ []; exact List.cons_ne_nil _ _)
      have := b.ln
      omega
  have h4 : (("(" : String) : Str).length ≤ 1 := by decide +kernel
  have h5 : ((if (PyData.shownAll xs).length == 1 then ",)" else ")" : String) : Str).length ≤ 2 := by
    split <;> decide +kernel
  omega
theorem Rp.ok {d w : Nat} {x : PyData} (h : Rp d w x) (hd : d ≤ 60) (hw : w ≤ sizeLine) : reprOk x = true := by
  unfold reprOk
  rw [h.sh, h.nd, decide_eq_true (Nat.le_trans h.dp hd), decide_eq_true (Nat.le_trans h.ln hw)]
  rfl
theorem Rp.shaped {d w : Nat} {x : PyData} (h : Rp d w x) (hd : d ≤ 64) : SeqAt.shaped x = true := by
  unfold SeqAt.shaped
  rw [h.ly, decide_eq_true (Nat.le_trans h.dp hd)]
  rfl
theorem Rp.ints {ms : List Int} (h : ∀ i ∈ ms, 0 ≤ i ∧ i < 1000) : Rp 1 (5 * ms.length + 3) (.tuple (ms.map PyData.int)) := by
  have := Rp.tuple (xs := ms.map PyData.int) (d := 0) (w := 3) fun x hx => by
    obtain ⟨i, hi, rfl⟩ := List.mem_map.mp hx
    exact Rp.int (h i hi)
  rw [List.length_map] at this
  exact this
theorem Rp.reprL {d w : Nat} {xs : List PyData} (h : Rp d w (.list xs)) (hd : d ≤ 60) (hw : w ≤ sizeLine) : fReprX [.d (.list xs)] = some (.d (.str (PyData.list xs).shown)) := by
  show (if reprOk (.list xs) = true then some (S.d (.str (PyData.list xs).shown)) else none) = _
  rw [if_pos (h.ok hd hw)]
theorem Rp.reprT {d w : Nat} {xs : List PyData} (h : Rp d w (.tuple xs)) (hd : d ≤ 60) (hw : w ≤ sizeLine) : fReprX [.d (.tuple xs)] = some (.d (.str (PyData.tuple xs).shown)) := by
  show (if reprOk (.tuple xs) = true then some (S.d (.str (PyData.tuple xs).shown)) else none) = _
  rw [if_pos (h.ok hd hw)]
end DL

namespace DL
open PySem PySem.Spec PyProof.Rows L2
open AutoSeq1 (wpAny_loadPart')

/-! ### enumerate(tuple) -/
section
variable {prog : Program} {w : World} {A : Around} {E : Value → Shared → Prop} {s : Shared}
theorem nextT_item {j t : Addr} {i : Nat} {ys : Array Value} {x : Value} {Q : Value → Shared → Prop} (ji : s.heap.IsTupleIter j t i) (jt : s.heap.IsTuple t ys) (jx : ys[i]? = some x)
    (q : ∀ h', h'.IsTupleIter j t (i + 1) → Heap.SameBut j s.heap h' → Q x { s with heap := h' }) : wpAny (model prog w) A (Builtin.SmallTypes.nextOf (.ref j)) Q E s := by
  obtain ⟨oj, gj, cj, dj⟩ := id ji
  obtain ⟨ot, gt, _, nt, dt⟩ := jt
  unfold Builtin.SmallTypes.nextOf
  refine wpAny_bind (wpAny_callSpecial?_slot (name := Str.ofString "__next__") ji.typeIs F.slot_tuple_iterator_next (wpAny_call_entry F.slot_tuple_iterator_next ji.typeIs F.entry_tuple_iterator_next ?_ (F.args_tuple_iterator_next_1 _)))
  show wpAny _ _ (field (.ref j) 0 >>= _) _ _ s
  refine wpAny_bind (wpAny_field gj dj (x := .ref t) rfl ?_)
  show wpAny _ _ (if (Value.ref t == Value.none) = true then _ else _) _ _ _
  have nn : ¬((Value.ref t == Value.none) = true) := Bool.false_ne_true
  rw [if_neg nn]
  show wpAny _ _ (field (.ref j) 1 >>= _) _ _ s
  refine wpAny_bind (wpAny_field gj dj (x := .int i 0) rfl (show wpAny _ _ (seqItems? (.ref t) >>= _) _ _ s from wpAny_bind (wpAny_seqItems gt dt ?_)))
  simp only [Int.toNat_natCast, jx]
  refine wpAny_bind (wpAny_setField gj dj (by simp) (wpAny_pure ⟨x, rfl, wpAny_pure (q _ ⟨_, Heap.get?_update_self _ gj (Obj.isFreed_of_fields (Obj.data_mapFields dj _)), (Obj.cls_mapFields ..).trans cj, ?_⟩ (Heap.SameBut.update ..))⟩))
  rw [Obj.data_mapFields dj]
  simp [rawInt]
theorem nextT_end {j t : Addr} {i : Nat} {ys : Array Value} {Q : Value → Shared → Prop} (jh : A.handled = none) (ji : s.heap.IsTupleIter j t i) (jt : s.heap.IsTuple t ys) (jx : ys[i]? = none)
    (q : ∀ h' e, Heap.ExtBut j s.heap h' → (∃ o, h'.get? e = some o ∧ o.cls = .type "StopIteration") → E (.ref e) { s with heap := h' }) : wpAny (model prog w) A (Builtin.SmallTypes.nextOf (.ref j)) Q E s := by
  obtain ⟨oj, gj, cj, dj⟩ := id ji
  obtain ⟨ot, gt, _, nt, dt⟩ := jt
  unfold Builtin.SmallTypes.nextOf
  refine wpAny_bind (wpAny_callSpecial?_slot (name := Str.ofString "__next__") ji.typeIs F.slot_tuple_iterator_next (wpAny_call_entry F.slot_tuple_iterator_next ji.typeIs F.entry_tuple_iterator_next ?_ (F.args_tuple_iterator_next_1 _)))
  show wpAny _ _ (field (.ref j) 0 >>= _) _ _ s
  refine wpAny_bind (wpAny_field gj dj (x := .ref t) rfl ?_)
  show wpAny _ _ (if (Value.ref t == Value.none) = true then _ else _) _ _ _
  have nn : ¬((Value.ref t == Value.none) = true) := Bool.false_ne_true
  rw [if_neg nn]
  show wpAny _ _ (field (.ref j) 1 >>= _) _ _ s
  refine wpAny_bind (wpAny_field gj dj (x := .int i 0) rfl (show wpAny _ _ (seqItems? (.ref t) >>= _) _ _ s from wpAny_bind (wpAny_seqItems gt dt ?_)))
  simp only [Int.toNat_natCast, jx]
  refine wpAny_bind (wpAny_rule (wpAny_bind (wpAny_setField gj dj (by simp) (show wpAny _ _ (newExc (.type "StopIteration") [] >>= _) _ _ _ from wpAny_bind ?_))))
  simp only [newExc, newTuple]
  refine wpAny_bind (wpAny_newObj_type (wpAny_bind (m := firstArgMember _ _) (wpAny_of_eq (a := Value.none) (by first | rfl | (simp only [firstArgMember]; rfl)) (wpAny_newObj_type ?_ (by size_fits)))) (by size_fits))
  simp only [raiseNew]
  refine wpAny_bind (wpAny_handled ?_)
  first
    | rw [show A.in1.handled = none from jh]
    | rw [jh]
  exact wpAny_bind (wpAny_pure (wpAny_throw (q _ _ (((Heap.SameBut.update ..).extBut.push _).push _) ⟨_, Heap.get?_push_size _ rfl, rfl⟩)))
/-- one turn of an enumerate whose own iterator gives x -/
theorem enumGen_item {e j : Addr} {i : Nat} {x old : Value} {Q : Option Value → Shared → Prop} {St : Heap → Prop} (ee : IsEnum s.heap e j i old) (ne : e ≠ j)
    (nx : ∀ (A : Around) (E : Value → Shared → Prop) (Q' : Value → Shared → Prop), (∀ h', St h' → Heap.SameBut j s.heap h' → Q' x { s with heap := h' }) → wpAny (model prog w) A (Builtin.SmallTypes.nextOf (.ref j)) Q' E s)
    (kp : ∀ h h', St h → (∀ o, h.get? j = some o → h'.get? j = some o) → St h')
    (q : ∀ h', IsEnumOut h' e j ((i : Int) + 1) x s.heap.objs.size → St h' → h'.get? s.heap.objs.size = some { cls := .type "tuple", data := .seq #[.int i s.toks, x] } → h'.objs.size = s.heap.objs.size + 1 →
      (∀ b o, b ≠ e → b ≠ j → s.heap.get? b = some o → h'.get? b = some o) → Q (some (.ref s.heap.objs.size)) { s with heap := h', toks := s.toks + 1 }) :
    wpAny (model prog w) A (pyNext (.ref e)) Q E s := by
  have ty : s.TypeIs (.ref e) "enumerate" := ⟨_, ee, rfl⟩
  have hel : e < s.heap.objs.size := Heap.lt_size ee
  unfold pyNext
  refine wpAny_bind (wpAny_attempt (wpAny_callSpecial?_slot (name := Str.ofString "__next__") ty F.slot_enumerate_next (wpAny_call_entry F.slot_enumerate_next ty F.entry_enumerate_next ?_ (F.args_enumerate_next_1 _))))
  obtain ⟨hp, g, d, tk, os⟩ := s
  show wpAny _ _ (field (.ref e) 2 >>= _) _ _ _
  refine wpAny_bind (wpAny_field ee rfl (x := .ref j) rfl (wpAny_bind (nx _ _ _ fun a1 t1 b1 => ?_)))
  have b1 : Heap.SameBut j hp a1 := b1
  have e1 : IsEnum a1 e j i old := (b1.2 e ne).trans ee
  show wpAny _ _ (field (.ref e) 3 >>= _) _ _ ⟨a1, g, d, tk, os⟩
  refine wpAny_bind (wpAny_field e1 rfl (x := rawInt i) rfl ?_)
  show wpAny _ _ (field (.ref e) 4 >>= _) _ _ ⟨a1, g, d, tk, os⟩
  refine wpAny_bind (wpAny_field e1 rfl (x := .none) rfl ?_)
  show wpAny _ _ (mkInt i >>= _) _ _ ⟨a1, g, d, tk, os⟩
  refine wpAny_bind (wpAny_mkInt ?_)
  show wpAny _ _ (setField (.ref e) 3 (rawInt ((i : Int) + 1)) >>= _) _ _ ⟨a1, g, d, tk + 1, os⟩
  refine wpAny_bind (wpAny_setField_rec e1 (by simp) fun a2 e2 b2 => ?_)
  have b2 : Heap.SameBut e a1 a2 := b2
  have e2 : IsEnum a2 e j ((i : Int) + 1) old := e2
  show wpAny _ _ (setField (.ref e) 4 .none >>= _) _ _ ⟨a2, g, d, tk + 1, os⟩
  refine wpAny_bind (wpAny_setField_rec e2 (by simp) fun a3 e3 b3 => ?_)
  have b3 : Heap.SameBut e a2 a3 := b3
  have e3 : IsEnum a3 e j ((i : Int) + 1) old := e3
  show wpAny _ _ (newTuple [.int i tk, x] >>= _) _ _ ⟨a3, g, d, tk + 1, os⟩
  refine wpAny_bind (wpAny_newTuple ?_)
  have sz : a3.objs.size = hp.objs.size := by rw [b3.1, b2.1, b1.1]
  have e4 : IsEnum (a3.push { cls := .type "tuple", data := .seq #[.int i tk, x] }) e j ((i : Int) + 1) old := Heap.get?_push_of_some _ e3
  have t4 : (a3.push { cls := .type "tuple", data := .seq #[.int i tk, x] }).get? hp.objs.size = some { cls := .type "tuple", data := .seq #[.int i tk, x] } := by
    rw [← sz]
    exact Heap.get?_push_size _ rfl
  have z4 : (a3.push { cls := .type "tuple", data := .seq #[.int i tk, x] }).objs.size = hp.objs.size + 1 := by rw [Heap.size_push, sz]
  have k4 : ∀ b o, b ≠ e → b ≠ j → hp.get? b = some o → (a3.push { cls := .type "tuple", data := .seq #[.int i tk, x] }).get? b = some o := fun b o n1 n2 z => Heap.get?_push_of_some _ (b3.extBut b o n1 (b2.extBut b o n1 (b1.extBut b o n2 z)))
  have s4 : St (a3.push { cls := .type "tuple", data := .seq #[.int i tk, x] }) := kp a1 _ t1 fun o z => Heap.get?_push_of_some _ (b3.extBut j o (Ne.symm ne) (b2.extBut j o (Ne.symm ne) z))
  generalize a3.push { cls := .type "tuple", data := .seq #[.int i tk, x] } = a4 at e4 t4 z4 k4 s4 ⊢
  show wpAny _ _ (Builtin.SmallTypes.ownedTupleIsFree (.ref e) >>= _) _ _ ⟨a4, g, d, tk + 1, os⟩
  rw [sz]
  refine wpAny_bind ?_
  unfold Builtin.SmallTypes.ownedTupleIsFree
  refine wpAny_bind (wpAny_field e4 rfl (x := .none) rfl (wpAny_pure ?_))
  simp only [if_true]
  refine wpAny_bind (wpAny_rule (wpAny_bind (wpAny_field e4 rfl (x := old) rfl (wpAny_bind (wpAny_setField_rec e4 (by simp) fun a5 e5 b5 => ?_)))))
  have b5 : Heap.SameBut e a4 a5 := b5
  have e5 : IsEnum a5 e j ((i : Int) + 1) x := e5
  show wpAny _ _ (Builtin.SmallTypes.ownedTupleHandOut (.ref e) (.ref hp.objs.size) >>= _) _ _ ⟨a5, g, d, tk + 1, os⟩
  refine wpAny_bind ?_
  unfold Builtin.SmallTypes.ownedTupleHandOut
  refine wpAny_bind (wpAny_setField_rec e5 (by simp) fun a6 e6 b6 => ?_)
  have b6 : Heap.SameBut e a5 a6 := b6
  have e6 : IsEnumOut a6 e j ((i : Int) + 1) x hp.objs.size := e6
  refine wpAny_setField_rec e6 (by simp) fun a7 e7 b7 => ?_
  have b7 : Heap.SameBut e a6 a7 := b7
  have e7 : IsEnumOut a7 e j ((i : Int) + 1) x hp.objs.size := e7
  have all : ∀ b o, b ≠ e → a4.get? b = some o → a7.get? b = some o := fun b o n1 z => b7.extBut b o n1 (b6.extBut b o n1 (b5.extBut b o n1 z))
  exact wpAny_bind (wpAny_letGo (wpAny_pure ⟨_, rfl, wpAny_pure (q a7 e7 (kp a4 a7 s4 fun o z => all j o (Ne.symm ne) z) (all _ _ (Nat.ne_of_gt hel) t4) (by rw [b7.1, b6.1, b5.1, z4]) fun b o n1 n2 z => all b o n1 (k4 b o n1 n2 z))⟩))
theorem enumT_end {e j t : Addr} {i : Nat} {ys : Array Value} {old : Value} {Q : Option Value → Shared → Prop} (jh : A.handled = none) (ee : IsEnum s.heap e j i old) (ji : s.heap.IsTupleIter j t i) (jt : s.heap.IsTuple t ys) (jx : ys[i]? = none)
    (q : ∀ h', Heap.ExtBut j s.heap h' → Q none { s with heap := h' }) : wpAny (model prog w) A (pyNext (.ref e)) Q E s := by
  have ty : s.TypeIs (.ref e) "enumerate" := ⟨_, ee, rfl⟩
  unfold pyNext
  refine wpAny_bind (wpAny_attempt (wpAny_callSpecial?_slot (name := Str.ofString "__next__") ty F.slot_enumerate_next (wpAny_call_entry F.slot_enumerate_next ty F.entry_enumerate_next ?_ (F.args_enumerate_next_1 _))))
  show wpAny _ _ (field (.ref e) 2 >>= _) _ _ _
  refine wpAny_bind (wpAny_field ee rfl (x := .ref j) rfl (wpAny_bind (nextT_end jh ji jt jx fun h' v k1 ⟨o, k2, k3⟩ => ?_)))
  exact wpAny_bind (wpAny_isInstance (T := "StopIteration") (b := true) ⟨o, k2, k3⟩ isSubtype_stop (wpAny_pure (q _ k1)))
theorem meets_enumT (t : Addr) (ys : Array Value) (n : Nat) (dct : Option Addr) (sl : Array (Option Value)) :
    Meets (Builtin.«enumerate.__new__» ⟨[.type "enumerate", .ref t], []⟩) (fun _ R s => s.heap.get? t = some { cls := .type "tuple", dict := dct, data := .seq ys n, slots := sl } ∧
      R (.ok (.ret (.ref (s.heap.push { cls := .type "tuple_iterator", data := .fields #[.ref t, .int 0 0] }).objs.size)))
        { s with heap := (s.heap.push { cls := .type "tuple_iterator", data := .fields #[.ref t, .int 0 0] }).push { cls := .type "enumerate", data := .fields #[.none, .bool false, .ref s.heap.objs.size, rawInt 0, .none, .none] } }) :=
  .of_wp fun prog w A R s h => by
    obtain ⟨hp, g, d, tk, os⟩ := s
    obtain ⟨gt, h⟩ := h
    have sub := sub_enumerate
    have jt : Heap.IsTuple (Shared.heap ⟨hp, g, d, tk, os⟩) t ys := ⟨_, gt, rfl, n, rfl⟩
    wp_walk using wpAny_loadPart' gt
    refine wpAny_stack_any fun st => wpAny_pure ?_
    split
    · rename_i c _ _ _ _ _
      cases (c == Value.type "enumerate") <;> (wp_walk using wpAny_loadPart' gt, wpAny_pyIter_tuple jt) <;> exact ⟨_, rfl, h⟩
    · wp_walk using wpAny_loadPart' gt, wpAny_pyIter_tuple jt
      exact ⟨_, rfl, h⟩
theorem call_enumT {t : Addr} {ys : Array Value} {Q : Value → Shared → Prop} (jt : s.heap.IsTuple t ys)
    (q : ∀ h', IsEnum h' (s.heap.objs.size + 1) s.heap.objs.size 0 .none → h'.IsTupleIter s.heap.objs.size t 0 → (∀ b o, s.heap.get? b = some o → h'.get? b = some o) → Q (.ref (s.heap.objs.size + 1)) { s with heap := h' }) :
    wpAny (model prog w) A (call (.type "enumerate") [.ref t]) Q E s := by
  obtain ⟨⟨c, dct, dt, sl⟩, gt, ct, n, de⟩ := jt
  have ct : c = .type "tuple" := ct
  have de : dt = .seq ys n := de
  subst ct de
  refine callType_new F.called_enumerate (by decide) (F.typeCall_enumerate_1 _) (F.newCall_enumerate_1 _) (fun obj => F.args_object_init_2 obj _) F.entry_enumerate_new (meets_enumT t ys n dct sl) ⟨gt, ?_⟩
  have z : (s.heap.push { cls := .type "tuple_iterator", data := .fields #[.ref t, .int 0 0] }).objs.size = s.heap.objs.size + 1 := Heap.size_push ..
  show _ ∧ _
  rw [z]
  have he : IsEnum ((s.heap.push { cls := .type "tuple_iterator", data := .fields #[.ref t, .int 0 0] }).push { cls := .type "enumerate", data := .fields #[.none, .bool false, .ref s.heap.objs.size, rawInt 0, .none, .none] }) (s.heap.objs.size + 1) s.heap.objs.size 0 .none := by
    have k := Heap.get?_push_size (s.heap.push { cls := .type "tuple_iterator", data := .fields #[.ref t, .int 0 0] }) (o := { cls := .type "enumerate", data := .fields #[.none, .bool false, .ref s.heap.objs.size, rawInt 0, .none, .none] }) rfl
    rw [z] at k
    exact k
  exact ⟨⟨_, he, rfl⟩, q _ he ⟨_, Heap.get?_push_of_some _ (Heap.get?_push_size _ rfl), rfl, rfl⟩ fun b o x => Heap.get?_push_of_some _ (Heap.get?_push_of_some _ x)⟩
end
end DL

namespace DL
open PySem PySem.Spec PyProof.Rows L2

/-- the tuple at a, each item in a new pair with its number -/
def ItE (K : PySem.W.Frag) (a : Addr) : It where
  go := fun i H => ∃ (xs : List V) (x : V), SqT K H a xs ∧ xs[i]? = some x
  yld := fun i H v H' => ∃ T x, v = .ref T ∧ H T = none ∧ H' = upd H T (.tup [.int (i : Nat), x]) ∧ ∀ xs, SqT K H a xs → xs[i]? = some x
  stop := fun i H => ∃ xs : List V, SqT K H a xs ∧ xs.length ≤ i
theorem two_of {b e j : Addr} (h : b ∈ [e, j]) : b = e ∨ b = j := by simpa using h
theorem turn_enumT {P : Program} {w : World} {K : PySem.W.Frag} {elts : List Expr} {kk : Nat} {tpos : Pos} (a e j : Addr) :
    Turn P w K (.Tuple elts kk tpos) (ItE K a) [e, j] e (fun i h => (∃ old, IsEnum h e j ((i : Nat) : Int) old) ∧ h.IsTupleIter j a i ∧ e ≠ j) where
  mem := by simp
  obj := fun i h ⟨⟨old, ee⟩, ⟨o, go, co, dd⟩, _⟩ b hb => by
    rcases two_of hb with rfl | rfl
    · exact ⟨_, ee, fun v q => nomatch q⟩
    · exact ⟨o, go, fun v q => by rw [dd] at q; cases q⟩
  keep := fun i h h' ⟨⟨old, ee⟩, ji, ne⟩ k => ⟨⟨old, k e (by simp) _ ee⟩, ji.at fun o q => k j (by simp) o q, ne⟩
  item := by
    intro X hP hw hK hc i pins s σ H E I hf st hg
    subst hP hw hK
    obtain ⟨⟨old, ee⟩, ji, ne⟩ := st
    obtain ⟨xs, x, sq, ex⟩ := hg
    obtain ⟨its, rv, tp, _⟩ := I.tuple sq
    obtain ⟨u, eu, ru⟩ := rv.get ex
    have le : e < s.heap.objs.size := Heap.lt_size ee
    have lj : j < s.heap.objs.size := by obtain ⟨_, q, _⟩ := ji; exact Heap.lt_size q
    refine enumGen_item (St := fun h => h.IsTupleIter j a (i + 1)) ee ne (fun A E Q q => nextT_item ji (show s.heap.IsTuple a its.toArray from tp) (by simpa using eu) q) (fun h h' k z => k.at z) fun h' eo jo tn zn kn => ?_
    refine ⟨_, rfl, wpAny_letOwnedTupleGo_enum (s := { s with heap := h', toks := s.toks + 1 }) eo fun h2 e2 sb => ?_⟩
    have t2 : h2.get? s.heap.objs.size = some { cls := .type "tuple", data := .seq #[.int i s.toks, u] } := (sb.2 _ (Nat.ne_of_gt le)).trans tn
    have ok : ObjOk X.prog X.w (upd H s.heap.objs.size (.tup [.int (i : Nat), x])) h2 s.heap.objs.size (.tup [.int (i : Nat), x]) := ⟨show 2 ≤ sizeLine by decide, [.int i s.toks, u], .cons ⟨_, rfl⟩ (.cons ru .nil), _, t2, rfl, _, rfl⟩
    have I1 : Inv X pins σ (upd H s.heap.objs.size (.tup [.int (i : Nat), x])) { s with heap := h2, toks := s.toks + 1 } :=
      I.turnedNew (ch := [e, j]) (fun b ob nb q => (sb.2 b fun z => nb (by simp [z])).trans (kn b ob (fun z => nb (by simp [z])) (fun z => nb (by simp [z])) q)) hf (Nat.le_refl _) ok
    refine ⟨.ref s.heap.objs.size, _, I1, rfl, ⟨_, x, rfl, I.hok.fresh (Nat.le_refl _), rfl, fun ys hy => by rw [I.tuple_inj hy sq]; exact ex⟩, ⟨⟨u, ?_⟩, jo.at fun o q => (sb.2 j ne.symm).trans q, ne⟩, fun b hb => ?_⟩
    · rw [show ((i + 1 : Nat) : Int) = (i : Int) + 1 by omega]
      exact e2
    · have lb : b < s.heap.objs.size := by rcases two_of hb with rfl | rfl <;> assumption
      rw [upd_ne (Nat.ne_of_lt lb)]
      exact (hf b hb).1
  done := by
    intro X hP hw hK hc i pins s σ H E I hf st hg
    subst hP hw hK
    obtain ⟨⟨old, ee⟩, ji, ne⟩ := st
    obtain ⟨xs, sq, lx⟩ := hg
    obtain ⟨its, rv, tp, _⟩ := I.tuple sq
    obtain ⟨f0, f1, f2, f3, f4, f5⟩ := hf j (by simp)
    have hl := rv.length
    exact enumT_end (I.ok.hd hc) ee ji (show s.heap.IsTuple a its.toArray from tp) (by simp; omega) fun h' k => ⟨rfl, I.turned (t' := s.toks) (fun b o nb q => k b o nb q) f0 f1 f3 f4 f5⟩
  self := fun A i s Q E ⟨⟨_, ee⟩, _⟩ h => wpAny_pyIter_enum ee h
def iEnumT (K : PySem.W.Frag) (ta : TA) : TI := fun σ H R => ta σ H fun vs H1 => ∃ a xs, vs = [.ref a] ∧ SqT K H1 a xs ∧ R (ItE K a) H1
theorem pi_enumT {X : Cx} {e : Expr} {ta : TA} {p pos tpos : Pos} {elts : List Expr} {kk : Nat} (hg : Gl X "enumerate") (hm : X.mg "enumerate" = none) (ha : PA X [e] ta) (hs : starEach [e] X.env = [(false, eval e X.env)] := by rfl) :
    PI X (.Tuple elts kk tpos) (.Call (.Name "enumerate" p) [e] [] pos) (iEnumT X.K ta) := by
  refine ⟨fun pins s σ H R I h => Call_ (ld_blt I hg hm boot_enumerate (PyProof.Rows.callWith_type1 (thn (ha.run pos pins s σ H _ I h) fun us s1 ⟨vs, H1, I1, r1, q1⟩ => ?_) hs rfl))⟩
  obtain ⟨a, xs, rfl, sq, q⟩ := q1
  obtain ⟨u, rfl, ru⟩ := r1.one
  cases ru
  obtain ⟨its, rv, tp, _⟩ := I1.tuple sq
  refine call_enumT (show s1.heap.IsTuple a its.toArray from tp) fun h' ee ji hk => wpAny_pyIter_enum ee ?_
  have I2 : Inv X pins σ H1 { s1 with heap := h' } := I1.kept (t' := s1.toks) hk
  refine ⟨s1.heap.objs.size + 1, [s1.heap.objs.size + 1, s1.heap.objs.size], _, _, H1, rfl, I2, turn_enumT a (s1.heap.objs.size + 1) s1.heap.objs.size, ⟨⟨.none, ee⟩, ji, Nat.succ_ne_self _⟩, fun b hb => ?_, q⟩
  have le : s1.heap.objs.size ≤ b := by rcases two_of hb with rfl | rfl <;> omega
  exact I1.fpOk le (I1.hok.fresh le)
/-- of a list or of a tuple -/
theorem pi_or {X : Cx} {tg e : Expr} {t u : TI} (p : PI X tg e t) (q : PI X tg e u) : PI X tg e (fun σ H R => t σ H R ∨ u σ H R) := ⟨fun pins s σ H R I h => h.elim (p.run pins s σ H R I) (q.run pins s σ H R I)⟩
def enumX (fa : AEV) : IEV := fun δ => (fa δ).bind fun x => match x.1 with
  | [.v (.d (.list xs))] => some (enumF 0 xs, x.2)
  | [.v (.d (.tuple xs))] => some (enumF 0 xs, x.2)
  | _ => none
theorem serves_ET {K : PySem.W.Frag} {T : List Addr} {ρ : List (Option Addr)} {H : Hp} {a : Addr} {ws : List V} {xs : List PyData} (h0 : hid T ρ H a = some (.tup ws)) (hd : DqAll K (hid T ρ H) ws xs) : Serves K T ρ H (ItE K a) (enumF 0 xs) := fun i T2 ρ2 H2 sm tr => by
  have h2 : SqT K H2 a ws := SqT.of (hid_same _ _ (sm _ _ h0))
  refine ⟨fun d hi => ?_, fun hi => ⟨ws, h2, by rw [dpAll_len hd]; rw [enumF_len] at hi; exact hi⟩⟩
  rw [enumF_at] at hi
  obtain ⟨x, ex, rfl⟩ := Option.map_eq_some_iff.mp hi
  obtain ⟨v, e1, e2⟩ := dpAll_get hd ex
  refine ⟨⟨ws, v, h2, e1⟩, fun y H3 hy => ?_⟩
  obtain ⟨t, x', rfl, hn, rfl, fv⟩ := hy
  have := fv ws h2
  rw [e1] at this
  cases this
  refine ⟨same_new hn, Dq.tup (tr.hidNew hn) (.cons ?_ (.cons (dpM (hid_mono (same_new hn)) _ (dpM sm _ e2)) .nil))⟩
  rw [Nat.zero_add]
  exact .int _
section
variable {X : Cx} {e : Expr} {fa : AEV} {p pos tpos : Pos} {elts : List Expr} {kk : Nat}
theorem di_enumX (hg : Gl X "enumerate") (hm : X.mg "enumerate" = none) (ha : DA X [e] fa) (hs : starEach [e] X.env = [(false, eval e X.env)] := by rfl) : DI X (.Tuple elts kk tpos) (.Call (.Name "enumerate" p) [e] [] pos) (enumX fa) := pi_imp (pi_or (pi_enum hg hm ha hs) (pi_enumT hg hm ha hs)) fun σ H R ⟨T, ρ, δ, xs, δ', hs, hf, hq⟩ => by
  unfold enumX at hf
  cases ea : fa δ with
  | none => rw [ea] at hf; cases hf
  | some z =>
    obtain ⟨ps, δ1⟩ := z
    rw [ea] at hf
    simp only [Option.bind_some] at hf
    split at hf
    case h_3 => cases hf
    · rename_i ys
      cases hf
      refine .inl ⟨T, ρ, δ, _, _, hs, ea, fun ρ1 vs H1 s1 x1 p1 => ?_⟩
      obtain ⟨v, rfl, q1⟩ := paired1 p1
      cases (show Dq X.K (hid T ρ1 H1) _ (.list ys) from q1) with
      | lst h1 h2 => exact ⟨_, _, rfl, SqL.of (hid_same _ _ h1), hq ρ1 H1 _ s1 x1 (serves_E h1 h2)⟩
    · rename_i ys
      cases hf
      refine .inr ⟨T, ρ, δ, _, _, hs, ea, fun ρ1 vs H1 s1 x1 p1 => ?_⟩
      obtain ⟨v, rfl, q1⟩ := paired1 p1
      cases (show Dq X.K (hid T ρ1 H1) _ (.tuple ys) from q1) with
      | tup h1 h2 => exact ⟨_, _, rfl, SqT.of (hid_same _ _ h1), hq ρ1 H1 _ s1 x1 (serves_ET h1 h2)⟩
end
end DL

namespace DL
open PySem PySem.Spec PyProof.Rows L2 DLS

/-! ### < of numbers or of tuples of numbers -/
theorem lexLt_eq : ∀ xs ys : List Int, HT.lexLt xs ys = lexL xs ys
  | [], [] => rfl
  | [], _ :: _ => rfl
  | _ :: _, [] => rfl
  | x :: xs, y :: ys => by
    show (if x = y then HT.lexLt xs ys else decide (x < y)) = if x = y then lexL xs ys else decide (x < y)
    rw [lexLt_eq xs ys]
def opLtX (a b : S) : Option S := match asI a, asI b with
  | some i, some j => some (.d (.bool (pLt i j)))
  | _, _ => (asT a).bind fun xs => (asT b).bind fun ys => (intsP xs).bind fun ns => (intsP ys).map fun ms => .d (.bool (lexL ns ms))
theorem od_ltX {K : PySem.W.Frag} : OpD K (fun x y H Q => rCmp pLt x y H Q ∨ rLtT K x y H Q) opLtX := fun T ρ H x y a b s Q k ha hb hg hq => by
  unfold opLtX at hg
  split at hg
  · rename_i i j e1 e2
    cases hg
    exact .inl ⟨i, j, at_I ha e1, at_I hb e2, postO_same hq (.bl _)⟩
  · cases e1 : asT a with
    | none => rw [e1] at hg; cases hg
    | some xs =>
      rw [e1] at hg
      simp only [Option.bind_some] at hg
      cases e2 : asT b with
      | none => rw [e2] at hg; cases hg
      | some ys =>
        rw [e2] at hg
        simp only [Option.bind_some] at hg
        cases e3 : intsP xs with
        | none => rw [e3] at hg; cases hg
        | some ns =>
          rw [e3] at hg
          simp only [Option.bind_some] at hg
          cases e4 : intsP ys with
          | none => rw [e4] at hg; cases hg
          | some ms =>
            rw [e4] at hg
            cases hg
            obtain ⟨p, vs, rfl, h1, h2⟩ := at_T ha e1
            obtain ⟨q, ws, rfl, h3, h4⟩ := at_T hb e2
            rw [intsP_eq e3] at h2
            rw [intsP_eq e4] at h4
            have z1 := ints_V h2
            have z2 := ints_V h4
            subst z1 z2
            refine .inr ⟨p, q, ns, ms, rfl, rfl, SqT.of (hid_same _ _ h1), SqT.of (hid_same _ _ h3), ?_⟩
            rw [lexLt_eq]
            exact postO_same hq (.bl _)
section
variable {X : Cx} {a b e : Expr} {pos : Pos} {fp fq : PEV} {j : Nat}
theorem de_ltX (hr : Room j X.A) (ha : DP X a fp) (hb : DP X b fq) : DE X (.Compare a [.Lt] [b] pos) (bin opLtX fp fq) := de_cmp (opr_or or_lt (op_ltT (by have := hr.units; omega))) od_ltX ha hb (nomark _)
theorem dt_ltX (hr : Room j X.A) (ha : DP X a fp) (hb : DP X b fq) : DT X (.Compare a [.Lt] [b] pos) (bl (bin opLtX fp fq)) := dt_cmp (opr_or or_lt (op_ltT (by have := hr.units; omega))) od_ltX ha hb (nomark _)
/-! ### a constant of the module -/
def Con (mg : Str → Option Value) (x : Str) (v : V) : Prop := ∃ u, mg x = some u ∧ RelV v u
theorem de_con {x : Str} {v : V} {d : PyData} (hg : Gl X x) (hm : Con X.mg x v) (h : ∀ (K : PySem.W.Frag) (G : Hp), Dq K G v d) (hd : (x == ("__debug__" : Str)) = false := by decide) : DE X (.Name x pos) (cst d) := by
  obtain ⟨u, h1, h2⟩ := hm
  exact de_cst (pe_glob hg h1 h2 hd) fun _ => h _ _
theorem de_conI {x : Str} {i : Int} (hg : Gl X x) (hm : Con X.mg x (.int i)) (hd : (x == ("__debug__" : Str)) = false := by decide) : DE X (.Name x pos) (cst (.int i)) := de_con hg hm (fun _ _ => .int i) hd
theorem de_conS {x t : Str} (hg : Gl X x) (hm : Con X.mg x (.str t)) (hd : (x == ("__debug__" : Str)) = false := by decide) : DE X (.Name x pos) (cst (.str t)) := de_con hg hm (fun _ _ => .str t) hd
end
end DL

namespace DL
open PySem PySem.Spec PyProof.Rows L2 DLS RZ

/-! ### zip of two lists, or of two tuples -/
def zipX (fa : AEV) : IEV := fun δ => (fa δ).bind fun x => match x.1 with
  | [.v (.d (.list xs)), .v (.d (.list ys))] => some (zipD xs ys, x.2)
  | [.v (.d (.tuple xs)), .v (.d (.tuple ys))] => some (zipD xs ys, x.2)
  | _ => none
theorem serves_ZT {K : PySem.W.Frag} {T : List Addr} {ρ : List (Option Addr)} {H : Hp} {a b : Addr} {us ws : List V} {xs ys : List PyData} (h1 : hid T ρ H a = some (.tup us)) (d1 : DqAll K (hid T ρ H) us xs) (h2 : hid T ρ H b = some (.tup ws)) (d2 : DqAll K (hid T ρ H) ws ys) : Serves K T ρ H (ItzT K a b) (zipD xs ys) := fun i T2 ρ2 H2 sm tr => by
  have g1 : SqT K H2 a us := SqT.of (hid_same _ _ (sm _ _ h1))
  have g2 : SqT K H2 b ws := SqT.of (hid_same _ _ (sm _ _ h2))
  have l1 := dpAll_len d1
  have l2 := dpAll_len d2
  refine ⟨fun d hi => ?_, fun hi => ⟨us, ws, g1, g2, ?_⟩⟩
  · unfold zipD at hi
    rw [List.getElem?_map] at hi
    cases e : (xs.zip ys)[i]? with
    | none => rw [e] at hi; cases hi
    | some p =>
      rw [e] at hi
      cases hi
      obtain ⟨e1, e2⟩ := List.getElem?_zip_eq_some.mp e
      obtain ⟨v, f1, f2⟩ := dpAll_get d1 e1
      obtain ⟨w, f3, f4⟩ := dpAll_get d2 e2
      refine ⟨⟨us, ws, v, w, g1, g2, f1, f3⟩, fun x H3 hy => ?_⟩
      obtain ⟨t, x1, x2, rfl, nt, rfl, q1, q2⟩ := hy
      have r1 := q1 us g1
      have r2 := q2 ws g2
      rw [f1] at r1
      rw [f3] at r2
      cases r1
      cases r2
      have sn := same_new (o := .tup [v, w]) nt
      exact ⟨sn, .tup (tr.hidNew nt) (.cons (dpM (sm.trans (hid_mono sn)) _ f2) (.cons (dpM (sm.trans (hid_mono sn)) _ f4) .nil))⟩
  · unfold zipD at hi
    rw [List.length_map, List.length_zip] at hi
    rw [l1, l2]
    omega
theorem di_zipX {X : Cx} {e e2 : Expr} {elts : List Expr} {kk : Nat} {tpos p pos : Pos} {fa : AEV} (hg : Gl X "zip") (hm : X.mg "zip" = none) (ha : DA X [e, e2] fa) (hs : starEach [e, e2] X.env = (false, eval e X.env) :: starEach [e2] X.env := by rfl) (hpl : (backTo pos (starEach [e2] X.env)).any (·.1) = false := by rfl) :
    DI X (.Tuple elts kk tpos) (.Call (.Name "zip" p) [e, e2] [] pos) (zipX fa) := pi_imp (pi_zipA hg hm ha hs hpl) fun σ H R ⟨T, ρ, δ, xs, δ', hs, hf, hq⟩ => by
  unfold zipX at hf
  cases ea : fa δ with
  | none => rw [ea] at hf; cases hf
  | some z =>
    obtain ⟨ps, δ1⟩ := z
    rw [ea] at hf
    simp only [Option.bind_some] at hf
    refine ⟨T, ρ, δ, ps, δ1, hs, ea, fun ρ1 vs H1 s1 x1 p1 => ?_⟩
    split at hf
    · rename_i xs1 ys1
      cases hf
      obtain ⟨v, w, rfl, q1, q2⟩ := paired2 p1
      have q1' : Dq X.K (hid T ρ1 H1) v (.list xs1) := q1
      have q2' : Dq X.K (hid T ρ1 H1) w (.list ys1) := q2
      cases q1' with
      | lst a1 a2 =>
        cases q2' with
        | lst b1 b2 => exact ⟨_, _, _, _, rfl, .inl ⟨SqL.of (hid_same _ _ a1), SqL.of (hid_same _ _ b1), hq ρ1 H1 _ s1 x1 (serves_Z a1 a2 b1 b2)⟩⟩
    · rename_i xs1 ys1
      cases hf
      obtain ⟨v, w, rfl, q1, q2⟩ := paired2 p1
      have q1' : Dq X.K (hid T ρ1 H1) v (.tuple xs1) := q1
      have q2' : Dq X.K (hid T ρ1 H1) w (.tuple ys1) := q2
      cases q1' with
      | tup a1 a2 =>
        cases q2' with
        | tup b1 b2 => exact ⟨_, _, _, _, rfl, .inr ⟨SqT.of (hid_same _ _ a1), SqT.of (hid_same _ _ b1), hq ρ1 H1 _ s1 x1 (serves_ZT a1 a2 b1 b2)⟩⟩
    · cases hf
end DL

namespace DL
open PySem PySem.Spec PyProof.Rows L2 DLS

/-! ### a def that calls itself: its meaning by how deep it may go; no deeper means nothing -/
theorem dss_none {X : Cx} {P : List Nat} {ss : List Stmt} : DSs X P ss (fun _ => none) := ⟨fun pins s σ H D I ⟨T, ρ, δ, o, hs, hf, hq⟩ => nomatch hf⟩
end DL

namespace DL
open PySem PySem.Spec PyProof.Rows L2

/-! ### {k: v for .. for ..}: the machine's part -/
theorem turnD2_out (kx vx ta ia tb ib : Expr) (fa fb : List Expr) (scope : Scope) (pos : Pos) (it acc : Value) (env : Env) :
    compTurn (.DictComp kx vx [⟨ta, ia, fa, 0⟩, ⟨tb, ib, fb, 0⟩] scope pos) 0 it acc env = (do
      standAt ia.pos
      match ← pyNext it with
      | none => pure (.done .next)
      | some u =>
        letOwnedTupleGo ta it u
        assign ta env u
        let mut ok := true
        for c in fa do
          if ok then ok ← isTrue c env (eval c env)
        if ok then
          let y ← eval ib env
          standAt ib.pos
          let y ← foldedSetIterable ib env y
          let _ ← runOwn (.compStart (.DictComp kx vx [⟨ta, ia, fa, 0⟩, ⟨tb, ib, fb, 0⟩] scope pos) 1 (← holding [y] (pyIter y)) acc env) env
        again (.compLoop (.DictComp kx vx [⟨ta, ia, fa, 0⟩, ⟨tb, ib, fb, 0⟩] scope pos) 0 it acc env)) := by rfl
theorem turnD2_in (kx vx ta ia tb ib : Expr) (fa fb : List Expr) (scope : Scope) (pos : Pos) (it : Value) (D : Addr) (env : Env) :
    compTurn (.DictComp kx vx [⟨ta, ia, fa, 0⟩, ⟨tb, ib, fb, 0⟩] scope pos) 1 it (.ref D) env = (do
      standAt ib.pos
      match ← pyNext it with
      | none => pure (.done .next)
      | some u =>
        letOwnedTupleGo tb it u
        assign tb env u
        let mut ok := true
        for c in fb do
          if ok then ok ← isTrue c env (eval c env)
        if ok then
          (do
            let ku ← eval kx env
            let vu ← holding [ku] (eval vx env)
            standAt { kx.pos with endLine := vx.pos.endLine, endCol := vx.pos.endCol }
            holding [ku, vu] (dictSet D ku vu))
        again (.compLoop (.DictComp kx vx [⟨ta, ia, fa, 0⟩, ⟨tb, ib, fb, 0⟩] scope pos) 1 it (.ref D) env)) := by rfl
section
variable {prog : Program} {w : World} {A : Around} {R : Result → Shared → Prop} {s : Shared} {kx vx ta ia tb ib : Expr} {fa fb : List Expr} {scope : Scope} {pos : Pos} {it : Value} {D : Addr} {env : Env}
abbrev nbE (prog : Program) (w : World) (A : Around) (env : Env) (R : Result → Shared → Prop) := notedBy (model prog w) A env fun e s' => R (.error e) s'
abbrev ifsM (fs : List Expr) (env : Env) : Sem Bool := forIn fs true fun c r => if r = true then do let ok ← isTrue c env (eval c env); pure (ForInStep.yield ok) else pure (ForInStep.yield r)
theorem loopD2_out (hs : ∀ x, foldedSetIterable ib env x = pure x) (L : Nat → Shared → Prop)
    (turn : ∀ n s, L n s → wpAny (model prog w) A (pyNext it) (fun r a1 => match r with
      | none => R (.ok .next) a1
      | some u => wpAny (model prog w) A (letOwnedTupleGo ta it u) (fun _ a2 => wpAny (model prog w) A (assign ta env u) (fun _ a3 => wpAny (model prog w) A (ifsM fa env) (fun ok a4 =>
            if ok = true then wpAny (model prog w) A (eval ib env) (fun y a5 => wpAny (model prog w) A (pyIter y) (fun jt a6 =>
              codeAny (model prog w) A (.compStart (.DictComp kx vx [⟨ta, ia, fa, 0⟩, ⟨tb, ib, fb, 0⟩] scope pos) 1 jt (.ref D) env) (fun r a7 => match r with
                | .ok _ => ∃ m, m < n ∧ L m a7
                | .error _ => False) a6) (nbE prog w A env R) a5) (nbE prog w A env R) a4
            else ∃ m, m < n ∧ L m a4) (nbE prog w A env R) a3) (nbE prog w A env R) a2) (nbE prog w A env R) a1) (nbE prog w A env R) s)
    (n : Nat) (h : L n s) :
    codeAny (model prog w) A (.compLoop (.DictComp kx vx [⟨ta, ia, fa, 0⟩, ⟨tb, ib, fb, 0⟩] scope pos) 0 it (.ref D) env) R s := by
  refine codeAny_loop rfl L (fun n s hL => ?_) n h
  show wpAny _ A ((compTurn (.DictComp kx vx [⟨ta, ia, fa, 0⟩, ⟨tb, ib, fb, 0⟩] scope pos) 0 it (.ref D) env).onRaise (fun x => do noteFrame x env; theTreesLotGoes x)) _ _ s
  refine wpAny_noted ?_
  rw [turnD2_out]
  refine wpAny_bind (wpAny_standAt (wpAny_bind (wpAny_mono (turn n s hL) (fun r a1 g1 => ?_) fun _ _ z => z)))
  cases r with
  | none => exact wpAny_pure g1
  | some u =>
    refine wpAny_bind (wpAny_mono g1 (fun _ a2 g2 => ?_) fun _ _ z => z)
    refine wpAny_bind (wpAny_mono g2 (fun _ a3 g3 => wpAny_bind (wpAny_mono g3 (fun ok a4 g4 => ?_) fun _ _ z => z)) fun _ _ z => z)
    cases ok with
    | false => exact wpAny_pure ⟨rfl, g4⟩
    | true =>
      refine wpAny_bind (wpAny_mono g4 (fun y a5 g5 => ?_) fun _ _ z => z)
      refine wpAny_bind (wpAny_standAt (wpAny_bind (wpAny_of_eq (hs y) (wpAny_bind (wpAny_holding (wpAny_mono g5 (fun jt a6 g6 => ?_) fun _ _ z => z))))))
      refine wpAny_bind (wpAny_runOwn ?_)
      rw [Around.mark_none]
      refine codeAny_mono g6 fun r a7 g7 => ?_
      cases r with
      | ok f =>
        first
          | exact wpAny_pure ⟨rfl, g7⟩
          | exact wpAny_bind (wpAny_pure (wpAny_pure ⟨rfl, g7⟩))
      | error e => exact g7.elim
theorem loopD2_in (L : Nat → Shared → Prop)
    (turn : ∀ n s, L n s → wpAny (model prog w) A (pyNext it) (fun r a1 => match r with
      | none => R (.ok .next) a1
      | some u => wpAny (model prog w) A (letOwnedTupleGo tb it u) (fun _ a2 => wpAny (model prog w) A (assign tb env u) (fun _ a3 => wpAny (model prog w) A (ifsM fb env) (fun ok a4 =>
            if ok = true then wpAny (model prog w) A (eval kx env) (fun ku a5 => wpAny (model prog w) A (eval vx env) (fun vu a6 =>
              wpAny (model prog w) A (dictSet D ku vu) (fun _ a7 => ∃ m, m < n ∧ L m a7) (nbE prog w A env R) a6) (nbE prog w A env R) a5) (nbE prog w A env R) a4
            else ∃ m, m < n ∧ L m a4) (nbE prog w A env R) a3) (nbE prog w A env R) a2) (nbE prog w A env R) a1) (nbE prog w A env R) s)
    (n : Nat) (h : L n s) :
    codeAny (model prog w) A (.compLoop (.DictComp kx vx [⟨ta, ia, fa, 0⟩, ⟨tb, ib, fb, 0⟩] scope pos) 1 it (.ref D) env) R s := by
  refine codeAny_loop rfl L (fun n s hL => ?_) n h
  show wpAny _ A ((compTurn (.DictComp kx vx [⟨ta, ia, fa, 0⟩, ⟨tb, ib, fb, 0⟩] scope pos) 1 it (.ref D) env).onRaise (fun x => do noteFrame x env; theTreesLotGoes x)) _ _ s
  refine wpAny_noted ?_
  rw [turnD2_in]
  refine wpAny_bind (wpAny_standAt (wpAny_bind (wpAny_mono (turn n s hL) (fun r a1 g1 => ?_) fun _ _ z => z)))
  cases r with
  | none => exact wpAny_pure g1
  | some u =>
    refine wpAny_bind (wpAny_mono g1 (fun _ a2 g2 => ?_) fun _ _ z => z)
    refine wpAny_bind (wpAny_mono g2 (fun _ a3 g3 => wpAny_bind (wpAny_mono g3 (fun ok a4 g4 => ?_) fun _ _ z => z)) fun _ _ z => z)
    cases ok with
    | false => exact wpAny_pure ⟨rfl, g4⟩
    | true =>
      exact wpAny_bind (wpAny_bind (wpAny_mono g4 (fun ku a5 g5 => wpAny_bind (wpAny_holding (wpAny_mono g5 (fun vu a6 g6 => wpAny_bind (wpAny_standAt (wpAny_holding (wpAny_mono g6 (fun _ a7 g7 => wpAny_pure ⟨rfl, g7⟩) fun _ _ z => z)))) fun _ _ z => z))) fun _ _ z => z))
theorem startD1 (h0 : codeAny (model prog w) A (.compLoop (.DictComp kx vx [⟨ta, ia, fa, 0⟩, ⟨tb, ib, fb, 0⟩] scope pos) 1 it (.ref D) env) R s)
    (h : wpAny (model prog w) A (pyIter it) (fun jt a1 => codeAny (model prog w) A (.compLoop (.DictComp kx vx [⟨ta, ia, fa, 0⟩, ⟨tb, ib, fb, 0⟩] scope pos) 1 jt (.ref D) env) R a1) (nbE prog w A env R) s) :
    codeAny (model prog w) A (.compStart (.DictComp kx vx [⟨ta, ia, fa, 0⟩, ⟨tb, ib, fb, 0⟩] scope pos) 1 it (.ref D) env) R s := by
  refine codeAny_of_tree ?_
  show wpAny _ _ ((compStart (.DictComp kx vx [⟨ta, ia, fa, 0⟩, ⟨tb, ib, fb, 0⟩] scope pos) 1 it (.ref D) env).onRaise (fun x => do noteFrame x env; standAt theWindowsPlace)) _ _ s
  refine wpAny_notedAt ?_
  unfold compStart
  show wpAny _ _ (ask >>= fun _ => _) _ _ s
  refine wpAny_bind (wpAny_askSetting (wpAny_ite ?_))
  split
  · first
      | exact wpAny_bind (wpAny_pure (wpAny_pure ⟨rfl, h0⟩))
      | exact wpAny_pure ⟨rfl, h0⟩
  · first
      | exact wpAny_bind (wpAny_rule (wpAny_bind (wpAny_standAt (wpAny_bind (wpAny_mono h (fun jt a1 g1 => wpAny_pure ⟨rfl, g1⟩) fun _ _ z => z)))))
      | (refine wpAny_bind (wpAny_rule ?_); show wpAny _ _ (standAt ib.pos >>= _) _ _ s; exact wpAny_bind (wpAny_standAt (wpAny_bind (wpAny_mono h (fun jt a1 g1 => wpAny_pure ⟨rfl, g1⟩) fun _ _ z => z))))
end
end DL

namespace DL
open PySem PySem.Spec PyProof.Rows L2

/-! ### {k: v for .. for ..}: a rule -/
def inGd (D : Addr) (wi1 : TI) (g1 : TG) (tt1 : TT) (tk tv : TE) (vs1 : List Nat) (σ2 : L2.St) (H3 : Hp) (Nx : Hp → Prop) : Prop :=
  wi1 σ2 H3 fun J1 H4 => ∃ W1 : Nat → Nat → Hp → Prop, (∃ m, W1 0 m H4) ∧ ∀ j k G, W1 j k G → (J1.stop j G ∧ Nx G) ∨
    (J1.go j G ∧ ∃ N1 : Hp → Prop, (∀ G', N1 G' → ∃ k', k' < k ∧ W1 (j + 1) k' G') ∧ ∀ x G', J1.yld j G x G' → g1 x (L2.wipe σ2 vs1) G' fun σ3 G5 => L2.wipe σ3 vs1 = L2.wipe σ2 vs1 ∧
      tt1 σ3 G5 fun b G6 => if b = true then tk σ3 G6 fun y G7 => tv σ3 G7 fun z G8 => ∃ G9, DPut G8 D y z G9 ∧ N1 G9 else N1 G6)
def tGd2 (o0 : HO) (wi : TI) (g : TG) (tt : TT) (wi1 : TI) (g1 : TG) (tt1 : TT) (tk tv : TE) (vs vs1 : List Nat) : TE := fun σ H Q => wi σ H fun J H1 => ∀ D, H1 D = none →
  ∃ W : Nat → Nat → Hp → Prop, (∃ m, W 0 m (upd H1 D o0)) ∧ ∀ i m G, W i m G → (J.stop i G ∧ Q (.ref D) G) ∨
    (J.go i G ∧ ∃ N : Hp → Prop, (∀ G', N G' → ∃ m', m' < m ∧ W (i + 1) m' G') ∧ ∀ x G', J.yld i G x G' → g x (L2.wipe σ vs) G' fun σ2 G2 => L2.wipe σ2 vs = L2.wipe σ vs ∧
      tt σ2 G2 fun b G3 => if b = true then inGd D wi1 g1 tt1 tk tv vs1 σ2 G3 N else N G3)
section
variable {X : Cx} {kx vx tg iter tg1 iter1 : Expr} {ifs ifs1 : List Expr} {scope : Scope} {own : List (Str × Nat)} {pos : Pos} {wi wi1 : TI} {g g1 : TG} {tt tt1 : TT} {tk tv : TE} {o0 : HO}
/-- the inner turns -/
theorem gd2_in {s0 : Shared} {H0 : Hp} {ce : Env} {fp : List Addr} {D : Addr} {pins : List (Addr × Obj)} {σ2 : L2.St} {vs1 : List Nat} {N : Hp → Prop} {R : Shared → Prop} (hu : X.A.units + 1 < cLine) (hc : X.calm = true)
    (pi1 : PI (X.blk s0 H0 scope ce fp) tg1 iter1 wi1) (pg1 : PG (X.blk s0 H0 scope ce fp) tg1 g1) (pt1 : PTs (X.blk s0 H0 scope ce fp) ifs1 tt1) (pk : PE (X.blk s0 H0 scope ce fp) kx tk) (pe : PE (X.blk s0 H0 scope ce fp) vx tv)
    {s : Shared} {H3 : Hp} (I : Inv (X.blk s0 H0 scope ce fp) pins σ2 H3 s) (h : inGd D wi1 g1 tt1 tk tv vs1 σ2 H3 N)
    (fin : ∀ G s', Inv (X.blk s0 H0 scope ce fp) pins (L2.wipe σ2 vs1) G s' → N G → R s') {E : Value → Shared → Prop} :
    wpAny (model X.prog X.w) X.A (eval iter1 ce) (fun y a5 => wpAny (model X.prog X.w) X.A (pyIter y) (fun jt a6 =>
      codeAny (model X.prog X.w) X.A (.compStart (.DictComp kx vx [⟨tg, iter, ifs, 0⟩, ⟨tg1, iter1, ifs1, 0⟩] scope pos) 1 jt (.ref D) ce) (fun r a7 => match r with
        | .ok _ => R a7
        | .error _ => False) a6) E a5) E s := by
  refine thnF (pi1.run _ s σ2 H3 _ I h) fun xv s10 hx => thnF hx fun itv s11 h11 => ?_
  obtain ⟨it1, fp1, tn1, J1, H11, e1, I11, T1, st11, f11, W1, ⟨m1, w1⟩, turn1⟩ := h11
  subst e1
  have hst : ∀ {G : Hp}, (∀ b ∈ fp1, G b = none) → ∀ b ∈ fp1, FpOk (X.blk s0 H0 scope ce fp) pins G b := fun hn b hb => ⟨hn b hb, (f11 b hb).2⟩
  have all : codeAny (model X.prog X.w) X.A (.compLoop (.DictComp kx vx [⟨tg, iter, ifs, 0⟩, ⟨tg1, iter1, ifs1, 0⟩] scope pos) 1 (.ref it1) (.ref D) ce) (fun r a7 => match r with
      | .ok _ => R a7
      | .error _ => False) s11 := by
    let L : Nat → Shared → Prop := fun k s' => ∃ j G, Inv (X.blk s0 H0 scope ce fp) pins (L2.wipe σ2 vs1) G s' ∧ tn1 j s'.heap ∧ (∀ b ∈ fp1, G b = none) ∧ W1 j k G
    refine loopD2_in L (fun k s12 hL => ?_) m1 ⟨0, H11, I11.weak (wipe_length _ _) (fun j v e => (wipe_some e).1), st11, fun b hb => (f11 b hb).1, w1⟩
    obtain ⟨j, H12, I12, t12, n12, w12⟩ := hL
    rcases turn1 j k H12 w12 with ⟨hs, q⟩ | ⟨hg, N1, down, each⟩
    · refine thnF (T1.done (X.blk s0 H0 scope ce fp) rfl rfl rfl hc j _ s12 _ H12 (fun _ _ => False) I12 (hst n12) t12 hs) fun r s13 ⟨er, I13⟩ => ?_
      subst er
      exact fin H12 s13 I13 q
    · refine thnF (T1.item (X.blk s0 H0 scope ce fp) rfl rfl rfl hc j _ s12 _ H12 (fun _ _ => False) I12 (hst n12) t12 hg) fun r s13 ⟨u, er, h13⟩ => ?_
      subst er
      refine thnF h13 fun _ s14 ⟨x, H14, I14, r14, y14, t14, n14⟩ => ?_
      have leave : ∀ {σ4 : L2.St} {s' : Shared} {G' : Hp}, L2.wipe σ4 vs1 = L2.wipe σ2 vs1 → Inv (X.blk s0 H0 scope ce fp) (pins ++ pinsAt fp1 s14.heap) σ4 G' s' → N1 G' → ∃ m, m < k ∧ L m s' := fun {σ4 s' G'} ew I' hN => by
        obtain ⟨m', lt, w'⟩ := down G' hN
        have held : ∀ b ∈ fp1, ∀ o, s14.heap.get? b = some o → s'.heap.get? b = some o ∧ G' b = none := fun b hb o e => by
          have z := I'.pin (b, o) (List.mem_append_right _ (List.mem_append_right _ (mem_pinsAt hb e)))
          exact ⟨z.1, z.2.1⟩
        have len : (L2.wipe σ2 vs1).length = σ4.length := by rw [← ew, wipe_length]
        refine ⟨m', lt, j + 1, G', (I'.unpinned (pins := pins)).weak len (fun i v e => (wipe_some (by rw [ew]; exact e)).1), T1.keep _ _ _ t14 fun b hb o e => (held b hb o e).1, fun b hb => ?_, w'⟩
        obtain ⟨o, e, _⟩ := T1.obj _ _ t14 b hb
        exact (held b hb o e).2
      refine thnF (pg1.run _ s14 _ H14 x u _ (I14.pinned (hst n14) (T1.obj _ _ t14)) r14 (each x H14 y14)) fun _ s15 ⟨σ15, H15, I15, ew, q15⟩ => ?_
      refine thnF (pt1.run _ s15 σ15 H15 _ I15 q15) fun b s16 ⟨H16, I16, q16⟩ => ?_
      cases b with
      | false => exact leave ew I16 q16
      | true =>
        refine thnF (pk.run _ s16 σ15 H16 _ I16 q16) fun kv s17 ⟨yk, H17, I17, r17, q17⟩ => ?_
        refine thnF (pe.run _ s17 σ15 H17 _ I17 q17) fun vv s18 ⟨yv, H18, I18, r18, H19, hp, hN⟩ => ?_
        exact dset_put (X := X.blk s0 H0 scope ce fp) hu I18 hp r17 r18 fun s19 I19 => leave ew I19 hN
  exact startD1 all (T1.self X.A 0 _ _ _ st11 all)
/-- all turns of the block -/
theorem gd2_turns {s0 : Shared} {H0 : Hp} {ce : Env} {fp : List Addr} {it D : Addr} {tn : Nat → Heap → Prop} {J : It} {W : Nat → Nat → Hp → Prop} {σ : L2.St} {vs vs1 : List Nat} {Q : Hp → Prop} {R : Result → Shared → Prop} (hu : X.A.units + 1 < cLine) (hc : X.calm = true) (hv : ∀ i ∈ vs1, i ∈ vs) (hs1 : ∀ env x, foldedSetIterable iter1 env x = pure x) (T : Turn X.prog X.w X.K tg J fp it tn)
    (pg : PG (X.blk s0 H0 scope ce fp) tg g) (pt : PTs (X.blk s0 H0 scope ce fp) ifs tt) (pi1 : PI (X.blk s0 H0 scope ce fp) tg1 iter1 wi1) (pg1 : PG (X.blk s0 H0 scope ce fp) tg1 g1) (pt1 : PTs (X.blk s0 H0 scope ce fp) ifs1 tt1) (pk : PE (X.blk s0 H0 scope ce fp) kx tk) (pe : PE (X.blk s0 H0 scope ce fp) vx tv)
    (turn : ∀ i m G, W i m G → (J.stop i G ∧ Q G) ∨ (J.go i G ∧ ∃ N : Hp → Prop, (∀ G', N G' → ∃ m', m' < m ∧ W (i + 1) m' G') ∧ ∀ x G', J.yld i G x G' → g x (L2.wipe σ vs) G' fun σ2 G2 => L2.wipe σ2 vs = L2.wipe σ vs ∧
      tt σ2 G2 fun b G3 => if b = true then inGd D wi1 g1 tt1 tk tv vs1 σ2 G3 N else N G3))
    (fin : ∀ G s', Inv (X.blk s0 H0 scope ce fp) [] (L2.wipe σ vs) G s' → Q G → R (.ok .next) s') {s : Shared} {m0 : Nat} {G0 : Hp} (I0 : Inv (X.blk s0 H0 scope ce fp) [] (L2.wipe σ vs) G0 s) (t0 : tn 0 s.heap) (n0 : ∀ b ∈ fp, G0 b = none) (w0 : W 0 m0 G0) :
    codeAny (model X.prog X.w) X.A (.compLoop (.DictComp kx vx [⟨tg, iter, ifs, 0⟩, ⟨tg1, iter1, ifs1, 0⟩] scope pos) 0 (.ref it) (.ref D) ce) R s := by
  have hst : ∀ {σ' : L2.St} {G : Hp} {s' : Shared}, Inv (X.blk s0 H0 scope ce fp) [] σ' G s' → (∀ b ∈ fp, G b = none) → ∀ b ∈ fp, FpOk (X.blk s0 H0 scope ce fp) [] G b := fun {σ' G s'} I' hn b hb =>
    ⟨hn b hb, (I'.ok.exf b hb).1, I'.ok.exfs b hb, .inl hb, fun x c e => (I'.ok.exf b hb).2 x c e, fun p hp => by
      have hp' : p ∈ ([] : List (Addr × Obj)) ++ [] := hp
      simp at hp'⟩
  let L : Nat → Shared → Prop := fun n s' => ∃ i G, Inv (X.blk s0 H0 scope ce fp) [] (L2.wipe σ vs) G s' ∧ tn i s'.heap ∧ (∀ b ∈ fp, G b = none) ∧ W i n G
  refine loopD2_out (hs1 ce) L (fun n s1 hL => ?_) m0 ⟨0, G0, I0, t0, n0, w0⟩
  obtain ⟨i, G1, I1, t1, n1, w1⟩ := hL
  rcases turn i n G1 w1 with ⟨hs, q⟩ | ⟨hg, N, down, each⟩
  · refine thnF (T.done (X.blk s0 H0 scope ce fp) rfl rfl rfl hc i [] s1 _ G1 (fun _ _ => False) I1 (hst I1 n1) t1 hs) fun r s2 ⟨er, I2⟩ => ?_
    subst er
    exact fin G1 s2 I2 q
  · refine thnF (T.item (X.blk s0 H0 scope ce fp) rfl rfl rfl hc i [] s1 _ G1 (fun _ _ => False) I1 (hst I1 n1) t1 hg) fun r s2 ⟨u, er, h2⟩ => ?_
    subst er
    refine thnF h2 fun _ s3 ⟨x, G3, I3, r3, y3, t3, n3⟩ => ?_
    -- what a turn leaves
    have leave : ∀ {σ4 : L2.St} {s' : Shared} {G' : Hp}, (L2.wipe σ vs).length = σ4.length → (∀ (j : Nat) v, (L2.wipe σ vs)[j]? = some (some v) → σ4[j]? = some (some v)) → Inv (X.blk s0 H0 scope ce fp) ([] ++ pinsAt fp s3.heap) σ4 G' s' → N G' → ∃ m, m < n ∧ L m s' := fun {σ4 s' G'} hl hk I' hN => by
      obtain ⟨m', lt, w'⟩ := down G' hN
      have held : ∀ b ∈ fp, ∀ o, s3.heap.get? b = some o → s'.heap.get? b = some o ∧ G' b = none := fun b hb o e => by
        have z := I'.pin (b, o) (List.mem_append_right _ (List.mem_append_right _ (mem_pinsAt hb e)))
        exact ⟨z.1, z.2.1⟩
      refine ⟨m', lt, i + 1, G', (I'.unpinned (pins := [])).weak hl hk, T.keep _ _ _ t3 fun b hb o e => (held b hb o e).1, fun b hb => ?_, w'⟩
      obtain ⟨o, e, _⟩ := T.obj _ _ t3 b hb
      exact (held b hb o e).2
    refine thnF (pg.run _ s3 _ G3 x u _ (I3.pinned (hst I3 n3) (T.obj _ _ t3)) r3 (each x G3 y3)) fun _ s4 ⟨σ4, G4, I4, ew, q4⟩ => ?_
    refine thnF (pt.run _ s4 σ4 G4 _ I4 q4) fun b s5 ⟨G5, I5, q5⟩ => ?_
    have hl4 : (L2.wipe σ vs).length = σ4.length := by rw [← ew, wipe_length]
    cases b with
    | false => exact leave hl4 (fun j v e => (wipe_some (by rw [ew]; exact e)).1) I5 q5
    | true =>
      refine gd2_in (pos := pos) (ifs := ifs) (iter := iter) (tg := tg) hu hc pi1 pg1 pt1 pk pe I5 q5 fun G6 s6 I6 hN => ?_
      refine leave (hl4.trans (wipe_length σ4 vs1).symm) (fun j v e => ?_) I6 hN
      rw [← ew] at e
      obtain ⟨e1, e2⟩ := wipe_some e
      rw [L2.wipe_out fun z => e2 (hv j z)]
      exact e1
theorem pe_gd2 {vs1 : List Nat} (hnew : NewOk X o0) (hu : X.A.units + 1 < cLine) (hc : X.calm = true) (hN : X.N.Nodup) (hi : PI X tg iter wi) (ok : BlkOk X.N X.env.scope scope own) (hv : ∀ i ∈ vs1, i ∈ own.map (·.2))
    (hg : ∀ (s : Shared) (G : Hp) (C : Addr) (cl : List (Str × Addr)) (fp : List Addr), PG (X.blk s G scope (compEnvC scope cl C X.env) fp) tg g) (ht : ∀ (s : Shared) (G : Hp) (C : Addr) (cl : List (Str × Addr)) (fp : List Addr), PTs (X.blk s G scope (compEnvC scope cl C X.env) fp) ifs tt)
    (hi1 : ∀ (s : Shared) (G : Hp) (C : Addr) (cl : List (Str × Addr)) (fp : List Addr), PI (X.blk s G scope (compEnvC scope cl C X.env) fp) tg1 iter1 wi1)
    (hg1 : ∀ (s : Shared) (G : Hp) (C : Addr) (cl : List (Str × Addr)) (fp : List Addr), PG (X.blk s G scope (compEnvC scope cl C X.env) fp) tg1 g1) (ht1 : ∀ (s : Shared) (G : Hp) (C : Addr) (cl : List (Str × Addr)) (fp : List Addr), PTs (X.blk s G scope (compEnvC scope cl C X.env) fp) ifs1 tt1)
    (hk : ∀ (s : Shared) (G : Hp) (C : Addr) (cl : List (Str × Addr)) (fp : List Addr), PE (X.blk s G scope (compEnvC scope cl C X.env) fp) kx tk)
    (he : ∀ (s : Shared) (G : Hp) (C : Addr) (cl : List (Str × Addr)) (fp : List Addr), PE (X.blk s G scope (compEnvC scope cl C X.env) fp) vx tv) (hs : ∀ x, foldedSetIterable iter X.env x = pure x := by intro _; rfl) (hs1 : ∀ env x, foldedSetIterable iter1 env x = pure x := by intro _ _; rfl) :
    PE X (.DictComp kx vx [⟨tg, iter, ifs, 0⟩, ⟨tg1, iter1, ifs1, 0⟩] scope pos) (tGd2 o0 wi g tt wi1 g1 tt1 tk tv (own.map (·.2)) vs1) := ⟨fun pins s σ H Q I h => by
  rw [arm_eval_DictComp]
  have cells : ∀ y ∈ scope.names, y.2 = .free → ∃ c, X.env.cells.lookup y.1 = some c := fun y hy e => (ok.free y hy e).elim (fun k => I.ok.has _ (.inl k)) fun k => I.ok.has _ (.inr k)
  refine wpAny_comprehension_free (use := none) rfl hs (closure_ok cells) ok.kind (fun y hy e => (ok.uniq y hy).trans (congrArg some e)) (thn (hi.run pins s σ H _ I h) fun xv s1 hx => thn hx fun itv s2 hy => ?_)
  obtain ⟨it, fp, tn, J, G2, rfl, I2, T, t2, f2, q⟩ := hy
  obtain ⟨W, ⟨m0, w0⟩, turn⟩ := q s2.heap.objs.size (I2.hok.fresh (Nat.le_refl _))
  have I3 : Inv X pins σ (upd G2 s2.heap.objs.size o0) { s2 with heap := s2.heap.push { cls := .type "dict", data := .dict #[] } } :=
    I2.laid (t' := s2.toks) (fun b o e => Heap.get?_push_of_some _ e) (Nat.le_refl _) (hnew s2.heap _ I2.big)
  have f3 : ∀ b ∈ fp, FpOk X pins (upd G2 s2.heap.objs.size o0) b ∧ b < (s2.heap.push { cls := .type "dict", data := .dict #[] }).objs.size := fun b hb => by
    obtain ⟨o, e, _⟩ := T.obj _ _ t2 b hb
    have lt : b < s2.heap.objs.size := Heap.lt_size e
    refine ⟨⟨(upd_ne (Nat.ne_of_lt lt)).trans (f2 b hb).1, (f2 b hb).2⟩, ?_⟩
    rw [Heap.size_push]
    exact Nat.lt_succ_of_lt lt
  have t3 : tn 0 (s2.heap.push { cls := .type "dict", data := .dict #[] }) := T.keep _ _ _ t2 fun b _ o e => Heap.get?_push_of_some _ e
  have I4 := block_start I3 ok hN f3
  have t4 := T.keep _ _ (pushCells ((s2.heap.push { cls := .type "dict", data := .dict #[] }).push { cls := .type "dict", data := .dict #[] }) scope.names) t3 fun b _ o e => pushCells_keeps _ _ _ _ (Heap.get?_push_of_some _ e)
  refine wpAny_newObj_type (newEnv_comp ?_)
  have all := gd2_turns (X := X) (pos := pos) (iter := iter) (R := compPost (model X.prog X.w) X.A X.xe none (fun v s' => ∃ x G', Inv X pins σ G' s' ∧ RelV x v ∧ Q x G') (.ref s2.heap.objs.size) (s2.heap.push { cls := .type "dict", data := .dict #[] }).objs.size) (Q := fun G => Q (.ref s2.heap.objs.size) G) hu hc hv hs1 T (hg _ _ _ _ _) (ht _ _ _ _ _) (hi1 _ _ _ _ _) (hg1 _ _ _ _ _) (ht1 _ _ _ _ _) (hk _ _ _ _ _) (he _ _ _ _ _) turn (fun G s' J' hq => by
    have J1 : Inv X pins σ G s' := I3.call' (ch := fp) J'.os J'.base J'.hok J'.bare fun b hb => ⟨(f3 b hb).1.2.2.2.1, (f3 b hb).1.2.1, (f3 b hb).1.2.2.2.2.1, (f3 b hb).1.2.2.2.2.2⟩
    have free : G (s2.heap.push { cls := .type "dict", data := .dict #[] }).objs.size = none := J'.free
    obtain ⟨m, ns, _⟩ := J'.loc
    obtain ⟨a0, a1, a2, a3, a4, a5⟩ := I3.fpOk (Nat.le_refl _) free
    exact ⟨m, ns, fun h'' sb => ⟨.ref s2.heap.objs.size, G, J1.turned (t' := s'.toks) (fun b o hb e => (sb.2 b hb).trans e) a0 a1 a3 a4 a5, rfl, hq⟩⟩) I4 t4 (fun b hb => (f3 b hb).1.1) w0
  exact codeAny_compStart_dict all (T.self X.A 0 _ _ _ t4 all)⟩
end
end DL

namespace DL
open PySem PySem.Spec PyProof.Rows L2

/-! ### {k: v for .. for ..}, seen from the data -/
def dcD2 (fl : Bool) (vs vs1 : List Nat) (g : GEV) (tt : TEV) (fi1 : IEV) (g1 : GEV) (tt1 : TEV) (tk tv : EV) : List PyData → List (List Key × PyData) → Ds → Option (List (List Key × PyData) × Ds)
  | [], acc, δ => some (acc, δ)
  | x :: xs, acc, δ => (g x δ).bind fun δ1 => (tt δ1).bind fun b =>
    if b.1 then (fi1 b.2).bind fun z => if noOwn vs1 z.2 then (dcD fl vs1 g1 tt1 tk tv z.1 acc (wipeD z.2 vs1)).bind fun r =>
      if noOwn vs r.2 then dcD2 fl vs vs1 g tt fi1 g1 tt1 tk tv xs r.1 (wipeD r.2 vs) else none else none
    else if noOwn vs b.2 then dcD2 fl vs vs1 g tt fi1 g1 tt1 tk tv xs acc (wipeD b.2 vs) else none
def dc2E (fl : Bool) (vs vs1 : List Nat) (fi : IEV) (g : GEV) (tt : TEV) (fi1 : IEV) (g1 : GEV) (tt1 : TEV) (tk tv : EV) : EV := fun δ => (fi δ).bind fun x =>
  if noOwn vs x.2 then (dcD2 fl vs vs1 g tt fi1 g1 tt1 tk tv x.1 [] (wipeD x.2 vs)).map fun r => (.o (.t ⟨fl, r.1⟩), restD x.2 r.2 vs) else none
section
variable {K : PySem.W.Frag}
theorem dc_in {fl : Bool} {vs1 ws1 : List Nat} {fi1 : IEV} {g1 : GEV} {tt1 : TEV} {tk tv : EV} (hw1 : ∀ j ∈ ws1, j ∈ vs1) {T : List Addr} {ρ : List (Option Addr)} {δ δ1 δe : Ds} {σ : L2.St} {H : Hp} {D : Addr} {o : HO} {kvs out : List (List Key × PyData)} {ys : List PyData} (hD : D ∈ T) (s : Sim K T ρ δ σ H) (hacc : H D = some o) (hto : TbO K (hid T ρ H) o ⟨fl, kvs⟩)
    (ei : fi1 δ = some (ys, δ1)) (hno : noOwn vs1 δ1 = true) (el : dcD fl vs1 g1 tt1 tk tv ys kvs (wipeD δ1 vs1) = some (out, δe)) {Nx : Hp → Prop}
    (fin : ∀ ρ' H' o', Sim K T ρ' δe (L2.wipe σ vs1) H' → Same (hid T ρ H) (hid T ρ' H') → (∀ a ∈ T, a ≠ D → H' a = H a) → H' D = some o' → TbO K (hid T ρ' H') o' ⟨fl, out⟩ → Nx H') :
    inGd D (liftI K fi1) (liftG K ws1 g1) (liftT K tt1) (lift K tk) (lift K tv) vs1 σ H Nx := by
  refine ⟨T, ρ, δ, ys, δ1, s, ei, fun ρ1 H1 J s1 x1 sv => ?_⟩
  let Wn : Nat → Hp → Prop := fun i H' => ∃ ρ' δ2 o' kv', Sim K T ρ' δ2 (L2.wipe σ vs1) H' ∧ Same (hid T ρ1 H1) (hid T ρ' H') ∧ (∀ a ∈ T, a ≠ D → H' a = H1 a) ∧ H' D = some o' ∧ TbO K (hid T ρ' H') o' ⟨fl, kv'⟩ ∧ dcD fl vs1 g1 tt1 tk tv (ys.drop i) kv' δ2 = some (out, δe)
  refine ⟨fun i m H' => i + m = ys.length ∧ Wn i H', ⟨ys.length, by omega, ρ1, wipeD δ1 vs1, o, kvs, s1.wipe hno, Same.refl _, fun _ _ _ => rfl, (x1.tmp D hD).trans hacc, tbM x1.same hto, el⟩, ?_⟩
  rintro i m H2 ⟨him, ρ2, δ2, o2, kv2, s2, sm, tm, hacc2, hto2, hl⟩
  by_cases hi : i < ys.length
  · have hd : ys.drop i = ys[i] :: ys.drop (i + 1) := by rw [List.drop_eq_getElem_cons hi]
    rw [hd] at hl
    unfold dcD at hl
    cases eg : g1 ys[i] δ2 with
    | none => rw [eg] at hl; cases hl
    | some δ3 =>
      rw [eg] at hl
      simp only [Option.bind_some] at hl
      cases et : tt1 δ3 with
      | none => rw [et] at hl; cases hl
      | some b =>
        obtain ⟨b, δ4⟩ := b
        rw [et] at hl
        simp only [Option.bind_some] at hl
        obtain ⟨go, yl⟩ := (sv i T ρ2 H2 sm s2.trk).1 _ (List.getElem?_eq_getElem hi)
        refine .inr ⟨go, Wn (i + 1), fun H' hW => ⟨m - 1, by omega, by omega, hW⟩, fun x H3 hy => ?_⟩
        obtain ⟨y1, y2⟩ := yl x H3 hy
        have e2 := s2.trk.extT y1
        refine ⟨T, ρ2, δ2, ys[i], δ3, s2.mono y1, y2, eg, fun ρ4 σ4 H4 s4 x4 o4 => ?_⟩
        have hwp : L2.wipe σ4 vs1 = L2.wipe σ vs1 := by rw [wipe_only o4 hw1, wipe_idem]
        refine ⟨hwp, T, ρ4, δ3, b, δ4, s4, et, fun ρ5 H5 s5 x5 => ?_⟩
        have xx : Ext T ρ2 H2 ρ5 H5 := e2.trans (x4.trans x5)
        have fn : ∀ (ρ6 : List (Option Addr)) (δ6 : Ds) (H6 : Hp), Sim K T ρ6 δ6 σ4 H6 → Ext T ρ2 H2 ρ6 H6 → noOwn vs1 δ6 = true →
            Sim K T ρ6 (wipeD δ6 vs1) (L2.wipe σ vs1) H6 ∧ Same (hid T ρ1 H1) (hid T ρ6 H6) ∧ (∀ a ∈ T, a ≠ D → H6 a = H1 a) ∧ H6 D = some o2 ∧ TbO K (hid T ρ6 H6) o2 ⟨fl, kv2⟩ := by
          intro ρ6 δ6 H6 s6 x6 n6
          have q := s6.wipe n6
          rw [hwp] at q
          exact ⟨q, sm.trans x6.same, fun a ha ne => (x6.tmp a ha).trans (tm a ha ne), (x6.tmp D hD).trans hacc2, tbM x6.same hto2⟩
        cases b with
        | false =>
          refine L2.iteF ?_
          rw [if_neg Bool.false_ne_true] at hl
          split at hl
          case isFalse => cases hl
          rename_i n5
          obtain ⟨q1, q2, q3, q4, q5⟩ := fn ρ5 δ4 H5 s5 xx n5
          exact ⟨ρ5, _, o2, kv2, q1, q2, q3, q4, q5, hl⟩
        | true =>
          refine L2.iteT ?_
          rw [if_pos rfl] at hl
          cases ey : tk δ4 with
          | none => rw [ey] at hl; cases hl
          | some y =>
            obtain ⟨u, δ6⟩ := y
            rw [ey] at hl
            simp only [Option.bind_some] at hl
            split at hl
            case h_2 => cases hl
            rename_i yk
            cases ez : tv δ6 with
            | none => rw [ez] at hl; cases hl
            | some z =>
              obtain ⟨w, δ7⟩ := z
              rw [ez] at hl
              simp only [Option.bind_some] at hl
              split at hl
              case h_2 => cases hl
              rename_i d f k hd' hk'
              split at hl
              case isFalse => cases hl
              rename_i hc
              obtain ⟨hf, n7, hlen⟩ := hc
              refine ⟨T, ρ5, δ4, .d yk, δ6, s5, ey, fun ρ6 v6 H6 s6 x6 hv6 => ?_⟩
              have each : ∀ (ρ7 : List (Option Addr)) (v : V) (H7 : Hp), Sim K T ρ7 δ7 σ4 H7 → Ext T ρ6 H6 ρ7 H7 → Dq K (hid T ρ7 H7) v d → ∃ H8, DPut H7 D v6 v H8 ∧ Wn (i + 1) H8 := by
                intro ρ7 v H7 s7 x7 hv
                obtain ⟨q1, q2, q3, q4, q5⟩ := fn ρ7 δ7 H7 s7 (xx.trans (x6.trans x7)) n7
                have hkey : At K T ρ7 H7 v6 (.d yk) := svM (s := .d yk) x7.same hv6
                obtain ⟨o', hp, ht'⟩ := tb_put hkey (t := ⟨fl, kv2⟩) (k := k) (by rw [hk', hf]) q4 q5 hv hlen
                refine ⟨_, hp, ρ7, _, o', putD kv2 k d, q1.tmpW hD (tb_nt ht'), ?_, ?_, upd_same, ?_, hl⟩
                · rw [hid_tmp hD]
                  exact q2
                · intro a ha ne
                  rw [upd_ne ne]
                  exact q3 a ha ne
                · rw [hid_tmp hD]
                  exact ht'
              refine ⟨T, ρ6, δ6, w, δ7, s6, ez, ?_⟩
              cases w with
              | o c =>
                intro ρ7 p H7 o s7 x7 hp hc
                have hn := frz_new s7.trk hp hc
                rw [hd'] at hn
                exact each ρ7 (.ref p) _ (s7.mono (same_new hp)) (x7.trans (s7.trk.extT (same_new hp))) hn
              | d c =>
                cases hd'
                exact fun ρ7 v H7 s7 x7 hv => each ρ7 v H7 s7 x7 hv
              | t c => cases hd'
              | z c => cases hd'
              | p c => cases hd'
  · have hd : ys.drop i = [] := List.drop_eq_nil_of_le (by omega)
    rw [hd] at hl
    cases hl
    exact .inl ⟨(sv i T ρ2 H2 sm s2.trk).2 (by omega), fin ρ2 H2 o2 s2 (x1.same.trans sm) (fun a ha ne => (tm a ha ne).trans (x1.tmp a ha)) hacc2 hto2⟩
theorem dc2_ok {fl : Bool} {vs ws vs1 ws1 : List Nat} {fi fi1 : IEV} {g g1 : GEV} {tt tt1 : TEV} {tk tv : EV} (hw : ∀ j ∈ ws, j ∈ vs) (hw1 : ∀ j ∈ ws1, j ∈ vs1) (hv1 : ∀ j ∈ vs1, j ∈ vs) (σ : L2.St) (H : Hp) (Q : VK) (h : lift K (dc2E fl vs vs1 fi g tt fi1 g1 tt1 tk tv) σ H Q) :
    tGd2 (oNew fl) (liftI K fi) (liftG K ws g) (liftT K tt) (liftI K fi1) (liftG K ws1 g1) (liftT K tt1) (lift K tk) (lift K tv) vs vs1 σ H Q := by
  obtain ⟨T, ρ, δ, s, δ', hs, hf, hq⟩ := h
  unfold dc2E at hf
  cases ea : fi δ with
  | none => rw [ea] at hf; cases hf
  | some z =>
    obtain ⟨xs, δ1⟩ := z
    rw [ea] at hf
    simp only [Option.bind_some] at hf
    split at hf
    case isFalse => cases hf
    rename_i hno
    cases el : dcD2 fl vs vs1 g tt fi1 g1 tt1 tk tv xs [] (wipeD δ1 vs) with
    | none => rw [el] at hf; cases hf
    | some r =>
      obtain ⟨out, δe⟩ := r
      rw [el] at hf
      cases hf
      refine ⟨T, ρ, δ, xs, δ1, hs, ea, fun ρ1 H1 J s1 x1 sv => ?_⟩
      intro D hD
      let Wn : Nat → Hp → Prop := fun i H' => ∃ ρ' δ2 o kvs, Sim K (D :: T) ρ' δ2 (L2.wipe σ vs) H' ∧ Same (hid T ρ1 H1) (hid (D :: T) ρ' H') ∧ (∀ a, a ∈ T → H' a = H1 a) ∧ H' D = some o ∧ TbO K (hid (D :: T) ρ' H') o ⟨fl, kvs⟩ ∧ dcD2 fl vs vs1 g tt fi1 g1 tt1 tk tv (xs.drop i) kvs δ2 = some (out, δe)
      refine ⟨fun i m H' => i + m = xs.length ∧ Wn i H', ⟨xs.length, by omega, ρ1, wipeD δ1 vs, oNew fl, [], (s1.wipe hno).addTmp hD (tb_nt (tbo_new (K := K) (G := H1) fl)), ?_, ?_, upd_same, tbo_new fl, el⟩, ?_⟩
      · rw [hid_new hD]
        exact Same.refl _
      · intro a ha
        obtain ⟨o, ho, _⟩ := s1.tmp a ha
        rw [upd_ne (ne_of_none ho hD)]
      rintro i m H2 ⟨him, ρ2, δ2, o, kvs, s2, sm, tm, hacc, hto, hl⟩
      by_cases hi : i < xs.length
      · have hd : xs.drop i = xs[i] :: xs.drop (i + 1) := by rw [List.drop_eq_getElem_cons hi]
        rw [hd] at hl
        unfold dcD2 at hl
        cases eg : g xs[i] δ2 with
        | none => rw [eg] at hl; cases hl
        | some δ3 =>
          rw [eg] at hl
          simp only [Option.bind_some] at hl
          cases et : tt δ3 with
          | none => rw [et] at hl; cases hl
          | some b =>
            obtain ⟨b, δ4⟩ := b
            rw [et] at hl
            simp only [Option.bind_some] at hl
            obtain ⟨go, yl⟩ := (sv i (D :: T) ρ2 H2 sm s2.trk).1 _ (List.getElem?_eq_getElem hi)
            refine .inr ⟨go, Wn (i + 1), fun H' hW => ⟨m - 1, by omega, by omega, hW⟩, fun x H3 hy => ?_⟩
            obtain ⟨y1, y2⟩ := yl x H3 hy
            have e2 := s2.trk.extT y1
            refine ⟨D :: T, ρ2, δ2, xs[i], δ3, s2.mono y1, y2, eg, fun ρ4 σ4 H4 s4 x4 o4 => ?_⟩
            have hwp : L2.wipe σ4 vs = L2.wipe σ vs := by rw [wipe_only o4 hw, wipe_idem]
            refine ⟨hwp, D :: T, ρ4, δ3, b, δ4, s4, et, fun ρ5 H5 s5 x5 => ?_⟩
            have xx : Ext (D :: T) ρ2 H2 ρ5 H5 := e2.trans (x4.trans x5)
            cases b with
            | false =>
              refine L2.iteF ?_
              rw [if_neg Bool.false_ne_true] at hl
              split at hl
              case isFalse => cases hl
              rename_i n5
              have q := s5.wipe n5
              rw [hwp] at q
              exact ⟨ρ5, _, o, kvs, q, sm.trans xx.same, fun a ha => (xx.tmp a (List.mem_cons_of_mem _ ha)).trans (tm a ha), (xx.tmp D List.mem_cons_self).trans hacc, tbM xx.same hto, hl⟩
            | true =>
              refine L2.iteT ?_
              rw [if_pos rfl] at hl
              cases ei : fi1 δ4 with
              | none => rw [ei] at hl; cases hl
              | some y =>
                obtain ⟨ys, δ5⟩ := y
                rw [ei] at hl
                simp only [Option.bind_some] at hl
                split at hl
                case isFalse => cases hl
                rename_i n5
                cases er : dcD fl vs1 g1 tt1 tk tv ys kvs (wipeD δ5 vs1) with
                | none => rw [er] at hl; cases hl
                | some r =>
                  obtain ⟨o1, δ6⟩ := r
                  rw [er] at hl
                  simp only [Option.bind_some] at hl
                  split at hl
                  case isFalse => cases hl
                  rename_i n6
                  refine dc_in hw1 List.mem_cons_self s5 ((xx.tmp D List.mem_cons_self).trans hacc) (tbM xx.same hto) ei n5 er fun ρ7 H7 o7 s7 m7 t7 a7 d7 => ?_
                  have q := s7.wipe n6
                  rw [wipe_sub hv1, hwp] at q
                  exact ⟨ρ7, _, o7, o1, q, sm.trans (xx.same.trans m7), fun a ha => by
                    have ne : a ≠ D := fun z => by
                      subst z
                      exact (s1.trk.fresh hD).1 ha
                    exact (t7 a (List.mem_cons_of_mem _ ha) ne).trans ((xx.tmp a (List.mem_cons_of_mem _ ha)).trans (tm a ha)), a7, d7, hl⟩
      · have hd : xs.drop i = [] := List.drop_eq_nil_of_le (by omega)
        rw [hd] at hl
        cases hl
        refine .inl ⟨(sv i (D :: T) ρ2 H2 sm s2.trk).2 (by omega), ?_⟩
        have hh : hid T ρ2 (rm H2 D) = hid (D :: T) ρ2 H2 := hid_rm
        obtain ⟨a, b⟩ := comp_end s1 hno s2 sm tm hD
        rw [← rm_upd hacc]
        exact hq ρ2 D (rm H2 D) o a (x1.trans b) rm_self (show TbO K (hid T ρ2 (rm H2 D)) o _ by rw [hh]; exact hto)
end
section
variable {X : Cx}
theorem de_dc2 (fl : Bool) {k : Nat} {kx vx tg iter tg1 iter1 : Expr} {ifs ifs1 : List Expr} {scope : Scope} {own : List (Str × Nat)} {pos : Pos} {ws vs1 ws1 : List Nat} {fi fi1 : IEV} {g g1 : GEV} {tt tt1 : TEV} {tk tv : EV} (hr : Room k X.A) (hc : X.calm = true) (hN : X.N.Nodup) (hi : DI X tg iter fi) (ok : BlkOk X.N X.env.scope scope own) (hw : ∀ j ∈ ws, j ∈ own.map (·.2)) (hw1 : ∀ j ∈ ws1, j ∈ vs1) (hv1 : ∀ j ∈ vs1, j ∈ own.map (·.2))
    (hg : ∀ (s : Shared) (H : Hp) (C : Addr) (cl : List (Str × Addr)) (fp : List Addr), DG (X.blk s H scope (compEnvC scope cl C X.env) fp) ws tg g)
    (ht : ∀ (s : Shared) (H : Hp) (C : Addr) (cl : List (Str × Addr)) (fp : List Addr), DTs (X.blk s H scope (compEnvC scope cl C X.env) fp) ifs tt)
    (hi1 : ∀ (s : Shared) (H : Hp) (C : Addr) (cl : List (Str × Addr)) (fp : List Addr), DI (X.blk s H scope (compEnvC scope cl C X.env) fp) tg1 iter1 fi1)
    (hg1 : ∀ (s : Shared) (H : Hp) (C : Addr) (cl : List (Str × Addr)) (fp : List Addr), DG (X.blk s H scope (compEnvC scope cl C X.env) fp) ws1 tg1 g1)
    (ht1 : ∀ (s : Shared) (H : Hp) (C : Addr) (cl : List (Str × Addr)) (fp : List Addr), DTs (X.blk s H scope (compEnvC scope cl C X.env) fp) ifs1 tt1)
    (hk : ∀ (s : Shared) (H : Hp) (C : Addr) (cl : List (Str × Addr)) (fp : List Addr), DE (X.blk s H scope (compEnvC scope cl C X.env) fp) kx tk)
    (he : ∀ (s : Shared) (H : Hp) (C : Addr) (cl : List (Str × Addr)) (fp : List Addr), DE (X.blk s H scope (compEnvC scope cl C X.env) fp) vx tv) (hs : ∀ x, foldedSetIterable iter X.env x = pure x := by intro _; rfl) (hs1 : ∀ (env : Env) x, foldedSetIterable iter1 env x = pure x := by intro _ _; rfl) :
    DE X (.DictComp kx vx [⟨tg, iter, ifs, 0⟩, ⟨tg1, iter1, ifs1, 0⟩] scope pos) (dc2E fl (own.map (·.2)) vs1 fi g tt fi1 g1 tt1 tk tv) := pe_imp (pe_gd2 (newOk fl) (by have := hr.un; omega) hc hN hi ok hv1 hg ht hi1 hg1 ht1 hk he hs hs1) (dc2_ok hw hw1 hv1)
end
end DL

namespace DL
open PySem PySem.Spec PyProof.Rows L2

/-! ### tuples that have tables in them: made, and taken apart -/
def M.s : M → S
  | .d x => .d x
  | .t x => .t x
theorem mv_sv {K : PySem.W.Frag} {G : Hp} {v : V} : ∀ {m : M}, MV K G v m → SV K G v m.s
  | .d _, h => h
  | .t _, h => h
def packA : List PV → Option (List M)
  | [] => some []
  | .v (.d x) :: ps => (packA ps).map (M.d x :: ·)
  | .v (.t x) :: ps => (packA ps).map (M.t x :: ·)
  | _ => none
section
variable {K : PySem.W.Frag} {T : List Addr} {ρ : List (Option Addr)} {H : Hp} {σ : L2.St}
theorem pack_mv : ∀ {vs : List V} {ps : List PV} {ms : List M}, Paired (PAt K T ρ H σ) vs ps → packA ps = some ms → Paired (MV K (hid T ρ H)) vs ms
  | _, _, _, .nil, hr => by cases hr; exact .nil
  | _, .v (.d x) :: ps, ms, .cons a b, hr => by
    have hr' : (packA ps).map (M.d x :: ·) = some ms := hr
    cases e2 : packA ps with
    | none => rw [e2] at hr'; cases hr'
    | some r =>
      rw [e2] at hr'
      cases hr'
      exact .cons a (pack_mv b e2)
  | _, .v (.t x) :: ps, ms, .cons a b, hr => by
    have hr' : (packA ps).map (M.t x :: ·) = some ms := hr
    cases e2 : packA ps with
    | none => rw [e2] at hr'; cases hr'
    | some r =>
      rw [e2] at hr'
      cases hr'
      exact .cons a (pack_mv b e2)
  | _, .v (.z x) :: ps, ds, .cons a b, hr => by cases hr
  | _, .v (.p x) :: ps, ds, .cons a b, hr => by cases hr
  | _, .v (.o x) :: ps, ds, .cons a b, hr => by cases hr
  | _, .own x :: ps, ds, .cons a b, hr => by cases hr
end
def tupP (fa : AEV) : EV := fun δ => (fa δ).bind fun x => (packA x.1).bind fun ms => if ms.length ≤ sizeLine then some (.p ms, x.2) else none
def setM : List Nat → List M → Ds → Option Ds
  | [], [], δ => some δ
  | i :: is, m :: ms, δ => setM is ms (δ.set i (some m.s))
  | _, _, _ => none
def liftMs (K : PySem.W.Frag) (is : List Nat) : TGs := fun ws σ H Q => ∃ T ρ δ ms δ', Sim K T ρ δ σ H ∧ Paired (MV K (hid T ρ H)) ws ms ∧ setM is ms δ = some δ' ∧ ∀ ρ' σ' H', Sim K T ρ' δ' σ' H' → Ext T ρ H ρ' H' → Only is σ σ' → Q σ' H'
def liftM (K : PySem.W.Frag) (is : List Nat) : TG := fun v σ H Q => ∃ T ρ δ ms δ', Sim K T ρ δ σ H ∧ SV K (hid T ρ H) v (.p ms) ∧ setM is ms δ = some δ' ∧ ∀ ρ' σ' H', Sim K T ρ' δ' σ' H' → Ext T ρ H ρ' H' → Only is σ σ' → Q σ' H'
def unpP (f : PEV) (is : List Nat) : SEV := fun δ => (f δ).bind fun x => match x.1 with
  | .v (.p ms) => (setM is ms x.2).map fun δ' => .nx δ'
  | _ => none
section
variable {X : Cx} {pos : Pos} {e : Expr} {P : List Nat} {fp : PEV}
theorem de_tupP {es : List Expr} {fa : AEV} {k} (h : DA X es fa) : DE X (.Tuple es k pos) (tupP fa) := pe_imp (pe_tup h) fun σ H Q ⟨T, ρ, δ, s, δ', hs, hf, hq⟩ => by
  unfold tupP at hf
  cases ea : fa δ with
  | none => rw [ea] at hf; cases hf
  | some x =>
    rw [ea] at hf
    simp only [Option.bind_some] at hf
    cases eb : packA x.1 with
    | none => rw [eb] at hf; cases hf
    | some ms =>
      rw [eb] at hf
      simp only [Option.bind_some] at hf
      split at hf
      · rename_i hl
        cases hf
        refine ⟨T, ρ, δ, x.1, x.2, hs, by rw [ea], fun ρ1 vs H1 s1 x1 p1 => ?_⟩
        have hd := pack_mv p1 eb
        refine ⟨by rw [Paired.length hd]; exact hl, fun p hp => ?_⟩
        have hm := same_new (o := .tup vs) hp
        exact hq ρ1 (.ref p) _ (s1.mono hm) (x1.trans (s1.trk.extT hm)) ⟨p, rfl, vs, s1.trk.hidNew hp, Paired.mapP hd fun _ _ z => mvM (hid_mono hm) z⟩
      · cases hf
theorem dms_nil : PGs X [] (liftMs X.K []) := pgs_imp pgs_nil fun ws σ H Q ⟨T, ρ, δ, ms, δ', hs, hd, hg, hq⟩ => by
  cases hd with
  | nil =>
    cases hg
    exact ⟨rfl, hq ρ σ H hs .refl .refl⟩
  | cons a b => cases hg
theorem dms_cons {i : Nat} {x : Str} {is : List Nat} {es : List Expr} {p1 : Pos} (hN : X.N.Nodup) (hi : X.N[i]? = some x) (hx : Loc X.env.scope x) (h2 : PGs X es (liftMs X.K is)) (hf : X.fn x = true ∨ X.env.scope.names.lookup x = some .local := by first | exact .inl rfl | exact .inr rfl | assumption)
    (h3 : (assignEach (.Name x p1 :: es) X.env).map (·.2) = assign (.Name x p1) X.env :: (assignEach es X.env).map (·.2) := by rfl) : PGs X (.Name x p1 :: es) (liftMs X.K (i :: is)) := pgs_imp (pgs_cons (pg_name hN hi hx hf) h2 h3) fun us σ H Q ⟨T, ρ, δ, ms, δ', hs, hd, hg, hq⟩ => by
  cases hd with
  | nil => cases hg
  | @cons u m us ms q1 q2 =>
    have hg' : setM is ms (δ.set i (some m.s)) = some δ' := hg
    obtain ⟨a, b⟩ := hs.setD (i := i) (v := u) (s := m.s) (mv_sv q1)
    refine ⟨_, _, rfl, ?_⟩
    exact ⟨T, _, _, ms, δ', a, Paired.mapP q2 fun _ _ z => mvM b.same z, hg', fun ρ2 σ2 H2 s2 x2 o2 => hq ρ2 σ2 H2 s2 (b.trans x2) (Only.trans (vs := [i]) only_set o2)⟩
theorem dm_tup {is : List Nat} {es : List Expr} {k n : Nat} (hc : X.calm = true) (h : PGs X es (liftMs X.K is)) (hni : is.length = n) (hn : (assignEach es X.env).length = n := by rfl) (hst : (assignEach es X.env).findIdx? (·.1) = none := by rfl) : PG X (.Tuple es k pos) (liftM X.K is) := pg_imp (pg_tup hc h hn hst) fun v σ H Q ⟨T, ρ, δ, ms, δ', hs, hd, hg, hq⟩ => by
  obtain ⟨a, rfl, vs, h1, h2⟩ := hd
  have hlen : ∀ (is : List Nat) (ms : List M) (δ δ' : Ds), setM is ms δ = some δ' → ms.length = is.length := by
    intro is
    induction is with
    | nil => intro ms δ δ' h; cases ms with
      | nil => rfl
      | cons m ms => cases h
    | cons i is ih => intro ms δ δ' h; cases ms with
      | nil => cases h
      | cons m ms => rw [List.length_cons, List.length_cons, ih ms _ _ h]
  exact ⟨_, _, rfl, SqT.of (hid_same _ _ h1), by rw [Paired.length h2, hlen _ _ _ _ hg, hni], T, ρ, δ, ms, δ', hs, h2, hg, hq⟩
theorem ds_unpP {is : List Nat} {tg : Expr} (hP : ∀ i ∈ P, i ∉ is) (he : DP X e fp) (hg : PG X tg (liftM X.K is)) (hs : swapsWithSole [tg] e pos.line X.env = pure false := by rfl) (hw : swappedStores [tg] e X.env = pure none := by rfl)
    (h1 : (assignEach [tg] X.env).map (·.2) = [assign tg X.env] := by rfl) : DS X P (.Assign [tg] e pos) (unpP fp is) := ps_imp (ps_asg he hg hs hw h1) fun D σ H ⟨T, ρ, δ, o, hs, hf, hq⟩ => by
  unfold unpP at hf
  cases ea : fp δ with
  | none => rw [ea] at hf; cases hf
  | some x =>
    obtain ⟨pv, δ1⟩ := x
    rw [ea] at hf
    simp only [Option.bind_some] at hf
    split at hf
    case h_2 => cases hf
    rename_i ms
    cases eg : setM is ms δ1 with
    | none => rw [eg] at hf; cases hf
    | some δ2 =>
      rw [eg] at hf
      cases hf
      refine ⟨T, ρ, δ, _, δ1, hs, ea, fun ρ1 v H1 s1 x1 p1 => ?_⟩
      refine ⟨T, ρ1, δ1, ms, δ2, s1, p1, eg, fun ρ2 σ2 H2 s2 x2 o2 => ?_⟩
      exact hq ρ2 σ2 H2 s2 (x1.trans x2) fun i hi => o2.2 i (hP i hi)
end
end DL

namespace DL
open PySem PySem.Spec PyProof.Rows L2

/-! ### table.get(key, other) -/
def getE (ft fk fd : PEV) : EV := fun δ => (ft δ).bind fun x => (res x.2 x.1).bind fun u0 => (asTb u0).bind fun _ => (fk x.2).bind fun y => (fd y.2).bind fun z => (res z.2 x.1).bind fun u => (asTb u).bind fun t => (res z.2 y.1).bind fun kk => (keyS kk).bind fun q =>
  match z.1 with
  | .v (.d d) => if q.1 = t.fl then some (.d ((valK t.kvs q.2).getD d), z.2) else none
  | _ => none
section
variable {X : Cx} {o e f : Expr} {apos cpos : Pos} {ft fk fd : PEV} {k : Nat}
theorem de_get2 (hr : Room k X.A) (hd : DP X o ft) (he : DP X e fk) (hf : DP X f fd) (m : M2 X o "get" apos e f cpos) : DE X (.Call (.Attribute o "get" apos) [e, f] [] cpos) (getE ft fk fd) := pe_imp (pe_dget2 (by have := hr.un; omega) hd he hf m) fun σ H Q ⟨T, ρ, δ, s, δ', hs, hfn, hq⟩ => by
  unfold getE at hfn
  cases e1 : ft δ with
  | none => rw [e1] at hfn; cases hfn
  | some x =>
    rw [e1] at hfn
    simp only [Option.bind_some] at hfn
    cases r1 : res x.2 x.1 with
    | none => rw [r1] at hfn; cases hfn
    | some u0 =>
      rw [r1] at hfn
      simp only [Option.bind_some] at hfn
      cases t1 : asTb u0 with
      | none => rw [t1] at hfn; cases hfn
      | some t0 =>
        rw [t1] at hfn
        simp only [Option.bind_some] at hfn
        cases e2 : fk x.2 with
        | none => rw [e2] at hfn; cases hfn
        | some y =>
          rw [e2] at hfn
          simp only [Option.bind_some] at hfn
          cases e3 : fd y.2 with
          | none => rw [e3] at hfn; cases hfn
          | some z =>
            rw [e3] at hfn
            simp only [Option.bind_some] at hfn
            cases r3 : res z.2 x.1 with
            | none => rw [r3] at hfn; cases hfn
            | some u =>
              rw [r3] at hfn
              simp only [Option.bind_some] at hfn
              cases t3 : asTb u with
              | none => rw [t3] at hfn; cases hfn
              | some t =>
                rw [t3] at hfn
                simp only [Option.bind_some] at hfn
                cases r4 : res z.2 y.1 with
                | none => rw [r4] at hfn; cases hfn
                | some kk =>
                  rw [r4] at hfn
                  simp only [Option.bind_some] at hfn
                  cases k4 : keyS kk with
                  | none => rw [k4] at hfn; cases hfn
                  | some q =>
                    rw [k4] at hfn
                    simp only [Option.bind_some] at hfn
                    obtain ⟨pz, δz⟩ := z
                    simp only at hfn r3 r4
                    split at hfn
                    case h_2 => cases hfn
                    rename_i pz' d
                    split at hfn
                    case isFalse => cases hfn
                    rename_i hfl
                    cases hfn
                    refine ⟨T, ρ, δ, x.1, x.2, hs, by rw [e1], fun ρ1 v1 H1 s1 x1 p1 => ?_⟩
                    obtain ⟨a, oo, rfl, ha, to⟩ := at_tb (pat_at s1 .refl p1 r1) t1
                    refine ⟨a, rfl, ?_, T, ρ1, x.2, y.1, y.2, s1, by rw [e2], fun ρ2 v2 H2 s2 x2 p2 => ?_⟩
                    · rcases to with ⟨_, ws, rfl, _⟩ | ⟨_, ws, rfl, _⟩
                      · exact .inr ⟨ws, .inl ha⟩
                      · exact .inl ⟨ws, .inl ha⟩
                    refine ⟨T, ρ2, y.2, .v (.d d), δ', s2, e3, fun ρ3 v3 H3 s3 x3 p3 => ?_⟩
                    have pa := pat_at s3 (x2.trans x3) p1 r3
                    have pk := pat_at s3 x3 p2 r4
                    obtain ⟨c, r, ec, g, hr'⟩ := tb_get pk pa (k := q.2) (by rw [← hfl]; exact k4) t3
                    cases ec
                    refine ⟨r, g, ?_⟩
                    have xx := x1.trans (x2.trans x3)
                    rcases hr' with ⟨rfl, hk⟩ | ⟨v, dd, rfl, hk, hdq⟩
                    · rw [hk] at hq
                      exact hq ρ3 v3 H3 s3 xx p3
                    · rw [hk] at hq
                      exact hq ρ3 v H3 s3 xx hdq
end
end DL

namespace DL
open PySem PySem.Spec PyProof.Rows L2

/-! ### a tuple by 0 or 1 -/
theorem tuple_mul1 (l : Addr) (items : Array Value) (n : Nat) (dd : Option Addr) (sl : Array (Option Value)) (u : Tok) :
    Meets (Builtin.«tuple.__mul__» ⟨[.ref l, .int 1 u], []⟩) (fun _ R s => s.heap.get? l = some { cls := .type "tuple", dict := dd, data := .seq items n, slots := sl } ∧ R (.ok (.ret (Value.ref l))) s) :=
  .of_wp fun prog w A R s h => by
    obtain ⟨hp, g, d, tk, os⟩ := s
    obtain ⟨hl, h⟩ := h
    have f1 := AutoSeq1.idx_int
    wp_walk using wpAny_loadPart' hl
    exact ⟨_, rfl, h⟩
theorem tuple_mul0 (l : Addr) (items : Array Value) (n : Nat) (dd : Option Addr) (sl : Array (Option Value)) (u : Tok) (hi : items.isEmpty = false) :
    Meets (Builtin.«tuple.__mul__» ⟨[.ref l, .int 0 u], []⟩) (fun _ R s => s.heap.get? l = some { cls := .type "tuple", dict := dd, data := .seq items n, slots := sl } ∧ R (.ok (.ret (Value.ref s.heap.objs.size))) { s with heap := s.heap.push { cls := Value.type "tuple", data := Data.seq #[] }, toks := s.toks }) :=
  .of_wp fun prog w A R s h => by
    obtain ⟨hp, g, d, tk, os⟩ := s
    obtain ⟨hl, h⟩ := h
    have f1 := AutoSeq1.idx_int
    wp_walk using wpAny_loadPart' hl
    exact ⟨_, rfl, h⟩
def rRep1 (K : PySem.W.Frag) : R2 := fun x y H Q => ∃ l xs, x = .ref l ∧ y = .int 1 ∧ SqT K H l xs ∧ Q (.ref l) H
def rRep0 (K : PySem.W.Frag) : R2 := fun x y H Q => ∃ l xs, x = .ref l ∧ y = .int 0 ∧ SqT K H l xs ∧ xs ≠ [] ∧ ∀ p, H p = none → Q (.ref p) (upd H p (.tup []))
section
variable {X : Cx} {a b : Expr} {pos : Pos} {fa fb : PEV}
theorem op_rep1 : OpR X (binaryOp .Mult) (rRep1 X.K) := by
  intro pins s σ H x y v u Q I rx ry h
  obtain ⟨l, xs, rfl, rfl, hT, q⟩ := h
  cases rx
  obtain ⟨t, rfl⟩ := ry
  obtain ⟨its, r, ⟨⟨cls, dd, data, sl⟩, ho, hc, n, hd⟩, hs⟩ := I.tuple hT
  simp only at hc hd
  subst hc hd
  refine wpAny_binaryOp_repeat_ref (T := "tuple") (U := "int") (by decide) ⟨_, ho, rfl⟩ (fun s' => typeIs_int s' 1 t) noFill_tuple_mul F.fills_int_mul F.slot_int_rmul repeat_tuple F.slot_int_index.lookup
    (call_meets F.slot_int_rmul (typeIs_int s 1 t) F.entry_int_rmul (F.args_int_rmul_2 _ _) (int_rmul_tuple 1 t l its.toArray n dd sl)
      ⟨ho, rfl, ⟨_, ho, rfl⟩, call_meets F.slot_tuple_mul ⟨_, ho, rfl⟩ F.entry_tuple_mul (F.args_tuple_mul_2 _ _) (tuple_mul1 l its.toArray n dd sl t) ⟨ho, ?_⟩⟩)
  exact ⟨.ref l, H, I, rfl, q⟩
theorem op_rep0 : OpR X (binaryOp .Mult) (rRep0 X.K) := by
  intro pins s σ H x y v u Q I rx ry h
  obtain ⟨l, xs, rfl, rfl, hT, hne, q⟩ := h
  cases rx
  obtain ⟨t, rfl⟩ := ry
  obtain ⟨its, r, ⟨⟨cls, dd, data, sl⟩, ho, hc, n, hd⟩, hs⟩ := I.tuple hT
  simp only at hc hd
  subst hc hd
  have hle : its.length = xs.length := r.length.symm
  have hi : its.toArray.isEmpty = false := by
    cases its with
    | nil => exact absurd (List.eq_nil_of_length_eq_zero hle.symm) hne
    | cons a b => rfl
  refine wpAny_binaryOp_repeat_ref (T := "tuple") (U := "int") (by decide) ⟨_, ho, rfl⟩ (fun s' => typeIs_int s' 0 t) noFill_tuple_mul F.fills_int_mul F.slot_int_rmul repeat_tuple F.slot_int_index.lookup
    (call_meets F.slot_int_rmul (typeIs_int s 0 t) F.entry_int_rmul (F.args_int_rmul_2 _ _) (int_rmul_tuple 0 t l its.toArray n dd sl)
      ⟨ho, rfl, ⟨_, ho, rfl⟩, call_meets F.slot_tuple_mul ⟨_, ho, rfl⟩ F.entry_tuple_mul (F.args_tuple_mul_2 _ _) (tuple_mul0 l its.toArray n dd sl t hi) ⟨ho, ?_⟩⟩)
  refine ⟨.ref s.heap.objs.size, _, I.laid (t' := s.toks) (o := .tup []) (fun b ob q => Heap.get?_push_of_some _ q) (Nat.le_refl _) ?_, rfl, q _ (I.hok.fresh (Nat.le_refl _))⟩
  exact ⟨by rw [sizeLine_eq]; exact Nat.zero_le _, [], .nil, IsTup.new _ _⟩
def opMulT (a b : S) : Option S := (asI b).bind fun j => (asT a).bind fun xs => if j = 1 then some (.d (.tuple xs)) else if j = 0 ∧ xs ≠ [] then some (.d (.tuple [])) else none
theorem od_mulT {K : PySem.W.Frag} : OpD K (fun x y H Q => rRep1 K x y H Q ∨ rRep0 K x y H Q) opMulT := fun T ρ H x y a b s Q k ha hb hg hq => by
  unfold opMulT at hg
  cases e2 : asI b with
  | none => rw [e2] at hg; cases hg
  | some j =>
    rw [e2] at hg
    simp only [Option.bind_some] at hg
    cases e1 : asT a with
    | none => rw [e1] at hg; cases hg
    | some xs =>
      rw [e1] at hg
      simp only [Option.bind_some] at hg
      obtain ⟨p, vs, rfl, h1, h2⟩ := at_T ha e1
      have hb' := at_I hb e2
      split at hg
      · rename_i hj
        subst hj
        cases hg
        exact .inl ⟨p, vs, rfl, hb', SqT.of (hid_same _ _ h1), postO_same hq (.tup h1 h2)⟩
      · split at hg
        · rename_i hj
          obtain ⟨rfl, hne⟩ := hj
          cases hg
          refine .inr ⟨p, vs, rfl, hb', SqT.of (hid_same _ _ h1), fun z => ?_, fun n hn => postO_tup k hq .nil hn⟩
          subst z
          cases h2
          exact hne rfl
        · cases hg
theorem de_mulT (ha : DP X a fa) (hb : DP X b fb) : DE X (.BinOp a .Mult b pos) (bin opMulT fa fb) := de_op (opr_or op_rep1 op_rep0) od_mulT ha hb
end
end DL

namespace DL
open PySem PySem.Spec PyProof.Rows L2 DLS

/-! ### sorted(tuple), its members tuples of numbers -/
def rSortedTT (K : PySem.W.Frag) : List V → Hp → VK → Prop := fun vs H Q => ∃ (a : Addr) (xs : List V) (k : V → List Int), vs = [V.ref a] ∧ SqT K H a xs ∧ (∀ x ∈ xs, ∃ t, x = V.ref t ∧ H t = some (.tup ((k x).map V.int))) ∧ (xs.length < 2 ∨ ∀ x ∈ xs, k x ≠ []) ∧
  ∀ ys p, SrtO.Srtd (fun x y => lexL (k x) (k y)) ys → SrtO.Stb (fun x y => lexL (k x) (k y)) ys xs → H p = none → Q (.ref p) (upd H p (.lst ys))
def fSortedTT : List S → Option S
  | [s] => (asT s).bind fun xs => (rowsP xs).bind fun rs => if rs.length < 2 ∨ (rs.all fun r => !r.isEmpty) = true then some (.o (.l ((sortT rs).map tupI))) else none
  | _ => none
section
variable {X : Cx}
theorem cr_sortedTT : CallR X (.builtin "sorted") (rSortedTT X.K) := by
  intro pins s σ H vs us Q I r h
  obtain ⟨a, xs, k, rfl, hs, hx, hne, q⟩ := h
  obtain ⟨its, rv, ⟨o, ho, hc, n, hd⟩, hz⟩ := I.tuple hs
  obtain ⟨u, rfl, ru⟩ := vals1 r
  cases (show u = Value.ref a from ru)
  obtain ⟨e1, e2⟩ := refs_back rv fun x m => let ⟨t, e, _⟩ := hx x m; ⟨t, e⟩
  have each : ∀ v ∈ its, IsTupI s.heap v (k (backV v)) := fun v hv => by
    obtain ⟨t, rfl⟩ := e2 v hv
    have hm : V.ref t ∈ xs := e1 ▸ List.mem_map.mpr ⟨_, hv, rfl⟩
    obtain ⟨t', e, ht⟩ := hx _ hm
    cases e
    obtain ⟨_, its2, r2, o, ho, hc, n, hd⟩ := I.hok _ _ ht
    exact ⟨t, o, its2, n, rfl, ho, hc, hd, r2⟩
  have hlen : xs.length = its.length := rv.length
  have hz' : its.length ≤ sizeLine := by omega
  refine Calls.call_function_entry PyProof.Rows.kind_sorted PyProof.Rows.plain_sorted PyProof.Rows.entry_sorted (PyProof.Rows.args_sorted1 _) ?_
  unfold Builtin.«sorted»
  refine wpAny_bind (m := checkCount "sorted" 1 1 _) (wpAny_pure ?_)
  refine wpAny_bind (wpAny_collect_seq (A := X.A.in1) a (T := "tuple") (.inr rfl) ho hc hd (fun h' hkp => ?_) (by rw [List.size_toArray]; exact hz'))
  have I1 : Inv X pins σ H { s with heap := h', toks := s.toks } := I.kept hkp
  rw [List.toList_toArray]
  refine wpAny_bind (wpAny_newList ?_ hz')
  have hoL : (h'.push (seqObj "list" its.toArray 0)).get? h'.objs.size = some (seqObj "list" its.toArray 0) := Heap.get?_push_size _ rfl
  show wpAny _ _ _ _ _ { s with heap := h'.push (seqObj "list" its.toArray 0), toks := s.toks }
  refine wpAny_bind (wpAny_holding (wpAny_call_entry PyProof.Rows.slot_list_sort ⟨_, hoL, rfl⟩ PyProof.Rows.entry_list_sort
    (SrtO.list_sort_ord (s := { s with heap := h'.push (seqObj "list" its.toArray 0), toks := s.toks }) (swoL fun u => k (backV u)) hoL hz' (fun h2 => ?_) fun out g1 g2 => ⟨_, rfl, ?_⟩) (PyProof.Rows.args_list_sort _)))
  · refine tups_sortable (s := { s with heap := h'.push (seqObj "list" its.toArray 0), toks := s.toks }) (by omega) (fun v hv => ⟨(each v hv).keeps fun c o e _ => Heap.get?_push_of_some _ (hkp c o e), ?_⟩) fun o e => ?_
    · rcases hne with hne | hne
      · omega
      · obtain ⟨t, rfl⟩ := e2 v hv
        exact hne _ (e1 ▸ List.mem_map.mpr ⟨_, hv, rfl⟩)
    · have e' : some o = some (seqObj "list" its.toArray 0) := e.symm.trans hoL
      cases e'
      exact fun c => absurd (Value.type.inj c) (by decide)
  · have h3 : ∀ u ∈ out, ∃ a, u = Value.ref a := fun u hu => e2 u (g2.perm.mem_iff.mp hu)
    have hb : SrtO.Stb (fun x y => lexL (k x) (k y)) (out.map backV) xs := e1 ▸ SrtO.Stb.map (swoL k) backV g2
    obtain ⟨e', he'⟩ := PyProof.Rows.sortedHeap_at (vs := its) (out := out.toArray) hoL
    have hlen2 : (out.map backV).length ≤ sizeLine := by
      rw [List.length_map, g2.len]
      exact hz'
    refine wpAny_pure ⟨_, rfl, .ref h'.objs.size, upd H h'.objs.size (.lst (out.map backV)), I1.laid (t' := s.toks) (fun b u e => ?_) (Nat.le_refl _)
      (show ObjOk X.prog X.w _ _ _ (.lst (out.map backV)) from ⟨hlen2, out, e', vals_back h3, he'⟩), rfl, q _ _ (SrtO.srtd_map g1) hb (I1.hok.fresh (Nat.le_refl _))⟩
    have hb : b < h'.objs.size := Heap.lt_size e
    rw [PyProof.Rows.sortedHeap_old (Nat.ne_of_lt hb) (by rw [size_push']; exact Nat.lt_succ_of_lt hb)]
    exact Heap.get?_push_of_some _ e
end
theorem cd_sortedTT {K : PySem.W.Frag} : CallD K (rSortedTT K) fSortedTT := fun T ρ H vs ss s Q k hp hg hq => by
  unfold fSortedTT at hg
  split at hg
  case h_2 => cases hg
  rename_i u
  obtain ⟨v, rfl, h⟩ := paired1 hp
  cases e : asT u with
  | none => rw [e] at hg; cases hg
  | some xs =>
    rw [e] at hg
    simp only [Option.bind_some] at hg
    cases ep : rowsP xs with
    | none => rw [ep] at hg; cases hg
    | some rs =>
      rw [ep] at hg
      simp only [Option.bind_some] at hg
      split at hg
      case isFalse => cases hg
      rename_i hc
      cases hg
      obtain ⟨a, ws, rfl, h1, h2⟩ := at_T h e
      have ex := rowsP_eq ep
      subst ex
      have each : ∀ v ∈ ws, (∃ t, v = .ref t ∧ H t = some (.tup ((keyVT H v).map V.int))) ∧ Dq K (hid T ρ H) v (tupI (keyVT H v)) ∧ keyVT H v ∈ rs := fun v hv => by
        obtain ⟨d, hd, q⟩ := dqAll_mem h2 hv
        obtain ⟨r, hr, rfl⟩ := List.mem_map.mp hd
        obtain ⟨q1, q2⟩ := dq_tupI hid_same q
        rw [q1]
        exact ⟨q2, q, hr⟩
      have hlen : ws.length = rs.length := by
        have := dpAll_len h2
        rw [List.length_map] at this
        exact this
      have kws : ws.map (keyVT H) = rs := by
        apply List.ext_getElem?
        intro i
        rw [List.getElem?_map]
        cases ei : ws[i]? with
        | none =>
          have hl := List.getElem?_eq_none_iff.mp ei
          rw [List.getElem?_eq_none (by omega)]
          rfl
        | some v =>
          obtain ⟨d, e1, q⟩ := dpAll_getV h2 ei
          rw [List.getElem?_map] at e1
          cases e2 : rs[i]? with
          | none => rw [e2] at e1; cases e1
          | some r =>
            rw [e2] at e1
            cases e1
            exact congrArg some (dq_tupI hid_same q).1
      refine ⟨a, ws, keyVT H, rfl, SqT.of (hid_same _ _ h1), fun v hv => (each v hv).1, ?_, fun ys n h3 h4 hn => ?_⟩
      · rcases hc with hc | hc
        · exact .inl (by omega)
        · refine .inr fun v hv z => ?_
          have := List.all_eq_true.mp hc _ (each v hv).2.2
          rw [z] at this
          cases this
      have ey : ys.map (keyVT H) = sortT rs := by
        refine perm_uniq (R := fun a b => lexL b a = false) (fun a b h1 h2 => lexL_anti a b h2 h1) ?_ ?_ (isort_sorted (fun a b => lexL_asym a b) (fun a b c => lexL_tr a b c) _)
        · have := h4.perm.map (keyVT H)
          rw [kws] at this
          exact this.trans (isort_perm rs).symm
        · exact List.pairwise_map.mpr h3
      refine hq n _ hn ⟨ys, rfl, ?_⟩
      rw [← ey, List.map_map]
      exact dqAll_of fun v hv => (each v (h4.perm.mem_iff.mp hv)).2.1
section
variable {X : Cx} {e : Expr} {es : List Expr} {pos p : Pos} {fa : AEV}
theorem de_sortedTT (hm : X.mg "sorted" = none) (hg : Gl X "sorted") (ha : DA X (e :: es) fa) (he : starEach (e :: es) X.env = (false, eval e X.env) :: starEach es X.env := by rfl) (hpl : (backTo pos (starEach es X.env)).any (·.1) = false := by rfl) : DE X (.Call (.Name "sorted" p) (e :: es) [] pos) (callB fSortedTT fa) :=
  de_callB cr_sortedTT cd_sortedTT hg hm (by decide +kernel) ha (by decide) (by decide) he hpl
/-! ### {text: text, ..} -/
def strTab (kv : List (Str × Str)) : Tb := kv.foldl (fun a p => putD a [.inr p.1] (.str p.2)) []
def dispE (kv : List (Str × Str)) : EV := fun δ => some (.o (.t ⟨true, strTab kv⟩), δ)
theorem pps_str : ∀ (kv : List (Str × Str)) {ks : List (Option Expr)} {vs : List Expr}, Paired (fun (p : Str × Str) (q : Option Expr × Expr) => ∃ a b j k, q = (some (.Constant (.str p.1) j a), .Constant (.str p.2) k b)) kv (ks.zip vs) → ks.length = vs.length → ks.length = kv.length →
    PPs X pos ks vs (kv.map fun p => (tC (V.str p.1), tC (V.str p.2)))
  | [], [], [], _, _, _ => pps_nil
  | p :: kv, k :: ks, v :: vs, .cons h t, h1, h2 => by
    obtain ⟨a, b, j, l, e⟩ := h
    cases e
    exact pps_cons pe_str pe_str (pps_str kv t (by simpa using h1) (by simpa using h2))
theorem tPairs_str {σ : L2.St} : ∀ (kv : List (Str × Str)) {H : Hp} {Q : List (V × V) → Hp → Prop}, Q (kv.map fun p => (V.str p.1, V.str p.2)) H → tPairs (kv.map fun p => (tC (V.str p.1), tC (V.str p.2))) σ H Q
  | [], H, Q, h => h
  | p :: kv, H, Q, h => tPairs_str kv (Q := fun ps H3 => Q ((V.str p.1, V.str p.2) :: ps) H3) h
theorem upd_twice {H : Hp} {p : Addr} {o o' : HO} : upd (upd H p o) p o' = upd H p o' := by
  funext b
  by_cases h : b = p
  · subst h
    rw [upd_same, upd_same]
  · rw [upd_ne h, upd_ne h, upd_ne h]
theorem merge_tv {K : PySem.W.Frag} {G : Hp} : ∀ (kv : List (Str × Str)) {ws : List (Key × V)} {ds : Tb}, TV K G (ws.map fun p => ([p.1], p.2)) ds → TV K G ((mergeK ws (kv.map fun p => ((.inr p.1 : Key), V.str p.2))).map fun p => ([p.1], p.2)) (kv.foldl (fun a p => putD a [.inr p.1] (.str p.2)) ds)
  | [], ws, ds, h => h
  | p :: kv, ws, ds, h => by
    refine merge_tv kv (ws := putK ws (.inr p.1) (V.str p.2)) ?_
    rw [put_one]
    exact tv_put h (.str _)
theorem de_disp (kv : List (Str × Str)) {ks : List (Option Expr)} {vs : List Expr} (hp : Paired (fun (p : Str × Str) (q : Option Expr × Expr) => ∃ a b j k, q = (some (.Constant (.str p.1) j a), .Constant (.str p.2) k b)) kv (ks.zip vs)) (h1 : ks.length = vs.length) (h2 : ks.length = kv.length) (hall : ks.all (·.isSome) = true) (h0 : ks ≠ []) (h15 : ks.length ≤ 15) :
    DE X (.Dict ks vs pos) (dispE kv) := pe_imp (pe_disp (pps_str kv hp h1 h2) hall h1 h0 h15) fun σ H Q ⟨T, ρ, δ, s, δ', hs, hf, hq⟩ => by
  cases hf
  intro q hn
  refine tPairs_str kv ⟨upd_same, kv.map fun p => ((.inr p.1 : Key), V.str p.2), ?_, by rw [List.length_map]; omega, ?_⟩
  · rw [List.map_map]
    rfl
  · rw [upd_twice]
    exact hq ρ q H _ hs .refl hn (.inr ⟨rfl, _, rfl, merge_tv kv .nil⟩)
end
end DL

namespace DL
open PySem PySem.Spec PyProof.Rows L2 DLS

/-! ### len(table) -/
def fLenX : List S → Option S
  | [s] => (asTb s).bind fun t => if t.fl = false then some (.d (.int (t.kvs.length : Nat))) else none
  | _ => none
theorem cd_lenX {K : PySem.W.Frag} : CallD K rLenT fLenX := fun T ρ H vs ss s Q k hp hg hq => by
  unfold fLenX at hg
  split at hg
  case h_2 => cases hg
  rename_i u
  obtain ⟨v, rfl, h⟩ := paired1 hp
  cases e : asTb u with
  | none => rw [e] at hg; cases hg
  | some t =>
    rw [e] at hg
    simp only [Option.bind_some] at hg
    split at hg
    case isFalse => cases hg
    rename_i hf
    cases hg
    obtain ⟨a, o, rfl, ha, to⟩ := at_tb h e
    rcases to with ⟨_, ws, rfl, tv⟩ | ⟨f', _⟩
    · refine ⟨a, ws, rfl, ha, ?_⟩
      rw [show ws.length = t.kvs.length from Paired.length tv]
      exact postO_same hq (.int _)
    · rw [hf] at f'; cases f'
section
variable {X : Cx} {e : Expr} {es : List Expr} {pos p : Pos} {fa : AEV}
theorem de_lenX (hm : X.mg "len" = none) (hg : Gl X "len") (ha : DA X (e :: es) fa) (he : starEach (e :: es) X.env = (false, eval e X.env) :: starEach es X.env := by rfl) (hpl : (backTo pos (starEach es X.env)).any (·.1) = false := by rfl) : DE X (.Call (.Name "len" p) (e :: es) [] pos) (callB fLenX fa) :=
  de_callB call_len_dT cd_lenX hg hm (by decide +kernel) ha (by decide) (by decide) he hpl
end
end DL

namespace DL
open PySem PySem.Spec PyProof.Rows L2
/-! ### two comparisons in one, as a test -/
section
variable {X : Cx} {a b c : Expr} {pos : Pos} {fa fb fc : PEV}
theorem chn_ok {r r' : R2} {g g' : S → S → Option S} (hd : OpD X.K r g) (hd' : OpD X.K r' g') (σ : L2.St) (H : Hp) (Q : V → Hp → Prop) (h : lift X.K (chn g g' fa fb fc) σ H Q) : tChain r r' (liftP X.K fa) (liftP X.K fb) (liftP X.K fc) σ H Q := by
  obtain ⟨T, ρ, δ, s, δ', hs, hf, hq⟩ := h
  unfold chn at hf
  cases ea : fa δ with
  | none => rw [ea] at hf; cases hf
  | some x =>
    rw [ea] at hf
    simp only [Option.bind_some] at hf
    cases eb : fb x.2 with
    | none => rw [eb] at hf; cases hf
    | some y =>
      rw [eb] at hf
      simp only [Option.bind_some] at hf
      cases e1 : res y.2 x.1 with
      | none => rw [e1] at hf; cases hf
      | some u =>
        rw [e1] at hf
        simp only [Option.bind_some] at hf
        cases e2 : res y.2 y.1 with
        | none => rw [e2] at hf; cases hf
        | some w =>
          rw [e2] at hf
          simp only [Option.bind_some] at hf
          cases e3 : g u w with
          | none => rw [e3] at hf; cases hf
          | some z =>
            rw [e3] at hf
            simp only [Option.bind_some] at hf
            refine ⟨T, ρ, δ, x.1, x.2, hs, by rw [ea], fun ρ1 v1 H1 s1 x1 p1 => ?_⟩
            refine ⟨T, ρ1, x.2, y.1, y.2, s1, by rw [eb], fun ρ2 v2 H2 s2 x2 p2 => ?_⟩
            split at hf
            · refine hd T ρ2 H2 v1 v2 u w (.d (.bool true)) _ s2.trk (pat_at s2 x2 p1 e1) (pat_at s2 .refl p2 e2) e3 fun v3 H3 m3 d3 => ?_
              cases (show Dq _ _ v3 (.bool true) from d3)
              have x3 := s2.trk.extT m3
              have s3 := s2.mono m3
              refine ⟨true, rfl, ?_⟩
              rw [if_pos rfl]
              cases ec : fc y.2 with
              | none => rw [ec] at hf; cases hf
              | some q =>
                rw [ec] at hf
                simp only [Option.bind_some] at hf
                cases e4 : res q.2 y.1 with
                | none => rw [e4] at hf; cases hf
                | some u' =>
                  rw [e4] at hf
                  simp only [Option.bind_some] at hf
                  cases e5 : res q.2 q.1 with
                  | none => rw [e5] at hf; cases hf
                  | some w' =>
                    rw [e5] at hf
                    simp only [Option.bind_some] at hf
                    cases e6 : g' u' w' with
                    | none => rw [e6] at hf; cases hf
                    | some z' =>
                      rw [e6] at hf
                      cases hf
                      refine ⟨T, ρ2, y.2, q.1, q.2, s3, by rw [ec], fun ρ4 v4 H4 s4 x4 p4 => ?_⟩
                      exact hd' T ρ4 H4 v2 v4 u' w' s Q s4.trk (pat_at s4 (x3.trans x4) p2 e4) (pat_at s4 .refl p4 e5) e6 (post_o s4 (x1.trans (x2.trans (x3.trans x4))) hq)
            · cases hf
              refine hd T ρ2 H2 v1 v2 u w (.d (.bool false)) _ s2.trk (pat_at s2 x2 p1 e1) (pat_at s2 .refl p2 e2) e3 fun v3 H3 m3 d3 => ?_
              cases (show Dq _ _ v3 (.bool false) from d3)
              refine ⟨false, rfl, ?_⟩
              rw [if_neg Bool.false_ne_true]
              exact hq ρ2 _ H3 (s2.mono m3) (x1.trans (x2.trans (s2.trk.extT m3))) (Dq.bl false)
            · cases hf

theorem dt_chain {op op' : CmpOp} {r r' : R2} {g g' : S → S → Option S} (ho : OpR X (compareOp op) r) (hd : OpD X.K r g) (ho' : OpR X (compareOp op') r') (hd' : OpD X.K r' g') (ha : DP X a fa) (hb : DP X b fb) (hc : DP X c fc) (hl : lastMarks [op, op'] [b, c] = false := by rfl) :
    DT X (.Compare a [op, op'] [b, c] pos) (bl (chn g g' fa fb fc)) := pt_imp (pt_chain ho ho' ha hb hc hl) fun σ H Q h => by
  have q := bl_ok σ H Q h
  exact chn_ok hd hd' σ H _ q
end
end DL

namespace DL
open PySem PySem.Spec PyProof.Rows L2 DLS

/-! ### dict(list of pairs), the keys tuples -/
/-- the pair's address, its key's address, the key, the value -/
abbrev PrT := Addr × Addr × List Key × V
def mergeT (kvs : List (List Key × V)) (more : List PrT) : List (List Key × V) := more.foldl (fun acc p => putK acc p.2.2.1 p.2.2.2) kvs
theorem mergeT_len : ∀ (more : List PrT) (kvs : List (List Key × V)), (mergeT kvs more).length ≤ kvs.length + more.length
  | [], kvs => Nat.le_refl _
  | p :: r, kvs => by
    have h1 := mergeT_len r (putK kvs p.2.2.1 p.2.2.2)
    have h2 := length_putK kvs p.2.2.1 p.2.2.2
    show (mergeT (putK kvs p.2.2.1 p.2.2.2) r).length ≤ _
    rw [List.length_cons]
    omega
def rDictT (K : PySem.W.Frag) : List V → Hp → VK → Prop := fun vs H Q => ∃ (a : Addr) (ps : List PrT), vs = [V.ref a] ∧ SqL K H a (ps.map fun p => V.ref p.1) ∧ (∀ p ∈ ps, SqT K H p.1 [V.ref p.2.1, p.2.2.2] ∧ H p.2.1 = some (.tup (p.2.2.1.map kV))) ∧
  ∀ d, H d = none → Q (.ref d) (upd H d (.dT (mergeT [] ps)))
abbrev RelPr (h : Heap) (p : PrT) (q : List Key × Addr × Value) : Prop := q.1 = p.2.2.1 ∧ q.2.1 = p.2.1 ∧ RelV p.2.2.2 q.2.2 ∧ h.IsTuple p.1 #[.ref p.2.1, q.2.2]
section
variable {X : Cx}
theorem pairsT_of {pins : List (Addr × Obj)} {σ : L2.St} {H : Hp} {s : Shared} (I : Inv X pins σ H s) : ∀ {ps : List PrT}, (∀ p ∈ ps, SqT X.K H p.1 [V.ref p.2.1, p.2.2.2] ∧ H p.2.1 = some (.tup (p.2.2.1.map kV))) → ∃ prs : List (List Key × Addr × Value), Paired (RelPr s.heap) ps prs
  | [], _ => ⟨[], .nil⟩
  | p :: ps, h => by
    obtain ⟨prs, hr⟩ := pairsT_of I (ps := ps) fun q hq => h q (List.mem_cons_of_mem _ hq)
    obtain ⟨its, rv, ⟨o, ho, hc, n, hd⟩, _⟩ := I.tuple (h p List.mem_cons_self).1
    obtain ⟨u, y, ei, ru, ry⟩ := vals2 rv
    subst ei
    cases (show u = Value.ref p.2.1 from ru)
    exact ⟨(p.2.2.1, p.2.1, y) :: prs, .cons ⟨rfl, rfl, ry, o, ho, hc, n, hd⟩ hr⟩
theorem kt_merge {H : Hp} {h : Heap} : ∀ {ps : List PrT} {prs : List (List Key × Addr × Value)} {acc : List (List Key × V)} {xs : List (List Key × Addr × Value)}, Paired (RelPr h) ps prs → (∀ p ∈ ps, H p.2.1 = some (.tup (p.2.2.1.map kV))) → KT H acc xs → KT H (mergeT acc ps) (storedAllH xs prs)
  | _, _, _, _, .nil, _, r => r
  | _, _, acc, xs, .cons (a := p) (b := q) hq t, hk, r => by
    have r2 := r.put p.2.2.1 (hk p List.mem_cons_self) hq.2.2.1
    have := kt_merge t (fun z hz => hk z (List.mem_cons_of_mem _ hz)) r2
    show KT H (mergeT (putK acc p.2.2.1 p.2.2.2) _) (storedAllH (storedH xs q.1 q.2.1 q.2.2) _)
    rw [hq.1, hq.2.1]
    exact this
theorem paired_at {α β : Type} {R : α → β → Prop} : ∀ {l : List α} {m : List β}, Paired R l m → ∀ {i : Nat} {y : β}, m[i]? = some y → ∃ x, l[i]? = some x ∧ R x y
  | _, _, .nil, i, y, e => by cases e
  | _, _, .cons h t, 0, y, e => by cases e; exact ⟨_, rfl, h⟩
  | _, _, .cons h t, i + 1, y, e => by
    obtain ⟨x, h1, h2⟩ := paired_at t (i := i) (y := y) (by simpa using e)
    exact ⟨x, by simpa using h1, h2⟩
theorem call_dictT (hc : X.calm = true) (hu : X.A.units + 64 < cLine) : CallR X (.type "dict") (rDictT X.K) := by
  intro pins s σ H vs us Q I r h
  obtain ⟨a, ps, rfl, hs, hp, q⟩ := h
  obtain ⟨u, rfl, rx⟩ := vals1 r
  cases (show u = Value.ref a from rx)
  obtain ⟨its, rv, pl, hz⟩ := I.list hs
  have ei : its = (ps.map fun p => p.1).map Value.ref := refs_at (ps := ps.map fun p => p.1) (by rw [List.map_map]; exact rv)
  subst ei
  simp only [List.length_map] at hz
  obtain ⟨prs, hr⟩ := pairsT_of I hp
  have hl : ps.length = prs.length := Paired.length hr
  obtain ⟨o, n, ho, hcl, hd, hdat⟩ := pl
  have P := PairArg.list (prog := X.prog) (w := X.w) a ((ps.map fun p => p.1).map Value.ref).toArray (fun j => ((ps[j]?).map fun p => p.1).getD 0) (prs.map fun q => (Value.ref q.2.1, q.2.2))
  refine call_dict_pairsH (knd := tupleKind (mixKind X.prog X.w)) (ps := prs) P (I.ok.hd hc) ?_ ⟨⟨o, n, ho, hcl, hd, hdat⟩, ?_, fun j k v e => ?_⟩ ⟨?_, fun i key v e => ?_⟩ (fun h' hk x hx => ?_) ?_ fun h' tk hd' hk => ?_
  · exact tupleKind_room_in1 (A := X.A.in1) (by show X.A.units + 1 + 1 < cLine; omega)
  · simp [hl]
  · rw [List.getElem?_map] at e
    obtain ⟨q', e1, e2⟩ := Option.map_eq_some_iff.mp e
    obtain ⟨p, e3, e4⟩ := paired_at hr e1
    cases e2
    refine ⟨?_, ?_⟩
    · rw [List.getElem?_toArray, List.getElem?_map, List.getElem?_map, e3]
      show some (Value.ref p.1) = some (Value.ref ((ps[j]?.map fun p => p.1).getD 0))
      rw [e3]
      rfl
    · show PairAt s.heap ((ps[j]?.map fun p => p.1).getD 0) _ _
      rw [e3]
      refine .inl ?_
      rw [e4.2.1]
      exact e4.2.2.2
  · simp
  · have e' : (prs.map fun q => (Value.ref q.2.1, q.2.2))[i]? = some (key, v) := e
    rw [List.getElem?_map] at e'
    obtain ⟨q', e1, e2⟩ := Option.map_eq_some_iff.mp e'
    cases e2
    exact ⟨q'.1, q'.2.1, e1, rfl⟩
  · obtain ⟨i, hi⟩ := List.mem_iff_getElem?.mp hx
    obtain ⟨p, e3, e4⟩ := paired_at hr hi
    have hkey := key_of (P := X.prog) (w := X.w) I.hok (hp p (List.mem_of_getElem? e3)).2
    rw [e4.1, e4.2.1]
    obtain ⟨o', its', n', h1, h2, h3, h4⟩ := hkey
    exact ⟨o', its', n', hk _ _ (Nat.ne_of_lt (Heap.lt_size h1)) (fun z => nomatch z) h1, h2, h3, h4⟩
  · rw [List.length_map]
    omega
  · have hm : (s.heap.objs.size == sysModules) = false := beq_eq_false_iff_ne.mpr (Nat.ne_of_gt I.big)
    have hlen : (mergeT [] ps).length ≤ sizeLine := by
      have := mergeT_len ps []
      rw [List.length_nil, Nat.zero_add] at this
      omega
    have kt := kt_merge (H := H) (acc := []) (xs := []) hr (fun p hp' => (hp p hp').2) .nil
    obtain ⟨o', es, ep, hq, h2, h3, h4, _, h5⟩ := hd'
    have hfr := I.hok.fresh (Nat.le_refl s.heap.objs.size)
    exact ⟨.ref s.heap.objs.size, upd H s.heap.objs.size (.dT (mergeT [] ps)), I.laid (t' := tk) (fun b o e => hk b o (fun z => nomatch z) e) (Nat.le_refl _)
      (show ObjOk X.prog X.w _ _ _ (.dT (mergeT [] ps)) from ⟨hlen, hm, _, kt.keeps fun c ys ec => (by
        rw [upd_ne (fun z => by rw [z, hfr] at ec; cases ec)]
        exact ec), o', es, ep, hq, h2, h3, h4, h5⟩), rfl, q _ hfr⟩
end
/-- the pairs of a list, by the data -/
def pairsP : List PyData → Option (List (List Key × PyData))
  | [] => some []
  | .tuple [.tuple ks, d] :: xs => (keyL ks).bind fun k => (pairsP xs).map fun r => (k, d) :: r
  | _ => none
def mergeD (kvs : List (List Key × PyData)) (more : List (List Key × PyData)) : List (List Key × PyData) := more.foldl (fun acc p => putD acc p.1 p.2) kvs
def fDictT : List S → Option S
  | [s] => (asL s).bind fun xs => (pairsP xs).map fun kvs => .o (.t ⟨false, mergeD [] kvs⟩)
  | _ => none
theorem pairs_back {K : PySem.W.Frag} {G : Hp} : ∀ {ws : List V} {xs : List PyData} {kvs : List (List Key × PyData)}, DqAll K G ws xs → pairsP xs = some kvs →
    ∃ ps : List PrT, ws = ps.map (fun p => V.ref p.1) ∧ (∀ p ∈ ps, G p.1 = some (.tup [V.ref p.2.1, p.2.2.2]) ∧ G p.2.1 = some (.tup (p.2.2.1.map kV))) ∧ Paired (fun (p : PrT) (q : List Key × PyData) => p.2.2.1 = q.1 ∧ Dq K G p.2.2.2 q.2) ps kvs
  | _, _, kvs, .nil, e => by
    cases e
    exact ⟨[], rfl, fun p (hp : p ∈ []) => (by cases hp), Paired.nil⟩
  | _, _, kvs, .cons (v := v) (d := d) (ds := ds) h t, e => by
    unfold pairsP at e
    split at e
    case h_1 z => cases z
    case h_3 => cases e
    rename_i ks d' xs' z
    cases z
    cases ek : keyL ks with
    | none => rw [ek] at e; cases e
    | some k =>
      rw [ek] at e
      simp only [Option.bind_some] at e
      cases er : pairsP ds with
      | none => rw [er] at e; cases e
      | some kr =>
        rw [er] at e
        cases e
        obtain ⟨ps, e1, e2, e3⟩ := pairs_back t er
        cases h with
        | tup h1 h2 =>
          cases h2 with
          | cons hk hrest =>
            cases hrest with
            | cons hv hnil =>
              cases hnil
              cases hk with
              | tup h3 h4 =>
                rename_i a1 v2 a2 us
                refine ⟨(a1, a2, k, v2) :: ps, by rw [List.map_cons, e1], fun p hp => ?_, .cons ⟨rfl, hv⟩ e3⟩
                rcases List.mem_cons.mp hp with rfl | hp
                · exact ⟨h1, by rw [h3, keyL_v h4 ek]⟩
                · exact e2 p hp
theorem tv_merge {K : PySem.W.Frag} {G : Hp} : ∀ {ps : List PrT} {kvs : List (List Key × PyData)} {acc : List (List Key × V)} {accD : List (List Key × PyData)}, Paired (fun (p : PrT) (q : List Key × PyData) => p.2.2.1 = q.1 ∧ Dq K G p.2.2.2 q.2) ps kvs → TV K G acc accD → TV K G (mergeT acc ps) (mergeD accD kvs)
  | _, _, _, _, .nil, r => r
  | _, _, acc, accD, .cons (a := p) (b := q) h t, r => by
    have r2 := tv_put (k := p.2.2.1) r h.2
    have := tv_merge t r2
    show TV K G (mergeT (putK acc p.2.2.1 p.2.2.2) _) (mergeD (putD accD q.1 q.2) _)
    rw [← h.1]
    exact this
theorem cd_dictT {K : PySem.W.Frag} : CallD K (rDictT K) fDictT := fun T ρ H vs ss s Q k hp hg hq => by
  unfold fDictT at hg
  split at hg
  case h_2 => cases hg
  rename_i u
  obtain ⟨v, rfl, h⟩ := paired1 hp
  cases e : asL u with
  | none => rw [e] at hg; cases hg
  | some xs =>
    rw [e] at hg
    simp only [Option.bind_some] at hg
    cases ep : pairsP xs with
    | none => rw [ep] at hg; cases hg
    | some kvs =>
      rw [ep] at hg
      cases hg
      obtain ⟨a, ws, rfl, h1, h2⟩ := at_L h e
      obtain ⟨ps, rfl, e2, e3⟩ := pairs_back h2 ep
      exact ⟨a, ps, rfl, SqL.of h1, fun p hp => ⟨SqT.of (hid_same _ _ (e2 p hp).1), hid_same _ _ (e2 p hp).2⟩, fun d hn => hq d _ hn (.inl ⟨rfl, _, rfl, tv_merge e3 .nil⟩)⟩
section
variable {X : Cx} {e : Expr} {es : List Expr} {pos p : Pos} {fa : AEV}
theorem de_dictT {j : Nat} (hr : Room j X.A) (hc : X.calm = true) (hm : X.mg "dict" = none) (hg : Gl X "dict") (ha : DA X (e :: es) fa) (he : starEach (e :: es) X.env = (false, eval e X.env) :: starEach es X.env := by rfl) (hpl : (backTo pos (starEach es X.env)).any (·.1) = false := by rfl) : DE X (.Call (.Name "dict" p) (e :: es) [] pos) (callB fDictT fa) :=
  de_callTy (call_dictT hc hr.units) cd_dictT hg hm (by decide +kernel) ha (by decide) (by decide) he hpl
end
end DL

namespace DL
open PySem PySem.Spec PyProof.Rows L2 DLS

/-! ### sorted(tuple of numbers) -/
def rSortedIT (K : PySem.W.Frag) : List V → Hp → VK → Prop := fun vs H Q => ∃ (a : Addr) (ns : List Int), vs = [V.ref a] ∧ SqT K H a (ns.map V.int) ∧
  ∀ (ns' : List Int) (p : Addr), ns'.Perm ns → ns'.Pairwise (· ≤ ·) → H p = none → Q (.ref p) (upd H p (.lst (ns'.map V.int)))
abbrev sortI : List Int → List Int := isort fun a b => decide (a < b)
def fSortedI : List S → Option S
  | [s] => (asT s).bind fun xs => (intsP xs).map fun ns => .o (.l ((sortI ns).map PyData.int))
  | _ => none
section
variable {X : Cx}
theorem cr_sortedIT : CallR X (.builtin "sorted") (rSortedIT X.K) := by
  intro pins s σ H vs us Q I r h
  obtain ⟨a, ns, rfl, hs, q⟩ := h
  obtain ⟨its, rv, ⟨o, ho, hc, n, hd⟩, hz⟩ := I.tuple hs
  obtain ⟨u, rfl, ru⟩ := vals1 r
  cases (show u = Value.ref a from ru)
  have hi := rv.ints
  have hlen0 : (ns.map V.int).length = its.length := rv.length
  have hz' : its.length ≤ sizeLine := by omega
  refine Calls.call_function_entry PyProof.Rows.kind_sorted PyProof.Rows.plain_sorted PyProof.Rows.entry_sorted (PyProof.Rows.args_sorted1 _) ?_
  unfold Builtin.«sorted»
  refine wpAny_bind (m := checkCount "sorted" 1 1 _) (wpAny_pure ?_)
  refine wpAny_bind (wpAny_collect_seq (A := X.A.in1) a (T := "tuple") (.inr rfl) ho hc hd (fun h' hkp => ?_) (by rw [List.size_toArray]; exact hz'))
  have I1 : Inv X pins σ H { s with heap := h', toks := s.toks } := I.kept hkp
  rw [List.toList_toArray]
  refine wpAny_bind (wpAny_newList ?_ hz')
  have hoL : (h'.push (seqObj "list" its.toArray 0)).get? h'.objs.size = some (seqObj "list" its.toArray 0) := Heap.get?_push_size _ rfl
  show wpAny _ _ _ _ _ { s with heap := h'.push (seqObj "list" its.toArray 0), toks := s.toks }
  refine wpAny_bind (wpAny_holding (wpAny_call_entry PyProof.Rows.slot_list_sort ⟨_, hoL, rfl⟩ PyProof.Rows.entry_list_sort
    (SrtO.list_sort_ord (s := { s with heap := h'.push (seqObj "list" its.toArray 0), toks := s.toks }) SrtO.swo_int hoL hz' (fun h2 => SrtO.ints_sortable hi h2) fun out g1 g2 => ⟨_, rfl, ?_⟩) (PyProof.Rows.args_list_sort _)))
  obtain ⟨k1, k2, k3⟩ := SrtO.ints_out hi g1 g2
  obtain ⟨e', he'⟩ := PyProof.Rows.sortedHeap_at (vs := its) (out := out.toArray) hoL
  have hlen2 : ((out.map SrtO.iv).map V.int).length ≤ sizeLine := by
    rw [List.length_map, k2.length_eq]
    rw [List.length_map] at hlen0
    omega
  refine wpAny_pure ⟨_, rfl, .ref h'.objs.size, upd H h'.objs.size (.lst ((out.map SrtO.iv).map V.int)), I1.laid (t' := s.toks) (fun b u e => ?_) (Nat.le_refl _)
    (show ObjOk X.prog X.w _ _ _ (.lst ((out.map SrtO.iv).map V.int)) from ⟨hlen2, out, e', vals_of_ints k1, he'⟩), rfl, q _ _ k2 k3 (I1.hok.fresh (Nat.le_refl _))⟩
  have hb : b < h'.objs.size := Heap.lt_size e
  rw [PyProof.Rows.sortedHeap_old (Nat.ne_of_lt hb) (by rw [size_push']; exact Nat.lt_succ_of_lt hb)]
  exact Heap.get?_push_of_some _ e
end
theorem sortI_of {ns ms : List Int} (h : ms.Perm ns) (hm : ms.Pairwise (· ≤ ·)) : ms = sortI ns :=
  perm_uniq (R := fun a b => decide (b < a) = false) (fun a b h1 h2 => by
    have h1' := of_decide_eq_false h1
    have h2' := of_decide_eq_false h2
    omega) (h.trans (isort_perm ns).symm) (hm.imp fun {a b} h => decide_eq_false (by omega)) (isort_sorted (fun a b h => by
      have h' := of_decide_eq_true h
      exact decide_eq_false (by omega)) (fun a b c h1 h2 => by
      have h1' := of_decide_eq_false h1
      have h2' := of_decide_eq_false h2
      exact decide_eq_false (by omega)) ns)
theorem dq_intsB {K : PySem.W.Frag} {G : Hp} : ∀ {ws : List V} {ns : List Int}, DqAll K G ws (ns.map PyData.int) → ws = ns.map V.int
  | _, [], .nil => rfl
  | _, i :: ns, .cons h t => by
    cases h
    rw [dq_intsB t]
    rfl
theorem dq_intsA {K : PySem.W.Frag} {G : Hp} : ∀ ns : List Int, DqAll K G (ns.map V.int) (ns.map PyData.int)
  | [] => .nil
  | i :: ns => .cons (.int i) (dq_intsA ns)
theorem cd_sortedI {K : PySem.W.Frag} : CallD K (rSortedIT K) fSortedI := fun T ρ H vs ss s Q k hp hg hq => by
  unfold fSortedI at hg
  split at hg
  case h_2 => cases hg
  rename_i u
  obtain ⟨v, rfl, h⟩ := paired1 hp
  cases e : asT u with
  | none => rw [e] at hg; cases hg
  | some xs =>
    rw [e] at hg
    simp only [Option.bind_some] at hg
    cases ep : intsP xs with
    | none => rw [ep] at hg; cases hg
    | some ns =>
      rw [ep] at hg
      cases hg
      obtain ⟨a, ws, rfl, h1, h2⟩ := at_T h e
      have ex := intsP_eq ep
      subst ex
      have ew := dq_intsB h2
      subst ew
      refine ⟨a, ns, rfl, SqT.of (hid_same _ _ h1), fun ns' p g1 g2 hn => ?_⟩
      have es := sortI_of g1 g2
      subst es
      exact hq p _ hn ⟨_, rfl, dq_intsA _⟩
section
variable {X : Cx} {e : Expr} {es : List Expr} {pos p : Pos} {fa : AEV}
theorem de_sortedI (hm : X.mg "sorted" = none) (hg : Gl X "sorted") (ha : DA X (e :: es) fa) (he : starEach (e :: es) X.env = (false, eval e X.env) :: starEach es X.env := by rfl) (hpl : (backTo pos (starEach es X.env)).any (·.1) = false := by rfl) : DE X (.Call (.Name "sorted" p) (e :: es) [] pos) (callB fSortedI fa) :=
  de_callB cr_sortedIT cd_sortedI hg hm (by decide +kernel) ha (by decide) (by decide) he hpl
end
end DL

namespace DL
open PySem PySem.Spec PyProof.Rows L2 DLS

/-! ### raise: never come to, as the meaning says -/
def noS : SEV := fun _ => none
theorem ds_none {X : Cx} {P : List Nat} {st : Stmt} : DS X P st noS := ⟨fun pins s σ H D I ⟨T, ρ, δ, o, hs, hf, hq⟩ => nomatch hf⟩
end DL

namespace DL
open PySem PySem.Spec PyProof.Rows L2

/-! ### dicts as data: {} and {'a': x} -/
def dctE0 : EV := fun δ => some (.d (.dict []), δ)
def dctE1 (k : Str) (f : EV) : EV := fun δ => (f δ).bind fun x => match x.1 with
  | .d d => some (.d (.dict [(.str k, d)]), x.2)
  | _ => none
section
variable {K : PySem.W.Frag} {T : List Addr} {ρ ρ1 : List (Option Addr)} {δ δ' : Ds} {σ : L2.St} {H H0 : Hp} {p : Addr} {o : HO}
theorem hid_sub (hT : p ∉ T) (hρ : some p ∉ ρ) : Same (hid (p :: T) ρ H) (hid T ρ (upd H p o)) := fun b x e => by
  obtain ⟨h1, h2, h3⟩ := hid_some.mp e
  refine hid_some.mpr ⟨?_, fun z => h2 (List.mem_cons_of_mem _ z), h3⟩
  rw [upd_ne (fun z => h2 (by rw [z]; exact List.mem_cons_self))]
  exact h1
/-- what was put by is written and nobody's -/
theorem Sim.subTmp (h : Sim K (p :: T) ρ δ σ H) (hT : p ∉ T) : Sim K T ρ δ σ (upd H p o) := by
  have hρ : some p ∉ ρ := fun z => by
    obtain ⟨i, hi⟩ := mem_ix z
    exact h.nt i p hi List.mem_cons_self
  have hm : Same (hid (p :: T) ρ H) (hid T ρ (upd H p o)) := hid_sub hT hρ
  refine ⟨h.len, h.slen, fun j s hj => ?_, h.own, h.own', h.inj, fun j a hj hm => h.nt j a hj (List.mem_cons_of_mem _ hm), fun a ha => ?_⟩
  · obtain ⟨v, e1, e2⟩ := h.slot j s hj
    refine ⟨v, e1, ?_⟩
    cases s with
    | o c =>
      obtain ⟨a, x, z1, z2, z3⟩ := e2
      obtain ⟨a', q1, q2⟩ := h.own j c hj
      rw [e1] at q2
      cases q2
      cases z1
      refine ⟨_, x, rfl, ?_, coM hm z3⟩
      rw [upd_ne (fun z => h.nt j _ q1 (by rw [z]; exact List.mem_cons_self))]
      exact z2
    | d x => exact svM (s := .d x) hm e2
    | t x => exact svM (s := .t x) hm e2
    | z x => exact svM (s := .z x) hm e2
    | p x => exact svM (s := .p x) hm e2
  · obtain ⟨x, hx, hy⟩ := h.tmp a (List.mem_cons_of_mem _ ha)
    exact ⟨x, by rw [upd_ne (fun z => hT (by rw [← z]; exact ha))]; exact hx, hy⟩
end
section
variable {X : Cx} {e : Expr} {es : List Expr} {pos p : Pos} {fa : AEV}
theorem de_dct0 : DE X (.Dict [] [] pos) dctE0 := pe_imp pe_dnewK fun σ H Q ⟨T, ρ, δ, s, δ', hs, hf, hq⟩ => by
  cases hf
  exact fun q hn => hq ρ (.ref q) _ (hs.mono (same_new hn)) (hs.trk.extT (same_new hn)) (Dq.dctE (hs.trk.hidNew hn))
theorem de_dct1 {k : Str} {j : Nat} {a : Pos} {f : EV} (he : DE X e f) : DE X (.Dict [some (.Constant (.str k) j a)] [e] pos) (dctE1 k f) :=
  pe_imp (pe_disp (pps_cons pe_str he pps_nil) rfl rfl (List.cons_ne_nil _ _) (by show (1 : Nat) ≤ 15; omega)) fun σ H Q ⟨T, ρ, δ, s, δ', hs, hf, hq⟩ => by
  unfold dctE1 at hf
  cases e : f δ with
  | none => rw [e] at hf; cases hf
  | some x =>
    obtain ⟨u, δ1⟩ := x
    rw [e] at hf
    simp only [Option.bind_some] at hf
    cases u with
    | d d =>
      cases hf
      intro q hn
      obtain ⟨nT, nρ⟩ := hs.trk.fresh hn
      refine ⟨q :: T, ρ, δ, .d d, _, hs.addTmp hn, e, fun ρ2 v H2 s2 e2 hv => ?_⟩
      have hp2 : H2 q = some (.dK []) := (e2.tmp q List.mem_cons_self).trans upd_same
      have nρ2 : some q ∉ ρ2 := fun z => by
        obtain ⟨i, hi⟩ := mem_ix z
        exact s2.nt i q hi List.mem_cons_self
      refine ⟨hp2, [(.inr k, v)], rfl, by show (1 : Nat) ≤ 15; omega, ?_⟩
      have hm : Same (hid (q :: T) ρ2 H2) (hid T ρ2 (upd H2 q (.dK (mergeK [] [(.inr k, v)])))) := hid_sub nT nρ2
      have h0 : hid (q :: T) ρ (upd H q (.dK [])) = hid T ρ H := hid_new hn
      refine hq ρ2 (.ref q) _ (s2.subTmp nT) ⟨?_, fun c hc => ?_⟩ (Dq.dct1 (hid_some.mpr ⟨upd_same, nT, nρ2⟩) (dpM hm _ hv))
      · rw [← h0]
        exact e2.same.trans hm
      · have hcq : c ≠ q := fun z => nT (by rw [← z]; exact hc)
        rw [upd_ne hcq, e2.tmp c (List.mem_cons_of_mem _ hc), upd_ne hcq]
    | t _ => cases hf
    | z _ => cases hf
    | p _ => cases hf
    | o _ => cases hf
/-! ### str of a whole number -/
def fStr : List S → Option S
  | [.d (.int i)] => if i.natAbs.log2 < 1920 then some (.d (.str (toString i))) else none
  | _ => none
theorem cd_str {K : PySem.W.Frag} : CallD K (fun xs H Q => ∃ i, xs = [.int i] ∧ i.natAbs.log2 < 1920 ∧ Q (.str (toString i)) H) fStr := fun T ρ H vs ss s Q k hp hg hq => by
  unfold fStr at hg
  split at hg
  · rename_i i
    obtain ⟨v, rfl, h⟩ := paired1 hp
    split at hg
    · rename_i hl
      cases hg
      cases (show Dq K _ v (.int i) from h)
      exact ⟨i, rfl, hl, postO_same hq (.str _)⟩
    · cases hg
  · cases hg
theorem de_str1 (hm : X.mg "str" = none) (hg : Gl X "str") (ha : DA X (e :: es) fa) (he : starEach (e :: es) X.env = (false, eval e X.env) :: starEach es X.env := by rfl) (hpl : (backTo pos (starEach es X.env)).any (·.1) = false := by rfl) : DE X (.Call (.Name "str" p) (e :: es) [] pos) (callB fStr fa) :=
  de_callTy call_str_int cd_str hg hm (by decide +kernel) ha (by decide) (by decide) he hpl
end
end DL

namespace DLS
open PySem PySem.Calls PyProof.Rows PyProof.V PySem.Spec PySem.MeetsSeq PySem.SeqAt
/-! ### a dict against a text -/
section
variable {prog : Program} {w : World} {A : Around} {E : Value → Shared → Prop} {s : Shared}
theorem str_eq_declines_dict (b : Str) (u : Tok) (l : Addr) (c : Value) (es : Array DictEntry) (n : Nat) (dd : Option Addr) (sl : Array (Option Value)) :
    Meets (Builtin.«str.__eq__» ⟨[.str b u, .ref l], []⟩) (fun _ R s => s.heap.get? l = some { cls := c, dict := dd, data := .dict es n, slots := sl } ∧ R (.ok (.ret .notImplemented)) s) :=
  .of_wp fun prog w A R s h => by obtain ⟨hp, g, d, tk, os⟩ := s; obtain ⟨hl, h⟩ := h; wp_walk using wpAny_loadPart' hl, wpAny_load hl; exact ⟨_, rfl, h⟩
theorem dict_eq_str {a : Addr} {oa : Obj} {es : Array DictEntry} {ep : Nat} {b : Str} {u : Tok} {Q : Value → Shared → Prop} (hoa : s.heap.get? a = some oa) (xa : oa.ExactDict) (hda : oa.data = .dict es ep) (hu : A.units < cLine) (h : Q (.bool false) s) :
    wpAny (model prog w) A (compareOp .Eq (.ref a) (.str b u)) Q E s := by
  obtain ⟨cls, dd, data, sl⟩ := oa
  simp only at hda
  subst hda
  refine rc_eq_decline_or (k := false) (Ta := "dict") (Tb := "str") ⟨_, hoa, xa.1⟩ (typeIs_str s b u) (by decide) PySem.F.sub_str_dict PySem.F.slot_dict_eq PySem.F.slot_str_eq_refl (fun Q' hq => ?_) (fun Q' hq => ?_) (fun _ hq => wpAny_of_eq (rfl : isSame (.ref a) (.str b u) = pure false) hq) (.inr hu) h
  · refine wpAny_call_entry PySem.F.slot_dict_eq ⟨_, hoa, xa.1⟩ PySem.F.entry_dict_eq ?_ (PySem.F.args_dict_eq_2 _ _)
    show wpAny _ _ (Builtin.Dict.dictSlotArgs "__eq__" ⟨[.ref a, .str b u], []⟩ >>= _) _ _ s
    refine wpAny_bind ?_
    unfold Builtin.Dict.dictSlotArgs
    refine wpAny_bind (wpAny_notOrdered_dict ⟨_, hoa, xa.1⟩ ?_)
    show wpAny _ _ (pure (Value.ref a, Value.str b u)) _ _ s
    refine wpAny_pure ?_
    refine wpAny_bind (wpAny_isInstance (T := "str") (typeIs_str s b u) PySem.F.sub_str_dict ?_)
    simp only [Bool.not_false, if_true]
    exact wpAny_bind (wpAny_rule (wpAny_pure ⟨_, rfl, hq⟩))
  · exact call_meets PySem.F.slot_str_eq_refl (typeIs_str s b u) PySem.F.entry_str_eq (PySem.F.args_str_eq_2 _ _) (str_eq_declines_dict b u a cls es ep dd sl) ⟨hoa, hq⟩
end
end DLS
namespace DL
open PySem PySem.Spec PyProof.Rows L2 DLS
/-! ### anything == a text -/
def isT (t : Str) : PyData → Bool
  | .str x => decide (x = t)
  | _ => false
def rEqS (K : PySem.W.Frag) : R2 := fun x y H Q => ∃ d t, Dq K H x d ∧ y = .str t ∧ Q (.bl (isT t d)) H
def opEqS (a b : S) : Option S := match a, b with
  | .d x, .d (.str t) => some (.d (.bool (isT t x)))
  | _, _ => none
section
variable {X : Cx} {a b : Expr} {pos : Pos} {fp fq : PEV} {k : Nat}
theorem or_eqS (hu : X.A.units < cLine) : OpR X (compareOp .Eq) (rEqS X.K) := by
  intro pins s σ H x y v u Q I rx ry h
  obtain ⟨d, t, hd, rfl, q⟩ := h
  obtain ⟨tk, rfl⟩ := ry
  cases hd with
  | non => cases rx; exact PySem.SeqAt.RcAt.none_str t tk _ _ _ _ (fin_bl I q rfl)
  | bl b => cases rx; exact PySem.SeqAt.RcAt.bool_str b t tk _ _ _ _ (fin_bl I q rfl)
  | int i => obtain ⟨_, rfl⟩ := rx; exact PySem.SeqAt.RcAt.int_str i _ t tk _ _ _ _ (fin_bl I q rfl)
  | str z =>
    obtain ⟨_, rfl⟩ := rx
    refine PySem.SeqAt.RcAt.str_str z _ t tk _ _ _ _ (fin_bl I q ?_)
    show decide (z = t) = (z == t)
    by_cases h : z = t
    · rw [decide_eq_true h, h, beq_self_eq_true]
    · rw [decide_eq_false h]
      exact (beq_eq_false_iff_ne.mpr h).symm
  | lst h1 h2 =>
    cases rx
    obtain ⟨its, rv, ⟨o, n, ho, hc, _, hd'⟩, _⟩ := I.list (SqL.of h1)
    exact PySem.SeqAt.RcAt.list_str t tk ⟨o, ho, hc, n, hd'⟩ hu _ _ _ _ (fin_bl I q rfl)
  | tup h1 h2 =>
    cases rx
    obtain ⟨its, rv, ⟨o, ho, hc, n, hd'⟩, _⟩ := I.tuple (SqT.of h1)
    exact PySem.SeqAt.RcAt.tuple_str t tk ⟨o, ho, hc, n, hd'⟩ hu _ _ _ _ (fin_bl I q rfl)
  | @dctE a h1 =>
    cases rx
    obtain ⟨_, ya, vs, rk, m⟩ := (show ObjOk X.prog X.w H s.heap a (.dK []) from I.hok a _ h1)
    obtain ⟨o, es, ep, g1, x1, g2, _⟩ := m
    exact dict_eq_str g1 x1 g2 hu (fin_bl I q rfl)
  | @dct1 a kk vv xx h1 h2 =>
    cases rx
    obtain ⟨_, ya, vs, rk, m⟩ := (show ObjOk X.prog X.w H s.heap a (.dK [(.inr kk, vv)]) from I.hok a _ h1)
    obtain ⟨o, es, ep, g1, x1, g2, _⟩ := m
    exact dict_eq_str g1 x1 g2 hu (fin_bl I q rfl)
theorem od_eqS {K : PySem.W.Frag} : OpD K (rEqS K) opEqS := fun T ρ H x y a b s Q k ha hb hg hq => by
  unfold opEqS at hg
  split at hg
  · rename_i d t
    cases hg
    cases (show Dq K _ y (.str t) from hb)
    exact ⟨d, t, dpM hid_same _ (show Dq K _ x d from ha), rfl, postO_same hq (.bl _)⟩
  · cases hg
theorem de_eqS (hr : Room k X.A) (ha : DP X a fp) (hb : DP X b fq) : DE X (.Compare a [.Eq] [b] pos) (bin opEqS fp fq) := de_cmp (or_eqS (by have := hr.un; omega)) od_eqS ha hb (nomark _)
theorem dt_eqS (hr : Room k X.A) (ha : DP X a fp) (hb : DP X b fq) : DT X (.Compare a [.Eq] [b] pos) (bl (bin opEqS fp fq)) := dt_cmp (or_eqS (by have := hr.un; omega)) od_eqS ha hb (nomark _)
end
/-! ### repr of anything -/
mutual
theorem dq_reads2 {X : Cx} {pins : List (Addr × Obj)} {σ : L2.St} {H : Hp} {s : Shared} (I : Inv X pins σ H s) (hz : H sysModules = none) : ∀ (d : PyData) (v : V) (u : Value), Dq X.K H v d → RelV v u → ∃ as, Reads s.heap u d as ∧ sysModules ∉ as
  | .none, _, _, h, r => by
    cases h; cases r
    exact ⟨_, Reads.none, by simp⟩
  | .bool b, _, _, h, r => by
    cases h; cases r
    exact ⟨_, Reads.bool b, by simp⟩
  | .int i, _, _, h, r => by
    cases h
    obtain ⟨t, rfl⟩ := r
    exact ⟨_, Reads.int i t, by simp⟩
  | .str x, _, _, h, r => by
    cases h
    obtain ⟨t, rfl⟩ := r
    exact ⟨_, Reads.str x t, by simp⟩
  | .list ds, _, _, h, r => by
    cases h with
    | @lst a xs _ hs ha =>
      cases r
      obtain ⟨its, rv, ⟨o, n, ho, hc, _, hd⟩, _⟩ := I.list (SqL.of hs)
      obtain ⟨as, hr, hn⟩ := dq_reads2A I hz ds _ its ha rv
      refine ⟨_, Reads.list ho hc hd hr, fun z => ?_⟩
      rcases List.mem_cons.mp z with z | z
      · rw [← z, hz] at hs
        cases hs
      · exact hn z
  | .tuple ds, _, _, h, r => by
    cases h with
    | tup hs ha =>
      cases r
      obtain ⟨its, rv, ⟨o, ho, hc, n, hd⟩, _⟩ := I.tuple (SqT.of hs)
      obtain ⟨as, hr, hn⟩ := dq_reads2A I hz ds _ its ha rv
      exact ⟨_, Reads.tuple ho hc hd hr, hn⟩
  | .dict [], _, _, h, r => by
    obtain ⟨as, h1, h2⟩ := dq_reads I (.dict []) _ _ h r
    exact ⟨as, h1, h2 rfl⟩
  | .dict [(k, x)], _, _, h, r => by
    cases h with
    | @dct1 a k v _ hs hx =>
      cases r
      obtain ⟨_, ya, vs, rk, m⟩ := (show ObjOk X.prog X.w H s.heap a (.dK [(.inr k, v)]) from I.hok a _ hs)
      cases rk with
      | @cons p q _ _ r0 rt =>
        cases rt
        obtain ⟨o, es, ep, h1, h2, h3, h4⟩ := dict_parts m
        obtain ⟨q1, q2⟩ := q
        obtain ⟨rk1, rv1⟩ := r0
        cases (show Sum.inr k = q1 from rk1)
        have rv2 : RelV v q2 := rv1
        cases he : es.toList with
        | nil => rw [he] at h4; cases h4
        | cons e r =>
          rw [he] at h4
          cases h4 with
          | cons k1 k2 k3 =>
            cases r with
            | cons _ _ => cases k3
            | nil =>
              have k1' : keyIs (.inr k) e.key = true := k1
              rcases keyIs_shape k1' with ⟨i, t, e2, e1⟩ | ⟨z, t, e2, e1⟩
              · cases e2
              · cases e2
                obtain ⟨as, hr, hn⟩ := dq_reads2 I hz x v q2 hx rv2
                refine ⟨_, Reads.dict (as := [] ++ []) (bs := as ++ []) h1 h2 h3 (by rw [he]; show ReadsAll _ [e.key] [PyData.str k] _; rw [e1]; exact .cons (Reads.str k t) .nil) (by rw [he]; show ReadsAll _ [e.val] [x] _; rw [k2]; exact .cons hr .nil), fun z => ?_⟩
                have hz' : sysModules = a ∨ sysModules ∈ as := by simpa using z
                rcases hz' with hz' | hz'
                · rw [hz'] at ya
                  simp at ya
                · exact hn hz'
  | .dict (_ :: _ :: _), _, _, h, r => by cases h
theorem dq_reads2A {X : Cx} {pins : List (Addr × Obj)} {σ : L2.St} {H : Hp} {s : Shared} (I : Inv X pins σ H s) (hz : H sysModules = none) : ∀ (ds : List PyData) (vs : List V) (us : List Value), DqAll X.K H vs ds → Vals vs us → ∃ as, ReadsAll s.heap us ds as ∧ sysModules ∉ as
  | [], _, _, h, r => by
    cases h; cases r
    exact ⟨_, ReadsAll.nil, by simp⟩
  | d :: ds, _, _, h, r => by
    cases h with
    | cons h1 h2 =>
      cases r with
      | cons r1 r2 =>
        obtain ⟨as, q1, n1⟩ := dq_reads2 I hz d _ _ h1 r1
        obtain ⟨bs, q2, n2⟩ := dq_reads2A I hz ds _ _ h2 r2
        refine ⟨_, ReadsAll.cons q1 q2, fun z => ?_⟩
        rcases List.mem_append.mp z with z | z
        · exact n1 z
        · exact n2 z
end
def reprD (x : PyData) : Bool := x.showable && decide (x.depth ≤ 60) && decide (x.shown.length ≤ sizeLine)
def fReprD : List S → Option S
  | [s] => (asD s).bind fun x => if reprD x then some (.d (.str x.shown)) else none
  | _ => none
def rReprD (K : PySem.W.Frag) : List V → Hp → VK → Prop := fun vs H Q => ∃ v x, vs = [v] ∧ Dq K H v x ∧ reprD x = true ∧ Q (.str x.shown) H
theorem cr_reprD {X : Cx} (hG : X.A.guards = some []) (hu : X.A.units + 64 < cLine) (hsm : ∃ o, X.base.get? sysModules = some o) : CallR X (.builtin "repr") (rReprD X.K) := by
  intro pins s σ H vs us Q I r h
  obtain ⟨v, x, rfl, hx, ok, q⟩ := h
  obtain ⟨so, hso⟩ := hsm
  have hz : H sysModules = none := (I.bs _ so hso).2
  obtain ⟨u, rfl, hu'⟩ := Vals.one r
  unfold reprD at ok
  simp only [Bool.and_eq_true, decide_eq_true_eq] at ok
  obtain ⟨⟨o1, o3⟩, o4⟩ := ok
  obtain ⟨as, rd, rn⟩ := dq_reads2 I hz x _ _ hx hu'
  have ref : ∀ a, u = .ref a → wpAny (model X.prog X.w) X.A (call (.builtin "repr") [.ref a]) (EP X pins σ Q) X.xe s := fun a e => by
    subst e
    exact repr_of_reads' rd o1 (fun _ => rn) hG (by omega) (fun b o e => e) (fun h' t tk hk => ⟨.str x.shown, H, I.kept hk, ⟨_, rfl⟩, q⟩) o4
  cases rd with
  | none => exact PySem.P.repr_of_none ⟨.str _, H, I.tok _, ⟨_, rfl⟩, q⟩
  | bool b => exact PySem.P.repr_of_bool ⟨.str _, H, I.tok _, ⟨_, rfl⟩, q⟩
  | int i t => exact PySem.P.repr_of_int (of_decide_eq_true o1) ⟨.str _, H, I.tok _, ⟨_, rfl⟩, q⟩
  | str z t => exact PySem.P.repr_of_str (hsz := o4) ⟨.str _, H, I.tok _, ⟨_, rfl⟩, q⟩
  | list _ _ _ _ => exact ref _ rfl
  | tuple _ _ _ _ => exact ref _ rfl
  | dict _ _ _ _ _ => exact ref _ rfl
theorem cd_reprD {K : PySem.W.Frag} : CallD K (rReprD K) fReprD := fun T ρ H vs ss s Q k hp hg hq => by
  unfold fReprD at hg
  split at hg
  · rename_i u
    obtain ⟨v, rfl, h⟩ := paired1 hp
    cases ed : asD u with
    | none => rw [ed] at hg; cases hg
    | some x =>
      rw [ed] at hg
      simp only [Option.bind_some] at hg
      split at hg
      · rename_i ok
        cases hg
        exact ⟨v, x, rfl, at_Dq h ed, ok, postO_same hq (.str _)⟩
      · cases hg
  · cases hg
section
variable {X : Cx} {e : Expr} {es : List Expr} {pos p : Pos} {fs : AEV}
theorem de_reprD {k : Nat} (hsm : ∃ o, X.base.get? sysModules = some o) (hG : X.A.guards = some []) (hr : Room k X.A) (hm : X.mg "repr" = none) (hg : Gl X "repr") (ha : DA X (e :: es) fs) (he : starEach (e :: es) X.env = (false, eval e X.env) :: starEach es X.env := by rfl) (hpl : (backTo pos (starEach es X.env)).any (·.1) = false := by rfl) : DE X (.Call (.Name "repr" p) (e :: es) [] pos) (callB fReprD fs) :=
  de_callB (cr_reprD hG hr.units hsm) cd_reprD hg hm (by decide +kernel) ha (by decide) (by decide) he hpl
end
/-! what may be shown, dicts too -/
structure RpD (d w : Nat) (x : PyData) : Prop where
  sh : x.showable = true
  dp : x.depth ≤ d
  ln : x.shown.length ≤ w
theorem Rp.toD {d w : Nat} {x : PyData} (h : Rp d w x) : RpD d w x := ⟨h.sh, h.dp, h.ln⟩
theorem RpD.mono {d w d' w' : Nat} {x : PyData} (h : RpD d w x) (hd : d ≤ d') (hw : w ≤ w') : RpD d' w' x := ⟨h.sh, Nat.le_trans h.dp hd, Nat.le_trans h.ln hw⟩
structure RpDA (d w : Nat) (xs : List PyData) : Prop where
  sh : PyData.showableAll xs = true
  dp : PyData.depthAll xs ≤ d
  ln : piled (PyData.shownAll xs) ≤ (w + 2) * xs.length
theorem rpDA {d w : Nat} : ∀ {xs : List PyData}, (∀ x ∈ xs, RpD d w x) → RpDA d w xs
  | [], _ => ⟨rfl, Nat.zero_le _, Nat.zero_le _⟩
  | x :: xs, h => by
    have a := h x List.mem_cons_self
    have b := rpDA fun y hy => h y (List.mem_cons_of_mem _ hy)
    refine ⟨?_, ?_, ?_⟩
    · show (x.showable && PyData.showableAll xs) = true
      rw [a.sh, b.sh]; rfl
    · show max x.depth (PyData.depthAll xs) ≤ d
      exact Nat.max_le.mpr ⟨a.dp, b.dp⟩
    · show piled (x.shown :: PyData.shownAll xs) ≤ _
      rw [piled_cons, List.length_cons, Nat.mul_succ]
      have := a.ln
      have := b.ln
      omega
theorem RpD.list {d w : Nat} {xs : List PyData} (h : ∀ x ∈ xs, RpD d w x) : RpD (d + 1) ((w + 2) * xs.length + 3) (.list xs) := by
  have b := rpDA h
  refine ⟨b.sh, Nat.succ_le_succ b.dp, ?_⟩
  show (listText (PyData.shownAll xs)).length ≤ _
  unfold listText
  rw [Str.length_append]
  have h1 := text_len (PyData.shownAll xs) 0 "["
  have h2 : (("[" : String) : Str).length ≤ 1 := by decide +kernel
  have h3 : (("]" : String) : Str).length ≤ 1 := by decide +kernel
  have := b.ln
  omega
theorem RpD.tuple {d w : Nat} {xs : List PyData} (h : ∀ x ∈ xs, RpD d w x) : RpD (d + 1) ((w + 2) * xs.length + 3) (.tuple xs) := by
  have b := rpDA h
  refine ⟨b.sh, Nat.succ_le_succ b.dp, ?_⟩
  show (tupleText (PyData.shownAll xs)).length ≤ _
  unfold tupleText
  rw [Str.length_append, Str.length_append]
  have h3 : (Str.join ", " (PyData.shownAll xs)).length ≤ (w + 2) * xs.length := by
    cases xs with
    | nil => exact Nat.zero_le _
    | cons i r =>
      have e := join_length_add (PyData.shownAll (i :: r)) (by show PyData.shown i :: _ ≠ []; exact List.cons_ne_nil _ _)
      have := b.ln
      omega
  have h4 : (("(" : String) : Str).length ≤ 1 := by decide +kernel
  have h5 : ((if (PyData.shownAll xs).length == 1 then ",)" else ")" : String) : Str).length ≤ 2 := by
    split <;> decide +kernel
  omega
theorem RpD.dict1 {d w : Nat} {x : PyData} (h : RpD d w x) : RpD (d + 1) (w + 10) (.dict [(.str "a", x)]) := by
  refine ⟨?_, ?_, ?_⟩
  · show (true && x.showable && true) = true
    rw [h.sh]; rfl
  · have := h.dp
    show max 0 (max x.depth 0) + 1 ≤ d + 1
    omega
  · show (dictText [PyData.shown (.str "a") ++ ": " ++ x.shown]).length ≤ _
    unfold dictText
    have := h.ln
    have h1 : (("{" : String) : Str).length ≤ 1 := by decide +kernel
    have h2 : (("}" : String) : Str).length ≤ 1 := by decide +kernel
    have h3 : ((": " : String) : Str).length ≤ 2 := by decide +kernel
    have h4 : (PyData.shown (.str "a")).length ≤ 3 := by decide +kernel
    simp only [Str.join, Str.length_append]
    omega
theorem RpD.ok {d w : Nat} {x : PyData} (h : RpD d w x) (hd : d ≤ 60) (hw : w ≤ sizeLine) : fReprD [.d x] = some (.d (.str x.shown)) := by
  have e : reprD x = true := by
    unfold reprD
    rw [h.sh, decide_eq_true (Nat.le_trans h.dp hd), decide_eq_true (Nat.le_trans h.ln hw)]
    rfl
  show (if reprD x = true then some (S.d (.str x.shown)) else none) = _
  rw [if_pos e]
/-! ### the law's end, where the base has the modules' table -/
section
variable {P : Program} {w : World} {K : PySem.W.Frag} {mg mb : Str → Option Value} {k : Nat} {fa a : Addr} {fd : FuncData} {x : Str} {sp : Sp} {s₁ : Shared} {vs : List Value} {ns : List Int}
theorem end_coreS (H : Hp) (KX : K.In s₁.heap) (hns : s₁.heap.Ns mainGlobals mg) (hb : s₁.heap.Ns builtinsNs mb) (hbb : ∀ x : Str, x ≠ "__name__" → mb x = bootBuiltins x) (hlim : s₁.heap.NoLimit) (hg : s₁.gens = #[])
    (ha : s₁.heap.get? a = some { cls := .type "list", data := .seq vs.toArray }) (hr : Room k callerA)
    (hsm : ∃ mm, s₁.heap.Ns sysModules mm) (F : ∀ base : Heap, K.In base → base.Ns mainGlobals mg → (∃ o, base.get? sysModules = some o) → FnG P w K mg base k fa fd [x] sp) (hbind : ∀ (s : Shared) (u : Value), BindsTo s fd ⟨[u], []⟩ [(x, u)])
    (hO : L2.Only H) (hS : sp [.ref a] H (fun v _ => v = .bl true) fun _ _ _ => False) (hok : HOk P w H s₁.heap) (hA : ∀ b, H b ≠ none → b = a) (hK : H a ≠ none → K.lookup a = none) :
    codeAny (model P w) callerA (.call (.ref fa) ⟨[.ref a], []⟩) (fun r s' => r = .ok (.ret (.bool true)) ∧ OldK s₁.heap s'.heap ∧ s'.os = s₁.os ∧ AllBare s'.gens) s₁ := by
  have isA : ∀ {b : Addr} {u : HO}, H b = some u → b = a := fun {b u} q => hA b (by
    rw [q]
    exact Option.some_ne_none u)
  have dic : ∀ {b : Addr} {o : Obj} {es : Array DictEntry} {ep : Nat}, s₁.heap.get? b = some o → o.data = .dict es ep → H b = none := by
    intro b o es ep e d
    cases q : H b with
    | none => rfl
    | some u =>
      have e2 := isA q
      subst e2
      rw [ha] at e
      cases e
      cases (show Data.seq vs.toArray _ = Data.dict es ep from d)
  have nsK : ∀ {b : Addr} {m : Str → Option Value}, s₁.heap.Ns b m → (hidT s₁.heap H).Ns b m := by
    rintro b m ⟨o, es, ep, e, d, r⟩
    exact ⟨o, es, ep, hidT_get e (dic e d), d, r⟩
  have hKb : K.In (hidT s₁.heap H) := by
    intro b o e
    refine hidT_get (KX b o e) ?_
    cases q : H b with
    | none => rfl
    | some u =>
      have e2 := isA q
      subst e2
      rw [hK (by rw [q]; exact Option.some_ne_none u)] at e
      cases e
  obtain ⟨mc, l1, l2⟩ := hlim
  have hM : Mod K mg (hidT s₁.heap H) := ⟨hKb, nsK hns, ⟨mb, nsK hb, hbb⟩, mc, nsK l1, l2⟩
  have none0 : ∀ (b : Addr), b ∉ ([] : List Addr) := fun b => by simp
  have e0 : Env0 P w K mg (hidT s₁.heap H) callerA [] s₁ H :=
    ⟨rfl, hM, fun b o e => of_hidT e, Nat.le_of_eq (hidT_size _ _), trivial,
      fun b z => (none0 b z).elim, hok, .of_eq hg⟩
  have hsm2 : ∃ o, (hidT s₁.heap H).get? sysModules = some o := let ⟨_, z⟩ := hsm; let ⟨o, _, _, e, _⟩ := nsK z; ⟨o, e⟩
  have R := (F _ hKb (nsK hns) hsm2).run callerA [] s₁ H ⟨[.ref a], []⟩ [.ref a] [.ref a] _ _ rfl hr e0
    (hbind s₁ (.ref a)) (.cons rfl .nil) hS
  refine codeAny_mono R ?_
  intro r s' h
  cases r with
  | error e => exact h.elim
  | ok fl =>
    cases fl with
    | next => exact h.elim
    | brk => exact h.elim
    | cont => exact h.elim
    | ret u =>
      obtain ⟨v, H', os, bare, un, hok', rv, q⟩ := h
      cases (show v = .bl true from q)
      cases (show u = Value.bool true from rv)
      refine ⟨rfl, OldK.of_keep ?_, os, bare⟩
      intro b o e
      cases q : H b with
      | none => exact un.keep b o e q (fun z => none0 b z) (none0 b)
      | some u =>
        rcases hO b with z | ⟨ob, xs, z⟩
        · rw [q] at z
          cases z
        · have e1 := (hok b _ z).1
          have e2 := (hok' b _ (un.frzs b ob _ z)).1
          rw [e] at e1
          cases e1
          exact e2
theorem end_callS (KX : K.In s₁.heap) (hns : s₁.heap.Ns mainGlobals mg) (hb : s₁.heap.Ns builtinsNs mb) (hbb : ∀ x : Str, x ≠ "__name__" → mb x = bootBuiltins x) (hlim : s₁.heap.NoLimit) (hg : s₁.gens = #[])
    (ha : s₁.heap.get? a = some { cls := .type "list", data := .seq vs.toArray }) (hi : IntsAre vs ns) (hl : ns.length ≤ sizeLine) (hr : Room k callerA)
    (hsm : ∃ mm, s₁.heap.Ns sysModules mm) (F : ∀ base : Heap, K.In base → base.Ns mainGlobals mg → (∃ o, base.get? sysModules = some o) → FnG P w K mg base k fa fd [x] sp) (hbind : ∀ (s : Shared) (u : Value), BindsTo s fd ⟨[u], []⟩ [(x, u)])
    (hsp : ∀ H : Hp, L2.Only H → SqL K H a (ns.map V.int) → sp [.ref a] H (fun v _ => v = .bl true) fun _ _ _ => False) :
    codeAny (model P w) callerA (.call (.ref fa) ⟨[.ref a], []⟩) (fun r s' => r = .ok (.ret (.bool true)) ∧ OldK s₁.heap s'.heap ∧ s'.os = s₁.os ∧ AllBare s'.gens) s₁ := by
  have rv := vals_ints hi
  have lenV := hi.length
  cases hk : K.lookup a with
  | some o =>
    have e := KX a o hk
    rw [ha] at e
    cases e
    have hO : L2.Only fun _ => none := fun _ => .inl rfl
    have hS : SqL K (fun _ => none) a (ns.map V.int) := .inr ⟨_, vs.toArray, _, hk, rfl, rfl, rfl, by rw [List.size_toArray, lenV]; exact hl, by simpa using rv⟩
    refine end_coreS (fun _ => none) KX hns hb hbb hlim hg ha hr hsm F hbind hO (hsp _ hO hS) ?_ (fun b z => absurd rfl z) (fun z => absurd rfl z)
    intro b u z
    cases (show (none : Option HO) = some u from z)
  | none =>
    have at1 : ∀ b, b = a → (fun b => if b = a then some (HO.frz { cls := .type "list", data := .seq vs.toArray } (.lst (ns.map V.int))) else none) b = some (HO.frz { cls := .type "list", data := .seq vs.toArray } (.lst (ns.map V.int))) := fun b e => if_pos e
    have at0 : ∀ b, b ≠ a → (fun b => if b = a then some (HO.frz { cls := .type "list", data := .seq vs.toArray } (.lst (ns.map V.int))) else none) b = none := fun b e => if_neg e
    generalize hH : (fun b => if b = a then some (HO.frz { cls := .type "list", data := .seq vs.toArray } (.lst (ns.map V.int))) else none : Hp) = H at at1 at0
    have hO : L2.Only H := fun b => by
      by_cases e : b = a
      · exact .inr ⟨_, _, at1 b e⟩
      · exact .inl (at0 b e)
    refine end_coreS H KX hns hb hbb hlim hg ha hr hsm F hbind hO (hsp H hO (.inl (.inr ⟨_, at1 a rfl⟩))) ?_ ?_ fun _ => hk
    · intro b u z
      by_cases e : b = a
      · rw [at1 b e] at z
        cases z
        subst e
        refine ⟨ha, ?_, vs, _, rv, ha⟩
        rw [List.length_map]
        exact hl
      · rw [at0 b e] at z
        cases z
    · intro b z
      by_cases e : b = a
      · exact e
      · exact absurd (at0 b e) z
end
/-- the goal that the head leaves, from the law's meaning: it is True of every script -/
theorem walkS {l : PySem.W.OpenLaw} {n k : Nat} {q : Program} {loose : List Str} {XP : (Str → Option Value) → Heap → Prop} {YP : World → Heap → Prop} {d : DefRec} {K : Params → PySem.W.Frag} {x : Str} {G : FN}
    (hn : l.most = some n) (hn2 : n ≤ sizeLine) (hdf : d.params.defaults = []) (hr : Room k callerA) (himp : importsNone q = true) (hY : ∀ (w : World) (h : Heap), YP w h → (K w.params).In h)
    (F : ∀ (w : World) (mg : Str → Option Value) (fa : Addr) (h : Heap), (K w.params).In h → h.Ns mainGlobals mg → mg d.name = some (.ref fa) →
      ∃ fd : FuncData, (∀ (s : Shared) (u : Value), BindsTo s fd ⟨[u], []⟩ [(x, u)]) ∧
        ∀ base : Heap, (K w.params).In base → base.Ns mainGlobals mg → (∃ o, base.get? sysModules = some o) → FnG l.prog w (K w.params) mg base k fa fd [x] (spF (K w.params) 1 G))
    (hG : ∀ ns : List Int, ns.length ≤ n → ∃ cs, G [.z ns] = some (.d (.bool true), cs)) :
    PySem.W.WalkO q loose XP YP l.row.toRowW d [] (fun f vs => PySem.call f vs) := by
  refine Att.attach_call hn hdf fun w s₀ s₁ mg mb fa o pm cd doc a vs ns G' Y ho hd hcd hmg hobj hints hlen hg => ?_
  have KX := hY w _ Y
  obtain ⟨fd, hb, hF⟩ := F w mg fa _ KX G'.T.g hmg
  refine end_callS KX G'.T.g G'.T.b G'.T.builtins G'.T.nolimit hg hobj hints (Nat.le_trans hlen hn2) hr (let ⟨mm, z, _⟩ := (G'.T.seer himp).mods; ⟨mm, z⟩) hF hb ?_
  intro H hO hS
  obtain ⟨cs, hcs⟩ := hG ns hlen
  have he : hid [] [none] H = H := by
    funext b
    unfold hid
    rw [if_neg]
    rintro (z | z)
    · cases z
    · cases List.mem_singleton.mp z
  refine ⟨[], [none], [.z ns], _, cs, ⟨rfl, rfl, ?_, ?_, ?_, ?_, ?_, ?_⟩, rfl, hcs, ?_⟩
  · intro i s hi
    cases i with
    | zero =>
      cases (show some (some (S.z ns)) = some (some s) from hi)
      exact ⟨.ref a, rfl, a, rfl, by rw [he]; exact hS⟩
    | succ i => cases (show (none : Option (Option S)) = some (some s) from hi)
  · intro i c hi
    cases i with
    | zero => cases (show some (some (S.z ns)) = some (some (S.o c)) from hi)
    | succ i => cases (show (none : Option (Option S)) = some (some (S.o c)) from hi)
  · intro i b hi
    cases i with
    | zero => cases (show some (none : Option Addr) = some (some b) from hi)
    | succ i => cases (show (none : Option (Option Addr)) = some (some b) from hi)
  · intro i j b hi
    cases i with
    | zero => cases (show some (none : Option Addr) = some (some b) from hi)
    | succ i => cases (show (none : Option (Option Addr)) = some (some b) from hi)
  · intro i b hi
    cases i with
    | zero => cases (show some (none : Option Addr) = some (some b) from hi)
    | succ i => cases (show (none : Option (Option Addr)) = some (some b) from hi)
  · intro b hb
    cases hb
  · intro v H' _ _ hv
    cases (show Dq _ _ v (.bool true) from hv)
    rfl
end DL

namespace DL
open PySem PySem.Spec PyProof.Rows L2 DLS
/-! ### numbers, truths among them -/
abbrev b2 (b : Bool) : Int := if b = true then 1 else 0
def rNum (g : Int → Int → Int) : R2 := fun x y H Q => (∃ i j, x = .int i ∧ y = .int j ∧ Q (.int (g i j)) H) ∨ (∃ b j, x = .bl b ∧ y = .int j ∧ Q (.int (g (b2 b) j)) H) ∨ (∃ i b, x = .int i ∧ y = .bl b ∧ Q (.int (g i (b2 b))) H)
def opNum (g : Int → Int → Int) (a b : S) : Option S := match a, b with
  | .d (.int i), .d (.int j) => some (.d (.int (g i j)))
  | .d (.bool b), .d (.int j) => some (.d (.int (g (b2 b) j)))
  | .d (.int i), .d (.bool b) => some (.d (.int (g i (b2 b))))
  | _, _ => none
theorem od_num {K : PySem.W.Frag} {g : Int → Int → Int} : OpD K (rNum g) (opNum g) := fun T ρ H x y a b s Q k ha hb hg hq => by
  unfold opNum at hg
  split at hg
  · rename_i i j
    cases hg
    cases (show Dq K _ x (.int i) from ha)
    cases (show Dq K _ y (.int j) from hb)
    exact .inl ⟨i, j, rfl, rfl, postO_same hq (.int _)⟩
  · rename_i c j
    cases hg
    cases (show Dq K _ x (.bool c) from ha)
    cases (show Dq K _ y (.int j) from hb)
    exact .inr (.inl ⟨c, j, rfl, rfl, postO_same hq (.int _)⟩)
  · rename_i i c
    cases hg
    cases (show Dq K _ x (.int i) from ha)
    cases (show Dq K _ y (.bool c) from hb)
    exact .inr (.inr ⟨i, c, rfl, rfl, postO_same hq (.int _)⟩)
  · cases hg
section
variable {X : Cx} {a b e : Expr} {es : List Expr} {pos p : Pos} {fp fq : PEV} {fa : AEV}
theorem or_addN : OpR X (binaryOp .Add) (rNum (· + ·)) := by
  intro pins s σ H x y v u Q I rx ry h
  rcases h with ⟨i, j, rfl, rfl, q⟩ | ⟨c, j, rfl, rfl, q⟩ | ⟨i, c, rfl, rfl, q⟩
  · obtain ⟨_, rfl⟩ := rx
    obtain ⟨_, rfl⟩ := ry
    exact PyProof.Rows.add_int ⟨.int _, H, I.tok _, ⟨_, rfl⟩, q⟩
  · cases rx
    obtain ⟨_, rfl⟩ := ry
    exact IntBool.add_bool_int ⟨.int _, H, I.tok _, ⟨_, rfl⟩, q⟩
  · obtain ⟨_, rfl⟩ := rx
    cases ry
    exact add_int_bool ⟨.int _, H, I.tok _, ⟨_, rfl⟩, q⟩
theorem or_subN : OpR X (binaryOp .Sub) (rNum (· - ·)) := by
  intro pins s σ H x y v u Q I rx ry h
  rcases h with ⟨i, j, rfl, rfl, q⟩ | ⟨c, j, rfl, rfl, q⟩ | ⟨i, c, rfl, rfl, q⟩
  · obtain ⟨_, rfl⟩ := rx
    obtain ⟨_, rfl⟩ := ry
    exact PyProof.Rows.sub_int ⟨.int _, H, I.tok _, ⟨_, rfl⟩, q⟩
  · cases rx
    obtain ⟨_, rfl⟩ := ry
    exact IntBool.sub_bool_int ⟨.int _, H, I.tok _, ⟨_, rfl⟩, q⟩
  · obtain ⟨_, rfl⟩ := rx
    cases ry
    exact IntBool.sub_int_bool ⟨.int _, H, I.tok _, ⟨_, rfl⟩, q⟩
theorem de_addN (ha : DP X a fp) (hb : DP X b fq) : DE X (.BinOp a .Add b pos) (bin (opNum (· + ·)) fp fq) := de_op or_addN od_num ha hb
theorem de_subN (ha : DP X a fp) (hb : DP X b fq) : DE X (.BinOp a .Sub b pos) (bin (opNum (· - ·)) fp fq) := de_op or_subN od_num ha hb
def strN : PyData → Option Str
  | .int i => if i.natAbs.log2 < 1920 then some (toString i) else none
  | .bool b => some (if b = true then "True" else "False")
  | _ => none
def fStrN : List S → Option S
  | [.d x] => (strN x).map fun t => .d (.str t)
  | _ => none
theorem call_strN : CallR X (.type "str") (fun xs H Q => (∃ i, xs = [.int i] ∧ i.natAbs.log2 < 1920 ∧ Q (.str (toString i)) H) ∨ ∃ b, xs = [.bl b] ∧ Q (.str (if b = true then "True" else "False")) H) := by
  intro pins s σ H xs us Q I r h
  rcases h with h | ⟨b, rfl, q⟩
  · exact call_str_int pins s σ H xs us Q I r h
  · obtain ⟨u, rfl, r1⟩ := vals1 r
    cases r1
    exact PySem.P.str_of_bool ⟨.str _, H, I.tok _, ⟨_, rfl⟩, q⟩
theorem cd_strN {K : PySem.W.Frag} : CallD K (fun xs H Q => (∃ i, xs = [.int i] ∧ i.natAbs.log2 < 1920 ∧ Q (.str (toString i)) H) ∨ ∃ b, xs = [.bl b] ∧ Q (.str (if b = true then "True" else "False")) H) fStrN := fun T ρ H vs ss s Q k hp hg hq => by
  unfold fStrN at hg
  split at hg
  · rename_i x
    obtain ⟨v, rfl, h⟩ := paired1 hp
    cases x with
    | int i =>
      have hg' : ((if i.natAbs.log2 < 1920 then some (Str.ofString (toString i)) else none).map fun t => S.d (.str t)) = some s := hg
      by_cases hl : i.natAbs.log2 < 1920
      · rw [if_pos hl] at hg'
        cases hg'
        cases (show Dq K _ v (.int i) from h)
        exact .inl ⟨i, rfl, hl, postO_same hq (.str _)⟩
      · rw [if_neg hl] at hg'
        cases hg'
    | bool b =>
      cases hg
      cases (show Dq K _ v (.bool b) from h)
      exact .inr ⟨b, rfl, postO_same hq (.str _)⟩
    | _ => cases hg
  · cases hg
theorem de_strN (hm : X.mg "str" = none) (hg : Gl X "str") (ha : DA X (e :: es) fa) (he : starEach (e :: es) X.env = (false, eval e X.env) :: starEach es X.env := by rfl) (hpl : (backTo pos (starEach es X.env)).any (·.1) = false := by rfl) : DE X (.Call (.Name "str" p) (e :: es) [] pos) (callB fStrN fa) :=
  de_callTy call_strN cd_strN hg hm (by decide +kernel) ha (by decide) (by decide) he hpl
end
/-! ### a tuple of anything != () -/
def rNeU (K : PySem.W.Frag) : R2 := fun x y H Q => ∃ xs, Dq K H x (.tuple xs) ∧ Dq K H y (.tuple []) ∧ Q (.bl (!xs.isEmpty)) H
def opNeU (a b : S) : Option S := match a, b with
  | .d (.tuple xs), .d (.tuple []) => some (.d (.bool (!xs.isEmpty)))
  | _, _ => none
section
variable {X : Cx} {a b : Expr} {pos : Pos} {fp fq : PEV} {k : Nat}
theorem dq_tup {X : Cx} {pins : List (Addr × Obj)} {σ : L2.St} {H : Hp} {s : Shared} (I : Inv X pins σ H s) {x : V} {v : Value} {xs : List PyData} (h : Dq X.K H x (.tuple xs)) (r : RelV x v) : ∃ a its, v = .ref a ∧ s.heap.IsTuple a its ∧ its.size = xs.length := by
  cases h with
  | @tup a ws _ h1 h2 =>
    cases r
    obtain ⟨its, rv, ⟨o, ho, hc, n, hd⟩, _⟩ := I.tuple (SqT.of h1)
    exact ⟨_, _, rfl, ⟨o, ho, hc, n, hd⟩, by rw [List.size_toArray, ← dpAll_len h2, rv.length]⟩
theorem or_neU (hu : X.A.units < cLine) : OpR X (compareOp .NotEq) (rNeU X.K) := by
  intro pins s σ H x y v u Q I rx ry h
  obtain ⟨xs, hx, hy, q⟩ := h
  obtain ⟨a, its, rfl, ta, la⟩ := dq_tup I hx rx
  obtain ⟨b, its2, rfl, tb, lb⟩ := dq_tup I hy ry
  have l0 : its2.size = 0 := lb
  refine PySem.SeqAt.RcNeAt.tuples (e := fun _ => true) ta tb hu (fun j h1 h2 => by omega) _ _ _ _ (fin_bl I q ?_)
  rw [l0, la]
  cases xs <;> simp
theorem od_neU {K : PySem.W.Frag} : OpD K (rNeU K) opNeU := fun T ρ H x y a b s Q k ha hb hg hq => by
  unfold opNeU at hg
  split at hg
  · rename_i xs
    cases hg
    exact ⟨xs, dpM hid_same _ (show Dq K _ x _ from ha), dpM hid_same _ (show Dq K _ y _ from hb), postO_same hq (.bl _)⟩
  · cases hg
theorem dt_neU (hr : Room k X.A) (ha : DP X a fp) (hb : DP X b fq) : DT X (.Compare a [.NotEq] [b] pos) (bl (bin opNeU fp fq)) := dt_cmp (or_neU (by have := hr.un; omega)) od_neU ha hb (nomark _)
end
end DL

namespace DL
open PySem PySem.Spec PyProof.Rows L2 DLS
/-! ### things of any kind: how great, how deep, how long -/
inductive Sm (B : Nat) : PyData → Prop
  | non : Sm B .none
  | bl (b : Bool) : Sm B (.bool b)
  | int {i : Int} (h : i.natAbs ≤ B) : Sm B (.int i)
  | str (x : Str) : Sm B (.str x)
  | lst {xs : List PyData} (h : ∀ x ∈ xs, Sm B x) : Sm B (.list xs)
  | tup {xs : List PyData} (h : ∀ x ∈ xs, Sm B x) : Sm B (.tuple xs)
  | dE : Sm B (.dict [])
  | d1 {k : Str} {x : PyData} (h : Sm B x) : Sm B (.dict [(.str k, x)])
theorem Sm.mono {B B' : Nat} (hB : B ≤ B') {x : PyData} (h : Sm B x) : Sm B' x := by
  induction h with
  | non => exact .non
  | bl b => exact .bl b
  | int h => exact .int (Nat.le_trans h hB)
  | str x => exact .str x
  | lst _ ih => exact .lst ih
  | tup _ ih => exact .tup ih
  | dE => exact .dE
  | d1 _ ih => exact .d1 ih
theorem all_show : ∀ {xs : List PyData}, (∀ x ∈ xs, x.showable = true) → PyData.showableAll xs = true
  | [], _ => rfl
  | x :: xs, h => by
    show (x.showable && PyData.showableAll xs) = true
    rw [h x List.mem_cons_self, all_show fun y hy => h y (List.mem_cons_of_mem _ hy)]
    rfl
theorem Sm.show {B : Nat} (hB : B < 2 ^ 1000) {x : PyData} (h : Sm B x) : x.showable = true := by
  induction h with
  | non => rfl
  | bl b => rfl
  | int h => exact decide_eq_true (log_lt (a := 1000) (Nat.lt_of_le_of_lt h hB) (by decide) (by decide))
  | str x => rfl
  | lst _ ih => exact all_show ih
  | tup _ ih => exact all_show ih
  | dE => rfl
  | @d1 k x _ ih =>
    show (true && x.showable && true) = true
    rw [ih]; rfl
def slen (xs : List PyData) : Nat := (xs.map fun x => x.shown.length + 2).sum
theorem slen_piled : ∀ xs : List PyData, piled (PyData.shownAll xs) = slen xs
  | [] => rfl
  | x :: xs => by
    show piled (x.shown :: PyData.shownAll xs) = _
    rw [piled_cons, slen_piled xs]
    unfold slen
    rw [List.map_cons, List.sum_cons]
theorem slen_app (xs ys : List PyData) : slen (xs ++ ys) = slen xs + slen ys := by
  unfold slen
  rw [List.map_append, List.sum_append]
theorem slen_one (x : PyData) : slen [x] = x.shown.length + 2 := by
  unfold slen
  simp
theorem sum_sub {l m : List Nat} (h : l.Sublist m) : l.sum ≤ m.sum := by
  induction h with
  | slnil => exact Nat.le_refl _
  | cons a _ ih => rw [List.sum_cons]; omega
  | cons_cons a _ ih => rw [List.sum_cons, List.sum_cons]; omega
theorem slen_sub {xs ys : List PyData} (h : xs.Sublist ys) : slen xs ≤ slen ys := sum_sub (h.map _)
theorem slen_rev (xs : List PyData) : slen xs.reverse = slen xs := by
  unfold slen
  rw [List.map_reverse, List.sum_reverse]
theorem slen_len (xs : List PyData) : 2 * xs.length ≤ slen xs := by
  induction xs with
  | nil => exact Nat.le_refl _
  | cons x xs ih =>
    have : slen (x :: xs) = x.shown.length + 2 + slen xs := by
      unfold slen
      rw [List.map_cons, List.sum_cons]
    rw [this, List.length_cons]
    omega
structure It (d w B : Nat) (x : PyData) : Prop where
  sm : Sm B x
  dp : x.depth ≤ d
  ln : x.shown.length ≤ w
structure SqI (d w B : Nat) (xs : List PyData) : Prop where
  sm : ∀ x ∈ xs, Sm B x
  dp : ∀ x ∈ xs, x.depth ≤ d
  ln : slen xs ≤ w
theorem It.mono {d w B d' w' B' : Nat} {x : PyData} (h : It d w B x) (hd : d ≤ d') (hw : w ≤ w') (hB : B ≤ B') : It d' w' B' x := ⟨h.sm.mono hB, Nat.le_trans h.dp hd, Nat.le_trans h.ln hw⟩
theorem SqI.mono {d w B d' w' B' : Nat} {x : List PyData} (h : SqI d w B x) (hd : d ≤ d') (hw : w ≤ w') (hB : B ≤ B') : SqI d' w' B' x := ⟨fun y hy => (h.sm y hy).mono hB, fun y hy => Nat.le_trans (h.dp y hy) hd, Nat.le_trans h.ln hw⟩
theorem depth_all {d : Nat} : ∀ {xs : List PyData}, (∀ x ∈ xs, x.depth ≤ d) → PyData.depthAll xs ≤ d
  | [], _ => Nat.zero_le _
  | x :: xs, h => by
    show max x.depth (PyData.depthAll xs) ≤ d
    exact Nat.max_le.mpr ⟨h x List.mem_cons_self, depth_all fun y hy => h y (List.mem_cons_of_mem _ hy)⟩
theorem depth_mem {d : Nat} : ∀ {xs : List PyData}, PyData.depthAll xs ≤ d → ∀ x ∈ xs, x.depth ≤ d
  | [], _, x, hx => nomatch hx
  | y :: xs, h, x, hx => by
    have h' : max y.depth (PyData.depthAll xs) ≤ d := h
    obtain ⟨h1, h2⟩ := Nat.max_le.mp h'
    rcases List.mem_cons.mp hx with rfl | hx
    · exact h1
    · exact depth_mem h2 x hx
theorem SqI.tup {d w B : Nat} {xs : List PyData} (h : SqI d w B xs) : It (d + 1) (w + 3) B (.tuple xs) := by
  refine ⟨.tup h.sm, Nat.succ_le_succ (depth_all h.dp), ?_⟩
  show (tupleText (PyData.shownAll xs)).length ≤ _
  unfold tupleText
  rw [Str.length_append, Str.length_append]
  have hp := slen_piled xs
  have h3 : (Str.join ", " (PyData.shownAll xs)).length ≤ slen xs := by
    cases xs with
    | nil => exact Nat.zero_le _
    | cons i r =>
      have e := join_length_add (PyData.shownAll (i :: r)) (by show PyData.shown i :: _ ≠ []; exact List.cons_ne_nil _ _)
      omega
  have h4 : (("(" : String) : Str).length ≤ 1 := by decide +kernel
  have h5 : ((if (PyData.shownAll xs).length == 1 then ",)" else ")" : String) : Str).length ≤ 2 := by
    split <;> decide +kernel
  have := h.ln
  omega
theorem SqI.lst {d w B : Nat} {xs : List PyData} (h : SqI d w B xs) : It (d + 1) (w + 3) B (.list xs) := by
  refine ⟨.lst h.sm, Nat.succ_le_succ (depth_all h.dp), ?_⟩
  show (listText (PyData.shownAll xs)).length ≤ _
  unfold listText
  rw [Str.length_append]
  have hp := slen_piled xs
  have h1 := text_len (PyData.shownAll xs) 0 "["
  have h2 : (("[" : String) : Str).length ≤ 1 := by decide +kernel
  have h3 : (("]" : String) : Str).length ≤ 1 := by decide +kernel
  have := h.ln
  omega
theorem It.un {d w B : Nat} {xs : List PyData} (h : It (d + 1) w B (.tuple xs)) : SqI d (w + 2) B xs := by
  refine ⟨?_, depth_mem (Nat.le_of_succ_le_succ h.dp), ?_⟩
  · cases h.sm with
    | tup q => exact q
  · have hl := h.ln
    have hl' : (tupleText (PyData.shownAll xs)).length ≤ w := hl
    unfold tupleText at hl'
    rw [Str.length_append, Str.length_append] at hl'
    have hp := slen_piled xs
    cases xs with
    | nil => exact Nat.zero_le _
    | cons i r =>
      have e := join_length_add (PyData.shownAll (i :: r)) (by show PyData.shown i :: _ ≠ []; exact List.cons_ne_nil _ _)
      omega
theorem It.deep {d w B : Nat} {xs : List PyData} (h : It d w B (.tuple xs)) : ∃ e, d = e + 1 := by
  have : PyData.depthAll xs + 1 ≤ d := h.dp
  exact ⟨d - 1, by omega⟩
theorem SqI.sub {d w B : Nat} {xs ys : List PyData} (h : SqI d w B ys) (s : xs.Sublist ys) : SqI d w B xs := ⟨fun x hx => h.sm x (s.subset hx), fun x hx => h.dp x (s.subset hx), Nat.le_trans (slen_sub s) h.ln⟩
theorem SqI.rev {d w B : Nat} {xs : List PyData} (h : SqI d w B xs) : SqI d w B xs.reverse := ⟨fun x hx => h.sm x (List.mem_reverse.mp hx), fun x hx => h.dp x (List.mem_reverse.mp hx), by rw [slen_rev]; exact h.ln⟩
theorem SqI.app {d w u B : Nat} {xs ys : List PyData} (h : SqI d w B xs) (k : SqI d u B ys) : SqI d (w + u) B (xs ++ ys) := ⟨fun x hx => (List.mem_append.mp hx).elim (h.sm x) (k.sm x), fun x hx => (List.mem_append.mp hx).elim (h.dp x) (k.dp x), by
  rw [slen_app]
  have := h.ln
  have := k.ln
  omega⟩
theorem It.one {d w B : Nat} {x : PyData} (h : It d w B x) : SqI d (w + 2) B [x] := ⟨fun y hy => by rw [List.mem_singleton.mp hy]; exact h.sm, fun y hy => by rw [List.mem_singleton.mp hy]; exact h.dp, by
  rw [slen_one]
  have := h.ln
  omega⟩
theorem SqI.nil (d B : Nat) : SqI d 0 B [] := ⟨fun x hx => (nomatch hx), fun x hx => (nomatch hx), Nat.le_refl _⟩
theorem SqI.len {d w B : Nat} {xs : List PyData} (h : SqI d w B xs) : xs.length ≤ w := by
  have := slen_len xs
  have := h.ln
  omega
theorem shown_le {x : PyData} : ∀ {xs : List PyData}, x ∈ xs → x.shown.length + 2 ≤ slen xs
  | y :: xs, h => by
    have e : slen (y :: xs) = y.shown.length + 2 + slen xs := by
      unfold slen
      rw [List.map_cons, List.sum_cons]
    rw [e]
    rcases List.mem_cons.mp h with rfl | h
    · omega
    · have := shown_le h
      omega
theorem SqI.at {d w B : Nat} {xs : List PyData} (h : SqI d w B xs) {x : PyData} (hx : x ∈ xs) : It d w B x := ⟨h.sm x hx, h.dp x hx, by
  have := shown_le hx
  have := h.ln
  omega⟩
theorem It.ok {d w B : Nat} {x : PyData} (h : It d w B x) (hd : d ≤ 60) (hw : w ≤ 16000000) (hB : B < 2 ^ 1000) : fReprD [.d x] = some (.d (.str x.shown)) := RpD.ok (d := d) (w := w) ⟨h.sm.show hB, h.dp, h.ln⟩ hd (Nat.le_trans hw (by decide))
theorem It.rp {d w B : Nat} {x : PyData} (hs : Sm B x) (h : RpD d w x) : It d w B x := ⟨hs, h.dp, h.ln⟩
theorem shown_int : ∀ k : Fin 201, (PyData.shown (.int ((k.val : Int) - 100))).length ≤ 5 := by decide +kernel
theorem shown_str : ∀ k : Fin 201, (PyData.shown (.str (Str.ofString (toString ((k.val : Int) - 100))))).length ≤ 7 := by decide +kernel
theorem It.int {d B : Nat} {i : Int} (h : i.natAbs ≤ B) (hB : B ≤ 100) : It d 5 B (.int i) := ⟨.int h, Nat.zero_le _, by
  have := shown_int ⟨(i + 100).toNat, by omega⟩
  rw [show (((i + 100).toNat : Nat) : Int) - 100 = i by omega] at this
  exact this⟩
theorem It.strI {d B : Nat} {i : Int} (h : i.natAbs ≤ 100) : It d 7 B (.str (Str.ofString (toString i))) := ⟨.str _, Nat.zero_le _, by
  have := shown_str ⟨(i + 100).toNat, by omega⟩
  rw [show (((i + 100).toNat : Nat) : Int) - 100 = i by omega] at this
  exact this⟩
theorem It.non (d B : Nat) : It d 4 B .none := ⟨.non, Nat.zero_le _, by decide +kernel⟩
theorem It.bl (d B : Nat) (b : Bool) : It d 5 B (.bool b) := ⟨.bl b, Nat.zero_le _, by cases b <;> decide +kernel⟩
end DL

namespace DL
open PySem PySem.Spec PyProof.Rows L2 DLS
/-! ### a tuple by any small number -/
def opMulTN (a b : S) : Option S := match opMulT a b with
  | some z => some z
  | none => (asI b).bind fun j => (asT a).bind fun xs => if xs ≠ [] ∧ 2 ≤ j ∧ j ≤ 1000 ∧ xs.length ≤ 1000 then some (.d (.tuple (List.replicate j.toNat xs).flatten)) else none
theorem od_mulTN {K : PySem.W.Frag} : OpD K (fun x y H Q => (rRep1 K x y H Q ∨ rRep0 K x y H Q) ∨ rRepT K x y H Q) opMulTN := fun T ρ H x y a b s Q k ha hb hg hq => by
  unfold opMulTN at hg
  split at hg
  · rename_i z hz
    cases hg
    exact .inl (od_mulT T ρ H x y a b s Q k ha hb hz hq)
  · cases e2 : asI b with
    | none => rw [e2] at hg; cases hg
    | some j =>
      rw [e2] at hg
      simp only [Option.bind_some] at hg
      cases e1 : asT a with
      | none => rw [e1] at hg; cases hg
      | some xs =>
        rw [e1] at hg
        simp only [Option.bind_some] at hg
        obtain ⟨p, vs, rfl, h1, h2⟩ := at_T ha e1
        have hb' := at_I hb e2
        split at hg
        · rename_i hj
          cases hg
          refine .inr ⟨p, j, vs, rfl, hb', SqT.of (hid_same _ _ h1), fun z => ?_, hj.2.1, hj.2.2.1, by rw [dpAll_len h2]; exact hj.2.2.2, fun n hn => postO_tup k hq (dpAll_rep h2 _) hn⟩
          subst z
          cases h2
          exact hj.1 rfl
        · cases hg
section
variable {X : Cx} {a b : Expr} {pos : Pos} {fa fb : PEV}
theorem de_mulTN (ha : DP X a fa) (hb : DP X b fb) : DE X (.BinOp a .Mult b pos) (bin opMulTN fa fb) := de_op (opr_or (opr_or op_rep1 op_rep0) op_repT) od_mulTN ha hb
end
end DL

namespace DLS
open PySem PySem.Spec PyProof.Rows L2 SrtO PySem.W
/-! ### tuples that are all empty can be sorted too -/
section
variable {prog : Program} {w : World} {A : Around} {E : Value → Shared → Prop} {s : Shared}
theorem one_lt_units {l b : Addr} {Q : Bool → Shared → Prop} (hl : IsTup s.heap l #[]) (hb : IsTup s.heap b #[]) (hu : A.units < cLine) (h : Q false s) : wpAny (model prog w) A (oneLt' true (.ref l) (.ref b)) Q E s := by
  obtain ⟨⟨cls, dd, data, sl⟩, ho, hc, n, hd⟩ := id hl
  obtain ⟨⟨cls2, dd2, data2, sl2⟩, ho2, hc2, n2, hd2⟩ := id hb
  simp only at hc hd hc2 hd2
  subst hc hd hc2 hd2
  rw [oneLt'_eq]
  simp only [if_true]
  refine wpAny_bind (wpAny_cRoomFor hu ?_)
  refine wpAny_bind (wpAny_callSpecialIfBound?_slot (T := "tuple") ⟨_, ho, rfl⟩ PySem.F.slot_tuple_lt (call_meets PySem.F.slot_tuple_lt ⟨_, ho, rfl⟩ PySem.F.entry_tuple_lt (PySem.F.args_tuple_lt_2 _ _) (HT.tuple_lt_ints l b #[] #[] n n2 dd dd2 sl sl2 [] [] .nil .nil) ⟨ho, ho2, ?_⟩))
  exact wpAny_truthy_bool h
theorem units_kind {vs : List Value} {Q : SortKind → Shared → Prop} (h2 : 0 < vs.length) (hT : ∀ v ∈ vs, ∃ a, v = .ref a ∧ IsTup s.heap a #[]) (h : Q oneType' s) : wpAny (model prog w) A (keyKind' vs.toArray) Q E s := by
  obtain ⟨v₁, rest, rfl⟩ : ∃ v₁ rest, vs = v₁ :: rest := by
    match vs, h2 with
    | v₁ :: rest, _ => exact ⟨v₁, rest, rfl⟩
  have look : ∀ v ∈ v₁ :: rest, Looks (model prog w) s.heap (typeOf v) (Value.type "tuple") := fun v hv => by
    obtain ⟨a, rfl, o, ho, hc, _⟩ := hT v hv
    show Looks _ _ (typeOf (Value.ref _)) (Value.type "tuple")
    exact hc ▸ (Looks.ld ho).andThen .now
  rw [keyKind'_eq, List.mapM_toArray, map_eq_pure_bind]
  refine wpAny_bind (wpAny_bind (kas_mapM (r := none) _ (fun v hv Q' hq => ?_) (wpAny_pure ?_)))
  · rw [kas_first_eq]
    refine wpAny_bind ((look v hv).here ?_)
    rw [if_neg (by first | decide | simp)]
    obtain ⟨a, rfl, o, ho, hc, n, hd⟩ := hT v hv
    exact wpAny_bind (listItems_at ho hd (wpAny_pure hq))
  · rw [if_neg (by simp), if_neg (by simp)]
    rw [oneTypeOnly'_eq, List.mapM_toArray, map_eq_pure_bind]
    refine wpAny_bind (wpAny_bind (wpAny_bind (kas_mapM (r := Value.type "tuple") _ (fun v hv Q' hq => (look v hv).here hq) (wpAny_pure ?_))))
    have hall : ((List.map (fun _ => Value.type "tuple") (v₁ :: rest)).toArray.all fun x => x == Value.type "tuple") = true := by
      simp only [List.all_toArray, List.all_map, List.all_eq_true]
      intro _ _
      rfl
    have h0 : (List.map (fun _ => Value.type "tuple") (v₁ :: rest)).toArray[0]? = some (Value.type "tuple") := by simp
    rw [h0]
    simp only [hall, if_true]
    exact wpAny_pure (wpAny_pure h)
theorem units_sortable (hu : A.units < cLine) {a : Addr} {vs : List Value} {k : Value → List Int} (h0 : 0 < vs.length) (hp : ∀ v ∈ vs, IsTupI s.heap v (k v) ∧ k v = []) (ha : ∀ o, s.heap.get? a = some o → o.cls ≠ .type "tuple") : SortableO prog w A s a vs fun v u => lexL (k v) (k u) := by
  intro h' keep
  have hp' : ∀ v ∈ vs, IsTupI h' v (k v) ∧ k v = [] := fun v hm => ⟨(hp v hm).1.keeps fun b o e c => keep b o (fun z => by subst z; exact ha o e c) e, (hp v hm).2⟩
  have hT : ∀ v ∈ vs, ∃ a, v = .ref a ∧ IsTup h' a #[] := fun v hv => by
    obtain ⟨⟨a, o, its, n, e, ho, hc, hd, hr⟩, hk⟩ := hp' v hv
    rw [hk] at hr
    cases hr
    exact ⟨a, e, o, ho, hc, n, hd⟩
  refine ⟨oneType', fun Q E hq => units_kind (s := { s with heap := h' }) h0 hT hq, ?_⟩
  intro p q hm hm'
  obtain ⟨x, ex, hx⟩ := hT _ hm
  obtain ⟨y, ey, hy⟩ := hT _ hm'
  show wpAny (model prog w) A (keyLt' oneType' p.1 q.1) (fun r s' => s' = { s with heap := h' } ∧ r = lexL (k p.1) (k q.1)) (fun _ _ => False) { s with heap := h' }
  rw [keyLt'_oneType, ex, ey]
  refine one_lt_units (s := { s with heap := h' }) hx hy hu ⟨rfl, ?_⟩
  rw [← ex, ← ey, (hp' _ hm).2, (hp' _ hm').2]
  rfl
end
end DLS
namespace DL
open PySem PySem.Spec PyProof.Rows L2 DLS
/-! ### sorted(tuple), its members tuples of numbers -/
def rSortedTE (K : PySem.W.Frag) : List V → Hp → VK → Prop := fun vs H Q => ∃ (a : Addr) (xs : List V) (k : V → List Int), vs = [V.ref a] ∧ SqT K H a xs ∧ (∀ x ∈ xs, ∃ t, x = V.ref t ∧ H t = some (.tup ((k x).map V.int))) ∧ ((∀ x ∈ xs, k x = []) ∨ xs.length < 2 ∨ ∀ x ∈ xs, k x ≠ []) ∧
  ∀ ys p, SrtO.Srtd (fun x y => lexL (k x) (k y)) ys → SrtO.Stb (fun x y => lexL (k x) (k y)) ys xs → H p = none → Q (.ref p) (upd H p (.lst ys))
def fSortedTE : List S → Option S
  | [s] => (asT s).bind fun xs => (rowsP xs).bind fun rs => if (rs.all fun r => r.isEmpty) = true ∨ rs.length < 2 ∨ (rs.all fun r => !r.isEmpty) = true then some (.o (.l ((sortT rs).map tupI))) else none
  | _ => none
section
variable {X : Cx}
theorem cr_sortedTE (hu : X.A.units + 64 < cLine) : CallR X (.builtin "sorted") (rSortedTE X.K) := by
  intro pins s σ H vs us Q I r h
  obtain ⟨a, xs, k, rfl, hs, hx, hne, q⟩ := h
  obtain ⟨its, rv, ⟨o, ho, hc, n, hd⟩, hz⟩ := I.tuple hs
  obtain ⟨u, rfl, ru⟩ := vals1 r
  cases (show u = Value.ref a from ru)
  obtain ⟨e1, e2⟩ := refs_back rv fun x m => let ⟨t, e, _⟩ := hx x m; ⟨t, e⟩
  have each : ∀ v ∈ its, IsTupI s.heap v (k (backV v)) := fun v hv => by
    obtain ⟨t, rfl⟩ := e2 v hv
    have hm : V.ref t ∈ xs := e1 ▸ List.mem_map.mpr ⟨_, hv, rfl⟩
    obtain ⟨t', e, ht⟩ := hx _ hm
    cases e
    obtain ⟨_, its2, r2, o, ho, hc, n, hd⟩ := I.hok _ _ ht
    exact ⟨t, o, its2, n, rfl, ho, hc, hd, r2⟩
  have hlen : xs.length = its.length := rv.length
  have hz' : its.length ≤ sizeLine := by omega
  refine Calls.call_function_entry PyProof.Rows.kind_sorted PyProof.Rows.plain_sorted PyProof.Rows.entry_sorted (PyProof.Rows.args_sorted1 _) ?_
  unfold Builtin.«sorted»
  refine wpAny_bind (m := checkCount "sorted" 1 1 _) (wpAny_pure ?_)
  refine wpAny_bind (wpAny_collect_seq (A := X.A.in1) a (T := "tuple") (.inr rfl) ho hc hd (fun h' hkp => ?_) (by rw [List.size_toArray]; exact hz'))
  have I1 : Inv X pins σ H { s with heap := h', toks := s.toks } := I.kept hkp
  rw [List.toList_toArray]
  refine wpAny_bind (wpAny_newList ?_ hz')
  have hoL : (h'.push (seqObj "list" its.toArray 0)).get? h'.objs.size = some (seqObj "list" its.toArray 0) := Heap.get?_push_size _ rfl
  show wpAny _ _ _ _ _ { s with heap := h'.push (seqObj "list" its.toArray 0), toks := s.toks }
  refine wpAny_bind (wpAny_holding (wpAny_call_entry PyProof.Rows.slot_list_sort ⟨_, hoL, rfl⟩ PyProof.Rows.entry_list_sort
    (SrtO.list_sort_ord (s := { s with heap := h'.push (seqObj "list" its.toArray 0), toks := s.toks }) (swoL fun u => k (backV u)) hoL hz' (fun h2 => ?_) fun out g1 g2 => ⟨_, rfl, ?_⟩) (PyProof.Rows.args_list_sort _)))
  · have hcl : ∀ o, ({ s with heap := h'.push (seqObj "list" its.toArray 0), toks := s.toks } : Shared).heap.get? h'.objs.size = some o → o.cls ≠ .type "tuple" := fun o e => by
      have e' : some o = some (seqObj "list" its.toArray 0) := e.symm.trans hoL
      cases e'
      exact fun c => absurd (Value.type.inj c) (by decide)
    have isT : ∀ v ∈ its, IsTupI (h'.push (seqObj "list" its.toArray 0)) v (k (backV v)) := fun v hv => (each v hv).keeps fun c o e _ => Heap.get?_push_of_some _ (hkp c o e)
    have inx : ∀ v ∈ its, backV v ∈ xs := fun v hv => by
      obtain ⟨t, rfl⟩ := e2 v hv
      exact e1 ▸ List.mem_map.mpr ⟨_, hv, rfl⟩
    rcases hne with hne | hne | hne
    · exact units_sortable (s := { s with heap := h'.push (seqObj "list" its.toArray 0), toks := s.toks }) (by show X.A.units + 1 + 1 < cLine; omega) (by omega) (fun v hv => ⟨isT v hv, hne _ (inx v hv)⟩) hcl
    · omega
    · exact tups_sortable (s := { s with heap := h'.push (seqObj "list" its.toArray 0), toks := s.toks }) (by omega) (fun v hv => ⟨isT v hv, hne _ (inx v hv)⟩) hcl
  · have h3 : ∀ u ∈ out, ∃ a, u = Value.ref a := fun u hu => e2 u (g2.perm.mem_iff.mp hu)
    have hb : SrtO.Stb (fun x y => lexL (k x) (k y)) (out.map backV) xs := e1 ▸ SrtO.Stb.map (swoL k) backV g2
    obtain ⟨e', he'⟩ := PyProof.Rows.sortedHeap_at (vs := its) (out := out.toArray) hoL
    have hlen2 : (out.map backV).length ≤ sizeLine := by
      rw [List.length_map, g2.len]
      exact hz'
    refine wpAny_pure ⟨_, rfl, .ref h'.objs.size, upd H h'.objs.size (.lst (out.map backV)), I1.laid (t' := s.toks) (fun b u e => ?_) (Nat.le_refl _)
      (show ObjOk X.prog X.w _ _ _ (.lst (out.map backV)) from ⟨hlen2, out, e', vals_back h3, he'⟩), rfl, q _ _ (SrtO.srtd_map g1) hb (I1.hok.fresh (Nat.le_refl _))⟩
    have hb : b < h'.objs.size := Heap.lt_size e
    rw [PyProof.Rows.sortedHeap_old (Nat.ne_of_lt hb) (by rw [size_push']; exact Nat.lt_succ_of_lt hb)]
    exact Heap.get?_push_of_some _ e
end
theorem cd_sortedTE {K : PySem.W.Frag} : CallD K (rSortedTE K) fSortedTE := fun T ρ H vs ss s Q k hp hg hq => by
  unfold fSortedTE at hg
  split at hg
  case h_2 => cases hg
  rename_i u
  obtain ⟨v, rfl, h⟩ := paired1 hp
  cases e : asT u with
  | none => rw [e] at hg; cases hg
  | some xs =>
    rw [e] at hg
    simp only [Option.bind_some] at hg
    cases ep : rowsP xs with
    | none => rw [ep] at hg; cases hg
    | some rs =>
      rw [ep] at hg
      simp only [Option.bind_some] at hg
      split at hg
      case isFalse => cases hg
      rename_i hc
      cases hg
      obtain ⟨a, ws, rfl, h1, h2⟩ := at_T h e
      have ex := rowsP_eq ep
      subst ex
      have each : ∀ v ∈ ws, (∃ t, v = .ref t ∧ H t = some (.tup ((keyVT H v).map V.int))) ∧ Dq K (hid T ρ H) v (tupI (keyVT H v)) ∧ keyVT H v ∈ rs := fun v hv => by
        obtain ⟨d, hd, q⟩ := dqAll_mem h2 hv
        obtain ⟨r, hr, rfl⟩ := List.mem_map.mp hd
        obtain ⟨q1, q2⟩ := dq_tupI hid_same q
        rw [q1]
        exact ⟨q2, q, hr⟩
      have hlen : ws.length = rs.length := by
        have := dpAll_len h2
        rw [List.length_map] at this
        exact this
      have kws : ws.map (keyVT H) = rs := by
        apply List.ext_getElem?
        intro i
        rw [List.getElem?_map]
        cases ei : ws[i]? with
        | none =>
          have hl := List.getElem?_eq_none_iff.mp ei
          rw [List.getElem?_eq_none (by omega)]
          rfl
        | some v =>
          obtain ⟨d, e1, q⟩ := dpAll_getV h2 ei
          rw [List.getElem?_map] at e1
          cases e2 : rs[i]? with
          | none => rw [e2] at e1; cases e1
          | some r =>
            rw [e2] at e1
            cases e1
            exact congrArg some (dq_tupI hid_same q).1
      refine ⟨a, ws, keyVT H, rfl, SqT.of (hid_same _ _ h1), fun v hv => (each v hv).1, ?_, fun ys n h3 h4 hn => ?_⟩
      · rcases hc with hc | hc | hc
        · refine .inl fun v hv => ?_
          have := List.all_eq_true.mp hc _ (each v hv).2.2
          exact List.isEmpty_iff.mp this
        · exact .inr (.inl (by omega))
        · refine .inr (.inr fun v hv z => ?_)
          have := List.all_eq_true.mp hc _ (each v hv).2.2
          rw [z] at this
          cases this
      have ey : ys.map (keyVT H) = sortT rs := by
        refine perm_uniq (R := fun a b => lexL b a = false) (fun a b h1 h2 => lexL_anti a b h2 h1) ?_ ?_ (isort_sorted (fun a b => lexL_asym a b) (fun a b c => lexL_tr a b c) _)
        · have := h4.perm.map (keyVT H)
          rw [kws] at this
          exact this.trans (isort_perm rs).symm
        · exact List.pairwise_map.mpr h3
      refine hq n _ hn ⟨ys, rfl, ?_⟩
      rw [← ey, List.map_map]
      exact dqAll_of fun v hv => (each v (h4.perm.mem_iff.mp hv)).2.1
section
variable {X : Cx} {e : Expr} {es : List Expr} {pos p : Pos} {fa : AEV}
theorem de_sortedTE {j : Nat} (hr : Room j X.A) (hm : X.mg "sorted" = none) (hg : Gl X "sorted") (ha : DA X (e :: es) fa) (he : starEach (e :: es) X.env = (false, eval e X.env) :: starEach es X.env := by rfl) (hpl : (backTo pos (starEach es X.env)).any (·.1) = false := by rfl) : DE X (.Call (.Name "sorted" p) (e :: es) [] pos) (callB fSortedTE fa) :=
  de_callB (cr_sortedTE hr.units) cd_sortedTE hg hm (by decide +kernel) ha (by decide) (by decide) he hpl
end
end DL

namespace DL
open PySem PySem.Spec PyProof.Rows L2 DLS
/-! ### n *= e -/
def ipMul : TIp := fun x y H Q => ∃ i j, x = .int i ∧ y = .int j ∧ (-(2 ^ 64) < j ∧ j < 2 ^ 64) ∧ Q (.int (i * j)) H
section
variable {X : Cx} {P : List Nat} {e : Expr} {pos : Pos} {fp : PEV}
theorem ip_mul : PIp X .Mult ipMul := by
  intro pins s σ H x y v u Q I r1 r2 h
  obtain ⟨i, j, e1, e2, hc, q⟩ := h
  subst e1; subst e2
  obtain ⟨t, rfl⟩ := r1
  obtain ⟨t', rfl⟩ := r2
  exact imul_int ⟨.int _, H, I.tok _, ⟨_, rfl⟩, q⟩ (show CMul i j from .inr hc).ok
def augMS (i : Nat) (f : PEV) : SEV := fun δ => match slot δ i with
  | some (.d (.int m)) => (f δ).bind fun x => match x.1 with
    | .v (.d (.int n)) => if -(2 ^ 64) < n ∧ n < 2 ^ 64 then some (.nx (x.2.set i (some (.d (.int (m * n)))))) else none
    | _ => none
  | _ => none
theorem ds_augM {i : Nat} {x : Str} {pos' : Pos} (hN : X.N.Nodup) (hi : X.N[i]? = some x) (hx : Loc X.env.scope x) (hP : i ∉ P) (he : DP X e fp) (hf : X.fn x = true ∨ X.env.scope.names.lookup x = some .local := by first | exact .inl rfl | exact .inr rfl | assumption) :
    DS X P (.AugAssign (.Name x pos') .Mult e pos) (augMS i fp) := ps_imp (ps_aug hN hi hx he ip_mul hf) fun D σ H ⟨T, ρ, δ, o, hs, hf, hq⟩ => by
  unfold augMS at hf
  split at hf
  case h_2 => cases hf
  rename_i m hm
  obtain ⟨v, v1, v2⟩ := hs.slot i _ (slot_some hm)
  cases (show Dq X.K _ v (.int m) from v2)
  cases ea : fp δ with
  | none => rw [ea] at hf; cases hf
  | some z =>
    obtain ⟨pv, δ1⟩ := z
    rw [ea] at hf
    simp only [Option.bind_some] at hf
    split at hf
    case h_2 => cases hf
    rename_i n
    split at hf
    case isFalse => cases hf
    rename_i hc
    cases hf
    refine ⟨.int m, v1, T, ρ, δ, _, δ1, hs, ea, fun ρ1 w H1 s1 x1 p1 => ?_⟩
    cases (show Dq X.K _ w (.int n) from p1)
    obtain ⟨c1, c2⟩ := s1.setD (i := i) (v := .int (m * n)) (s := .d (.int (m * n))) (Dq.int _)
    exact ⟨m, n, rfl, rfl, hc, hq _ _ _ c1 (x1.trans c2) fun j hj => List.getElem?_set_ne (fun z : i = j => hP (by rw [z]; exact hj))⟩
end
/-! ### a tuple of anything == () -/
def rEqU (K : PySem.W.Frag) : R2 := fun x y H Q => ∃ xs, Dq K H x (.tuple xs) ∧ Dq K H y (.tuple []) ∧ Q (.bl xs.isEmpty) H
def opEqU (a b : S) : Option S := match a, b with
  | .d (.tuple xs), .d (.tuple []) => some (.d (.bool xs.isEmpty))
  | _, _ => none
section
variable {X : Cx} {a b : Expr} {pos : Pos} {fp fq : PEV} {k : Nat}
theorem or_eqU (hu : X.A.units < cLine) : OpR X (compareOp .Eq) (rEqU X.K) := by
  intro pins s σ H x y v u Q I rx ry h
  obtain ⟨xs, hx, hy, q⟩ := h
  obtain ⟨a, its, rfl, ta, la⟩ := dq_tup I hx rx
  obtain ⟨b, its2, rfl, tb, lb⟩ := dq_tup I hy ry
  have l0 : its2.size = 0 := lb
  refine PySem.SeqAt.RcAt.tuples (e := fun _ => true) ta tb hu (fun j h1 h2 => by omega) _ _ _ _ (fin_bl I q ?_)
  rw [l0, la]
  cases xs <;> simp
theorem od_eqU {K : PySem.W.Frag} : OpD K (rEqU K) opEqU := fun T ρ H x y a b s Q k ha hb hg hq => by
  unfold opEqU at hg
  split at hg
  · rename_i xs
    cases hg
    exact ⟨xs, dpM hid_same _ (show Dq K _ x _ from ha), dpM hid_same _ (show Dq K _ y _ from hb), postO_same hq (.bl _)⟩
  · cases hg
theorem dt_eqU (hr : Room k X.A) (ha : DP X a fp) (hb : DP X b fq) : DT X (.Compare a [.Eq] [b] pos) (bl (bin opEqU fp fq)) := dt_cmp (or_eqU (by have := hr.un; omega)) od_eqU ha hb (nomark _)
theorem de_eqU (hr : Room k X.A) (ha : DP X a fp) (hb : DP X b fq) : DE X (.Compare a [.Eq] [b] pos) (bin opEqU fp fq) := de_cmp (or_eqU (by have := hr.un; omega)) od_eqU ha hb (nomark _)
end
end DL

namespace K35
open PySem PySem.Spec PyProof.Rows L2 DL
def topS (i : Nat) : Stmt := PySem.Challenge.pw_everlater_k35_towers_and_marks.main.body.getD i (.Pass ⟨0, 0, 0, 0⟩)
/-! _law_pot -/
abbrev st__law_pot : Stmt := topS 14
abbrev N__law_pot : List Str := ["_law_script", "_law_k", "_law_cell", "_law_own"]
def B__law_pot : SEV := (seqS (setS 2 (ifE (bl (bin (cmpI pLt) (pk 1) (frzP (callB fLen (consA (pk 0) nilA))))) (bin opIx (pk 0) (pk 1)) (bin opAdd (frzP (bin opMul (frzP (cst (.int 29))) (pk 1))) (frzP (cst (.int 8))))))
  (seqS (setS 3 (bin opMul (frzP (bin (opI2 iMod) (frzP (callB fAbs (consA (pk 2) nilA))) (frzP (bin (opI2 iPow) (frzP (bin (opI2 iPow) (frzP (cst (.int 10))) (frzP (cst (.int 60))))) (frzP (cst (.int 5))))))) (frzP (callB fInt (consA (frzP (bin (cmpI pGe) (frzP (callB fAbs (consA (pk 2) nilA))) (frzP (bin (opI2 iPow) (frzP (cst (.int 10))) (frzP (cst (.int 18))))))) nilA)))))
  (retS (lstE (consA (frzP (vr 3)) (consA (frzP (bin (opI2 iMod) (frzP (bin opAdd (frzP (bin opAdd (frzP (bin opMul (frzP (bin (opI2 iMod) (pk 2) (frzP (cst (.int 2305843009213693951))))) (frzP (cst (.int 48271))))) (frzP (bin opMul (frzP (bin opMul (frzP (cst (.int 7919))) (pk 1))) (pk 1))))) (frzP (cst (.int 13))))) (frzP (cst (.int 2305843009213693921))))) (consA (frzP (cst (.int 0))) nilA)))))))
def F__law_pot : FN := runF [0, 1] (List.length N__law_pot) B__law_pot
/-! _law_take -/
abbrev st__law_take : Stmt := topS 15
abbrev N__law_take : List Str := ["_law_pot_here", "_law_upto", "_law_prime", "_law_mixed", "_law_digit"]
def B__law_take : SEV := (seqS (ifS (bl (bin (cmpI pGt) (frzP (bin opIx (pk 0) (frzP (cst (.int 0))))) (frzP (cst (.int 0))))) (seqS (setS 4 (bin (opI2 iMod) (frzP (bin opIx (pk 0) (frzP (cst (.int 0))))) (pk 1)))
  (seqS (setI 0 (frzP (bin (opI2 iDiv) (frzP (bin opIx (pk 0) (frzP (cst (.int 0))))) (pk 1))) (frzP (cst (.int 0))))
  (retS (vr 4)))) nxS)
  (seqS (setI 0 (frzP (bin opAdd (frzP (bin opIx (pk 0) (frzP (cst (.int 2))))) (frzP (cst (.int 1))))) (frzP (cst (.int 2))))
  (seqS (setS 2 (bin opIx (frzP (lstE (consA (frzP (cst (.int 2147483647))) (consA (frzP (cst (.int 2147483629))) (consA (frzP (cst (.int 2147483587))) (consA (frzP (cst (.int 2147483579))) (consA (frzP (cst (.int 2147483563))) nilA))))))) (frzP (bin (opI2 iMod) (frzP (bin opIx (pk 0) (frzP (cst (.int 2))))) (frzP (cst (.int 5)))))))
  (seqS (setS 3 (bin (opI2 iMod) (frzP (bin (opI2 iPow) (frzP (bin opAdd (frzP (bin opAdd (frzP (bin opIx (pk 0) (frzP (cst (.int 1))))) (frzP (bin opMul (frzP (bin opMul (frzP (cst (.int 65537))) (frzP (bin opIx (pk 0) (frzP (cst (.int 2))))))) (frzP (bin opIx (pk 0) (frzP (cst (.int 2))))))))) (frzP (cst (.int 29))))) (frzP (cst (.int 3))))) (pk 2)))
  (retS (bin (opI2 iMod) (frzP (bin (opI2 iDiv) (frzP (bin (opI2 iMod) (frzP (bin opMul (pk 3) (frzP (bin opAdd (frzP (bin (opI2 iMod) (pk 3) (frzP (cst (.int 10007))))) (frzP (bin opMul (frzP (cst (.int 97))) (frzP (bin opIx (pk 0) (frzP (cst (.int 2))))))))))) (frzP (cst (.int 2305843009213693907))))) (frzP (cst (.int 97))))) (pk 1)))))))
def F__law_take : FN := runF [0, 1] (List.length N__law_take) B__law_take
/-! _law_squares -/
abbrev st__law_squares : Stmt := topS 17
abbrev N__law_squares : List Str := ["_law_found", "_law_x", "_law_step"]
def B__law_squares : SEV := (seqS (setS 0 (lstE nilA))
  (seqS (forS (rngI1 (consA (frzP (cst (.int 7))) nilA)) (nameG 1) (exprS (mutL 0 gExt (consA (frzP (lcE [2] (seqI (tupE (consA (frzP (cst (.int 1))) (consA (frzP (cst (.int 2))) (consA (frzP (cst (.int 4))) nilA))))) (nameG 2) yesT (tupE (consA (frzP (vr 1)) (consA (frzP (bin (opI2 iMod) (frzP (bin (opI2 iSub) (pk 1) (pk 2))) (frzP (cst (.int 7))))) nilA))))) nilA))))
  (retS (tupE (consA (frzP (cst (.int 7))) (consA (frzP (callB fTuple (consA (frzP (callB fSorted (consA (pk 0) nilA))) nilA))) nilA))))))
def F__law_squares : FN := runF [] (List.length N__law_squares) B__law_squares
/-! _law_lot -/
abbrev st__law_lot : Stmt := topS 18
abbrev N__law_lot : List Str := ["_law_pot_here", "_law_most", "_law_x", "_law_way", "_law_many", "_law_found", "_law_y", "_law_side"]
def B__law_lot : SEV := (seqS (parS [3, 4, 5] (consF (callE F__law_take 2 (consA (pk 0) (consA (frzP (cst (.int 6))) nilA))) (consF (bin opAdd (frzP (cst (.int 1))) (frzP (callE F__law_take 2 (consA (pk 0) (consA (frzP (callB fMin (consA (frzP (cst (.int 5))) (consA (pk 1) nilA)))) nilA))))) (consF (lstE nilA) nilF))))
  (seqS (ifS (bl (bin opEq (pk 3) (frzP (cst (.int 0))))) (retS (tupE (consA (frzP (cst (.int 3))) (consA (frzP (tupE (consA (frzP (tupE (consA (frzP (cst (.int 0))) (consA (frzP (cst (.int 2))) nilA)))) (consA (frzP (tupE (consA (frzP (cst (.int 1))) (consA (frzP (cst (.int 0))) nilA)))) (consA (frzP (tupE (consA (frzP (cst (.int 2))) (consA (frzP (cst (.int 1))) nilA)))) nilA))))) nilA)))) nxS)
  (seqS (ifS (andT (bl (bin opEq (pk 3) (frzP (cst (.int 1))))) (bl (bin (cmpI pGt) (pk 1) (frzP (cst (.int 6)))))) (retS (callE F__law_squares 0 nilA)) nxS)
  (seqS (forS (rngI1 (consA (pk 4) nilA)) (nameG 2) (forS (rngI1 (consA (pk 2) nilA)) (nameG 6) (seqS (setS 7 (ifE (bl (bin (cmpI pGt) (pk 3) (frzP (cst (.int 2))))) (callE F__law_take 2 (consA (pk 0) (consA (frzP (cst (.int 2))) nilA))) (callE F__law_take 2 (consA (pk 0) (consA (frzP (cst (.int 3))) nilA)))))
  (exprS (mutL 5 gExt (consA (frzP (bin opIx (frzP (lstE (consA (frzP (lstE (consA (frzP (tupE (consA (frzP (vr 2)) (consA (frzP (vr 6)) nilA)))) nilA))) (consA (frzP (lstE (consA (frzP (tupE (consA (frzP (vr 6)) (consA (frzP (vr 2)) nilA)))) nilA))) (consA (frzP (lstE nilA)) nilA))))) (pk 7))) nilA))))))
  (retS (tupE (consA (frzP (vr 4)) (consA (frzP (callB fTuple (consA (frzP (callB fSorted (consA (pk 5) nilA))) nilA))) nilA))))))))
def F__law_lot : FN := runF [0, 1] (List.length N__law_lot) B__law_lot
/-! _law_of -/
abbrev st__law_of : Stmt := topS 16
abbrev N__law_of : List Str := ["_law_pot_here", "_law_some"]
def B__law_of : SEV := (retS (bin opIx (pk 1) (frzP (callE F__law_take 2 (consA (pk 0) (consA (frzP (callB fLen (consA (pk 1) nilA))) nilA))))))
def F__law_of : FN := runF [0, 1] (List.length N__law_of) B__law_of
/-! _law_otherwise -/
abbrev st__law_otherwise : Stmt := topS 25
abbrev N__law_otherwise : List Str := ["_law_pot_here", "_law_thing", "_law_some"]
def B__law_otherwise : SEV := (seqS (setS 2 (lstE (consA (frzP (cst .none)) (consA (frzP (cst (.bool true))) (consA (frzP (cst (.bool false))) (consA (frzP (cst (.int 0))) (consA (frzP (cst (.int 1))) (consA (frzP (unI (frzP (cst (.int 1))) fun i => -i)) (consA (frzP (cst (.int 24))) (consA (frzP (cst (.int 25))) (consA (frzP (bin (opI2 iPow) (frzP (cst (.int 10))) (frzP (cst (.int 30))))) (consA (frzP (cst (.str ""))) (consA (frzP (cst (.str "0"))) (consA (frzP (lstE nilA)) (consA (frzP (tupE nilA)) (consA (frzP (tupE (consA (frzP (cst (.int 0))) nilA))) (consA (frzP dctE0) (consA (frzP (lstE (consA (frzP (tupE nilA)) nilA))) (consA (frzP (tupE (consA (frzP (tupE nilA)) nilA))) (consA (frzP (dctE1 "a" (cst (.int 1)))) nilA))))))))))))))))))))
  (seqS (ifS (andT (bl (isiE "int" (pk 1))) (notT (bl (isiE "bool" (pk 1))))) (setS 2 (lstE (consA (frzP (bin (opNum (· + ·)) (pk 1) (frzP (cst (.int 1))))) (consA (frzP (bin (opNum (· - ·)) (pk 1) (frzP (cst (.int 1))))) (consA (frzP (bin (opNum (· - ·)) (frzP (cst (.int 0))) (pk 1))) (consA (frzP (bin opEq (pk 1) (frzP (cst (.int 1))))) (consA (frzP (callB fStrN (consA (pk 1) nilA))) (consA (frzP (tupE (consA (frzP (vr 1)) nilA))) (consA (frzP (cst .none)) (consA (frzP (cst (.int 0))) nilA)))))))))) nxS)
  (seqS (ifS (bl (isiE "tuple" (pk 1))) (setS 2 (bin opAdd (pk 2) (frzP (lstE (consA (frzP (callB fList (consA (pk 1) nilA))) (consA (frzP (bin opAdd (pk 1) (pk 1))) (consA (frzP (revE (pk 1))) nilA))))))) nxS)
  (retS (callE F__law_of 2 (consA (pk 0) (consA (frzP (vr 2)) nilA)))))))
def F__law_otherwise : FN := runF [0, 1] (List.length N__law_otherwise) B__law_otherwise
/-! _law_bent -/
abbrev st__law_bent : Stmt := topS 26
abbrev N__law_bent : List Str := ["_law_pot_here", "_law_thing", "_law_way", "_law_at", "_law_to", "_law_k"]
def B__law_bent (FR : FN) : SEV := (seqS (ifS (orT (notT (bl (isiE "tuple" (pk 1)))) (orT (bl (bin opEqU (pk 1) (frzP (tupE nilA)))) (bl (bin opEq (frzP (callE F__law_take 2 (consA (pk 0) (consA (frzP (cst (.int 5))) nilA)))) (frzP (cst (.int 0))))))) (retS (callE F__law_otherwise 2 (consA (pk 0) (consA (frzP (vr 1)) nilA)))) nxS)
  (seqS (parS [2, 3] (consF (callE F__law_take 2 (consA (pk 0) (consA (frzP (cst (.int 7))) nilA))) (consF (callE F__law_take 2 (consA (pk 0) (consA (frzP (callB fLen (consA (pk 1) nilA))) nilA))) nilF)))
  (seqS (ifS (bl (bin opEq (pk 2) (frzP (cst (.int 0))))) (retS (bin opAdd (frzP (slE (pk 1) noP (someP (pk 3)))) (frzP (slE (pk 1) (someP (frzP (bin opAdd (pk 3) (frzP (cst (.int 1)))))) noP)))) nxS)
  (seqS (ifS (bl (bin opEq (pk 2) (frzP (cst (.int 1))))) (retS (bin opAdd (frzP (bin opAdd (frzP (slE (pk 1) noP (someP (pk 3)))) (frzP (slE (pk 1) (someP (pk 3)) (someP (frzP (bin opAdd (pk 3) (frzP (cst (.int 1)))))))))) (frzP (slE (pk 1) (someP (pk 3)) noP)))) nxS)
  (seqS (ifS (bl (bin opEq (pk 2) (frzP (cst (.int 2))))) (seqS (setS 4 (callE F__law_take 2 (consA (pk 0) (consA (frzP (callB fLen (consA (pk 1) nilA))) nilA))))
  (retS (callB fTuple (consA (frzP (lcE [5] (rngI1 (consA (frzP (callB fLen (consA (pk 1) nilA))) nilA)) (nameG 5) yesT (ifE (bl (bin (opIn false) (pk 5) (frzP (tupE (consA (frzP (vr 3)) (consA (frzP (vr 4)) nilA)))))) (bin opIx (pk 1) (frzP (bin opIx (frzP (lstE (consA (frzP (vr 4)) (consA (frzP (vr 3)) nilA)))) (frzP (callB fInt (consA (frzP (bin opEq (pk 5) (pk 4))) nilA)))))) (bin opIx (pk 1) (pk 5))))) nilA)))) nxS)
  (retS (bin opAdd (frzP (bin opAdd (frzP (slE (pk 1) noP (someP (pk 3)))) (frzP (tupE (consA (frzP (callE FR 2 (consA (pk 0) (consA (frzP (bin opIx (pk 1) (pk 3))) nilA)))) nilA))))) (frzP (slE (pk 1) (someP (frzP (bin opAdd (pk 3) (frzP (cst (.int 1)))))) noP)))))))))
def R__law_bent : Nat → FN
  | 0 => runF [0, 1] (List.length N__law_bent) (fun _ => none)
  | n + 1 => runF [0, 1] (List.length N__law_bent) (B__law_bent (R__law_bent n))
def F__law_bent : FN := R__law_bent 8
/-! _law_whole -/
abbrev st__law_whole : Stmt := topS 20
abbrev N__law_whole : List Str := ["_law_thing", "_law_least", "_law_most"]
def B__law_whole : SEV := (retS (andV (isiE "int" (pk 0)) (andV (notV (isiE "bool" (pk 0))) (chn (cmpI pLe) (cmpI pLe) (pk 1) (pk 0) (pk 2)))))
def F__law_whole : FN := runF [0, 1, 2] (List.length N__law_whole) B__law_whole
/-! _law_is_pair -/
abbrev st__law_is_pair : Stmt := topS 21
abbrev N__law_is_pair : List Str := ["_law_thing", "_law_many", "_law_one"]
def B__law_is_pair : SEV := (seqS (ifS (orT (notT (bl (isiE "tuple" (pk 0)))) (bl (bin opNe (frzP (callB fLen (consA (pk 0) nilA))) (frzP (cst (.int 2)))))) (retS (cst (.bool false))) nxS)
  (retS (andV (callB fAll (consA (frzP (lcE [2] (seqI (vr 0)) (nameG 2) yesT (callE F__law_whole 3 (consA (frzP (vr 2)) (consA (frzP (cst (.int 0))) (consA (frzP (bin (opI2 iSub) (pk 1) (frzP (cst (.int 1))))) nilA)))))) nilA)) (bin opNe (frzP (bin opIx (pk 0) (frzP (cst (.int 0))))) (frzP (bin opIx (pk 0) (frzP (cst (.int 1)))))))))
def F__law_is_pair : FN := runF [0, 1] (List.length N__law_is_pair) B__law_is_pair
/-! _law_is_lot -/
abbrev st__law_is_lot : Stmt := topS 22
abbrev N__law_is_lot : List Str := ["_law_thing", "_law_many", "_law_pairs", "_law_pair", "_law_one", "_law_other", "_law_x", "_law_y"]
def B__law_is_lot : SEV := (seqS (ifS (orT (notT (bl (isiE "tuple" (pk 0)))) (orT (bl (bin opNe (frzP (callB fLen (consA (pk 0) nilA))) (frzP (cst (.int 2))))) (notT (bl (callE F__law_whole 3 (consA (frzP (bin opIx (pk 0) (frzP (cst (.int 0))))) (consA (frzP (cst (.int 1))) (consA (frzP (cst (.int 24))) nilA)))))))) (retS (cst (.bool false))) nxS)
  (seqS (unpS (frzP (vr 0)) (tupG 2 (consG (nameG 1) (consG (nameG 2) nilG))))
  (seqS (ifS (orT (notT (bl (isiE "tuple" (pk 2)))) (notT (bl (callB fAll (consA (frzP (lcE [3] (seqI (vr 2)) (nameG 3) yesT (callE F__law_is_pair 2 (consA (frzP (vr 3)) (consA (frzP (vr 1)) nilA))))) nilA))))) (retS (cst (.bool false))) nxS)
  (seqS (ifS (orT (bl (bin opNe (frzP (callB fList (consA (pk 2) nilA))) (frzP (callB fSortedTT (consA (pk 2) nilA))))) (bl (callB fAny (consA (frzP (lcE [4, 5] (zipX (consA (frzP (vr 2)) (consA (frzP (slE (pk 2) (someP (frzP (cst (.int 1)))) noP)) nilA))) (tupG 2 (consG (nameG 4) (consG (nameG 5) nilG))) yesT (bin opEq (pk 4) (pk 5)))) nilA)))) (retS (cst (.bool false))) nxS)
  (retS (notV (callB fAny (consA (frzP (lcE [6, 7] (seqI (vr 2)) (tupG 2 (consG (nameG 6) (consG (nameG 7) nilG))) yesT (bin (opIn false) (frzP (tupE (consA (frzP (vr 7)) (consA (frzP (vr 6)) nilA)))) (pk 2)))) nilA))))))))
def F__law_is_lot : FN := runF [0] (List.length N__law_is_lot) B__law_is_lot
/-! _law_is_tower -/
abbrev st__law_is_tower : Stmt := topS 23
abbrev N__law_is_tower : List Str := ["_law_thing", "_law_one"]
def B__law_is_tower : SEV := (retS (andV (isiE "tuple" (pk 0)) (andV (chn (cmpI pLe) (cmpI pLe) (frzP (cst (.int 1))) (frzP (callB fLen (consA (pk 0) nilA))) (frzP (cst (.int 40)))) (callB fAll (consA (frzP (lcE [1] (seqI (vr 0)) (nameG 1) yesT (callE F__law_is_lot 1 (consA (frzP (vr 1)) nilA)))) nilA)))))
def F__law_is_tower : FN := runF [0] (List.length N__law_is_tower) B__law_is_tower
/-! is_whole -/
abbrev st_is_whole : Stmt := topS 2
abbrev N_is_whole : List Str := ["thing"]
def B_is_whole : SEV := (retS (andV (isiE "int" (pk 0)) (notV (isiE "bool" (pk 0)))))
def F_is_whole : FN := runF [0] (List.length N_is_whole) B_is_whole
/-! is_below -/
abbrev st_is_below : Stmt := topS 3
abbrev N_is_below : List Str := ["many", "thing"]
def B_is_below : SEV := (retS (andV (callE F_is_whole 1 (consA (frzP (vr 1)) nilA)) (chn (cmpI pLe) (cmpI pLt) (frzP (cst (.int 0))) (pk 1) (pk 0))))
def F_is_below : FN := runF [0, 1] (List.length N_is_below) B_is_below
/-! is_pair -/
abbrev st_is_pair : Stmt := topS 4
abbrev N_is_pair : List Str := ["many", "thing", "x", "y"]
def B_is_pair : SEV := (seqS (ifS (orT (notT (bl (isiE "tuple" (pk 1)))) (bl (bin opNe (frzP (callB fLen (consA (pk 1) nilA))) (frzP (cst (.int 2)))))) (retS (cst (.bool false))) nxS)
  (seqS (unpS (frzP (vr 1)) (tupG 2 (consG (nameG 2) (consG (nameG 3) nilG))))
  (retS (andV (callE F_is_below 2 (consA (frzP (vr 0)) (consA (frzP (vr 2)) nilA))) (andV (callE F_is_below 2 (consA (frzP (vr 0)) (consA (frzP (vr 3)) nilA))) (bin opNe (pk 2) (pk 3)))))))
def F_is_pair : FN := runF [0, 1] (List.length N_is_pair) B_is_pair
/-! are_rising -/
abbrev st_are_rising : Stmt := topS 5
abbrev N_are_rising : List Str := ["pairs", "one", "other"]
def B_are_rising : SEV := (retS (callB fAll (consA (frzP (lcE [1, 2] (zipX (consA (frzP (vr 0)) (consA (frzP (slE (pk 0) (someP (frzP (cst (.int 1)))) noP)) nilA))) (tupG 2 (consG (nameG 1) (consG (nameG 2) nilG))) yesT (bin opLtX (pk 1) (pk 2)))) nilA)))
def F_are_rising : FN := runF [0] (List.length N_are_rising) B_are_rising
/-! are_one_way -/
abbrev st_are_one_way : Stmt := topS 6
abbrev N_are_one_way : List Str := ["pairs", "told", "pair", "x", "y"]
def B_are_one_way : SEV := (seqS (setS 1 (dcE false [2] (seqI (vr 0)) (nameG 2) yesT (vr 2) (cst (.bool true))))
  (retS (callB fAll (consA (frzP (lcE [3, 4] (seqI (vr 0)) (tupG 2 (consG (nameG 3) (consG (nameG 4) nilG))) yesT (bin (opInX true) (frzP (tupE (consA (frzP (vr 4)) (consA (frzP (vr 3)) nilA)))) (pk 1)))) nilA))))
def F_are_one_way : FN := runF [0] (List.length N_are_one_way) B_are_one_way
/-! is_lot -/
abbrev st_is_lot : Stmt := topS 7
abbrev N_is_lot : List Str := ["thing", "many", "pairs", "pair"]
def B_is_lot : SEV := (seqS (ifS (orT (notT (bl (isiE "tuple" (pk 0)))) (bl (bin opNe (frzP (callB fLen (consA (pk 0) nilA))) (frzP (cst (.int 2)))))) (retS (cst (.bool false))) nxS)
  (seqS (unpS (frzP (vr 0)) (tupG 2 (consG (nameG 1) (consG (nameG 2) nilG))))
  (seqS (ifS (orT (notT (bl (callE F_is_below 2 (consA (frzP (bin opAdd (frzP (cst (.int 24))) (frzP (cst (.int 1))))) (consA (frzP (vr 1)) nilA))))) (notT (bl (isiE "tuple" (pk 2))))) (retS (cst (.bool false))) nxS)
  (seqS (ifS (notT (bl (callB fAll (consA (frzP (lcE [3] (seqI (vr 2)) (nameG 3) yesT (callE F_is_pair 2 (consA (frzP (vr 1)) (consA (frzP (vr 3)) nilA))))) nilA)))) (retS (cst (.bool false))) nxS)
  (retS (andV (callE F_are_rising 1 (consA (frzP (vr 2)) nilA)) (callE F_are_one_way 1 (consA (frzP (vr 2)) nilA))))))))
def F_is_lot : FN := runF [0] (List.length N_is_lot) B_is_lot
/-! is_tower -/
abbrev st_is_tower : Stmt := topS 10
abbrev N_is_tower : List Str := ["thing", "lot"]
def B_is_tower : SEV := (seqS (ifS (orT (notT (bl (isiE "tuple" (pk 0)))) (notT (bl (chn (cmpI pLe) (cmpI pLe) (frzP (cst (.int 1))) (frzP (callB fLen (consA (pk 0) nilA))) (frzP (cst (.int 40))))))) (retS (cst (.bool false))) nxS)
  (retS (callB fAll (consA (frzP (lcE [1] (seqI (vr 0)) (nameG 1) yesT (andV (callE F_is_lot 1 (consA (frzP (vr 1)) nilA)) (bin (cmpI pGt) (frzP (bin opIx (pk 1) (frzP (cst (.int 0))))) (frzP (cst (.int 0))))))) nilA))))
def F_is_tower : FN := runF [0] (List.length N_is_tower) B_is_tower
/-! many_in -/
abbrev st_many_in : Stmt := topS 12
abbrev N_many_in : List Str := ["tower", "many", "lot"]
def B_many_in : SEV := (seqS (setS 1 (cst (.int 1)))
  (seqS (forS (seqI (vr 0)) (nameG 2) (augMS 1 (frzP (bin opIx (pk 2) (frzP (cst (.int 0)))))))
  (retS (vr 1))))
def F_many_in : FN := runF [0] (List.length N_many_in) B_many_in
/-! _law_product -/
abbrev st__law_product : Stmt := topS 27
abbrev N__law_product : List Str := ["_law_tower_here", "_law_found", "_law_lot_here"]
def B__law_product : SEV := (seqS (setS 1 (cst (.int 1)))
  (seqS (forS (seqI (vr 0)) (nameG 2) (setS 1 (bin opMul (pk 1) (frzP (bin opIx (pk 2) (frzP (cst (.int 0))))))))
  (retS (vr 1))))
def F__law_product : FN := runF [0] (List.length N__law_product) B__law_product
/-! is_mark -/
abbrev st_is_mark : Stmt := topS 11
abbrev N_is_mark : List Str := ["tower", "thing", "lot", "one"]
def B_is_mark : SEV := (seqS (ifS (orT (notT (bl (isiE "tuple" (pk 1)))) (bl (bin opNe (frzP (callB fLen (consA (pk 1) nilA))) (frzP (callB fLen (consA (pk 0) nilA)))))) (retS (cst (.bool false))) nxS)
  (retS (callB fAll (consA (frzP (lcE [2, 3] (zipX (consA (frzP (vr 0)) (consA (frzP (vr 1)) nilA))) (tupG 2 (consG (nameG 2) (consG (nameG 3) nilG))) yesT (callE F_is_below 2 (consA (frzP (bin opIx (pk 2) (frzP (cst (.int 0))))) (consA (frzP (vr 3)) nilA))))) nilA))))
def F_is_mark : FN := runF [0, 1] (List.length N_is_mark) B_is_mark
/-! _law_is_mark -/
abbrev st__law_is_mark : Stmt := topS 24
abbrev N__law_is_mark : List Str := ["_law_tower_here", "_law_thing", "_law_lot_here", "_law_one"]
def B__law_is_mark : SEV := (seqS (ifS (orT (notT (bl (isiE "tuple" (pk 1)))) (bl (bin opNe (frzP (callB fLen (consA (pk 1) nilA))) (frzP (callB fLen (consA (pk 0) nilA)))))) (retS (cst (.bool false))) nxS)
  (retS (callB fAll (consA (frzP (lcE [2, 3] (zipX (consA (frzP (vr 0)) (consA (frzP (vr 1)) nilA))) (tupG 2 (consG (nameG 2) (consG (nameG 3) nilG))) yesT (callE F__law_whole 3 (consA (frzP (vr 3)) (consA (frzP (cst (.int 0))) (consA (frzP (bin (opI2 iSub) (frzP (bin opIx (pk 2) (frzP (cst (.int 0))))) (frzP (cst (.int 1))))) nilA)))))) nilA))))
def F__law_is_mark : FN := runF [0, 1] (List.length N__law_is_mark) B__law_is_mark
/-! _law_tower_right -/
abbrev st__law_tower_right : Stmt := topS 28
abbrev N__law_tower_right : List Str := ["_law_pot_here", "_law_thing", "_law_mark", "_law_some", "_law_held", "_law_due", "_law_lot_here", "_law_one"]
def B__law_tower_right : SEV := (seqS (parS [4, 5] (consF (callB fReprD (consA (pk 1) nilA)) (consF (callE F__law_is_tower 1 (consA (frzP (vr 1)) nilA)) nilF)))
  (seqS (ifS (orT (bl (bin opNe (frzP (callB fReprD (consA (frzP (callE F_is_tower 1 (consA (frzP (vr 1)) nilA))) nilA))) (frzP (callB fReprD (consA (pk 5) nilA))))) (bl (bin opNe (frzP (callB fReprD (consA (pk 1) nilA))) (pk 4)))) (retS (cst (.bool false))) nxS)
  (seqS (ifS (notT (bl (vr 5))) (retS (cst (.bool true))) nxS)
  (seqS (ifS (bl (bin opNe (frzP (callB fReprD (consA (frzP (callE F_many_in 1 (consA (frzP (vr 1)) nilA))) nilA))) (frzP (callB fReprD (consA (frzP (callE F__law_product 1 (consA (frzP (vr 1)) nilA))) nilA))))) (retS (cst (.bool false))) nxS)
  (seqS (setS 2 (callB fTuple (consA (frzP (lcE [6] (seqI (vr 1)) (nameG 6) yesT (callE F__law_take 2 (consA (pk 0) (consA (frzP (bin opIx (pk 6) (frzP (cst (.int 0))))) nilA))))) nilA)))
  (seqS (setS 3 (lstE (consA (frzP (vr 2)) (consA (frzP (callB fTuple (consA (frzP (lcE [6] (seqI (vr 1)) (nameG 6) yesT (bin (opI2 iSub) (frzP (bin opIx (pk 6) (frzP (cst (.int 0))))) (frzP (cst (.int 1)))))) nilA))) (consA (frzP (callB fTuple (consA (frzP (lcE [6] (seqI (vr 1)) (nameG 6) yesT (bin opIx (pk 6) (frzP (cst (.int 0)))))) nilA))) (consA (frzP (slE (pk 2) noP (someP (frzP (unI (frzP (cst (.int 1))) fun i => -i))))) (consA (frzP (bin opAdd (pk 2) (frzP (tupE (consA (frzP (cst (.int 0))) nilA))))) nilA)))))))
  (seqS (setS 3 (bin opAdd (pk 3) (frzP (lstE (consA (frzP (callB fList (consA (pk 2) nilA))) (consA (frzP (callE F__law_bent 2 (consA (pk 0) (consA (frzP (vr 2)) nilA)))) (consA (frzP (callE F__law_bent 2 (consA (pk 0) (consA (frzP (vr 2)) nilA)))) (consA (frzP (callE F__law_otherwise 2 (consA (pk 0) (consA (frzP (vr 2)) nilA)))) (consA (frzP (vr 1)) nilA)))))))))
  (retS (callB fAll (consA (frzP (lcE [7] (seqI (vr 3)) (nameG 7) yesT (bin opEq (frzP (callB fReprD (consA (frzP (callE F_is_mark 2 (consA (frzP (vr 1)) (consA (frzP (vr 7)) nilA)))) nilA))) (frzP (callB fReprD (consA (frzP (callE F__law_is_mark 2 (consA (frzP (vr 1)) (consA (frzP (vr 7)) nilA)))) nilA)))))) nilA))))))))))
def F__law_tower_right : FN := runF [0, 1] (List.length N__law_tower_right) B__law_tower_right
/-! law -/
abbrev st_law : Stmt := topS 29
abbrev N_law : List Str := ["_law_script", "_law_k", "_law_pot_here", "_law_tower_here", "_law_high", "_law_some", "_law_turn", "_law_thing"]
def B_law : SEV := (seqS (forS (rngI1 (consA (frzP (callB fMax (consA (frzP (cst (.int 1))) (consA (frzP (callB fMin (consA (frzP (cst (.int 3))) (consA (frzP (callB fLen (consA (pk 0) nilA))) nilA)))) nilA)))) nilA)) (nameG 1) (seqS (setS 2 (callE F__law_pot 2 (consA (frzP (vr 0)) (consA (frzP (vr 1)) nilA))))
  (seqS (setS 3 (callB fTuple (consA (frzP (lcE [6] (rngI1 (consA (frzP (bin opAdd (frzP (cst (.int 1))) (frzP (callE F__law_take 2 (consA (pk 2) (consA (frzP (cst (.int 3))) nilA)))))) nilA)) (nameG 6) yesT (callE F__law_lot 2 (consA (pk 2) (consA (frzP (cst (.int 7))) nilA))))) nilA)))
  (seqS (setS 4 (slE (frzP (bin opMulTN (frzP (slE (pk 3) noP (someP (frzP (cst (.int 1)))))) (frzP (cst (.int 41))))) noP (someP (frzP (callE F__law_of 2 (consA (pk 2) (consA (frzP (lstE (consA (frzP (cst (.int 40))) (consA (frzP (cst (.int 41))) (consA (frzP (bin opAdd (frzP (cst (.int 1))) (frzP (callE F__law_take 2 (consA (pk 2) (consA (frzP (cst (.int 41))) nilA)))))) nilA))))) nilA)))))))
  (seqS (setS 5 (lstE (consA (frzP (vr 3)) (consA (frzP (vr 4)) (consA (frzP (tupE (consA (frzP (tupE (consA (frzP (cst (.int 0))) (consA (frzP (tupE nilA)) nilA)))) nilA))) (consA (frzP (tupE nilA)) (consA (frzP (tupE (consA (frzP (tupE (consA (frzP (cst (.int 24))) (consA (frzP (tupE nilA)) nilA)))) nilA))) (consA (frzP (tupE (consA (frzP (tupE (consA (frzP (cst (.int 25))) (consA (frzP (tupE nilA)) nilA)))) nilA))) (consA (frzP (bin opAdd (pk 3) (frzP (tupE (consA (frzP (tupE (consA (frzP (cst (.int 0))) (consA (frzP (tupE nilA)) nilA)))) nilA))))) nilA)))))))))
  (seqS (setS 5 (bin opAdd (frzP (bin opAdd (pk 5) (frzP (lcE [6] (rngI1 (consA (frzP (cst (.int 6))) nilA)) (nameG 6) yesT (callE F__law_bent 2 (consA (pk 2) (consA (frzP (vr 3)) nilA))))))) (frzP (lstE (consA (frzP (callE F__law_otherwise 2 (consA (pk 2) (consA (frzP (vr 3)) nilA)))) nilA)))))
  (seqS (exprS (mutL 5 gApp (consA (frzP (callE F__law_bent 2 (consA (pk 2) (consA (frzP (callE F__law_bent 2 (consA (pk 2) (consA (frzP (vr 3)) nilA)))) nilA)))) nilA)))
  (ifS (notT (bl (callB fAll (consA (frzP (lcE [7] (seqI (vr 5)) (nameG 7) yesT (callE F__law_tower_right 2 (consA (pk 2) (consA (frzP (vr 7)) nilA))))) nilA)))) (retS (cst (.bool false))) nxS))))))))
  (retS (cst (.bool true))))
def F_law : FN := runF [0] (List.length N_law) B_law
section
variable {Pr : Program} {w : World} {K : PySem.W.Frag} {mg : Str → Option Value} {base : Heap}
theorem sc__law_pot : FnScope N__law_pot ["_law_script", "_law_k"] (defScope st__law_pot) := ⟨rfl, rfl, rfl, by decide +kernel, rfl, by decide +kernel, by decide +kernel⟩
theorem ok__law_pot {f : Addr} {fd : FuncData} (F : Fun K "_law_pot" "_law_pot" st__law_pot f fd) (gm : mg "_law_pot" = some (.ref f)) (b : Binds K fd ["_law_script", "_law_k"] []) (hsm : ∃ o, base.get? sysModules = some o) (m_abs : mg "abs" = none) (m_int : mg "int" = none) (m_len : mg "len" = none) : Def Pr w K mg base 1 "_law_pot" ["_law_script", "_law_k"] F__law_pot := by
  have H : ∀ (cdv : Value) (A : Around) (outer : List Env) (s : Shared) (H : Hp) (E : XK), A.guards = some [] → Room 0 (A.deeper (envOfC "_law_pot" (defScope st__law_pot) s.heap.objs.size f cdv)) →
      DSs (cxOf CX0 Pr w K mg base N__law_pot "_law_pot" (defScope st__law_pot) f cdv A outer s H E).nox [0, 1] (defBody st__law_pot) B__law_pot := by
    intro cdv A outer s H E hG hr
    have nd := sc__law_pot.nd
    exact (dss_cons (ds_set (i := 2) nd rfl (by first | exact Or.inl rfl | exact Or.inr rfl) (by decide) (de_ifE (dt_lt (dp_var (pv 1)) (dp_of (de_len (by exact m_len) (by rfl) (da_cons (dp_var (pv 0)) da_nil)))) (de_item (dp_var (pv 0)) (dp_var (pv 1)) (fun _ _ => rfl)) (de_add (dp_of (de_mul (dp_of de_int) (dp_var (pv 1)))) (dp_of de_int))))
      (dss_cons (ds_set (i := 3) nd rfl (by first | exact Or.inl rfl | exact Or.inr rfl) (by decide) (de_mul (dp_of (de_mod (dp_of (de_abs (by exact m_abs) (by rfl) (da_cons (dp_var (pv 2)) da_nil))) (dp_of (de_pow (dp_of (de_pow (dp_of de_int) (dp_of de_int))) (dp_of de_int))))) (dp_of (de_int1 (by exact m_int) (by rfl) (da_cons (dp_of (de_ge (dp_of (de_abs (by exact m_abs) (by rfl) (da_cons (dp_var (pv 2)) da_nil))) (dp_of (de_pow (dp_of de_int) (dp_of de_int))))) da_nil)))))
      (dss_one (ds_ret (de_lst (da_cons (dp_of (de_var (pv 3))) (da_cons (dp_of (de_mod (dp_of (de_add (dp_of (de_add (dp_of (de_mul (dp_of (de_mod (dp_var (pv 2)) (dp_of de_int))) (dp_of de_int))) (dp_of (de_mul (dp_of (de_mul (dp_of de_int) (dp_var (pv 1)))) (dp_var (pv 1)))))) (dp_of de_int))) (dp_of de_int))) (da_cons (dp_of de_int) da_nil))))))))
  exact def_mk F gm b sc__law_pot H
theorem sc__law_take : FnScope N__law_take ["_law_pot_here", "_law_upto"] (defScope st__law_take) := ⟨rfl, rfl, rfl, by decide +kernel, rfl, by decide +kernel, by decide +kernel⟩
theorem ok__law_take {f : Addr} {fd : FuncData} (F : Fun K "_law_take" "_law_take" st__law_take f fd) (gm : mg "_law_take" = some (.ref f)) (b : Binds K fd ["_law_pot_here", "_law_upto"] []) (hsm : ∃ o, base.get? sysModules = some o) : Def Pr w K mg base 1 "_law_take" ["_law_pot_here", "_law_upto"] F__law_take := by
  have H : ∀ (cdv : Value) (A : Around) (outer : List Env) (s : Shared) (H : Hp) (E : XK), A.guards = some [] → Room 0 (A.deeper (envOfC "_law_take" (defScope st__law_take) s.heap.objs.size f cdv)) →
      DSs (cxOf CX0 Pr w K mg base N__law_take "_law_take" (defScope st__law_take) f cdv A outer s H E).nox [0, 1] (defBody st__law_take) B__law_take := by
    intro cdv A outer s H E hG hr
    have nd := sc__law_take.nd
    exact (dss_cons (ds_if (dt_gt (dp_of (de_item (dp_var (pv 0)) (dp_of de_int) (fun _ _ => rfl))) (dp_of de_int)) (dss_cons (ds_set (i := 4) nd rfl (by first | exact Or.inl rfl | exact Or.inr rfl) (by decide) (de_mod (dp_of (de_item (dp_var (pv 0)) (dp_of de_int) (fun _ _ => rfl))) (dp_var (pv 1))))
      (dss_cons (ds_setI (dp_of (de_div (dp_of (de_item (dp_var (pv 0)) (dp_of de_int) (fun _ _ => rfl))) (dp_var (pv 1)))) (pv 0) (dp_of de_int))
      (dss_one (ds_ret (de_var (pv 4)))))) dss_nil)
      (dss_cons (ds_setI (dp_of (de_add (dp_of (de_item (dp_var (pv 0)) (dp_of de_int) (fun _ _ => rfl))) (dp_of de_int))) (pv 0) (dp_of de_int))
      (dss_cons (ds_set (i := 2) nd rfl (by first | exact Or.inl rfl | exact Or.inr rfl) (by decide) (de_item (dp_of (de_lst (da_cons (dp_of de_int) (da_cons (dp_of de_int) (da_cons (dp_of de_int) (da_cons (dp_of de_int) (da_cons (dp_of de_int) da_nil))))))) (dp_of (de_mod (dp_of (de_item (dp_var (pv 0)) (dp_of de_int) (fun _ _ => rfl))) (dp_of de_int))) (fun _ _ => rfl)))
      (dss_cons (ds_set (i := 3) nd rfl (by first | exact Or.inl rfl | exact Or.inr rfl) (by decide) (de_mod (dp_of (de_pow (dp_of (de_add (dp_of (de_add (dp_of (de_item (dp_var (pv 0)) (dp_of de_int) (fun _ _ => rfl))) (dp_of (de_mul (dp_of (de_mul (dp_of de_int) (dp_of (de_item (dp_var (pv 0)) (dp_of de_int) (fun _ _ => rfl))))) (dp_of (de_item (dp_var (pv 0)) (dp_of de_int) (fun _ _ => rfl))))))) (dp_of de_int))) (dp_of de_int))) (dp_var (pv 2))))
      (dss_one (ds_ret (de_mod (dp_of (de_div (dp_of (de_mod (dp_of (de_mul (dp_var (pv 3)) (dp_of (de_add (dp_of (de_mod (dp_var (pv 3)) (dp_of de_int))) (dp_of (de_mul (dp_of de_int) (dp_of (de_item (dp_var (pv 0)) (dp_of de_int) (fun _ _ => rfl))))))))) (dp_of de_int))) (dp_of de_int))) (dp_var (pv 1)))))))))
  exact def_mk F gm b sc__law_take H
theorem sc__law_squares : FnScope N__law_squares [] (defScope st__law_squares) := ⟨rfl, rfl, rfl, by decide +kernel, rfl, by decide +kernel, by decide +kernel⟩
theorem ok__law_squares {f : Addr} {fd : FuncData} (F : Fun K "_law_squares" "_law_squares" st__law_squares f fd) (gm : mg "_law_squares" = some (.ref f)) (b : Binds K fd [] []) (hsm : ∃ o, base.get? sysModules = some o) (m_range : mg "range" = none) (m_sorted : mg "sorted" = none) (m_tuple : mg "tuple" = none) : Def Pr w K mg base 1 "_law_squares" [] F__law_squares := by
  have H : ∀ (cdv : Value) (A : Around) (outer : List Env) (s : Shared) (H : Hp) (E : XK), A.guards = some [] → Room 0 (A.deeper (envOfC "_law_squares" (defScope st__law_squares) s.heap.objs.size f cdv)) →
      DSs (cxOf CX0 Pr w K mg base N__law_squares "_law_squares" (defScope st__law_squares) f cdv A outer s H E).nox [] (defBody st__law_squares) B__law_squares := by
    intro cdv A outer s H E hG hr
    have nd := sc__law_squares.nd
    exact (dss_cons (ds_set (i := 0) nd rfl (by first | exact Or.inl rfl | exact Or.inr rfl) (by decide) (de_lst da_nil))
      (dss_cons (ds_for PassesOwn.never rfl (by decide) (di_range1 (by rfl) (by exact m_range) (da_cons (dp_of de_int) da_nil)) (dg_name (i := 1) nd rfl (by first | exact Or.inl rfl | exact Or.inr rfl)) (dss_one (ds_expr (de_extend (pv 0) (da_cons (dp_of (de_lc (own := [("_law_step", 2)]) rfl nd (di_seq (de_tup (da_cons (dp_of de_int) (da_cons (dp_of de_int) (da_cons (dp_of de_int) da_nil))))) (blkOk_by (own := [("_law_step", 2)]) (N := N__law_squares) (sc := defScope st__law_squares) (by decide +kernel)) (by decide) (fun _ _ _ _ _ => (dg_name (i := 2) nd rfl (by first | exact Or.inl rfl | exact Or.inr rfl))) (fun _ _ _ _ _ => dts_nil) (fun _ _ _ _ _ => (de_tup (da_cons (dp_of (de_var (pv 1))) (da_cons (dp_of (de_mod (dp_of (de_sub (dp_var (pv 1)) (dp_var (pv 2)))) (dp_of de_int))) da_nil)))))) da_nil)))))
      (dss_one (ds_ret (de_tup (da_cons (dp_of de_int) (da_cons (dp_of (de_tuple (by exact m_tuple) (by rfl) (da_cons (dp_of (de_sorted (by exact m_sorted) (by rfl) (da_cons (dp_var (pv 0)) da_nil))) da_nil))) da_nil)))))))
  exact def_mk F gm b sc__law_squares H
theorem sc__law_lot : FnScope N__law_lot ["_law_pot_here", "_law_most"] (defScope st__law_lot) := ⟨rfl, rfl, rfl, by decide +kernel, rfl, by decide +kernel, by decide +kernel⟩
theorem ok__law_lot {f : Addr} {fd : FuncData} (F : Fun K "_law_lot" "_law_lot" st__law_lot f fd) (gm : mg "_law_lot" = some (.ref f)) (b : Binds K fd ["_law_pot_here", "_law_most"] []) (hsm : ∃ o, base.get? sysModules = some o) (D__law_take : Def Pr w K mg base 1 "_law_take" ["_law_pot_here", "_law_upto"] F__law_take) (D__law_squares : Def Pr w K mg base 1 "_law_squares" [] F__law_squares) (m_min : mg "min" = none) (m_range : mg "range" = none) (m_sorted : mg "sorted" = none) (m_tuple : mg "tuple" = none) : Def Pr w K mg base 2 "_law_lot" ["_law_pot_here", "_law_most"] F__law_lot := by
  have H : ∀ (cdv : Value) (A : Around) (outer : List Env) (s : Shared) (H : Hp) (E : XK), A.guards = some [] → Room 1 (A.deeper (envOfC "_law_lot" (defScope st__law_lot) s.heap.objs.size f cdv)) →
      DSs (cxOf CX0 Pr w K mg base N__law_lot "_law_lot" (defScope st__law_lot) f cdv A outer s H E).nox [0, 1] (defBody st__law_lot) B__law_lot := by
    intro cdv A outer s H E hG hr
    have nd := sc__law_lot.nd
    exact (dss_cons (ds_par3 rfl nd rfl rfl rfl (by decide) (by decide) (by decide) rfl rfl rfl (by decide) (df_cons (de_own (by exact D__law_take) (by rfl) (by exact hG) (by exact hr) (by decide) (by rfl) (da_cons (dp_var (pv 0)) (da_cons (dp_of de_int) da_nil))) (df_cons (de_add (dp_of de_int) (dp_of (de_own (by exact D__law_take) (by rfl) (by exact hG) (by exact hr) (by decide) (by rfl) (da_cons (dp_var (pv 0)) (da_cons (dp_of (de_min rfl (by exact m_min) (by rfl) (da_cons (dp_of de_int) (da_cons (dp_var (pv 1)) da_nil)))) da_nil))))) (df_cons (de_lst da_nil) df_nil))) rfl)
      (dss_cons (ds_if (dt_eq (by exact hr) (dp_var (pv 3)) (dp_of de_int)) (dss_one (ds_ret (de_tup (da_cons (dp_of de_int) (da_cons (dp_of (de_tup (da_cons (dp_of (de_tup (da_cons (dp_of de_int) (da_cons (dp_of de_int) da_nil)))) (da_cons (dp_of (de_tup (da_cons (dp_of de_int) (da_cons (dp_of de_int) da_nil)))) (da_cons (dp_of (de_tup (da_cons (dp_of de_int) (da_cons (dp_of de_int) da_nil)))) da_nil))))) da_nil))))) dss_nil)
      (dss_cons (ds_if (PW.pt (dw_and (dt_eq (by exact hr) (dp_var (pv 3)) (dp_of de_int)) (dw_and1 (dt_gt (dp_var (pv 1)) (dp_of de_int))))) (dss_one (ds_ret (de_own0 (by exact D__law_squares) (by exact hG) (by exact hr) (by decide) (by rfl)))) dss_nil)
      (dss_cons (ds_for PassesOwn.never rfl (by decide) (di_range1 (by rfl) (by exact m_range) (da_cons (dp_var (pv 4)) da_nil)) (dg_name (i := 2) nd rfl (by first | exact Or.inl rfl | exact Or.inr rfl)) (dss_one (ds_for PassesOwn.never rfl (by decide) (di_range1 (by rfl) (by exact m_range) (da_cons (dp_var (pv 2)) da_nil)) (dg_name (i := 6) nd rfl (by first | exact Or.inl rfl | exact Or.inr rfl)) (dss_cons (ds_set (i := 7) nd rfl (by first | exact Or.inl rfl | exact Or.inr rfl) (by decide) (de_ifE (dt_gt (dp_var (pv 3)) (dp_of de_int)) (de_own (by exact D__law_take) (by rfl) (by exact hG) (by exact hr) (by decide) (by rfl) (da_cons (dp_var (pv 0)) (da_cons (dp_of de_int) da_nil))) (de_own (by exact D__law_take) (by rfl) (by exact hG) (by exact hr) (by decide) (by rfl) (da_cons (dp_var (pv 0)) (da_cons (dp_of de_int) da_nil)))))
      (dss_one (ds_expr (de_extend (pv 5) (da_cons (dp_of (de_item (dp_of (de_lst (da_cons (dp_of (de_lst (da_cons (dp_of (de_tup (da_cons (dp_of (de_var (pv 2))) (da_cons (dp_of (de_var (pv 6))) da_nil)))) da_nil))) (da_cons (dp_of (de_lst (da_cons (dp_of (de_tup (da_cons (dp_of (de_var (pv 6))) (da_cons (dp_of (de_var (pv 2))) da_nil)))) da_nil))) (da_cons (dp_of (de_lst da_nil)) da_nil))))) (dp_var (pv 7)) (fun _ _ => rfl))) da_nil))))))))
      (dss_one (ds_ret (de_tup (da_cons (dp_of (de_var (pv 4))) (da_cons (dp_of (de_tuple (by exact m_tuple) (by rfl) (da_cons (dp_of (de_sorted (by exact m_sorted) (by rfl) (da_cons (dp_var (pv 5)) da_nil))) da_nil))) da_nil)))))))))
  exact def_mk F gm b sc__law_lot H
theorem sc__law_of : FnScope N__law_of ["_law_pot_here", "_law_some"] (defScope st__law_of) := ⟨rfl, rfl, rfl, by decide +kernel, rfl, by decide +kernel, by decide +kernel⟩
theorem ok__law_of {f : Addr} {fd : FuncData} (F : Fun K "_law_of" "_law_of" st__law_of f fd) (gm : mg "_law_of" = some (.ref f)) (b : Binds K fd ["_law_pot_here", "_law_some"] []) (hsm : ∃ o, base.get? sysModules = some o) (D__law_take : Def Pr w K mg base 1 "_law_take" ["_law_pot_here", "_law_upto"] F__law_take) (m_len : mg "len" = none) : Def Pr w K mg base 2 "_law_of" ["_law_pot_here", "_law_some"] F__law_of := by
  have H : ∀ (cdv : Value) (A : Around) (outer : List Env) (s : Shared) (H : Hp) (E : XK), A.guards = some [] → Room 1 (A.deeper (envOfC "_law_of" (defScope st__law_of) s.heap.objs.size f cdv)) →
      DSs (cxOf CX0 Pr w K mg base N__law_of "_law_of" (defScope st__law_of) f cdv A outer s H E).nox [0, 1] (defBody st__law_of) B__law_of := by
    intro cdv A outer s H E hG hr
    have nd := sc__law_of.nd
    exact (dss_one (ds_ret (de_item (dp_var (pv 1)) (dp_of (de_own (by exact D__law_take) (by rfl) (by exact hG) (by exact hr) (by decide) (by rfl) (da_cons (dp_var (pv 0)) (da_cons (dp_of (de_len (by exact m_len) (by rfl) (da_cons (dp_var (pv 1)) da_nil))) da_nil)))) (fun _ _ => rfl))))
  exact def_mk F gm b sc__law_of H
theorem sc__law_otherwise : FnScope N__law_otherwise ["_law_pot_here", "_law_thing"] (defScope st__law_otherwise) := ⟨rfl, rfl, rfl, by decide +kernel, rfl, by decide +kernel, by decide +kernel⟩
theorem ok__law_otherwise {f : Addr} {fd : FuncData} (F : Fun K "_law_otherwise" "_law_otherwise" st__law_otherwise f fd) (gm : mg "_law_otherwise" = some (.ref f)) (b : Binds K fd ["_law_pot_here", "_law_thing"] []) (hsm : ∃ o, base.get? sysModules = some o) (D__law_of : Def Pr w K mg base 2 "_law_of" ["_law_pot_here", "_law_some"] F__law_of) (m_bool : mg "bool" = none) (m_int : mg "int" = none) (m_isinstance : mg "isinstance" = none) (m_list : mg "list" = none) (m_str : mg "str" = none) (m_tuple : mg "tuple" = none) : Def Pr w K mg base 3 "_law_otherwise" ["_law_pot_here", "_law_thing"] F__law_otherwise := by
  have H : ∀ (cdv : Value) (A : Around) (outer : List Env) (s : Shared) (H : Hp) (E : XK), A.guards = some [] → Room 2 (A.deeper (envOfC "_law_otherwise" (defScope st__law_otherwise) s.heap.objs.size f cdv)) →
      DSs (cxOf CX0 Pr w K mg base N__law_otherwise "_law_otherwise" (defScope st__law_otherwise) f cdv A outer s H E).nox [0, 1] (defBody st__law_otherwise) B__law_otherwise := by
    intro cdv A outer s H E hG hr
    have nd := sc__law_otherwise.nd
    exact (dss_cons (ds_set (i := 2) nd rfl (by first | exact Or.inl rfl | exact Or.inr rfl) (by decide) (de_lst (da_cons (dp_of de_non) (da_cons (dp_of de_bl) (da_cons (dp_of de_bl) (da_cons (dp_of de_int) (da_cons (dp_of de_int) (da_cons (dp_of (de_neg (dp_of de_int))) (da_cons (dp_of de_int) (da_cons (dp_of de_int) (da_cons (dp_of (de_pow (dp_of de_int) (dp_of de_int))) (da_cons (dp_of de_str) (da_cons (dp_of de_str) (da_cons (dp_of (de_lst da_nil)) (da_cons (dp_of (de_tup da_nil)) (da_cons (dp_of (de_tup (da_cons (dp_of de_int) da_nil))) (da_cons (dp_of de_dct0) (da_cons (dp_of (de_lst (da_cons (dp_of (de_tup da_nil)) da_nil))) (da_cons (dp_of (de_tup (da_cons (dp_of (de_tup da_nil)) da_nil))) (da_cons (dp_of (de_dct1 de_int)) da_nil))))))))))))))))))))
      (dss_cons (ds_if (PW.pt (dw_and (dt_val (de_isi (cn := "int") rfl (by decide) (by exact m_isinstance) (by rfl) (by exact m_int) (by rfl) (by decide +kernel) (by decide) (by decide) (dp_var (pv 1)))) (dw_and1 (dt_not (dt_val (de_isi (cn := "bool") rfl (by decide) (by exact m_isinstance) (by rfl) (by exact m_bool) (by rfl) (by decide +kernel) (by decide) (by decide) (dp_var (pv 1)))))))) (dss_one (ds_set (i := 2) nd rfl (by first | exact Or.inl rfl | exact Or.inr rfl) (by decide) (de_lst (da_cons (dp_of (de_addN (dp_var (pv 1)) (dp_of de_int))) (da_cons (dp_of (de_subN (dp_var (pv 1)) (dp_of de_int))) (da_cons (dp_of (de_subN (dp_of de_int) (dp_var (pv 1)))) (da_cons (dp_of (de_eq (by exact hr) (dp_var (pv 1)) (dp_of de_int))) (da_cons (dp_of (de_strN (by exact m_str) (by rfl) (da_cons (dp_var (pv 1)) da_nil))) (da_cons (dp_of (de_tup (da_cons (dp_of (de_var (pv 1))) da_nil))) (da_cons (dp_of de_non) (da_cons (dp_of de_int) da_nil))))))))))) dss_nil)
      (dss_cons (ds_if (dt_val (de_isi (cn := "tuple") rfl (by decide) (by exact m_isinstance) (by rfl) (by exact m_tuple) (by rfl) (by decide +kernel) (by decide) (by decide) (dp_var (pv 1)))) (dss_one (ds_set (i := 2) nd rfl (by first | exact Or.inl rfl | exact Or.inr rfl) (by decide) (de_add (dp_var (pv 2)) (dp_of (de_lst (da_cons (dp_of (de_list (by exact m_list) (by rfl) (da_cons (dp_var (pv 1)) da_nil))) (da_cons (dp_of (de_add (dp_var (pv 1)) (dp_var (pv 1)))) (da_cons (dp_of (de_rev (dp_var (pv 1)))) da_nil)))))))) dss_nil)
      (dss_one (ds_ret (de_own (by exact D__law_of) (by rfl) (by exact hG) (by exact hr) (by decide) (by rfl) (da_cons (dp_var (pv 0)) (da_cons (dp_of (de_var (pv 2))) da_nil))))))))
  exact def_mk F gm b sc__law_otherwise H
theorem sc__law_bent : FnScope N__law_bent ["_law_pot_here", "_law_thing"] (defScope st__law_bent) := ⟨rfl, rfl, rfl, by decide +kernel, rfl, by decide +kernel, by decide +kernel⟩
theorem okR__law_bent {f : Addr} {fd : FuncData} (F : Fun K "_law_bent" "_law_bent" st__law_bent f fd) (gm : mg "_law_bent" = some (.ref f)) (b : Binds K fd ["_law_pot_here", "_law_thing"] []) (hsm : ∃ o, base.get? sysModules = some o) (D__law_take : Def Pr w K mg base 1 "_law_take" ["_law_pot_here", "_law_upto"] F__law_take) (D__law_otherwise : Def Pr w K mg base 3 "_law_otherwise" ["_law_pot_here", "_law_thing"] F__law_otherwise) (m_int : mg "int" = none) (m_isinstance : mg "isinstance" = none) (m_len : mg "len" = none) (m_range : mg "range" = none) (m_tuple : mg "tuple" = none) : ∀ n : Nat, Def Pr w K mg base (3 + n + 1) "_law_bent" ["_law_pot_here", "_law_thing"] (R__law_bent n)
  | 0 => def_mk F gm b sc__law_bent (fun _ _ _ _ _ _ _ _ => dss_none)
  | n + 1 => by
    have DR := okR__law_bent F gm b hsm D__law_take D__law_otherwise m_int m_isinstance m_len m_range m_tuple n
    have H : ∀ (cdv : Value) (A : Around) (outer : List Env) (s : Shared) (H : Hp) (E : XK), A.guards = some [] → Room (3 + n + 1) (A.deeper (envOfC "_law_bent" (defScope st__law_bent) s.heap.objs.size f cdv)) →
        DSs (cxOf CX0 Pr w K mg base N__law_bent "_law_bent" (defScope st__law_bent) f cdv A outer s H E).nox [0, 1] (defBody st__law_bent) (B__law_bent (R__law_bent n)) := by
      intro cdv A outer s H E hG hr
      have nd := sc__law_bent.nd
      exact (dss_cons (ds_if (PW.pt (dw_or (dt_not (dt_val (de_isi (cn := "tuple") rfl (by decide) (by exact m_isinstance) (by rfl) (by exact m_tuple) (by rfl) (by decide +kernel) (by decide) (by decide) (dp_var (pv 1))))) (dw_or (dt_eqU (by exact hr) (dp_var (pv 1)) (dp_of (de_tup da_nil))) (dw_or1 (dt_eq (by exact hr) (dp_of (de_own (by exact D__law_take) (by rfl) (by exact hG) (by exact hr) (by omega) (by rfl) (da_cons (dp_var (pv 0)) (da_cons (dp_of de_int) da_nil)))) (dp_of de_int)))))) (dss_one (ds_ret (de_own (by exact D__law_otherwise) (by rfl) (by exact hG) (by exact hr) (by omega) (by rfl) (da_cons (dp_var (pv 0)) (da_cons (dp_of (de_var (pv 1))) da_nil))))) dss_nil)
      (dss_cons (ds_parT (is := [2, 3]) (by decide) (pg_tup rfl (pgs_cons (pg_name (i := 2) nd rfl (by first | exact Or.inl rfl | exact Or.inr rfl)) (pgs_cons (pg_name (i := 3) nd rfl (by first | exact Or.inl rfl | exact Or.inr rfl)) pgs_nil))) (df_cons (de_own (by exact D__law_take) (by rfl) (by exact hG) (by exact hr) (by omega) (by rfl) (da_cons (dp_var (pv 0)) (da_cons (dp_of de_int) da_nil))) (df_cons (de_own (by exact D__law_take) (by rfl) (by exact hG) (by exact hr) (by omega) (by rfl) (da_cons (dp_var (pv 0)) (da_cons (dp_of (de_len (by exact m_len) (by rfl) (da_cons (dp_var (pv 1)) da_nil))) da_nil))) df_nil)))
      (dss_cons (ds_if (dt_eq (by exact hr) (dp_var (pv 2)) (dp_of de_int)) (dss_one (ds_ret (de_add (dp_of (de_slice (dp_var (pv 1)) do_none (do_some (dp_var (pv 3))))) (dp_of (de_slice (dp_var (pv 1)) (do_some (dp_of (de_add (dp_var (pv 3)) (dp_of de_int)))) do_none))))) dss_nil)
      (dss_cons (ds_if (dt_eq (by exact hr) (dp_var (pv 2)) (dp_of de_int)) (dss_one (ds_ret (de_add (dp_of (de_add (dp_of (de_slice (dp_var (pv 1)) do_none (do_some (dp_var (pv 3))))) (dp_of (de_slice (dp_var (pv 1)) (do_some (dp_var (pv 3))) (do_some (dp_of (de_add (dp_var (pv 3)) (dp_of de_int)))))))) (dp_of (de_slice (dp_var (pv 1)) (do_some (dp_var (pv 3))) do_none))))) dss_nil)
      (dss_cons (ds_if (dt_eq (by exact hr) (dp_var (pv 2)) (dp_of de_int)) (dss_cons (ds_set (i := 4) nd rfl (by first | exact Or.inl rfl | exact Or.inr rfl) (by decide) (de_own (by exact D__law_take) (by rfl) (by exact hG) (by exact hr) (by omega) (by rfl) (da_cons (dp_var (pv 0)) (da_cons (dp_of (de_len (by exact m_len) (by rfl) (da_cons (dp_var (pv 1)) da_nil))) da_nil))))
      (dss_one (ds_ret (de_tuple (by exact m_tuple) (by rfl) (da_cons (dp_of (de_lc (own := [("_law_k", 5)]) rfl nd (di_range1 (by rfl) (by exact m_range) (da_cons (dp_of (de_len (by exact m_len) (by rfl) (da_cons (dp_var (pv 1)) da_nil))) da_nil)) (blkOk_by (own := [("_law_k", 5)]) (N := N__law_bent) (sc := defScope st__law_bent) (by decide +kernel)) (by decide) (fun _ _ _ _ _ => (dg_name (i := 5) nd rfl (by first | exact Or.inl rfl | exact Or.inr rfl))) (fun _ _ _ _ _ => dts_nil) (fun _ _ _ _ _ => (de_ifE (dt_in (by exact hr) (dp_var (pv 5)) (dp_of (de_tup (da_cons (dp_of (de_var (pv 3))) (da_cons (dp_of (de_var (pv 4))) da_nil))))) (de_item (dp_var (pv 1)) (dp_of (de_item (dp_of (de_lst (da_cons (dp_of (de_var (pv 4))) (da_cons (dp_of (de_var (pv 3))) da_nil)))) (dp_of (de_int1 (by exact m_int) (by rfl) (da_cons (dp_of (de_eq (by exact hr) (dp_var (pv 5)) (dp_var (pv 4)))) da_nil))) (fun _ _ => rfl))) (fun _ _ => rfl)) (de_item (dp_var (pv 1)) (dp_var (pv 5)) (fun _ _ => rfl)))))) da_nil))))) dss_nil)
      (dss_one (ds_ret (de_add (dp_of (de_add (dp_of (de_slice (dp_var (pv 1)) do_none (do_some (dp_var (pv 3))))) (dp_of (de_tup (da_cons (dp_of (de_own (by exact DR) (by rfl) (by exact hG) (by exact hr) (by omega) (by rfl) (da_cons (dp_var (pv 0)) (da_cons (dp_of (de_item (dp_var (pv 1)) (dp_var (pv 3)) (fun _ _ => rfl))) da_nil)))) da_nil))))) (dp_of (de_slice (dp_var (pv 1)) (do_some (dp_of (de_add (dp_var (pv 3)) (dp_of de_int)))) do_none))))))))))
    exact def_mk F gm b sc__law_bent H
theorem ok__law_bent {f : Addr} {fd : FuncData} (F : Fun K "_law_bent" "_law_bent" st__law_bent f fd) (gm : mg "_law_bent" = some (.ref f)) (b : Binds K fd ["_law_pot_here", "_law_thing"] []) (hsm : ∃ o, base.get? sysModules = some o) (D__law_take : Def Pr w K mg base 1 "_law_take" ["_law_pot_here", "_law_upto"] F__law_take) (D__law_otherwise : Def Pr w K mg base 3 "_law_otherwise" ["_law_pot_here", "_law_thing"] F__law_otherwise) (m_int : mg "int" = none) (m_isinstance : mg "isinstance" = none) (m_len : mg "len" = none) (m_range : mg "range" = none) (m_tuple : mg "tuple" = none) : Def Pr w K mg base 12 "_law_bent" ["_law_pot_here", "_law_thing"] F__law_bent := okR__law_bent F gm b hsm D__law_take D__law_otherwise m_int m_isinstance m_len m_range m_tuple 8
theorem sc__law_whole : FnScope N__law_whole ["_law_thing", "_law_least", "_law_most"] (defScope st__law_whole) := ⟨rfl, rfl, rfl, by decide +kernel, rfl, by decide +kernel, by decide +kernel⟩
theorem ok__law_whole {f : Addr} {fd : FuncData} (F : Fun K "_law_whole" "_law_whole" st__law_whole f fd) (gm : mg "_law_whole" = some (.ref f)) (b : Binds K fd ["_law_thing", "_law_least", "_law_most"] []) (hsm : ∃ o, base.get? sysModules = some o) (m_bool : mg "bool" = none) (m_int : mg "int" = none) (m_isinstance : mg "isinstance" = none) : Def Pr w K mg base 1 "_law_whole" ["_law_thing", "_law_least", "_law_most"] F__law_whole := by
  have H : ∀ (cdv : Value) (A : Around) (outer : List Env) (s : Shared) (H : Hp) (E : XK), A.guards = some [] → Room 0 (A.deeper (envOfC "_law_whole" (defScope st__law_whole) s.heap.objs.size f cdv)) →
      DSs (cxOf CX0 Pr w K mg base N__law_whole "_law_whole" (defScope st__law_whole) f cdv A outer s H E).nox [0, 1, 2] (defBody st__law_whole) B__law_whole := by
    intro cdv A outer s H E hG hr
    have nd := sc__law_whole.nd
    exact (dss_one (ds_ret (de_and (de_isi (cn := "int") rfl (by decide) (by exact m_isinstance) (by rfl) (by exact m_int) (by rfl) (by decide +kernel) (by decide) (by decide) (dp_var (pv 0))) (de_and (de_not (de_isi (cn := "bool") rfl (by decide) (by exact m_isinstance) (by rfl) (by exact m_bool) (by rfl) (by decide +kernel) (by decide) (by decide) (dp_var (pv 0)))) (de_one (de_chain or_le od_cmp or_le od_cmp (dp_var (pv 1)) (dp_var (pv 0)) (dp_var (pv 2))))))))
  exact def_mk F gm b sc__law_whole H
theorem sc__law_is_pair : FnScope N__law_is_pair ["_law_thing", "_law_many"] (defScope st__law_is_pair) := ⟨rfl, rfl, rfl, by decide +kernel, rfl, by decide +kernel, by decide +kernel⟩
theorem ok__law_is_pair {f : Addr} {fd : FuncData} (F : Fun K "_law_is_pair" "_law_is_pair" st__law_is_pair f fd) (gm : mg "_law_is_pair" = some (.ref f)) (b : Binds K fd ["_law_thing", "_law_many"] []) (hsm : ∃ o, base.get? sysModules = some o) (D__law_whole : Def Pr w K mg base 1 "_law_whole" ["_law_thing", "_law_least", "_law_most"] F__law_whole) (m_all : mg "all" = none) (m_isinstance : mg "isinstance" = none) (m_len : mg "len" = none) (m_tuple : mg "tuple" = none) : Def Pr w K mg base 2 "_law_is_pair" ["_law_thing", "_law_many"] F__law_is_pair := by
  have H : ∀ (cdv : Value) (A : Around) (outer : List Env) (s : Shared) (H : Hp) (E : XK), A.guards = some [] → Room 1 (A.deeper (envOfC "_law_is_pair" (defScope st__law_is_pair) s.heap.objs.size f cdv)) →
      DSs (cxOf CX0 Pr w K mg base N__law_is_pair "_law_is_pair" (defScope st__law_is_pair) f cdv A outer s H E).nox [0, 1] (defBody st__law_is_pair) B__law_is_pair := by
    intro cdv A outer s H E hG hr
    have nd := sc__law_is_pair.nd
    exact (dss_cons (ds_if (PW.pt (dw_or (dt_not (dt_val (de_isi (cn := "tuple") rfl (by decide) (by exact m_isinstance) (by rfl) (by exact m_tuple) (by rfl) (by decide +kernel) (by decide) (by decide) (dp_var (pv 0))))) (dw_or1 (dt_ne (by exact hr) (dp_of (de_len (by exact m_len) (by rfl) (da_cons (dp_var (pv 0)) da_nil))) (dp_of de_int))))) (dss_one (ds_ret de_bl)) dss_nil)
      (dss_one (ds_ret (de_and (de_all rfl (by exact m_all) (by rfl) (da_cons (dp_of (de_lc (own := [("_law_one", 2)]) rfl nd (di_seq (de_var (pv 0))) (blkOk_by (own := [("_law_one", 2)]) (N := N__law_is_pair) (sc := defScope st__law_is_pair) (by decide +kernel)) (by decide) (fun _ _ _ _ _ => (dg_name (i := 2) nd rfl (by first | exact Or.inl rfl | exact Or.inr rfl))) (fun _ _ _ _ _ => dts_nil) (fun _ _ _ _ _ => (de_own (by exact D__law_whole) (by rfl) (by exact hG) (by exact hr) (by decide) (by rfl) (da_cons (dp_of (de_var (pv 2))) (da_cons (dp_of de_int) (da_cons (dp_of (de_sub (dp_var (pv 1)) (dp_of de_int))) da_nil))))))) da_nil)) (de_one (de_ne (by exact hr) (dp_of (de_item (dp_var (pv 0)) (dp_of de_int) (fun _ _ => rfl))) (dp_of (de_item (dp_var (pv 0)) (dp_of de_int) (fun _ _ => rfl)))))))))
  exact def_mk F gm b sc__law_is_pair H
theorem sc__law_is_lot : FnScope N__law_is_lot ["_law_thing"] (defScope st__law_is_lot) := ⟨rfl, rfl, rfl, by decide +kernel, rfl, by decide +kernel, by decide +kernel⟩
theorem ok__law_is_lot {f : Addr} {fd : FuncData} (F : Fun K "_law_is_lot" "_law_is_lot" st__law_is_lot f fd) (gm : mg "_law_is_lot" = some (.ref f)) (b : Binds K fd ["_law_thing"] []) (hsm : ∃ o, base.get? sysModules = some o) (D__law_whole : Def Pr w K mg base 1 "_law_whole" ["_law_thing", "_law_least", "_law_most"] F__law_whole) (D__law_is_pair : Def Pr w K mg base 2 "_law_is_pair" ["_law_thing", "_law_many"] F__law_is_pair) (m_all : mg "all" = none) (m_any : mg "any" = none) (m_isinstance : mg "isinstance" = none) (m_len : mg "len" = none) (m_list : mg "list" = none) (m_sorted : mg "sorted" = none) (m_tuple : mg "tuple" = none) (m_zip : mg "zip" = none) : Def Pr w K mg base 3 "_law_is_lot" ["_law_thing"] F__law_is_lot := by
  have H : ∀ (cdv : Value) (A : Around) (outer : List Env) (s : Shared) (H : Hp) (E : XK), A.guards = some [] → Room 2 (A.deeper (envOfC "_law_is_lot" (defScope st__law_is_lot) s.heap.objs.size f cdv)) →
      DSs (cxOf CX0 Pr w K mg base N__law_is_lot "_law_is_lot" (defScope st__law_is_lot) f cdv A outer s H E).nox [0] (defBody st__law_is_lot) B__law_is_lot := by
    intro cdv A outer s H E hG hr
    have nd := sc__law_is_lot.nd
    exact (dss_cons (ds_if (PW.pt (dw_or (dt_not (dt_val (de_isi (cn := "tuple") rfl (by decide) (by exact m_isinstance) (by rfl) (by exact m_tuple) (by rfl) (by decide +kernel) (by decide) (by decide) (dp_var (pv 0))))) (dw_or (dt_ne (by exact hr) (dp_of (de_len (by exact m_len) (by rfl) (da_cons (dp_var (pv 0)) da_nil))) (dp_of de_int)) (dw_or1 (dt_not (dt_val (de_own (by exact D__law_whole) (by rfl) (by exact hG) (by exact hr) (by decide) (by rfl) (da_cons (dp_of (de_item (dp_var (pv 0)) (dp_of de_int) (fun _ _ => rfl))) (da_cons (dp_of de_int) (da_cons (dp_of de_int) da_nil)))))))))) (dss_one (ds_ret de_bl)) dss_nil)
      (dss_cons (ds_unp (by decide) (dp_of (de_var (pv 0))) (dg_tup rfl (dgs_cons (dg_name (i := 1) nd rfl (by first | exact Or.inl rfl | exact Or.inr rfl)) (dgs_cons (dg_name (i := 2) nd rfl (by first | exact Or.inl rfl | exact Or.inr rfl)) dgs_nil))))
      (dss_cons (ds_if (PW.pt (dw_or (dt_not (dt_val (de_isi (cn := "tuple") rfl (by decide) (by exact m_isinstance) (by rfl) (by exact m_tuple) (by rfl) (by decide +kernel) (by decide) (by decide) (dp_var (pv 2))))) (dw_or1 (dt_not (dt_val (de_all rfl (by exact m_all) (by rfl) (da_cons (dp_of (de_lc (own := [("_law_pair", 3)]) rfl nd (di_seq (de_var (pv 2))) (blkOk_by (own := [("_law_pair", 3)]) (N := N__law_is_lot) (sc := defScope st__law_is_lot) (by decide +kernel)) (by decide) (fun _ _ _ _ _ => (dg_name (i := 3) nd rfl (by first | exact Or.inl rfl | exact Or.inr rfl))) (fun _ _ _ _ _ => dts_nil) (fun _ _ _ _ _ => (de_own (by exact D__law_is_pair) (by rfl) (by exact hG) (by exact hr) (by decide) (by rfl) (da_cons (dp_of (de_var (pv 3))) (da_cons (dp_of (de_var (pv 1))) da_nil)))))) da_nil))))))) (dss_one (ds_ret de_bl)) dss_nil)
      (dss_cons (ds_if (PW.pt (dw_or (dt_ne (by exact hr) (dp_of (de_list (by exact m_list) (by rfl) (da_cons (dp_var (pv 2)) da_nil))) (dp_of (de_sortedTT (by exact m_sorted) (by rfl) (da_cons (dp_var (pv 2)) da_nil)))) (dw_or1 (dt_val (de_any rfl (by exact m_any) (by rfl) (da_cons (dp_of (de_lc (own := [("_law_one", 4), ("_law_other", 5)]) rfl nd (di_zipX (by rfl) (by exact m_zip) (da_cons (dp_of (de_var (pv 2))) (da_cons (dp_of (de_slice (dp_var (pv 2)) (do_some (dp_of de_int)) do_none)) da_nil))) (blkOk_by (own := [("_law_one", 4), ("_law_other", 5)]) (N := N__law_is_lot) (sc := defScope st__law_is_lot) (by decide +kernel)) (by decide) (fun _ _ _ _ _ => (dg_tup rfl (dgs_cons (dg_name (i := 4) nd rfl (by first | exact Or.inl rfl | exact Or.inr rfl)) (dgs_cons (dg_name (i := 5) nd rfl (by first | exact Or.inl rfl | exact Or.inr rfl)) dgs_nil)))) (fun _ _ _ _ _ => dts_nil) (fun _ _ _ _ _ => (de_eq (by exact hr) (dp_var (pv 4)) (dp_var (pv 5)))))) da_nil)))))) (dss_one (ds_ret de_bl)) dss_nil)
      (dss_one (ds_ret (de_not (de_any rfl (by exact m_any) (by rfl) (da_cons (dp_of (de_lc (own := [("_law_x", 6), ("_law_y", 7)]) rfl nd (di_seq (de_var (pv 2))) (blkOk_by (own := [("_law_x", 6), ("_law_y", 7)]) (N := N__law_is_lot) (sc := defScope st__law_is_lot) (by decide +kernel)) (by decide) (fun _ _ _ _ _ => (dg_tup rfl (dgs_cons (dg_name (i := 6) nd rfl (by first | exact Or.inl rfl | exact Or.inr rfl)) (dgs_cons (dg_name (i := 7) nd rfl (by first | exact Or.inl rfl | exact Or.inr rfl)) dgs_nil)))) (fun _ _ _ _ _ => dts_nil) (fun _ _ _ _ _ => (de_in (by exact hr) (dp_of (de_tup (da_cons (dp_of (de_var (pv 7))) (da_cons (dp_of (de_var (pv 6))) da_nil)))) (dp_var (pv 2)))))) da_nil)))))))))
  exact def_mk F gm b sc__law_is_lot H
theorem sc__law_is_tower : FnScope N__law_is_tower ["_law_thing"] (defScope st__law_is_tower) := ⟨rfl, rfl, rfl, by decide +kernel, rfl, by decide +kernel, by decide +kernel⟩
theorem ok__law_is_tower {f : Addr} {fd : FuncData} (F : Fun K "_law_is_tower" "_law_is_tower" st__law_is_tower f fd) (gm : mg "_law_is_tower" = some (.ref f)) (b : Binds K fd ["_law_thing"] []) (hsm : ∃ o, base.get? sysModules = some o) (D__law_is_lot : Def Pr w K mg base 3 "_law_is_lot" ["_law_thing"] F__law_is_lot) (m_all : mg "all" = none) (m_isinstance : mg "isinstance" = none) (m_len : mg "len" = none) (m_tuple : mg "tuple" = none) : Def Pr w K mg base 4 "_law_is_tower" ["_law_thing"] F__law_is_tower := by
  have H : ∀ (cdv : Value) (A : Around) (outer : List Env) (s : Shared) (H : Hp) (E : XK), A.guards = some [] → Room 3 (A.deeper (envOfC "_law_is_tower" (defScope st__law_is_tower) s.heap.objs.size f cdv)) →
      DSs (cxOf CX0 Pr w K mg base N__law_is_tower "_law_is_tower" (defScope st__law_is_tower) f cdv A outer s H E).nox [0] (defBody st__law_is_tower) B__law_is_tower := by
    intro cdv A outer s H E hG hr
    have nd := sc__law_is_tower.nd
    exact (dss_one (ds_ret (de_and (de_isi (cn := "tuple") rfl (by decide) (by exact m_isinstance) (by rfl) (by exact m_tuple) (by rfl) (by decide +kernel) (by decide) (by decide) (dp_var (pv 0))) (de_and (de_chain or_le od_cmp or_le od_cmp (dp_of de_int) (dp_of (de_len (by exact m_len) (by rfl) (da_cons (dp_var (pv 0)) da_nil))) (dp_of de_int)) (de_one (de_all rfl (by exact m_all) (by rfl) (da_cons (dp_of (de_lc (own := [("_law_one", 1)]) rfl nd (di_seq (de_var (pv 0))) (blkOk_by (own := [("_law_one", 1)]) (N := N__law_is_tower) (sc := defScope st__law_is_tower) (by decide +kernel)) (by decide) (fun _ _ _ _ _ => (dg_name (i := 1) nd rfl (by first | exact Or.inl rfl | exact Or.inr rfl))) (fun _ _ _ _ _ => dts_nil) (fun _ _ _ _ _ => (de_own (by exact D__law_is_lot) (by rfl) (by exact hG) (by exact hr) (by decide) (by rfl) (da_cons (dp_of (de_var (pv 1))) da_nil))))) da_nil)))))))
  exact def_mk F gm b sc__law_is_tower H
theorem sc_is_whole : FnScope N_is_whole ["thing"] (defScope st_is_whole) := ⟨rfl, rfl, rfl, by decide +kernel, rfl, by decide +kernel, by decide +kernel⟩
theorem ok_is_whole {f : Addr} {fd : FuncData} (F : Fun K "is_whole" "is_whole" st_is_whole f fd) (gm : mg "is_whole" = some (.ref f)) (b : Binds K fd ["thing"] []) (hsm : ∃ o, base.get? sysModules = some o) (m_bool : mg "bool" = none) (m_int : mg "int" = none) (m_isinstance : mg "isinstance" = none) : Def Pr w K mg base 1 "is_whole" ["thing"] F_is_whole := by
  have H : ∀ (cdv : Value) (A : Around) (outer : List Env) (s : Shared) (H : Hp) (E : XK), A.guards = some [] → Room 0 (A.deeper (envOfC "is_whole" (defScope st_is_whole) s.heap.objs.size f cdv)) →
      DSs (cxOf CX0 Pr w K mg base N_is_whole "is_whole" (defScope st_is_whole) f cdv A outer s H E).nox [0] (defBody st_is_whole) B_is_whole := by
    intro cdv A outer s H E hG hr
    have nd := sc_is_whole.nd
    exact (dss_one (ds_ret (de_and (de_isi (cn := "int") rfl (by decide) (by exact m_isinstance) (by rfl) (by exact m_int) (by rfl) (by decide +kernel) (by decide) (by decide) (dp_var (pv 0))) (de_one (de_not (de_isi (cn := "bool") rfl (by decide) (by exact m_isinstance) (by rfl) (by exact m_bool) (by rfl) (by decide +kernel) (by decide) (by decide) (dp_var (pv 0))))))))
  exact def_mk F gm b sc_is_whole H
theorem sc_is_below : FnScope N_is_below ["many", "thing"] (defScope st_is_below) := ⟨rfl, rfl, rfl, by decide +kernel, rfl, by decide +kernel, by decide +kernel⟩
theorem ok_is_below {f : Addr} {fd : FuncData} (F : Fun K "is_below" "is_below" st_is_below f fd) (gm : mg "is_below" = some (.ref f)) (b : Binds K fd ["many", "thing"] []) (hsm : ∃ o, base.get? sysModules = some o) (D_is_whole : Def Pr w K mg base 1 "is_whole" ["thing"] F_is_whole) : Def Pr w K mg base 2 "is_below" ["many", "thing"] F_is_below := by
  have H : ∀ (cdv : Value) (A : Around) (outer : List Env) (s : Shared) (H : Hp) (E : XK), A.guards = some [] → Room 1 (A.deeper (envOfC "is_below" (defScope st_is_below) s.heap.objs.size f cdv)) →
      DSs (cxOf CX0 Pr w K mg base N_is_below "is_below" (defScope st_is_below) f cdv A outer s H E).nox [0, 1] (defBody st_is_below) B_is_below := by
    intro cdv A outer s H E hG hr
    have nd := sc_is_below.nd
    exact (dss_one (ds_ret (de_and (de_own (by exact D_is_whole) (by rfl) (by exact hG) (by exact hr) (by decide) (by rfl) (da_cons (dp_of (de_var (pv 1))) da_nil)) (de_one (de_chain or_le od_cmp or_lt od_cmp (dp_of de_int) (dp_var (pv 1)) (dp_var (pv 0)))))))
  exact def_mk F gm b sc_is_below H
theorem sc_is_pair : FnScope N_is_pair ["many", "thing"] (defScope st_is_pair) := ⟨rfl, rfl, rfl, by decide +kernel, rfl, by decide +kernel, by decide +kernel⟩
theorem ok_is_pair {f : Addr} {fd : FuncData} (F : Fun K "is_pair" "is_pair" st_is_pair f fd) (gm : mg "is_pair" = some (.ref f)) (b : Binds K fd ["many", "thing"] []) (hsm : ∃ o, base.get? sysModules = some o) (D_is_below : Def Pr w K mg base 2 "is_below" ["many", "thing"] F_is_below) (m_isinstance : mg "isinstance" = none) (m_len : mg "len" = none) (m_tuple : mg "tuple" = none) : Def Pr w K mg base 3 "is_pair" ["many", "thing"] F_is_pair := by
  have H : ∀ (cdv : Value) (A : Around) (outer : List Env) (s : Shared) (H : Hp) (E : XK), A.guards = some [] → Room 2 (A.deeper (envOfC "is_pair" (defScope st_is_pair) s.heap.objs.size f cdv)) →
      DSs (cxOf CX0 Pr w K mg base N_is_pair "is_pair" (defScope st_is_pair) f cdv A outer s H E).nox [0, 1] (defBody st_is_pair) B_is_pair := by
    intro cdv A outer s H E hG hr
    have nd := sc_is_pair.nd
    exact (dss_cons (ds_if (PW.pt (dw_or (dt_not (dt_val (de_isi (cn := "tuple") rfl (by decide) (by exact m_isinstance) (by rfl) (by exact m_tuple) (by rfl) (by decide +kernel) (by decide) (by decide) (dp_var (pv 1))))) (dw_or1 (dt_ne (by exact hr) (dp_of (de_len (by exact m_len) (by rfl) (da_cons (dp_var (pv 1)) da_nil))) (dp_of de_int))))) (dss_one (ds_ret de_bl)) dss_nil)
      (dss_cons (ds_unp (by decide) (dp_of (de_var (pv 1))) (dg_tup rfl (dgs_cons (dg_name (i := 2) nd rfl (by first | exact Or.inl rfl | exact Or.inr rfl)) (dgs_cons (dg_name (i := 3) nd rfl (by first | exact Or.inl rfl | exact Or.inr rfl)) dgs_nil))))
      (dss_one (ds_ret (de_and (de_own (by exact D_is_below) (by rfl) (by exact hG) (by exact hr) (by decide) (by rfl) (da_cons (dp_of (de_var (pv 0))) (da_cons (dp_of (de_var (pv 2))) da_nil))) (de_and (de_own (by exact D_is_below) (by rfl) (by exact hG) (by exact hr) (by decide) (by rfl) (da_cons (dp_of (de_var (pv 0))) (da_cons (dp_of (de_var (pv 3))) da_nil))) (de_one (de_ne (by exact hr) (dp_var (pv 2)) (dp_var (pv 3))))))))))
  exact def_mk F gm b sc_is_pair H
theorem sc_are_rising : FnScope N_are_rising ["pairs"] (defScope st_are_rising) := ⟨rfl, rfl, rfl, by decide +kernel, rfl, by decide +kernel, by decide +kernel⟩
theorem ok_are_rising {f : Addr} {fd : FuncData} (F : Fun K "are_rising" "are_rising" st_are_rising f fd) (gm : mg "are_rising" = some (.ref f)) (b : Binds K fd ["pairs"] []) (hsm : ∃ o, base.get? sysModules = some o) (m_all : mg "all" = none) (m_zip : mg "zip" = none) : Def Pr w K mg base 1 "are_rising" ["pairs"] F_are_rising := by
  have H : ∀ (cdv : Value) (A : Around) (outer : List Env) (s : Shared) (H : Hp) (E : XK), A.guards = some [] → Room 0 (A.deeper (envOfC "are_rising" (defScope st_are_rising) s.heap.objs.size f cdv)) →
      DSs (cxOf CX0 Pr w K mg base N_are_rising "are_rising" (defScope st_are_rising) f cdv A outer s H E).nox [0] (defBody st_are_rising) B_are_rising := by
    intro cdv A outer s H E hG hr
    have nd := sc_are_rising.nd
    exact (dss_one (ds_ret (de_all rfl (by exact m_all) (by rfl) (da_cons (dp_of (de_lc (own := [("one", 1), ("other", 2)]) rfl nd (di_zipX (by rfl) (by exact m_zip) (da_cons (dp_of (de_var (pv 0))) (da_cons (dp_of (de_slice (dp_var (pv 0)) (do_some (dp_of de_int)) do_none)) da_nil))) (blkOk_by (own := [("one", 1), ("other", 2)]) (N := N_are_rising) (sc := defScope st_are_rising) (by decide +kernel)) (by decide) (fun _ _ _ _ _ => (dg_tup rfl (dgs_cons (dg_name (i := 1) nd rfl (by first | exact Or.inl rfl | exact Or.inr rfl)) (dgs_cons (dg_name (i := 2) nd rfl (by first | exact Or.inl rfl | exact Or.inr rfl)) dgs_nil)))) (fun _ _ _ _ _ => dts_nil) (fun _ _ _ _ _ => (de_ltX (by exact hr) (dp_var (pv 1)) (dp_var (pv 2)))))) da_nil))))
  exact def_mk F gm b sc_are_rising H
theorem sc_are_one_way : FnScope N_are_one_way ["pairs"] (defScope st_are_one_way) := ⟨rfl, rfl, rfl, by decide +kernel, rfl, by decide +kernel, by decide +kernel⟩
theorem ok_are_one_way {f : Addr} {fd : FuncData} (F : Fun K "are_one_way" "are_one_way" st_are_one_way f fd) (gm : mg "are_one_way" = some (.ref f)) (b : Binds K fd ["pairs"] []) (hsm : ∃ o, base.get? sysModules = some o) (m_all : mg "all" = none) : Def Pr w K mg base 1 "are_one_way" ["pairs"] F_are_one_way := by
  have H : ∀ (cdv : Value) (A : Around) (outer : List Env) (s : Shared) (H : Hp) (E : XK), A.guards = some [] → Room 0 (A.deeper (envOfC "are_one_way" (defScope st_are_one_way) s.heap.objs.size f cdv)) →
      DSs (cxOf CX0 Pr w K mg base N_are_one_way "are_one_way" (defScope st_are_one_way) f cdv A outer s H E).nox [0] (defBody st_are_one_way) B_are_one_way := by
    intro cdv A outer s H E hG hr
    have nd := sc_are_one_way.nd
    exact (dss_cons (ds_set (i := 1) nd rfl (by first | exact Or.inl rfl | exact Or.inr rfl) (by decide) (de_dc false (own := [("pair", 2)]) (by exact hr) rfl nd (di_seq (de_var (pv 0))) (blkOk_by (own := [("pair", 2)]) (N := N_are_one_way) (sc := defScope st_are_one_way) (by decide +kernel)) (by decide) (fun _ _ _ _ _ => (dg_name (i := 2) nd rfl (by first | exact Or.inl rfl | exact Or.inr rfl))) (fun _ _ _ _ _ => dts_nil) (fun _ _ _ _ _ => (de_var (pv 2))) (fun _ _ _ _ _ => de_bl)))
      (dss_one (ds_ret (de_all rfl (by exact m_all) (by rfl) (da_cons (dp_of (de_lc (own := [("x", 3), ("y", 4)]) rfl nd (di_seq (de_var (pv 0))) (blkOk_by (own := [("x", 3), ("y", 4)]) (N := N_are_one_way) (sc := defScope st_are_one_way) (by decide +kernel)) (by decide) (fun _ _ _ _ _ => (dg_tup rfl (dgs_cons (dg_name (i := 3) nd rfl (by first | exact Or.inl rfl | exact Or.inr rfl)) (dgs_cons (dg_name (i := 4) nd rfl (by first | exact Or.inl rfl | exact Or.inr rfl)) dgs_nil)))) (fun _ _ _ _ _ => dts_nil) (fun _ _ _ _ _ => (de_notInX (by exact hr) (dp_of (de_tup (da_cons (dp_of (de_var (pv 4))) (da_cons (dp_of (de_var (pv 3))) da_nil)))) (dp_var (pv 1)))))) da_nil)))))
  exact def_mk F gm b sc_are_one_way H
theorem sc_is_lot : FnScope N_is_lot ["thing"] (defScope st_is_lot) := ⟨rfl, rfl, rfl, by decide +kernel, rfl, by decide +kernel, by decide +kernel⟩
theorem ok_is_lot {f : Addr} {fd : FuncData} (F : Fun K "is_lot" "is_lot" st_is_lot f fd) (gm : mg "is_lot" = some (.ref f)) (b : Binds K fd ["thing"] []) (hsm : ∃ o, base.get? sysModules = some o) (D_is_below : Def Pr w K mg base 2 "is_below" ["many", "thing"] F_is_below) (D_is_pair : Def Pr w K mg base 3 "is_pair" ["many", "thing"] F_is_pair) (D_are_rising : Def Pr w K mg base 1 "are_rising" ["pairs"] F_are_rising) (D_are_one_way : Def Pr w K mg base 1 "are_one_way" ["pairs"] F_are_one_way) (m_all : mg "all" = none) (m_isinstance : mg "isinstance" = none) (m_len : mg "len" = none) (m_tuple : mg "tuple" = none) (c_MOST_MARKS : Con mg "MOST_MARKS" (.int 24)) : Def Pr w K mg base 4 "is_lot" ["thing"] F_is_lot := by
  have H : ∀ (cdv : Value) (A : Around) (outer : List Env) (s : Shared) (H : Hp) (E : XK), A.guards = some [] → Room 3 (A.deeper (envOfC "is_lot" (defScope st_is_lot) s.heap.objs.size f cdv)) →
      DSs (cxOf CX0 Pr w K mg base N_is_lot "is_lot" (defScope st_is_lot) f cdv A outer s H E).nox [0] (defBody st_is_lot) B_is_lot := by
    intro cdv A outer s H E hG hr
    have nd := sc_is_lot.nd
    exact (dss_cons (ds_if (PW.pt (dw_or (dt_not (dt_val (de_isi (cn := "tuple") rfl (by decide) (by exact m_isinstance) (by rfl) (by exact m_tuple) (by rfl) (by decide +kernel) (by decide) (by decide) (dp_var (pv 0))))) (dw_or1 (dt_ne (by exact hr) (dp_of (de_len (by exact m_len) (by rfl) (da_cons (dp_var (pv 0)) da_nil))) (dp_of de_int))))) (dss_one (ds_ret de_bl)) dss_nil)
      (dss_cons (ds_unp (by decide) (dp_of (de_var (pv 0))) (dg_tup rfl (dgs_cons (dg_name (i := 1) nd rfl (by first | exact Or.inl rfl | exact Or.inr rfl)) (dgs_cons (dg_name (i := 2) nd rfl (by first | exact Or.inl rfl | exact Or.inr rfl)) dgs_nil))))
      (dss_cons (ds_if (PW.pt (dw_or (dt_not (dt_val (de_own (by exact D_is_below) (by rfl) (by exact hG) (by exact hr) (by decide) (by rfl) (da_cons (dp_of (de_add (dp_of (de_conI (by rfl) (by exact c_MOST_MARKS))) (dp_of de_int))) (da_cons (dp_of (de_var (pv 1))) da_nil))))) (dw_or1 (dt_not (dt_val (de_isi (cn := "tuple") rfl (by decide) (by exact m_isinstance) (by rfl) (by exact m_tuple) (by rfl) (by decide +kernel) (by decide) (by decide) (dp_var (pv 2)))))))) (dss_one (ds_ret de_bl)) dss_nil)
      (dss_cons (ds_if (dt_not (dt_val (de_all rfl (by exact m_all) (by rfl) (da_cons (dp_of (de_lc (own := [("pair", 3)]) rfl nd (di_seq (de_var (pv 2))) (blkOk_by (own := [("pair", 3)]) (N := N_is_lot) (sc := defScope st_is_lot) (by decide +kernel)) (by decide) (fun _ _ _ _ _ => (dg_name (i := 3) nd rfl (by first | exact Or.inl rfl | exact Or.inr rfl))) (fun _ _ _ _ _ => dts_nil) (fun _ _ _ _ _ => (de_own (by exact D_is_pair) (by rfl) (by exact hG) (by exact hr) (by decide) (by rfl) (da_cons (dp_of (de_var (pv 1))) (da_cons (dp_of (de_var (pv 3))) da_nil)))))) da_nil)))) (dss_one (ds_ret de_bl)) dss_nil)
      (dss_one (ds_ret (de_and (de_own (by exact D_are_rising) (by rfl) (by exact hG) (by exact hr) (by decide) (by rfl) (da_cons (dp_of (de_var (pv 2))) da_nil)) (de_one (de_own (by exact D_are_one_way) (by rfl) (by exact hG) (by exact hr) (by decide) (by rfl) (da_cons (dp_of (de_var (pv 2))) da_nil))))))))))
  exact def_mk F gm b sc_is_lot H
theorem sc_is_tower : FnScope N_is_tower ["thing"] (defScope st_is_tower) := ⟨rfl, rfl, rfl, by decide +kernel, rfl, by decide +kernel, by decide +kernel⟩
theorem ok_is_tower {f : Addr} {fd : FuncData} (F : Fun K "is_tower" "is_tower" st_is_tower f fd) (gm : mg "is_tower" = some (.ref f)) (b : Binds K fd ["thing"] []) (hsm : ∃ o, base.get? sysModules = some o) (D_is_lot : Def Pr w K mg base 4 "is_lot" ["thing"] F_is_lot) (m_all : mg "all" = none) (m_isinstance : mg "isinstance" = none) (m_len : mg "len" = none) (m_tuple : mg "tuple" = none) (c_MOST_LOTS : Con mg "MOST_LOTS" (.int 40)) : Def Pr w K mg base 5 "is_tower" ["thing"] F_is_tower := by
  have H : ∀ (cdv : Value) (A : Around) (outer : List Env) (s : Shared) (H : Hp) (E : XK), A.guards = some [] → Room 4 (A.deeper (envOfC "is_tower" (defScope st_is_tower) s.heap.objs.size f cdv)) →
      DSs (cxOf CX0 Pr w K mg base N_is_tower "is_tower" (defScope st_is_tower) f cdv A outer s H E).nox [0] (defBody st_is_tower) B_is_tower := by
    intro cdv A outer s H E hG hr
    have nd := sc_is_tower.nd
    exact (dss_cons (ds_if (PW.pt (dw_or (dt_not (dt_val (de_isi (cn := "tuple") rfl (by decide) (by exact m_isinstance) (by rfl) (by exact m_tuple) (by rfl) (by decide +kernel) (by decide) (by decide) (dp_var (pv 0))))) (dw_or1 (dt_not (dt_chain or_le od_cmp or_le od_cmp (dp_of de_int) (dp_of (de_len (by exact m_len) (by rfl) (da_cons (dp_var (pv 0)) da_nil))) (dp_of (de_conI (by rfl) (by exact c_MOST_LOTS)))))))) (dss_one (ds_ret de_bl)) dss_nil)
      (dss_one (ds_ret (de_all rfl (by exact m_all) (by rfl) (da_cons (dp_of (de_lc (own := [("lot", 1)]) rfl nd (di_seq (de_var (pv 0))) (blkOk_by (own := [("lot", 1)]) (N := N_is_tower) (sc := defScope st_is_tower) (by decide +kernel)) (by decide) (fun _ _ _ _ _ => (dg_name (i := 1) nd rfl (by first | exact Or.inl rfl | exact Or.inr rfl))) (fun _ _ _ _ _ => dts_nil) (fun _ _ _ _ _ => (de_and (de_own (by exact D_is_lot) (by rfl) (by exact hG) (by exact hr) (by decide) (by rfl) (da_cons (dp_of (de_var (pv 1))) da_nil)) (de_one (de_gt (dp_of (de_item (dp_var (pv 1)) (dp_of de_int) (fun _ _ => rfl))) (dp_of de_int))))))) da_nil)))))
  exact def_mk F gm b sc_is_tower H
theorem sc_many_in : FnScope N_many_in ["tower"] (defScope st_many_in) := ⟨rfl, rfl, rfl, by decide +kernel, rfl, by decide +kernel, by decide +kernel⟩
theorem ok_many_in {f : Addr} {fd : FuncData} (F : Fun K "many_in" "many_in" st_many_in f fd) (gm : mg "many_in" = some (.ref f)) (b : Binds K fd ["tower"] []) (hsm : ∃ o, base.get? sysModules = some o) : Def Pr w K mg base 1 "many_in" ["tower"] F_many_in := by
  have H : ∀ (cdv : Value) (A : Around) (outer : List Env) (s : Shared) (H : Hp) (E : XK), A.guards = some [] → Room 0 (A.deeper (envOfC "many_in" (defScope st_many_in) s.heap.objs.size f cdv)) →
      DSs (cxOf CX0 Pr w K mg base N_many_in "many_in" (defScope st_many_in) f cdv A outer s H E).nox [0] (defBody st_many_in) B_many_in := by
    intro cdv A outer s H E hG hr
    have nd := sc_many_in.nd
    exact (dss_cons (ds_set (i := 1) nd rfl (by first | exact Or.inl rfl | exact Or.inr rfl) (by decide) de_int)
      (dss_cons (ds_for PassesOwn.never rfl (by decide) (di_seq (de_var (pv 0))) (dg_name (i := 2) nd rfl (by first | exact Or.inl rfl | exact Or.inr rfl)) (dss_one (ds_augM (i := 1) nd rfl (by first | exact Or.inl rfl | exact Or.inr rfl) (by decide) (dp_of (de_item (dp_var (pv 2)) (dp_of de_int) (fun _ _ => rfl))))))
      (dss_one (ds_ret (de_var (pv 1))))))
  exact def_mk F gm b sc_many_in H
theorem sc__law_product : FnScope N__law_product ["_law_tower_here"] (defScope st__law_product) := ⟨rfl, rfl, rfl, by decide +kernel, rfl, by decide +kernel, by decide +kernel⟩
theorem ok__law_product {f : Addr} {fd : FuncData} (F : Fun K "_law_product" "_law_product" st__law_product f fd) (gm : mg "_law_product" = some (.ref f)) (b : Binds K fd ["_law_tower_here"] []) (hsm : ∃ o, base.get? sysModules = some o) : Def Pr w K mg base 1 "_law_product" ["_law_tower_here"] F__law_product := by
  have H : ∀ (cdv : Value) (A : Around) (outer : List Env) (s : Shared) (H : Hp) (E : XK), A.guards = some [] → Room 0 (A.deeper (envOfC "_law_product" (defScope st__law_product) s.heap.objs.size f cdv)) →
      DSs (cxOf CX0 Pr w K mg base N__law_product "_law_product" (defScope st__law_product) f cdv A outer s H E).nox [0] (defBody st__law_product) B__law_product := by
    intro cdv A outer s H E hG hr
    have nd := sc__law_product.nd
    exact (dss_cons (ds_set (i := 1) nd rfl (by first | exact Or.inl rfl | exact Or.inr rfl) (by decide) de_int)
      (dss_cons (ds_for PassesOwn.never rfl (by decide) (di_seq (de_var (pv 0))) (dg_name (i := 2) nd rfl (by first | exact Or.inl rfl | exact Or.inr rfl)) (dss_one (ds_set (i := 1) nd rfl (by first | exact Or.inl rfl | exact Or.inr rfl) (by decide) (de_mul (dp_var (pv 1)) (dp_of (de_item (dp_var (pv 2)) (dp_of de_int) (fun _ _ => rfl)))))))
      (dss_one (ds_ret (de_var (pv 1))))))
  exact def_mk F gm b sc__law_product H
theorem sc_is_mark : FnScope N_is_mark ["tower", "thing"] (defScope st_is_mark) := ⟨rfl, rfl, rfl, by decide +kernel, rfl, by decide +kernel, by decide +kernel⟩
theorem ok_is_mark {f : Addr} {fd : FuncData} (F : Fun K "is_mark" "is_mark" st_is_mark f fd) (gm : mg "is_mark" = some (.ref f)) (b : Binds K fd ["tower", "thing"] []) (hsm : ∃ o, base.get? sysModules = some o) (D_is_below : Def Pr w K mg base 2 "is_below" ["many", "thing"] F_is_below) (m_all : mg "all" = none) (m_isinstance : mg "isinstance" = none) (m_len : mg "len" = none) (m_tuple : mg "tuple" = none) (m_zip : mg "zip" = none) : Def Pr w K mg base 3 "is_mark" ["tower", "thing"] F_is_mark := by
  have H : ∀ (cdv : Value) (A : Around) (outer : List Env) (s : Shared) (H : Hp) (E : XK), A.guards = some [] → Room 2 (A.deeper (envOfC "is_mark" (defScope st_is_mark) s.heap.objs.size f cdv)) →
      DSs (cxOf CX0 Pr w K mg base N_is_mark "is_mark" (defScope st_is_mark) f cdv A outer s H E).nox [0, 1] (defBody st_is_mark) B_is_mark := by
    intro cdv A outer s H E hG hr
    have nd := sc_is_mark.nd
    exact (dss_cons (ds_if (PW.pt (dw_or (dt_not (dt_val (de_isi (cn := "tuple") rfl (by decide) (by exact m_isinstance) (by rfl) (by exact m_tuple) (by rfl) (by decide +kernel) (by decide) (by decide) (dp_var (pv 1))))) (dw_or1 (dt_ne (by exact hr) (dp_of (de_len (by exact m_len) (by rfl) (da_cons (dp_var (pv 1)) da_nil))) (dp_of (de_len (by exact m_len) (by rfl) (da_cons (dp_var (pv 0)) da_nil))))))) (dss_one (ds_ret de_bl)) dss_nil)
      (dss_one (ds_ret (de_all rfl (by exact m_all) (by rfl) (da_cons (dp_of (de_lc (own := [("lot", 2), ("one", 3)]) rfl nd (di_zipX (by rfl) (by exact m_zip) (da_cons (dp_of (de_var (pv 0))) (da_cons (dp_of (de_var (pv 1))) da_nil))) (blkOk_by (own := [("lot", 2), ("one", 3)]) (N := N_is_mark) (sc := defScope st_is_mark) (by decide +kernel)) (by decide) (fun _ _ _ _ _ => (dg_tup rfl (dgs_cons (dg_name (i := 2) nd rfl (by first | exact Or.inl rfl | exact Or.inr rfl)) (dgs_cons (dg_name (i := 3) nd rfl (by first | exact Or.inl rfl | exact Or.inr rfl)) dgs_nil)))) (fun _ _ _ _ _ => dts_nil) (fun _ _ _ _ _ => (de_own (by exact D_is_below) (by rfl) (by exact hG) (by exact hr) (by decide) (by rfl) (da_cons (dp_of (de_item (dp_var (pv 2)) (dp_of de_int) (fun _ _ => rfl))) (da_cons (dp_of (de_var (pv 3))) da_nil)))))) da_nil)))))
  exact def_mk F gm b sc_is_mark H
theorem sc__law_is_mark : FnScope N__law_is_mark ["_law_tower_here", "_law_thing"] (defScope st__law_is_mark) := ⟨rfl, rfl, rfl, by decide +kernel, rfl, by decide +kernel, by decide +kernel⟩
theorem ok__law_is_mark {f : Addr} {fd : FuncData} (F : Fun K "_law_is_mark" "_law_is_mark" st__law_is_mark f fd) (gm : mg "_law_is_mark" = some (.ref f)) (b : Binds K fd ["_law_tower_here", "_law_thing"] []) (hsm : ∃ o, base.get? sysModules = some o) (D__law_whole : Def Pr w K mg base 1 "_law_whole" ["_law_thing", "_law_least", "_law_most"] F__law_whole) (m_all : mg "all" = none) (m_isinstance : mg "isinstance" = none) (m_len : mg "len" = none) (m_tuple : mg "tuple" = none) (m_zip : mg "zip" = none) : Def Pr w K mg base 2 "_law_is_mark" ["_law_tower_here", "_law_thing"] F__law_is_mark := by
  have H : ∀ (cdv : Value) (A : Around) (outer : List Env) (s : Shared) (H : Hp) (E : XK), A.guards = some [] → Room 1 (A.deeper (envOfC "_law_is_mark" (defScope st__law_is_mark) s.heap.objs.size f cdv)) →
      DSs (cxOf CX0 Pr w K mg base N__law_is_mark "_law_is_mark" (defScope st__law_is_mark) f cdv A outer s H E).nox [0, 1] (defBody st__law_is_mark) B__law_is_mark := by
    intro cdv A outer s H E hG hr
    have nd := sc__law_is_mark.nd
    exact (dss_cons (ds_if (PW.pt (dw_or (dt_not (dt_val (de_isi (cn := "tuple") rfl (by decide) (by exact m_isinstance) (by rfl) (by exact m_tuple) (by rfl) (by decide +kernel) (by decide) (by decide) (dp_var (pv 1))))) (dw_or1 (dt_ne (by exact hr) (dp_of (de_len (by exact m_len) (by rfl) (da_cons (dp_var (pv 1)) da_nil))) (dp_of (de_len (by exact m_len) (by rfl) (da_cons (dp_var (pv 0)) da_nil))))))) (dss_one (ds_ret de_bl)) dss_nil)
      (dss_one (ds_ret (de_all rfl (by exact m_all) (by rfl) (da_cons (dp_of (de_lc (own := [("_law_lot_here", 2), ("_law_one", 3)]) rfl nd (di_zipX (by rfl) (by exact m_zip) (da_cons (dp_of (de_var (pv 0))) (da_cons (dp_of (de_var (pv 1))) da_nil))) (blkOk_by (own := [("_law_lot_here", 2), ("_law_one", 3)]) (N := N__law_is_mark) (sc := defScope st__law_is_mark) (by decide +kernel)) (by decide) (fun _ _ _ _ _ => (dg_tup rfl (dgs_cons (dg_name (i := 2) nd rfl (by first | exact Or.inl rfl | exact Or.inr rfl)) (dgs_cons (dg_name (i := 3) nd rfl (by first | exact Or.inl rfl | exact Or.inr rfl)) dgs_nil)))) (fun _ _ _ _ _ => dts_nil) (fun _ _ _ _ _ => (de_own (by exact D__law_whole) (by rfl) (by exact hG) (by exact hr) (by decide) (by rfl) (da_cons (dp_of (de_var (pv 3))) (da_cons (dp_of de_int) (da_cons (dp_of (de_sub (dp_of (de_item (dp_var (pv 2)) (dp_of de_int) (fun _ _ => rfl))) (dp_of de_int))) da_nil))))))) da_nil)))))
  exact def_mk F gm b sc__law_is_mark H
theorem sc__law_tower_right : FnScope N__law_tower_right ["_law_pot_here", "_law_thing"] (defScope st__law_tower_right) := ⟨rfl, rfl, rfl, by decide +kernel, rfl, by decide +kernel, by decide +kernel⟩
theorem ok__law_tower_right {f : Addr} {fd : FuncData} (F : Fun K "_law_tower_right" "_law_tower_right" st__law_tower_right f fd) (gm : mg "_law_tower_right" = some (.ref f)) (b : Binds K fd ["_law_pot_here", "_law_thing"] []) (hsm : ∃ o, base.get? sysModules = some o) (D__law_is_tower : Def Pr w K mg base 4 "_law_is_tower" ["_law_thing"] F__law_is_tower) (D_is_tower : Def Pr w K mg base 5 "is_tower" ["thing"] F_is_tower) (D_many_in : Def Pr w K mg base 1 "many_in" ["tower"] F_many_in) (D__law_product : Def Pr w K mg base 1 "_law_product" ["_law_tower_here"] F__law_product) (D__law_take : Def Pr w K mg base 1 "_law_take" ["_law_pot_here", "_law_upto"] F__law_take) (D__law_bent : Def Pr w K mg base 12 "_law_bent" ["_law_pot_here", "_law_thing"] F__law_bent) (D__law_otherwise : Def Pr w K mg base 3 "_law_otherwise" ["_law_pot_here", "_law_thing"] F__law_otherwise) (D_is_mark : Def Pr w K mg base 3 "is_mark" ["tower", "thing"] F_is_mark) (D__law_is_mark : Def Pr w K mg base 2 "_law_is_mark" ["_law_tower_here", "_law_thing"] F__law_is_mark) (m_all : mg "all" = none) (m_list : mg "list" = none) (m_repr : mg "repr" = none) (m_tuple : mg "tuple" = none) : Def Pr w K mg base 13 "_law_tower_right" ["_law_pot_here", "_law_thing"] F__law_tower_right := by
  have H : ∀ (cdv : Value) (A : Around) (outer : List Env) (s : Shared) (H : Hp) (E : XK), A.guards = some [] → Room 12 (A.deeper (envOfC "_law_tower_right" (defScope st__law_tower_right) s.heap.objs.size f cdv)) →
      DSs (cxOf CX0 Pr w K mg base N__law_tower_right "_law_tower_right" (defScope st__law_tower_right) f cdv A outer s H E).nox [0, 1] (defBody st__law_tower_right) B__law_tower_right := by
    intro cdv A outer s H E hG hr
    have nd := sc__law_tower_right.nd
    exact (dss_cons (ds_par2 rfl nd rfl rfl (by decide) rfl rfl (by decide) (df_cons (de_reprD (by exact hsm) (by exact hG) (by exact hr) (by exact m_repr) (by rfl) (da_cons (dp_var (pv 1)) da_nil)) (df_cons (de_own (by exact D__law_is_tower) (by rfl) (by exact hG) (by exact hr) (by decide) (by rfl) (da_cons (dp_of (de_var (pv 1))) da_nil)) df_nil)) rfl)
      (dss_cons (ds_if (PW.pt (dw_or (dt_ne (by exact hr) (dp_of (de_reprD (by exact hsm) (by exact hG) (by exact hr) (by exact m_repr) (by rfl) (da_cons (dp_of (de_own (by exact D_is_tower) (by rfl) (by exact hG) (by exact hr) (by decide) (by rfl) (da_cons (dp_of (de_var (pv 1))) da_nil))) da_nil))) (dp_of (de_reprD (by exact hsm) (by exact hG) (by exact hr) (by exact m_repr) (by rfl) (da_cons (dp_var (pv 5)) da_nil)))) (dw_or1 (dt_ne (by exact hr) (dp_of (de_reprD (by exact hsm) (by exact hG) (by exact hr) (by exact m_repr) (by rfl) (da_cons (dp_var (pv 1)) da_nil))) (dp_var (pv 4)))))) (dss_one (ds_ret de_bl)) dss_nil)
      (dss_cons (ds_if (dt_not (dt_val (de_var (pv 5)))) (dss_one (ds_ret de_bl)) dss_nil)
      (dss_cons (ds_if (dt_ne (by exact hr) (dp_of (de_reprD (by exact hsm) (by exact hG) (by exact hr) (by exact m_repr) (by rfl) (da_cons (dp_of (de_own (by exact D_many_in) (by rfl) (by exact hG) (by exact hr) (by decide) (by rfl) (da_cons (dp_of (de_var (pv 1))) da_nil))) da_nil))) (dp_of (de_reprD (by exact hsm) (by exact hG) (by exact hr) (by exact m_repr) (by rfl) (da_cons (dp_of (de_own (by exact D__law_product) (by rfl) (by exact hG) (by exact hr) (by decide) (by rfl) (da_cons (dp_of (de_var (pv 1))) da_nil))) da_nil)))) (dss_one (ds_ret de_bl)) dss_nil)
      (dss_cons (ds_set (i := 2) nd rfl (by first | exact Or.inl rfl | exact Or.inr rfl) (by decide) (de_tuple (by exact m_tuple) (by rfl) (da_cons (dp_of (de_lc (own := [("_law_lot_here", 6)]) rfl nd (di_seq (de_var (pv 1))) (blkOk_by (own := [("_law_lot_here", 6)]) (N := N__law_tower_right) (sc := defScope st__law_tower_right) (by decide +kernel)) (by decide) (fun _ _ _ _ _ => (dg_name (i := 6) nd rfl (by first | exact Or.inl rfl | exact Or.inr rfl))) (fun _ _ _ _ _ => dts_nil) (fun _ _ _ _ _ => (de_own (by exact D__law_take) (by rfl) (by exact hG) (by exact hr) (by decide) (by rfl) (da_cons (dp_var (pv 0)) (da_cons (dp_of (de_item (dp_var (pv 6)) (dp_of de_int) (fun _ _ => rfl))) da_nil)))))) da_nil)))
      (dss_cons (ds_set (i := 3) nd rfl (by first | exact Or.inl rfl | exact Or.inr rfl) (by decide) (de_lst (da_cons (dp_of (de_var (pv 2))) (da_cons (dp_of (de_tuple (by exact m_tuple) (by rfl) (da_cons (dp_of (de_lc (own := [("_law_lot_here", 6)]) rfl nd (di_seq (de_var (pv 1))) (blkOk_by (own := [("_law_lot_here", 6)]) (N := N__law_tower_right) (sc := defScope st__law_tower_right) (by decide +kernel)) (by decide) (fun _ _ _ _ _ => (dg_name (i := 6) nd rfl (by first | exact Or.inl rfl | exact Or.inr rfl))) (fun _ _ _ _ _ => dts_nil) (fun _ _ _ _ _ => (de_sub (dp_of (de_item (dp_var (pv 6)) (dp_of de_int) (fun _ _ => rfl))) (dp_of de_int))))) da_nil))) (da_cons (dp_of (de_tuple (by exact m_tuple) (by rfl) (da_cons (dp_of (de_lc (own := [("_law_lot_here", 6)]) rfl nd (di_seq (de_var (pv 1))) (blkOk_by (own := [("_law_lot_here", 6)]) (N := N__law_tower_right) (sc := defScope st__law_tower_right) (by decide +kernel)) (by decide) (fun _ _ _ _ _ => (dg_name (i := 6) nd rfl (by first | exact Or.inl rfl | exact Or.inr rfl))) (fun _ _ _ _ _ => dts_nil) (fun _ _ _ _ _ => (de_item (dp_var (pv 6)) (dp_of de_int) (fun _ _ => rfl))))) da_nil))) (da_cons (dp_of (de_slice (dp_var (pv 2)) do_none (do_some (dp_of (de_neg (dp_of de_int)))))) (da_cons (dp_of (de_add (dp_var (pv 2)) (dp_of (de_tup (da_cons (dp_of de_int) da_nil))))) da_nil)))))))
      (dss_cons (ds_set (i := 3) nd rfl (by first | exact Or.inl rfl | exact Or.inr rfl) (by decide) (de_add (dp_var (pv 3)) (dp_of (de_lst (da_cons (dp_of (de_list (by exact m_list) (by rfl) (da_cons (dp_var (pv 2)) da_nil))) (da_cons (dp_of (de_own (by exact D__law_bent) (by rfl) (by exact hG) (by exact hr) (by decide) (by rfl) (da_cons (dp_var (pv 0)) (da_cons (dp_of (de_var (pv 2))) da_nil)))) (da_cons (dp_of (de_own (by exact D__law_bent) (by rfl) (by exact hG) (by exact hr) (by decide) (by rfl) (da_cons (dp_var (pv 0)) (da_cons (dp_of (de_var (pv 2))) da_nil)))) (da_cons (dp_of (de_own (by exact D__law_otherwise) (by rfl) (by exact hG) (by exact hr) (by decide) (by rfl) (da_cons (dp_var (pv 0)) (da_cons (dp_of (de_var (pv 2))) da_nil)))) (da_cons (dp_of (de_var (pv 1))) da_nil)))))))))
      (dss_one (ds_ret (de_all rfl (by exact m_all) (by rfl) (da_cons (dp_of (de_lc (own := [("_law_one", 7)]) rfl nd (di_seq (de_var (pv 3))) (blkOk_by (own := [("_law_one", 7)]) (N := N__law_tower_right) (sc := defScope st__law_tower_right) (by decide +kernel)) (by decide) (fun _ _ _ _ _ => (dg_name (i := 7) nd rfl (by first | exact Or.inl rfl | exact Or.inr rfl))) (fun _ _ _ _ _ => dts_nil) (fun _ _ _ _ _ => (de_eq (by exact hr) (dp_of (de_reprD (by exact hsm) (by exact hG) (by exact hr) (by exact m_repr) (by rfl) (da_cons (dp_of (de_own (by exact D_is_mark) (by rfl) (by exact hG) (by exact hr) (by decide) (by rfl) (da_cons (dp_of (de_var (pv 1))) (da_cons (dp_of (de_var (pv 7))) da_nil)))) da_nil))) (dp_of (de_reprD (by exact hsm) (by exact hG) (by exact hr) (by exact m_repr) (by rfl) (da_cons (dp_of (de_own (by exact D__law_is_mark) (by rfl) (by exact hG) (by exact hr) (by decide) (by rfl) (da_cons (dp_of (de_var (pv 1))) (da_cons (dp_of (de_var (pv 7))) da_nil)))) da_nil))))))) da_nil)))))))))))
  exact def_mk F gm b sc__law_tower_right H
theorem sc_law : FnScope N_law ["_law_script"] (defScope st_law) := ⟨rfl, rfl, rfl, by decide +kernel, rfl, by decide +kernel, by decide +kernel⟩
theorem ok_law {f : Addr} {fd : FuncData} (F : Fun K "law" "law" st_law f fd) (hsm : ∃ o, base.get? sysModules = some o) (D__law_pot : Def Pr w K mg base 1 "_law_pot" ["_law_script", "_law_k"] F__law_pot) (D__law_take : Def Pr w K mg base 1 "_law_take" ["_law_pot_here", "_law_upto"] F__law_take) (D__law_lot : Def Pr w K mg base 2 "_law_lot" ["_law_pot_here", "_law_most"] F__law_lot) (D__law_of : Def Pr w K mg base 2 "_law_of" ["_law_pot_here", "_law_some"] F__law_of) (D__law_bent : Def Pr w K mg base 12 "_law_bent" ["_law_pot_here", "_law_thing"] F__law_bent) (D__law_otherwise : Def Pr w K mg base 3 "_law_otherwise" ["_law_pot_here", "_law_thing"] F__law_otherwise) (D__law_tower_right : Def Pr w K mg base 13 "_law_tower_right" ["_law_pot_here", "_law_thing"] F__law_tower_right) (m_all : mg "all" = none) (m_len : mg "len" = none) (m_max : mg "max" = none) (m_min : mg "min" = none) (m_range : mg "range" = none) (m_tuple : mg "tuple" = none) : FnG Pr w K mg base 14 f fd ["_law_script"] (spF K 1 F_law) := by
  have H : ∀ (cdv : Value) (A : Around) (outer : List Env) (s : Shared) (H : Hp) (E : XK), A.guards = some [] → Room 13 (A.deeper (envOfC "law" (defScope st_law) s.heap.objs.size f cdv)) →
      DSs (cxOf CX0 Pr w K mg base N_law "law" (defScope st_law) f cdv A outer s H E).nox [0] (defBody st_law) B_law := by
    intro cdv A outer s H E hG hr
    have nd := sc_law.nd
    exact (dss_cons (ds_for PassesOwn.never rfl (by decide) (di_range1 (by rfl) (by exact m_range) (da_cons (dp_of (de_max rfl (by exact m_max) (by rfl) (da_cons (dp_of de_int) (da_cons (dp_of (de_min rfl (by exact m_min) (by rfl) (da_cons (dp_of de_int) (da_cons (dp_of (de_len (by exact m_len) (by rfl) (da_cons (dp_var (pv 0)) da_nil))) da_nil)))) da_nil)))) da_nil)) (dg_name (i := 1) nd rfl (by first | exact Or.inl rfl | exact Or.inr rfl)) (dss_cons (ds_set (i := 2) nd rfl (by first | exact Or.inl rfl | exact Or.inr rfl) (by decide) (de_own (by exact D__law_pot) (by rfl) (by exact hG) (by exact hr) (by decide) (by rfl) (da_cons (dp_of (de_var (pv 0))) (da_cons (dp_of (de_var (pv 1))) da_nil))))
      (dss_cons (ds_set (i := 3) nd rfl (by first | exact Or.inl rfl | exact Or.inr rfl) (by decide) (de_tuple (by exact m_tuple) (by rfl) (da_cons (dp_of (de_lc (own := [("_law_turn", 6)]) rfl nd (di_range1 (by rfl) (by exact m_range) (da_cons (dp_of (de_add (dp_of de_int) (dp_of (de_own (by exact D__law_take) (by rfl) (by exact hG) (by exact hr) (by decide) (by rfl) (da_cons (dp_var (pv 2)) (da_cons (dp_of de_int) da_nil)))))) da_nil)) (blkOk_by (own := [("_law_turn", 6)]) (N := N_law) (sc := defScope st_law) (by decide +kernel)) (by decide) (fun _ _ _ _ _ => (dg_name (i := 6) nd rfl (by first | exact Or.inl rfl | exact Or.inr rfl))) (fun _ _ _ _ _ => dts_nil) (fun _ _ _ _ _ => (de_own (by exact D__law_lot) (by rfl) (by exact hG) (by exact hr) (by decide) (by rfl) (da_cons (dp_var (pv 2)) (da_cons (dp_of de_int) da_nil)))))) da_nil)))
      (dss_cons (ds_set (i := 4) nd rfl (by first | exact Or.inl rfl | exact Or.inr rfl) (by decide) (de_slice (dp_of (de_mulTN (dp_of (de_slice (dp_var (pv 3)) do_none (do_some (dp_of de_int)))) (dp_of de_int))) do_none (do_some (dp_of (de_own (by exact D__law_of) (by rfl) (by exact hG) (by exact hr) (by decide) (by rfl) (da_cons (dp_var (pv 2)) (da_cons (dp_of (de_lst (da_cons (dp_of de_int) (da_cons (dp_of de_int) (da_cons (dp_of (de_add (dp_of de_int) (dp_of (de_own (by exact D__law_take) (by rfl) (by exact hG) (by exact hr) (by decide) (by rfl) (da_cons (dp_var (pv 2)) (da_cons (dp_of de_int) da_nil)))))) da_nil))))) da_nil)))))))
      (dss_cons (ds_set (i := 5) nd rfl (by first | exact Or.inl rfl | exact Or.inr rfl) (by decide) (de_lst (da_cons (dp_of (de_var (pv 3))) (da_cons (dp_of (de_var (pv 4))) (da_cons (dp_of (de_tup (da_cons (dp_of (de_tup (da_cons (dp_of de_int) (da_cons (dp_of (de_tup da_nil)) da_nil)))) da_nil))) (da_cons (dp_of (de_tup da_nil)) (da_cons (dp_of (de_tup (da_cons (dp_of (de_tup (da_cons (dp_of de_int) (da_cons (dp_of (de_tup da_nil)) da_nil)))) da_nil))) (da_cons (dp_of (de_tup (da_cons (dp_of (de_tup (da_cons (dp_of de_int) (da_cons (dp_of (de_tup da_nil)) da_nil)))) da_nil))) (da_cons (dp_of (de_add (dp_var (pv 3)) (dp_of (de_tup (da_cons (dp_of (de_tup (da_cons (dp_of de_int) (da_cons (dp_of (de_tup da_nil)) da_nil)))) da_nil))))) da_nil)))))))))
      (dss_cons (ds_set (i := 5) nd rfl (by first | exact Or.inl rfl | exact Or.inr rfl) (by decide) (de_add (dp_of (de_add (dp_var (pv 5)) (dp_of (de_lc (own := [("_law_turn", 6)]) rfl nd (di_range1 (by rfl) (by exact m_range) (da_cons (dp_of de_int) da_nil)) (blkOk_by (own := [("_law_turn", 6)]) (N := N_law) (sc := defScope st_law) (by decide +kernel)) (by decide) (fun _ _ _ _ _ => (dg_name (i := 6) nd rfl (by first | exact Or.inl rfl | exact Or.inr rfl))) (fun _ _ _ _ _ => dts_nil) (fun _ _ _ _ _ => (de_own (by exact D__law_bent) (by rfl) (by exact hG) (by exact hr) (by decide) (by rfl) (da_cons (dp_var (pv 2)) (da_cons (dp_of (de_var (pv 3))) da_nil)))))))) (dp_of (de_lst (da_cons (dp_of (de_own (by exact D__law_otherwise) (by rfl) (by exact hG) (by exact hr) (by decide) (by rfl) (da_cons (dp_var (pv 2)) (da_cons (dp_of (de_var (pv 3))) da_nil)))) da_nil)))))
      (dss_cons (ds_expr (de_append (pv 5) (da_cons (dp_of (de_own (by exact D__law_bent) (by rfl) (by exact hG) (by exact hr) (by decide) (by rfl) (da_cons (dp_var (pv 2)) (da_cons (dp_of (de_own (by exact D__law_bent) (by rfl) (by exact hG) (by exact hr) (by decide) (by rfl) (da_cons (dp_var (pv 2)) (da_cons (dp_of (de_var (pv 3))) da_nil)))) da_nil)))) da_nil)))
      (dss_one (ds_if (dt_not (dt_val (de_all rfl (by exact m_all) (by rfl) (da_cons (dp_of (de_lc (own := [("_law_thing", 7)]) rfl nd (di_seq (de_var (pv 5))) (blkOk_by (own := [("_law_thing", 7)]) (N := N_law) (sc := defScope st_law) (by decide +kernel)) (by decide) (fun _ _ _ _ _ => (dg_name (i := 7) nd rfl (by first | exact Or.inl rfl | exact Or.inr rfl))) (fun _ _ _ _ _ => dts_nil) (fun _ _ _ _ _ => (de_own (by exact D__law_tower_right) (by rfl) (by exact hG) (by exact hr) (by decide) (by rfl) (da_cons (dp_var (pv 2)) (da_cons (dp_of (de_var (pv 7))) da_nil)))))) da_nil)))) (dss_one (ds_ret de_bl)) dss_nil)))))))))
      (dss_one (ds_ret de_bl)))
  exact fn_ok F sc_law H
theorem all_mk {h : Heap} {fa : Addr} (X : K.In h) (G : h.Ns mainGlobals mg) (hfa : mg "law" = some (.ref fa))
    {f0 : Addr} {od0 an0 : Option Addr} {sl0 : Array (Option Value)} {oc0 kV0 dc0 pm0 cd0 ct0 : Value}
    (a0 : PySem.W.nsIn K mainGlobals "_law_pot" = some (some (.ref f0)))
    (l0 : K.lookup f0 = some ⟨oc0, od0, .func (PySem.W.fnOf "_law_pot" "_law_pot" (defArgs st__law_pot) (defBody st__law_pot) (defScope st__law_pot) .none kV0 dc0 pm0 an0 cd0 ct0), sl0⟩)
    (c0 : PySem.W.codeIn K cd0 "_law_pot" = true) (k0 : PySem.W.keepIn K (.ref f0) = true)
    {f1 : Addr} {od1 an1 : Option Addr} {sl1 : Array (Option Value)} {oc1 kV1 dc1 pm1 cd1 ct1 : Value}
    (a1 : PySem.W.nsIn K mainGlobals "_law_take" = some (some (.ref f1)))
    (l1 : K.lookup f1 = some ⟨oc1, od1, .func (PySem.W.fnOf "_law_take" "_law_take" (defArgs st__law_take) (defBody st__law_take) (defScope st__law_take) .none kV1 dc1 pm1 an1 cd1 ct1), sl1⟩)
    (c1 : PySem.W.codeIn K cd1 "_law_take" = true) (k1 : PySem.W.keepIn K (.ref f1) = true)
    {f2 : Addr} {od2 an2 : Option Addr} {sl2 : Array (Option Value)} {oc2 kV2 dc2 pm2 cd2 ct2 : Value}
    (a2 : PySem.W.nsIn K mainGlobals "_law_squares" = some (some (.ref f2)))
    (l2 : K.lookup f2 = some ⟨oc2, od2, .func (PySem.W.fnOf "_law_squares" "_law_squares" (defArgs st__law_squares) (defBody st__law_squares) (defScope st__law_squares) .none kV2 dc2 pm2 an2 cd2 ct2), sl2⟩)
    (c2 : PySem.W.codeIn K cd2 "_law_squares" = true) (k2 : PySem.W.keepIn K (.ref f2) = true)
    {f3 : Addr} {od3 an3 : Option Addr} {sl3 : Array (Option Value)} {oc3 kV3 dc3 pm3 cd3 ct3 : Value}
    (a3 : PySem.W.nsIn K mainGlobals "_law_lot" = some (some (.ref f3)))
    (l3 : K.lookup f3 = some ⟨oc3, od3, .func (PySem.W.fnOf "_law_lot" "_law_lot" (defArgs st__law_lot) (defBody st__law_lot) (defScope st__law_lot) .none kV3 dc3 pm3 an3 cd3 ct3), sl3⟩)
    (c3 : PySem.W.codeIn K cd3 "_law_lot" = true) (k3 : PySem.W.keepIn K (.ref f3) = true)
    {f4 : Addr} {od4 an4 : Option Addr} {sl4 : Array (Option Value)} {oc4 kV4 dc4 pm4 cd4 ct4 : Value}
    (a4 : PySem.W.nsIn K mainGlobals "_law_of" = some (some (.ref f4)))
    (l4 : K.lookup f4 = some ⟨oc4, od4, .func (PySem.W.fnOf "_law_of" "_law_of" (defArgs st__law_of) (defBody st__law_of) (defScope st__law_of) .none kV4 dc4 pm4 an4 cd4 ct4), sl4⟩)
    (c4 : PySem.W.codeIn K cd4 "_law_of" = true) (k4 : PySem.W.keepIn K (.ref f4) = true)
    {f5 : Addr} {od5 an5 : Option Addr} {sl5 : Array (Option Value)} {oc5 kV5 dc5 pm5 cd5 ct5 : Value}
    (a5 : PySem.W.nsIn K mainGlobals "_law_otherwise" = some (some (.ref f5)))
    (l5 : K.lookup f5 = some ⟨oc5, od5, .func (PySem.W.fnOf "_law_otherwise" "_law_otherwise" (defArgs st__law_otherwise) (defBody st__law_otherwise) (defScope st__law_otherwise) .none kV5 dc5 pm5 an5 cd5 ct5), sl5⟩)
    (c5 : PySem.W.codeIn K cd5 "_law_otherwise" = true) (k5 : PySem.W.keepIn K (.ref f5) = true)
    {f6 : Addr} {od6 an6 : Option Addr} {sl6 : Array (Option Value)} {oc6 kV6 dc6 pm6 cd6 ct6 : Value}
    (a6 : PySem.W.nsIn K mainGlobals "_law_bent" = some (some (.ref f6)))
    (l6 : K.lookup f6 = some ⟨oc6, od6, .func (PySem.W.fnOf "_law_bent" "_law_bent" (defArgs st__law_bent) (defBody st__law_bent) (defScope st__law_bent) .none kV6 dc6 pm6 an6 cd6 ct6), sl6⟩)
    (c6 : PySem.W.codeIn K cd6 "_law_bent" = true) (k6 : PySem.W.keepIn K (.ref f6) = true)
    {f7 : Addr} {od7 an7 : Option Addr} {sl7 : Array (Option Value)} {oc7 kV7 dc7 pm7 cd7 ct7 : Value}
    (a7 : PySem.W.nsIn K mainGlobals "_law_whole" = some (some (.ref f7)))
    (l7 : K.lookup f7 = some ⟨oc7, od7, .func (PySem.W.fnOf "_law_whole" "_law_whole" (defArgs st__law_whole) (defBody st__law_whole) (defScope st__law_whole) .none kV7 dc7 pm7 an7 cd7 ct7), sl7⟩)
    (c7 : PySem.W.codeIn K cd7 "_law_whole" = true) (k7 : PySem.W.keepIn K (.ref f7) = true)
    {f8 : Addr} {od8 an8 : Option Addr} {sl8 : Array (Option Value)} {oc8 kV8 dc8 pm8 cd8 ct8 : Value}
    (a8 : PySem.W.nsIn K mainGlobals "_law_is_pair" = some (some (.ref f8)))
    (l8 : K.lookup f8 = some ⟨oc8, od8, .func (PySem.W.fnOf "_law_is_pair" "_law_is_pair" (defArgs st__law_is_pair) (defBody st__law_is_pair) (defScope st__law_is_pair) .none kV8 dc8 pm8 an8 cd8 ct8), sl8⟩)
    (c8 : PySem.W.codeIn K cd8 "_law_is_pair" = true) (k8 : PySem.W.keepIn K (.ref f8) = true)
    {f9 : Addr} {od9 an9 : Option Addr} {sl9 : Array (Option Value)} {oc9 kV9 dc9 pm9 cd9 ct9 : Value}
    (a9 : PySem.W.nsIn K mainGlobals "_law_is_lot" = some (some (.ref f9)))
    (l9 : K.lookup f9 = some ⟨oc9, od9, .func (PySem.W.fnOf "_law_is_lot" "_law_is_lot" (defArgs st__law_is_lot) (defBody st__law_is_lot) (defScope st__law_is_lot) .none kV9 dc9 pm9 an9 cd9 ct9), sl9⟩)
    (c9 : PySem.W.codeIn K cd9 "_law_is_lot" = true) (k9 : PySem.W.keepIn K (.ref f9) = true)
    {f10 : Addr} {od10 an10 : Option Addr} {sl10 : Array (Option Value)} {oc10 kV10 dc10 pm10 cd10 ct10 : Value}
    (a10 : PySem.W.nsIn K mainGlobals "_law_is_tower" = some (some (.ref f10)))
    (l10 : K.lookup f10 = some ⟨oc10, od10, .func (PySem.W.fnOf "_law_is_tower" "_law_is_tower" (defArgs st__law_is_tower) (defBody st__law_is_tower) (defScope st__law_is_tower) .none kV10 dc10 pm10 an10 cd10 ct10), sl10⟩)
    (c10 : PySem.W.codeIn K cd10 "_law_is_tower" = true) (k10 : PySem.W.keepIn K (.ref f10) = true)
    {f11 : Addr} {od11 an11 : Option Addr} {sl11 : Array (Option Value)} {oc11 kV11 dc11 pm11 cd11 ct11 : Value}
    (a11 : PySem.W.nsIn K mainGlobals "is_whole" = some (some (.ref f11)))
    (l11 : K.lookup f11 = some ⟨oc11, od11, .func (PySem.W.fnOf "is_whole" "is_whole" (defArgs st_is_whole) (defBody st_is_whole) (defScope st_is_whole) .none kV11 dc11 pm11 an11 cd11 ct11), sl11⟩)
    (c11 : PySem.W.codeIn K cd11 "is_whole" = true) (k11 : PySem.W.keepIn K (.ref f11) = true)
    {f12 : Addr} {od12 an12 : Option Addr} {sl12 : Array (Option Value)} {oc12 kV12 dc12 pm12 cd12 ct12 : Value}
    (a12 : PySem.W.nsIn K mainGlobals "is_below" = some (some (.ref f12)))
    (l12 : K.lookup f12 = some ⟨oc12, od12, .func (PySem.W.fnOf "is_below" "is_below" (defArgs st_is_below) (defBody st_is_below) (defScope st_is_below) .none kV12 dc12 pm12 an12 cd12 ct12), sl12⟩)
    (c12 : PySem.W.codeIn K cd12 "is_below" = true) (k12 : PySem.W.keepIn K (.ref f12) = true)
    {f13 : Addr} {od13 an13 : Option Addr} {sl13 : Array (Option Value)} {oc13 kV13 dc13 pm13 cd13 ct13 : Value}
    (a13 : PySem.W.nsIn K mainGlobals "is_pair" = some (some (.ref f13)))
    (l13 : K.lookup f13 = some ⟨oc13, od13, .func (PySem.W.fnOf "is_pair" "is_pair" (defArgs st_is_pair) (defBody st_is_pair) (defScope st_is_pair) .none kV13 dc13 pm13 an13 cd13 ct13), sl13⟩)
    (c13 : PySem.W.codeIn K cd13 "is_pair" = true) (k13 : PySem.W.keepIn K (.ref f13) = true)
    {f14 : Addr} {od14 an14 : Option Addr} {sl14 : Array (Option Value)} {oc14 kV14 dc14 pm14 cd14 ct14 : Value}
    (a14 : PySem.W.nsIn K mainGlobals "are_rising" = some (some (.ref f14)))
    (l14 : K.lookup f14 = some ⟨oc14, od14, .func (PySem.W.fnOf "are_rising" "are_rising" (defArgs st_are_rising) (defBody st_are_rising) (defScope st_are_rising) .none kV14 dc14 pm14 an14 cd14 ct14), sl14⟩)
    (c14 : PySem.W.codeIn K cd14 "are_rising" = true) (k14 : PySem.W.keepIn K (.ref f14) = true)
    {f15 : Addr} {od15 an15 : Option Addr} {sl15 : Array (Option Value)} {oc15 kV15 dc15 pm15 cd15 ct15 : Value}
    (a15 : PySem.W.nsIn K mainGlobals "are_one_way" = some (some (.ref f15)))
    (l15 : K.lookup f15 = some ⟨oc15, od15, .func (PySem.W.fnOf "are_one_way" "are_one_way" (defArgs st_are_one_way) (defBody st_are_one_way) (defScope st_are_one_way) .none kV15 dc15 pm15 an15 cd15 ct15), sl15⟩)
    (c15 : PySem.W.codeIn K cd15 "are_one_way" = true) (k15 : PySem.W.keepIn K (.ref f15) = true)
    {f16 : Addr} {od16 an16 : Option Addr} {sl16 : Array (Option Value)} {oc16 kV16 dc16 pm16 cd16 ct16 : Value}
    (a16 : PySem.W.nsIn K mainGlobals "is_lot" = some (some (.ref f16)))
    (l16 : K.lookup f16 = some ⟨oc16, od16, .func (PySem.W.fnOf "is_lot" "is_lot" (defArgs st_is_lot) (defBody st_is_lot) (defScope st_is_lot) .none kV16 dc16 pm16 an16 cd16 ct16), sl16⟩)
    (c16 : PySem.W.codeIn K cd16 "is_lot" = true) (k16 : PySem.W.keepIn K (.ref f16) = true)
    {f17 : Addr} {od17 an17 : Option Addr} {sl17 : Array (Option Value)} {oc17 kV17 dc17 pm17 cd17 ct17 : Value}
    (a17 : PySem.W.nsIn K mainGlobals "is_tower" = some (some (.ref f17)))
    (l17 : K.lookup f17 = some ⟨oc17, od17, .func (PySem.W.fnOf "is_tower" "is_tower" (defArgs st_is_tower) (defBody st_is_tower) (defScope st_is_tower) .none kV17 dc17 pm17 an17 cd17 ct17), sl17⟩)
    (c17 : PySem.W.codeIn K cd17 "is_tower" = true) (k17 : PySem.W.keepIn K (.ref f17) = true)
    {f18 : Addr} {od18 an18 : Option Addr} {sl18 : Array (Option Value)} {oc18 kV18 dc18 pm18 cd18 ct18 : Value}
    (a18 : PySem.W.nsIn K mainGlobals "many_in" = some (some (.ref f18)))
    (l18 : K.lookup f18 = some ⟨oc18, od18, .func (PySem.W.fnOf "many_in" "many_in" (defArgs st_many_in) (defBody st_many_in) (defScope st_many_in) .none kV18 dc18 pm18 an18 cd18 ct18), sl18⟩)
    (c18 : PySem.W.codeIn K cd18 "many_in" = true) (k18 : PySem.W.keepIn K (.ref f18) = true)
    {f19 : Addr} {od19 an19 : Option Addr} {sl19 : Array (Option Value)} {oc19 kV19 dc19 pm19 cd19 ct19 : Value}
    (a19 : PySem.W.nsIn K mainGlobals "_law_product" = some (some (.ref f19)))
    (l19 : K.lookup f19 = some ⟨oc19, od19, .func (PySem.W.fnOf "_law_product" "_law_product" (defArgs st__law_product) (defBody st__law_product) (defScope st__law_product) .none kV19 dc19 pm19 an19 cd19 ct19), sl19⟩)
    (c19 : PySem.W.codeIn K cd19 "_law_product" = true) (k19 : PySem.W.keepIn K (.ref f19) = true)
    {f20 : Addr} {od20 an20 : Option Addr} {sl20 : Array (Option Value)} {oc20 kV20 dc20 pm20 cd20 ct20 : Value}
    (a20 : PySem.W.nsIn K mainGlobals "is_mark" = some (some (.ref f20)))
    (l20 : K.lookup f20 = some ⟨oc20, od20, .func (PySem.W.fnOf "is_mark" "is_mark" (defArgs st_is_mark) (defBody st_is_mark) (defScope st_is_mark) .none kV20 dc20 pm20 an20 cd20 ct20), sl20⟩)
    (c20 : PySem.W.codeIn K cd20 "is_mark" = true) (k20 : PySem.W.keepIn K (.ref f20) = true)
    {f21 : Addr} {od21 an21 : Option Addr} {sl21 : Array (Option Value)} {oc21 kV21 dc21 pm21 cd21 ct21 : Value}
    (a21 : PySem.W.nsIn K mainGlobals "_law_is_mark" = some (some (.ref f21)))
    (l21 : K.lookup f21 = some ⟨oc21, od21, .func (PySem.W.fnOf "_law_is_mark" "_law_is_mark" (defArgs st__law_is_mark) (defBody st__law_is_mark) (defScope st__law_is_mark) .none kV21 dc21 pm21 an21 cd21 ct21), sl21⟩)
    (c21 : PySem.W.codeIn K cd21 "_law_is_mark" = true) (k21 : PySem.W.keepIn K (.ref f21) = true)
    {f22 : Addr} {od22 an22 : Option Addr} {sl22 : Array (Option Value)} {oc22 kV22 dc22 pm22 cd22 ct22 : Value}
    (a22 : PySem.W.nsIn K mainGlobals "_law_tower_right" = some (some (.ref f22)))
    (l22 : K.lookup f22 = some ⟨oc22, od22, .func (PySem.W.fnOf "_law_tower_right" "_law_tower_right" (defArgs st__law_tower_right) (defBody st__law_tower_right) (defScope st__law_tower_right) .none kV22 dc22 pm22 an22 cd22 ct22), sl22⟩)
    (c22 : PySem.W.codeIn K cd22 "_law_tower_right" = true) (k22 : PySem.W.keepIn K (.ref f22) = true)
    {f23 : Addr} {od23 an23 : Option Addr} {sl23 : Array (Option Value)} {oc23 kV23 dc23 pm23 cd23 ct23 : Value}
    (a23 : PySem.W.nsIn K mainGlobals "law" = some (some (.ref f23)))
    (l23 : K.lookup f23 = some ⟨oc23, od23, .func (PySem.W.fnOf "law" "law" (defArgs st_law) (defBody st_law) (defScope st_law) .none kV23 dc23 pm23 an23 cd23 ct23), sl23⟩)
    (c23 : PySem.W.codeIn K cd23 "law" = true) (k23 : PySem.W.keepIn K (.ref f23) = true)
    (z_abs : PySem.W.nsIn K mainGlobals "abs" = some none)
    (z_int : PySem.W.nsIn K mainGlobals "int" = some none)
    (z_len : PySem.W.nsIn K mainGlobals "len" = some none)
    (z_range : PySem.W.nsIn K mainGlobals "range" = some none)
    (z_sorted : PySem.W.nsIn K mainGlobals "sorted" = some none)
    (z_tuple : PySem.W.nsIn K mainGlobals "tuple" = some none)
    (z_min : PySem.W.nsIn K mainGlobals "min" = some none)
    (z_bool : PySem.W.nsIn K mainGlobals "bool" = some none)
    (z_isinstance : PySem.W.nsIn K mainGlobals "isinstance" = some none)
    (z_list : PySem.W.nsIn K mainGlobals "list" = some none)
    (z_str : PySem.W.nsIn K mainGlobals "str" = some none)
    (z_all : PySem.W.nsIn K mainGlobals "all" = some none)
    (z_any : PySem.W.nsIn K mainGlobals "any" = some none)
    (z_zip : PySem.W.nsIn K mainGlobals "zip" = some none)
    (z_repr : PySem.W.nsIn K mainGlobals "repr" = some none)
    (z_max : PySem.W.nsIn K mainGlobals "max" = some none)
    {vc_MOST_MARKS : Value} (zc_MOST_MARKS : PySem.W.nsIn K mainGlobals "MOST_MARKS" = some (some vc_MOST_MARKS)) (rc_MOST_MARKS : RelV (.int 24) vc_MOST_MARKS)
    {vc_MOST_LOTS : Value} (zc_MOST_LOTS : PySem.W.nsIn K mainGlobals "MOST_LOTS" = some (some vc_MOST_LOTS)) (rc_MOST_LOTS : RelV (.int 40) vc_MOST_LOTS)
    : ∃ fd : FuncData, (∀ (s : Shared) (u : Value), BindsTo s fd ⟨[u], []⟩ [("_law_script", u)]) ∧ ∀ base : Heap, K.In base → base.Ns mainGlobals mg → (∃ o, base.get? sysModules = some o) → FnG Pr w K mg base 14 fa fd ["_law_script"] (spF K 1 F_law) := by
  have m_abs := PySem.W.mg_none_of X G z_abs
  have m_int := PySem.W.mg_none_of X G z_int
  have m_len := PySem.W.mg_none_of X G z_len
  have m_range := PySem.W.mg_none_of X G z_range
  have m_sorted := PySem.W.mg_none_of X G z_sorted
  have m_tuple := PySem.W.mg_none_of X G z_tuple
  have m_min := PySem.W.mg_none_of X G z_min
  have m_bool := PySem.W.mg_none_of X G z_bool
  have m_isinstance := PySem.W.mg_none_of X G z_isinstance
  have m_list := PySem.W.mg_none_of X G z_list
  have m_str := PySem.W.mg_none_of X G z_str
  have m_all := PySem.W.mg_none_of X G z_all
  have m_any := PySem.W.mg_none_of X G z_any
  have m_zip := PySem.W.mg_none_of X G z_zip
  have m_repr := PySem.W.mg_none_of X G z_repr
  have m_max := PySem.W.mg_none_of X G z_max
  have c_MOST_MARKS : Con mg "MOST_MARKS" (.int 24) := ⟨_, PySem.W.mg_of X G zc_MOST_MARKS, rc_MOST_MARKS⟩
  have c_MOST_LOTS : Con mg "MOST_LOTS" (.int 40) := ⟨_, PySem.W.mg_of X G zc_MOST_LOTS, rc_MOST_LOTS⟩
  have g0 := PySem.W.mg_of X G a0
  have F0 := fun_mk (st := st__law_pot) l0 c0 k0
  have b0 := F0.binds (ps := ["_law_script", "_law_k"]) fun _ _ _ _ _ _ us hl => match us, hl with | [_, _], _ => rfl
  have g1 := PySem.W.mg_of X G a1
  have F1 := fun_mk (st := st__law_take) l1 c1 k1
  have b1 := F1.binds (ps := ["_law_pot_here", "_law_upto"]) fun _ _ _ _ _ _ us hl => match us, hl with | [_, _], _ => rfl
  have g2 := PySem.W.mg_of X G a2
  have F2 := fun_mk (st := st__law_squares) l2 c2 k2
  have b2 := F2.binds (ps := []) fun _ _ _ _ _ _ us hl => match us, hl with | [], _ => rfl
  have g3 := PySem.W.mg_of X G a3
  have F3 := fun_mk (st := st__law_lot) l3 c3 k3
  have b3 := F3.binds (ps := ["_law_pot_here", "_law_most"]) fun _ _ _ _ _ _ us hl => match us, hl with | [_, _], _ => rfl
  have g4 := PySem.W.mg_of X G a4
  have F4 := fun_mk (st := st__law_of) l4 c4 k4
  have b4 := F4.binds (ps := ["_law_pot_here", "_law_some"]) fun _ _ _ _ _ _ us hl => match us, hl with | [_, _], _ => rfl
  have g5 := PySem.W.mg_of X G a5
  have F5 := fun_mk (st := st__law_otherwise) l5 c5 k5
  have b5 := F5.binds (ps := ["_law_pot_here", "_law_thing"]) fun _ _ _ _ _ _ us hl => match us, hl with | [_, _], _ => rfl
  have g6 := PySem.W.mg_of X G a6
  have F6 := fun_mk (st := st__law_bent) l6 c6 k6
  have b6 := F6.binds (ps := ["_law_pot_here", "_law_thing"]) fun _ _ _ _ _ _ us hl => match us, hl with | [_, _], _ => rfl
  have g7 := PySem.W.mg_of X G a7
  have F7 := fun_mk (st := st__law_whole) l7 c7 k7
  have b7 := F7.binds (ps := ["_law_thing", "_law_least", "_law_most"]) fun _ _ _ _ _ _ us hl => match us, hl with | [_, _, _], _ => rfl
  have g8 := PySem.W.mg_of X G a8
  have F8 := fun_mk (st := st__law_is_pair) l8 c8 k8
  have b8 := F8.binds (ps := ["_law_thing", "_law_many"]) fun _ _ _ _ _ _ us hl => match us, hl with | [_, _], _ => rfl
  have g9 := PySem.W.mg_of X G a9
  have F9 := fun_mk (st := st__law_is_lot) l9 c9 k9
  have b9 := F9.binds (ps := ["_law_thing"]) fun _ _ _ _ _ _ us hl => match us, hl with | [_], _ => rfl
  have g10 := PySem.W.mg_of X G a10
  have F10 := fun_mk (st := st__law_is_tower) l10 c10 k10
  have b10 := F10.binds (ps := ["_law_thing"]) fun _ _ _ _ _ _ us hl => match us, hl with | [_], _ => rfl
  have g11 := PySem.W.mg_of X G a11
  have F11 := fun_mk (st := st_is_whole) l11 c11 k11
  have b11 := F11.binds (ps := ["thing"]) fun _ _ _ _ _ _ us hl => match us, hl with | [_], _ => rfl
  have g12 := PySem.W.mg_of X G a12
  have F12 := fun_mk (st := st_is_below) l12 c12 k12
  have b12 := F12.binds (ps := ["many", "thing"]) fun _ _ _ _ _ _ us hl => match us, hl with | [_, _], _ => rfl
  have g13 := PySem.W.mg_of X G a13
  have F13 := fun_mk (st := st_is_pair) l13 c13 k13
  have b13 := F13.binds (ps := ["many", "thing"]) fun _ _ _ _ _ _ us hl => match us, hl with | [_, _], _ => rfl
  have g14 := PySem.W.mg_of X G a14
  have F14 := fun_mk (st := st_are_rising) l14 c14 k14
  have b14 := F14.binds (ps := ["pairs"]) fun _ _ _ _ _ _ us hl => match us, hl with | [_], _ => rfl
  have g15 := PySem.W.mg_of X G a15
  have F15 := fun_mk (st := st_are_one_way) l15 c15 k15
  have b15 := F15.binds (ps := ["pairs"]) fun _ _ _ _ _ _ us hl => match us, hl with | [_], _ => rfl
  have g16 := PySem.W.mg_of X G a16
  have F16 := fun_mk (st := st_is_lot) l16 c16 k16
  have b16 := F16.binds (ps := ["thing"]) fun _ _ _ _ _ _ us hl => match us, hl with | [_], _ => rfl
  have g17 := PySem.W.mg_of X G a17
  have F17 := fun_mk (st := st_is_tower) l17 c17 k17
  have b17 := F17.binds (ps := ["thing"]) fun _ _ _ _ _ _ us hl => match us, hl with | [_], _ => rfl
  have g18 := PySem.W.mg_of X G a18
  have F18 := fun_mk (st := st_many_in) l18 c18 k18
  have b18 := F18.binds (ps := ["tower"]) fun _ _ _ _ _ _ us hl => match us, hl with | [_], _ => rfl
  have g19 := PySem.W.mg_of X G a19
  have F19 := fun_mk (st := st__law_product) l19 c19 k19
  have b19 := F19.binds (ps := ["_law_tower_here"]) fun _ _ _ _ _ _ us hl => match us, hl with | [_], _ => rfl
  have g20 := PySem.W.mg_of X G a20
  have F20 := fun_mk (st := st_is_mark) l20 c20 k20
  have b20 := F20.binds (ps := ["tower", "thing"]) fun _ _ _ _ _ _ us hl => match us, hl with | [_, _], _ => rfl
  have g21 := PySem.W.mg_of X G a21
  have F21 := fun_mk (st := st__law_is_mark) l21 c21 k21
  have b21 := F21.binds (ps := ["_law_tower_here", "_law_thing"]) fun _ _ _ _ _ _ us hl => match us, hl with | [_, _], _ => rfl
  have g22 := PySem.W.mg_of X G a22
  have F22 := fun_mk (st := st__law_tower_right) l22 c22 k22
  have b22 := F22.binds (ps := ["_law_pot_here", "_law_thing"]) fun _ _ _ _ _ _ us hl => match us, hl with | [_, _], _ => rfl
  have g23 := PySem.W.mg_of X G a23
  have F23 := fun_mk (st := st_law) l23 c23 k23
  have b23 := F23.binds (ps := ["_law_script"]) fun _ _ _ _ _ _ us hl => match us, hl with | [_], _ => rfl
  cases hfa.symm.trans g23
  refine ⟨PySem.W.fnOf "law" "law" (defArgs st_law) (defBody st_law) (defScope st_law) .none kV23 dc23 pm23 an23 cd23 ct23, fun s v => .of_eq rfl, fun base _ _ hsm => ?_⟩
  have D__law_pot : Def Pr w K mg base 1 "_law_pot" ["_law_script", "_law_k"] F__law_pot := ok__law_pot F0 g0 b0 hsm m_abs m_int m_len
  have D__law_take : Def Pr w K mg base 1 "_law_take" ["_law_pot_here", "_law_upto"] F__law_take := ok__law_take F1 g1 b1 hsm
  have D__law_squares : Def Pr w K mg base 1 "_law_squares" [] F__law_squares := ok__law_squares F2 g2 b2 hsm m_range m_sorted m_tuple
  have D__law_lot : Def Pr w K mg base 2 "_law_lot" ["_law_pot_here", "_law_most"] F__law_lot := ok__law_lot F3 g3 b3 hsm D__law_take D__law_squares m_min m_range m_sorted m_tuple
  have D__law_of : Def Pr w K mg base 2 "_law_of" ["_law_pot_here", "_law_some"] F__law_of := ok__law_of F4 g4 b4 hsm D__law_take m_len
  have D__law_otherwise : Def Pr w K mg base 3 "_law_otherwise" ["_law_pot_here", "_law_thing"] F__law_otherwise := ok__law_otherwise F5 g5 b5 hsm D__law_of m_bool m_int m_isinstance m_list m_str m_tuple
  have D__law_bent : Def Pr w K mg base 12 "_law_bent" ["_law_pot_here", "_law_thing"] F__law_bent := ok__law_bent F6 g6 b6 hsm D__law_take D__law_otherwise m_int m_isinstance m_len m_range m_tuple
  have D__law_whole : Def Pr w K mg base 1 "_law_whole" ["_law_thing", "_law_least", "_law_most"] F__law_whole := ok__law_whole F7 g7 b7 hsm m_bool m_int m_isinstance
  have D__law_is_pair : Def Pr w K mg base 2 "_law_is_pair" ["_law_thing", "_law_many"] F__law_is_pair := ok__law_is_pair F8 g8 b8 hsm D__law_whole m_all m_isinstance m_len m_tuple
  have D__law_is_lot : Def Pr w K mg base 3 "_law_is_lot" ["_law_thing"] F__law_is_lot := ok__law_is_lot F9 g9 b9 hsm D__law_whole D__law_is_pair m_all m_any m_isinstance m_len m_list m_sorted m_tuple m_zip
  have D__law_is_tower : Def Pr w K mg base 4 "_law_is_tower" ["_law_thing"] F__law_is_tower := ok__law_is_tower F10 g10 b10 hsm D__law_is_lot m_all m_isinstance m_len m_tuple
  have D_is_whole : Def Pr w K mg base 1 "is_whole" ["thing"] F_is_whole := ok_is_whole F11 g11 b11 hsm m_bool m_int m_isinstance
  have D_is_below : Def Pr w K mg base 2 "is_below" ["many", "thing"] F_is_below := ok_is_below F12 g12 b12 hsm D_is_whole
  have D_is_pair : Def Pr w K mg base 3 "is_pair" ["many", "thing"] F_is_pair := ok_is_pair F13 g13 b13 hsm D_is_below m_isinstance m_len m_tuple
  have D_are_rising : Def Pr w K mg base 1 "are_rising" ["pairs"] F_are_rising := ok_are_rising F14 g14 b14 hsm m_all m_zip
  have D_are_one_way : Def Pr w K mg base 1 "are_one_way" ["pairs"] F_are_one_way := ok_are_one_way F15 g15 b15 hsm m_all
  have D_is_lot : Def Pr w K mg base 4 "is_lot" ["thing"] F_is_lot := ok_is_lot F16 g16 b16 hsm D_is_below D_is_pair D_are_rising D_are_one_way m_all m_isinstance m_len m_tuple c_MOST_MARKS
  have D_is_tower : Def Pr w K mg base 5 "is_tower" ["thing"] F_is_tower := ok_is_tower F17 g17 b17 hsm D_is_lot m_all m_isinstance m_len m_tuple c_MOST_LOTS
  have D_many_in : Def Pr w K mg base 1 "many_in" ["tower"] F_many_in := ok_many_in F18 g18 b18 hsm
  have D__law_product : Def Pr w K mg base 1 "_law_product" ["_law_tower_here"] F__law_product := ok__law_product F19 g19 b19 hsm
  have D_is_mark : Def Pr w K mg base 3 "is_mark" ["tower", "thing"] F_is_mark := ok_is_mark F20 g20 b20 hsm D_is_below m_all m_isinstance m_len m_tuple m_zip
  have D__law_is_mark : Def Pr w K mg base 2 "_law_is_mark" ["_law_tower_here", "_law_thing"] F__law_is_mark := ok__law_is_mark F21 g21 b21 hsm D__law_whole m_all m_isinstance m_len m_tuple m_zip
  have D__law_tower_right : Def Pr w K mg base 13 "_law_tower_right" ["_law_pot_here", "_law_thing"] F__law_tower_right := ok__law_tower_right F22 g22 b22 hsm D__law_is_tower D_is_tower D_many_in D__law_product D__law_take D__law_bent D__law_otherwise D_is_mark D__law_is_mark m_all m_list m_repr m_tuple
  exact ok_law F23 hsm D__law_pot D__law_take D__law_lot D__law_of D__law_bent D__law_otherwise D__law_tower_right m_all m_len m_max m_min m_range m_tuple
end
end K35

namespace K35
open PySem PySem.Spec PyProof.Rows L2 DL

abbrev pot (a b c : Int) : C := .l [.int a, .int b, .int c]
abbrev primesD : List PyData := [.int 2147483647, .int 2147483629, .int 2147483587, .int 2147483579, .int 2147483563]
theorem prime_at (t : Int) (h : 0 ≤ t) : ∃ p : Int, 0 < p ∧ p < 2 ^ 31 ∧ opIx (.d (.list primesD)) (.d (.int (t % 5))) = some (.d (.int p)) := by
  have h1 : t % 5 = 0 ∨ t % 5 = 1 ∨ t % 5 = 2 ∨ t % 5 = 3 ∨ t % 5 = 4 := by omega
  rcases h1 with e | e | e | e | e <;> rw [e]
  · exact ⟨2147483647, by decide, by decide, rfl⟩
  · exact ⟨2147483629, by decide, by decide, rfl⟩
  · exact ⟨2147483587, by decide, by decide, rfl⟩
  · exact ⟨2147483579, by decide, by decide, rfl⟩
  · exact ⟨2147483563, by decide, by decide, rfl⟩
theorem take_spec {n a b c : Int} (hn : 0 < n) (hn2 : n < 2 ^ 60) (ha : 0 ≤ a) (hb : 0 ≤ b) (hb2 : b < 2 ^ 62) (hc : 0 ≤ c) (hc2 : c < 2 ^ 40) :
    ∃ r a' c', F__law_take [.o (pot a b c), .d (.int n)] = some (.d (.int r), [some (pot a' b c'), none]) ∧ 0 ≤ r ∧ r < n ∧ 0 ≤ a' ∧ 0 ≤ c' ∧ c' ≤ c + 1 := by
  by_cases h : a > 0
  · refine ⟨a % n, a / n, c, runF_rt (δ := [some (.o (pot (a / n) b c)), some (.d (.int n)), none, none, some (.d (.int (a % n)))]) ?_ rfl, Int.emod_nonneg _ (by omega), Int.emod_lt_of_pos _ hn, Int.ediv_nonneg ha (by omega), hc, by omega⟩
    refine seqS_rt (ifS_t (δ1 := [some (.o (pot a b c)), some (.d (.int n)), none, none, none]) ?_ ?_)
    · refine bl_of ?_
      have : pGt a 0 = true := decide_eq_true h
      rw [← this]
      exact bin_cmp rfl rfl
    · refine seqS_of (setS_of (bin_I rfl rfl (iMod_ok hn))) ?_
      refine seqS_of (setI_of (frzP_of (bin_I rfl rfl (iDiv_ok hn (lt_pow_of (n := 60) (by omega) hn2) (by decide) (by decide)))) rfl rfl rfl rfl) ?_
      rfl
  · have ht : 0 ≤ c + 1 := by omega
    obtain ⟨p, p0, p1, pe⟩ := prime_at (c + 1) ht
    generalize et : c + 1 = t at pe ht
    have t1 : t < 2 ^ 41 := by omega
    have x0 : (65537 * t * t : Int) < 2 ^ 100 := by
      have := Int.mul_le_mul_of_nonneg_left (a := t) (b := 2 ^ 41) (c := 65537 * t) (by omega) (by omega)
      omega
    have x00 : (0 : Int) ≤ 65537 * t * t := Int.mul_nonneg (by omega) ht
    generalize ex : b + 65537 * t * t + 29 = x
    have xb : x < 2 ^ 101 := by omega
    have xn : 0 ≤ x := by omega
    generalize em : x ^ (3 : Int).toNat % p = m
    have m0 : 0 ≤ m := by rw [← em]; exact Int.emod_nonneg _ (by omega)
    have m1 : m < 2 ^ 31 := by
      have := Int.emod_lt_of_pos (x ^ (3 : Int).toNat) p0
      omega
    have q0 : 0 ≤ m % 10007 + 97 * t := by
      have := Int.emod_nonneg m (b := 10007) (by decide)
      omega
    have q1 : m % 10007 + 97 * t < 2 ^ 60 := by
      have := Int.emod_lt_of_pos m (b := 10007) (by decide)
      omega
    refine ⟨m * (m % 10007 + 97 * t) % 2305843009213693907 / 97 % n, a, t, runF_rt (δ := [some (.o (pot a b t)), some (.d (.int n)), some (.d (.int p)), some (.d (.int m)), none]) ?_ rfl, Int.emod_nonneg _ (by omega), Int.emod_lt_of_pos _ hn, ha, ht, by omega⟩
    refine seqS_of (δ1 := [some (.o (pot a b c)), some (.d (.int n)), none, none, none]) (ifS_f (δ1 := [some (.o (pot a b c)), some (.d (.int n)), none, none, none]) ?_ rfl) ?_
    · refine bl_of ?_
      have : pGt a 0 = false := decide_eq_false h
      rw [← this]
      exact bin_cmp rfl rfl
    · have s1 : setI 0 (frzP (bin opAdd (frzP (bin opIx (pk 0) (frzP (cst (.int 2))))) (frzP (cst (.int 1))))) (frzP (cst (.int 2))) [some (.o (pot a b c)), some (.d (.int n)), none, none, none] = some (.nx [some (.o (pot a b t)), some (.d (.int n)), none, none, none]) := by
        rw [← et]
        exact setI_of (i := 0) (k := 2) (j := 2) (xs := [.int a, .int b, .int c]) (d := .int (c + 1)) (δ1 := [some (.o (pot a b c)), some (.d (.int n)), none, none, none]) (δ2 := [some (.o (pot a b c)), some (.d (.int n)), none, none, none]) (frzP_d (bin_add rfl rfl)) rfl rfl rfl rfl
      refine seqS_of s1 ?_
      have s3 : bin opIx (frzP (lstE (consA (frzP (cst (.int 2147483647))) (consA (frzP (cst (.int 2147483629))) (consA (frzP (cst (.int 2147483587))) (consA (frzP (cst (.int 2147483579))) (consA (frzP (cst (.int 2147483563))) nilA))))))) (frzP (bin (opI2 iMod) (frzP (bin opIx (pk 0) (frzP (cst (.int 2))))) (frzP (cst (.int 5))))) [some (.o (pot a b t)), some (.d (.int n)), none, none, none] = some (.d (.int p), [some (.o (pot a b t)), some (.d (.int n)), none, none, none]) :=
        bin_of (frzP_l (lstE_of (ds := primesD) rfl rfl (show 5 ≤ sizeLine by decide))) (frzP_d (bin_I rfl rfl (iMod_ok (by decide)))) rfl rfl pe
      refine seqS_of (setS_of s3) ?_
      show seqS _ _ [some (.o (pot a b t)), some (.d (.int n)), some (.d (.int p)), none, none] = _
      have hx : frzP (bin opAdd (frzP (bin opAdd (frzP (bin opIx (pk 0) (frzP (cst (.int 1))))) (frzP (bin opMul (frzP (bin opMul (frzP (cst (.int 65537))) (frzP (bin opIx (pk 0) (frzP (cst (.int 2))))))) (frzP (bin opIx (pk 0) (frzP (cst (.int 2))))))))) (frzP (cst (.int 29)))) [some (.o (pot a b t)), some (.d (.int n)), some (.d (.int p)), none, none] = some (.v (.d (.int x)), [some (.o (pot a b t)), some (.d (.int n)), some (.d (.int p)), none, none]) := by
        rw [← ex]
        exact frzP_d (bin_add (frzP_d (bin_add rfl (frzP_d (bin_mul (frzP_d (bin_mul rfl rfl (iMul_ok (a := 17) (b := 41) (by decide) (lt_pow_of ht t1) (by decide) (by decide) (by decide)))) rfl (iMul_ok (a := 58) (b := 41) (lt_pow_of (by omega) (by omega)) (lt_pow_of ht t1) (by decide) (by decide) (by decide)))))) rfl)
      have s4 : bin (opI2 iMod) (frzP (bin (opI2 iPow) (frzP (bin opAdd (frzP (bin opAdd (frzP (bin opIx (pk 0) (frzP (cst (.int 1))))) (frzP (bin opMul (frzP (bin opMul (frzP (cst (.int 65537))) (frzP (bin opIx (pk 0) (frzP (cst (.int 2))))))) (frzP (bin opIx (pk 0) (frzP (cst (.int 2))))))))) (frzP (cst (.int 29))))) (frzP (cst (.int 3))))) (pk 2) [some (.o (pot a b t)), some (.d (.int n)), some (.d (.int p)), none, none] = some (.d (.int m), [some (.o (pot a b t)), some (.d (.int n)), some (.d (.int p)), none, none]) := by
        rw [← em]
        exact bin_I (frzP_d (bin_I hx rfl (iPow_ok (i := x) (j := 3) (a := 101) (lt_pow_of xn xb) (by decide) (by decide) (by decide)))) rfl (iMod_ok p0)
      refine seqS_of (setS_of s4) ?_
      exact retS_of (bin_I (frzP_d (bin_I (frzP_d (bin_I (frzP_d (bin_mul rfl (frzP_d (bin_add (frzP_d (bin_I rfl rfl (iMod_ok (by decide)))) (frzP_d (bin_mul rfl rfl (iMul_ok (a := 7) (b := 41) (by decide) (lt_pow_of ht t1) (by decide) (by decide) (by decide)))))) (iMul_ok (a := 31) (b := 60) (lt_pow_of m0 m1) (lt_pow_of q0 q1) (by decide) (by decide) (by decide)))) rfl (iMod_ok (by decide)))) rfl (iDiv_ok (b := 7) (by decide) (by decide) (by decide) (by decide)))) rfl (iMod_ok hn))
structure Pot (m : Nat) (c : C) : Prop where
  ex : ∃ a b t : Int, c = pot a b t ∧ 0 ≤ a ∧ 0 ≤ b ∧ b < 2 ^ 62 ∧ 0 ≤ t ∧ t ≤ m
theorem Pot.mono {m n : Nat} {c : C} (h : Pot m c) (e : m ≤ n) : Pot n c := by
  obtain ⟨a, b, t, h1, h2, h3, h4, h5, h6⟩ := h.ex
  exact ⟨a, b, t, h1, h2, h3, h4, h5, by omega⟩
theorem take_pot {n : Int} {m : Nat} {c : C} (hp : Pot m c) (hm : m < 2 ^ 39) (hn : 0 < n) (hn2 : n < 2 ^ 60) : ∃ r c', F__law_take [.o c, .d (.int n)] = some (.d (.int r), [some c', none]) ∧ 0 ≤ r ∧ r < n ∧ Pot (m + 1) c' := by
  obtain ⟨a, b, t, rfl, h2, h3, h4, h5, h6⟩ := hp.ex
  obtain ⟨r, a', t', e, r0, r1, a0, t0, t1⟩ := take_spec (n := n) (a := a) (b := b) (c := t) hn hn2 h2 h3 h4 h5 (by omega)
  exact ⟨r, _, e, r0, r1, ⟨a', b, t', rfl, a0, h3, h4, t0, by omega⟩⟩
theorem get_cell (ns : List Int) (k : Nat) (h : k < ns.length) : ∃ v : Int, opIx (.z ns) (.d (.int k)) = some (.d (.int v)) := by
  refine ⟨ns[k], ?_⟩
  show (atI ns (k : Int)).map _ = _
  have : atI ns (k : Int) = some ns[k] := atI_nat (List.getElem?_eq_getElem h)
  rw [this]
  rfl
end K35

namespace K35
open PySem PySem.Spec PyProof.Rows L2 DL DLS

theorem pot_spec (ns : List Int) (k : Nat) (hk : k ≤ 2) : ∃ c, F__law_pot [.z ns, .d (.int k)] = some (.o c, [none, none]) ∧ Pot 0 c := by
  have hcell : ∃ v : Int, ifE (bl (bin (cmpI pLt) (pk 1) (frzP (callB fLen (consA (pk 0) nilA))))) (bin opIx (pk 0) (pk 1)) (bin opAdd (frzP (bin opMul (frzP (cst (.int 29))) (pk 1))) (frzP (cst (.int 8)))) [some (.z ns), some (.d (.int k)), none, none] = some (.d (.int v), [some (.z ns), some (.d (.int k)), none, none]) := by
    by_cases h : k < ns.length
    · obtain ⟨v, hv⟩ := get_cell ns k h
      refine ⟨v, ifE_t (δ1 := [some (.z ns), some (.d (.int k)), none, none]) (bl_of ?_) (bin_ix rfl rfl hv)⟩
      have : pLt (k : Int) (ns.length : Int) = true := decide_eq_true (by omega)
      rw [← this]
      exact bin_cmp rfl (frzP_d (callB_of rfl rfl rfl))
    · refine ⟨29 * (k : Int) + 8, ifE_f (δ1 := [some (.z ns), some (.d (.int k)), none, none]) (bl_of ?_) (bin_add (frzP_d (bin_mul rfl rfl (iMul_ok (a := 5) (b := 2) (by decide) (lt_pow_of (by omega) (by omega)) (by decide) (by decide) (by decide)))) rfl)⟩
      have : pLt (k : Int) (ns.length : Int) = false := decide_eq_false (by omega)
      rw [← this]
      exact bin_cmp rfl (frzP_d (callB_of rfl rfl rfl))
  obtain ⟨v, hv⟩ := hcell
  generalize eN : ((10 : Int) ^ (60 : Int).toNat) ^ (5 : Int).toNat = N
  have N0 : 0 < N := by rw [← eN]; decide
  have N1 : N < 2 ^ 1000 := by rw [← eN]; decide +kernel
  have hN : bin (opI2 iPow) (frzP (bin (opI2 iPow) (frzP (cst (.int 10))) (frzP (cst (.int 60))))) (frzP (cst (.int 5))) [some (.z ns), some (.d (.int k)), some (.d (.int v)), none] = some (.d (.int N), [some (.z ns), some (.d (.int k)), some (.d (.int v)), none]) := by
    rw [← eN]
    exact bin_I (frzP_d (bin_I rfl rfl (iPow_ok (i := 10) (j := 60) (a := 4) (by decide) (by decide) (by decide) (by decide)))) rfl (iPow_ok (i := 10 ^ (60 : Int).toNat) (j := 5) (a := 200) (by decide) (by decide) (by decide) (by decide))
  generalize ev : (if v < 0 then -v else v) = av
  have av0 : 0 ≤ av := by rw [← ev]; split <;> omega
  generalize eo : av % N = o
  have o0 : 0 ≤ o := by rw [← eo]; exact Int.emod_nonneg _ (by omega)
  have o1 : o < 2 ^ 1000 := by
    have := Int.emod_lt_of_pos av N0
    omega
  generalize ef : (if decide ((10 : Int) ^ (18 : Int).toNat ≤ av) = true then (1 : Int) else 0) = fl
  have f0 : 0 ≤ fl ∧ fl ≤ 1 := by rw [← ef]; split <;> omega
  generalize ek : (k : Int) = kk at *
  have kk0 : 0 ≤ kk ∧ kk ≤ 2 := by omega
  have k2 : 0 ≤ 7919 * kk * kk ∧ 7919 * kk * kk ≤ 500000 := by
    have : kk = 0 ∨ kk = 1 ∨ kk = 2 := by omega
    rcases this with e | e | e <;> rw [e] <;> decide
  generalize ew : v % 2305843009213693951 = w at *
  have w0 : 0 ≤ w := by rw [← ew]; exact Int.emod_nonneg _ (by decide)
  have w1 : w < 2305843009213693951 := by rw [← ew]; exact Int.emod_lt_of_pos _ (by decide)
  refine ⟨pot (o * fl) ((w * 48271 + 7919 * kk * kk + 13) % 2305843009213693921) 0, runF_rt (δ := [some (.z ns), some (.d (.int kk)), some (.d (.int v)), some (.d (.int (o * fl)))]) ?_ rfl, ⟨_, _, _, rfl, Int.mul_nonneg o0 f0.1, Int.emod_nonneg _ (by decide), ?_, by decide, by decide⟩⟩
  · refine seqS_of (setS_of hv) ?_
    show seqS _ _ [some (.z ns), some (.d (.int kk)), some (.d (.int v)), none] = _
    have ho : setS 3 (bin opMul (frzP (bin (opI2 iMod) (frzP (callB fAbs (consA (pk 2) nilA))) (frzP (bin (opI2 iPow) (frzP (bin (opI2 iPow) (frzP (cst (.int 10))) (frzP (cst (.int 60))))) (frzP (cst (.int 5))))))) (frzP (callB fInt (consA (frzP (bin (cmpI pGe) (frzP (callB fAbs (consA (pk 2) nilA))) (frzP (bin (opI2 iPow) (frzP (cst (.int 10))) (frzP (cst (.int 18))))))) nilA)))) [some (.z ns), some (.d (.int kk)), some (.d (.int v)), none] = some (.nx (List.set [some (.z ns), some (.d (.int kk)), some (.d (.int v)), none] 3 (some (.d (.int (o * fl)))))) := by
      rw [← eo, ← ef, ← ev]
      refine setS_of (bin_mul (frzP_d (bin_I (frzP_d (callB_of rfl rfl rfl)) (frzP_d hN) (iMod_ok N0))) (frzP_d (callB_of (consA_of (frzP_d (bin_cmp (frzP_d (callB_of rfl rfl rfl)) (frzP_d (bin_I rfl rfl (iPow_ok (i := 10) (j := 18) (a := 4) (by decide) (by decide) (by decide) (by decide)))))) rfl) rfl rfl)) ?_)
      rw [ev, eo]
      have : (if pGe av (10 ^ (18 : Int).toNat) = true then (1 : Int) else 0) = fl := ef
      rw [this]
      exact iMul_ok (a := 1000) (b := 1) (lt_pow_of o0 o1) (lt_pow_of f0.1 (by omega)) (by decide) (by decide) (by decide)
    refine seqS_of ho ?_
    show retS _ [some (.z ns), some (.d (.int kk)), some (.d (.int v)), some (.d (.int (o * fl)))] = _
    rw [← ew]
    exact retS_of (lstE_of (consA_of rfl (consA_of (frzP_d (bin_I (frzP_d (bin_add (frzP_d (bin_add (frzP_d (bin_mul (frzP_d (bin_I rfl rfl (iMod_ok (by decide)))) rfl (iMul_ok (a := 61) (b := 16) (lt_pow_of (by rw [ew]; omega) (by rw [ew]; omega)) (by decide) (by decide) (by decide) (by decide)))) (frzP_d (bin_mul (frzP_d (bin_mul rfl rfl (iMul_ok (a := 13) (b := 2) (by decide) (lt_pow_of kk0.1 (by omega)) (by decide) (by decide) (by decide)))) rfl (iMul_ok (a := 20) (b := 2) (lt_pow_of (by omega) (by omega)) (lt_pow_of kk0.1 (by omega)) (by decide) (by decide) (by decide)))))) rfl)) rfl (iMod_ok (by decide)))) rfl)) rfl (show 3 ≤ sizeLine by decide))
  · have := Int.emod_lt_of_pos (w * 48271 + 7919 * kk * kk + 13) (b := 2305843009213693921) (by decide)
    omega
theorem len_pos_ok (xs : List PyData) (hl : xs.length ≤ sizeLine) : (0 : Int) ≤ (xs.length : Int) ∧ (xs.length : Int) < 2 ^ 60 := by
  have : sizeLine < 2 ^ 60 := by decide
  refine ⟨by omega, ?_⟩
  have : (xs.length : Int) < ((2 ^ 60 : Nat) : Int) := by exact_mod_cast Nat.lt_of_le_of_lt hl this
  simpa using this
theorem of_list {c : C} {m : Nat} {xs : List PyData} (hp : Pot m c) (hm : m < 2 ^ 39) (h0 : xs ≠ []) (hl : xs.length ≤ sizeLine) : ∃ x ∈ xs, ∃ c', F__law_of [.o c, .d (.list xs)] = some (.d x, [some c', none]) ∧ Pot (m + 1) c' := by
  have hpos : 0 < xs.length := List.length_pos_iff.mpr h0
  have hb := len_pos_ok xs hl
  obtain ⟨r, c', e, r0, r1, hp'⟩ := take_pot (n := (xs.length : Int)) hp hm (by omega) hb.2
  have hr : r.toNat < xs.length := by omega
  refine ⟨xs[r.toNat], List.getElem_mem _, c', ?_, hp'⟩
  refine runF_rt (δ := [some (.o c'), some (.d (.list xs))]) (retS_of ?_) rfl
  have c1 : callE F__law_take 2 (consA (pk 0) (consA (frzP (callB fLen (consA (pk 1) nilA))) nilA)) [some (.o c), some (.d (.list xs))] = some (.d (.int r), [some (.o c'), some (.d (.list xs))]) := callE_own (i := 0) (δ' := [some (.o c), some (.d (.list xs))]) [.d (.int (xs.length : Int))] rfl rfl rfl e (Nat.le_refl 1)
  refine bin_of (p := .v (.d (.list xs))) (δ1 := [some (.o c), some (.d (.list xs))]) rfl (frzP_d c1) rfl rfl ?_
  show (atI xs r).map (fun x => S.d x) = _
  have ha : atI xs r = some xs[r.toNat] := by
    have := atI_nat (List.getElem?_eq_getElem hr)
    rwa [Int.toNat_of_nonneg r0] at this
  rw [ha]
  rfl
/-- of a list that is lent -/
theorem of_own {c : C} {m : Nat} {xs : List PyData} (hp : Pot m c) (hm : m < 2 ^ 39) (h0 : xs ≠ []) (hl : xs.length ≤ sizeLine) : ∃ x ∈ xs, ∃ c', F__law_of [.o c, .o (.l xs)] = some (.d x, [some c', some (.l xs)]) ∧ Pot (m + 1) c' := by
  have hpos : 0 < xs.length := List.length_pos_iff.mpr h0
  have hb := len_pos_ok xs hl
  obtain ⟨r, c', e, r0, r1, hp'⟩ := take_pot (n := (xs.length : Int)) hp hm (by omega) hb.2
  have hr : r.toNat < xs.length := by omega
  refine ⟨xs[r.toNat], List.getElem_mem _, c', ?_, hp'⟩
  refine runF_rt (δ := [some (.o c'), some (.o (.l xs))]) (retS_of ?_) rfl
  have c1 : callE F__law_take 2 (consA (pk 0) (consA (frzP (callB fLen (consA (pk 1) nilA))) nilA)) [some (.o c), some (.o (.l xs))] = some (.d (.int r), [some (.o c'), some (.o (.l xs))]) := callE_own (i := 0) (δ' := [some (.o c), some (.o (.l xs))]) [.d (.int (xs.length : Int))] rfl rfl rfl e (Nat.le_refl 1)
  refine bin_of (p := .own 1) (δ1 := [some (.o c), some (.o (.l xs))]) rfl (frzP_d c1) rfl rfl ?_
  show (atI xs r).map (fun x => S.d x) = _
  have ha : atI xs r = some xs[r.toNat] := by
    have := atI_nat (List.getElem?_eq_getElem hr)
    rwa [Int.toNat_of_nonneg r0] at this
  rw [ha]
  rfl
theorem rng_at {a : Int} {n k : Nat} {x : PyData} (h : (DL.rng a n)[k]? = some x) : k < n ∧ x = .int (a + (k : Nat)) := by
  unfold DL.rng at h
  obtain ⟨i, hi, rfl⟩ := List.mem_map.mp (List.mem_of_getElem? h)
  rw [List.getElem?_map] at h
  obtain ⟨j, hj, e⟩ := Option.map_eq_some_iff.mp h
  obtain ⟨hk, e2⟩ := List.getElem?_eq_some_iff.mp hj
  rw [List.length_range] at hk
  rw [List.getElem_range] at e2
  exact ⟨hk, by rw [← e, e2]⟩
theorem rng_len (a : Int) (n : Nat) : (DL.rng a n).length = n := by simp [DL.rng]
end K35

namespace K35
open PySem PySem.Spec PyProof.Rows L2 DL DLS

theorem andT_f {f g : TEV} {δ δ1 : Ds} (h : f δ = some (false, δ1)) : andT f g δ = some (false, δ1) := by unfold andT; rw [h]; rfl
theorem orT_t {f g : TEV} {δ δ1 : Ds} (h : f δ = some (true, δ1)) : orT f g δ = some (true, δ1) := by unfold orT; rw [h]; rfl
theorem andV_f {f g : EV} {δ δ1 : Ds} (h : f δ = some (.d (.bool false), δ1)) : andV f g δ = some (.d (.bool false), δ1) := by unfold andV; rw [h]; rfl
theorem line_big : 2000000 < sizeLine := by decide
/-! things of any kind: their numbers, how wide their tuples are -/
inductive Wd (N : Nat) (P : Int → Prop) : PyData → Prop
  | non : Wd N P .none
  | bl (b : Bool) : Wd N P (.bool b)
  | int {i : Int} (h : P i) : Wd N P (.int i)
  | str (x : Str) : Wd N P (.str x)
  | lst (xs : List PyData) : Wd N P (.list xs)
  | dct (kvs : List (PyData × PyData)) : Wd N P (.dict kvs)
  | tup {xs : List PyData} (h : xs.length ≤ N) (k : ∀ x ∈ xs, Wd N P x) : Wd N P (.tuple xs)
theorem Wd.mono {N M : Nat} {P P' : Int → Prop} (hN : N ≤ M) (hP : ∀ i, P i → P' i) {x : PyData} (h : Wd N P x) : Wd M P' x := by
  induction h with
  | non => exact .non
  | bl b => exact .bl b
  | int h => exact .int (hP _ h)
  | str x => exact .str x
  | lst xs => exact .lst xs
  | dct k => exact .dct k
  | tup h _ ih => exact .tup (Nat.le_trans h hN) ih
theorem Wd.items {N : Nat} {P : Int → Prop} {xs : List PyData} (h : Wd N P (.tuple xs)) : xs.length ≤ N ∧ ∀ x ∈ xs, Wd N P x := by
  cases h with
  | tup h k => exact ⟨h, k⟩
abbrev BG : Nat := 10 ^ 31
theorem It.int' {d : Nat} {i : Int} (h : i.natAbs ≤ 100) : It d 5 BG (.int i) := (It.int (B := 100) h (Nat.le_refl _)).mono (Nat.le_refl _) (Nat.le_refl _) (by decide)
theorem It.txt {d w : Nat} (x : Str) (h : (PyData.shown (.str x)).length ≤ w) : It d w BG (.str x) := ⟨.str x, Nat.zero_le _, h⟩
theorem It.dct {d w B : Nat} {x : PyData} (h : It d w B x) : It (d + 1) (w + 10) B (.dict [(.str "a", x)]) := by
  refine ⟨.d1 h.sm, ?_, ?_⟩
  · show max (max 0 x.depth) 0 + 1 ≤ d + 1
    have := h.dp
    omega
  · show (dictText [PyData.shown (.str "a") ++ ": " ++ x.shown]).length ≤ _
    have e := join_length_add [PyData.shown (.str "a") ++ ": " ++ x.shown] (List.cons_ne_nil _ _)
    rw [piled_cons, show piled [] = 0 from rfl] at e
    unfold dictText
    rw [Str.length_append, Str.length_append]
    rw [Str.length_append, Str.length_append] at e
    have h1 : (("{" : String) : Str).length ≤ 1 := by decide +kernel
    have h2 : (("}" : String) : Str).length ≤ 1 := by decide +kernel
    have h3 : ((": " : String) : Str).length ≤ 2 := by decide +kernel
    have h4 : (PyData.shown (.str "a")).length ≤ 3 := by decide +kernel
    have := h.ln
    omega
structure Step (P P' : Int → Prop) : Prop where
  up : ∀ i, P i → P' i
  ad : ∀ i, P i → P' (i + 1) ∧ P' (i - 1) ∧ P' (0 - i)
  ba : P' 0 ∧ P' 1 ∧ P' (-1) ∧ P' 24 ∧ P' 25 ∧ P' (10 ^ 30)
  sh : ∀ i, P' i → (PyData.shown (.int i)).length ≤ 40 ∧ i.natAbs ≤ BG
  st : ∀ i, P i → (PyData.shown (.str (toString i))).length ≤ 45 ∧ i.natAbs.log2 < 1920
def Pz (i : Int) : Prop := 0 ≤ i ∧ i ≤ 50
def P0 (i : Int) : Prop := (-60 ≤ i ∧ i ≤ 60) ∨ i = 10 ^ 30
def P1 (i : Int) : Prop := (-100 ≤ i ∧ i ≤ 100) ∨ i = 10 ^ 30 ∨ i = 10 ^ 30 + 1 ∨ i = 10 ^ 30 - 1 ∨ i = 0 - 10 ^ 30
theorem sh_low {i : Int} (h : -100 ≤ i ∧ i ≤ 100) : (PyData.shown (.int i)).length ≤ 40 ∧ i.natAbs ≤ BG := ⟨Nat.le_trans (It.int' (d := 0) (by omega)).ln (by omega), by
  have : (100 : Nat) ≤ BG := by decide
  omega⟩
theorem st_low {i : Int} (h : -100 ≤ i ∧ i ≤ 100) : (PyData.shown (.str (toString i))).length ≤ 45 ∧ i.natAbs.log2 < 1920 := ⟨Nat.le_trans (It.strI (d := 0) (B := BG) (i := i) (by omega)).ln (by omega), log_lt (a := 10) (by show i.natAbs < 1024; omega) (by decide) (by decide)⟩
theorem step0 : Step Pz P0 := ⟨fun i h => .inl (by unfold Pz at h; omega), fun i h => by
  unfold Pz at h
  exact ⟨.inl (by omega), .inl (by omega), .inl (by omega)⟩, ⟨.inl (by omega), .inl (by omega), .inl (by omega), .inl (by omega), .inl (by omega), .inr rfl⟩, fun i h => by
  rcases h with h | rfl
  · exact sh_low (by omega)
  · exact ⟨by decide +kernel, by decide⟩, fun i h => st_low (by unfold Pz at h; omega)⟩
theorem step1 : Step P0 P1 := ⟨fun i h => by
  rcases h with h | rfl
  · exact .inl (by omega)
  · exact .inr (.inl rfl), fun i h => by
  rcases h with h | rfl
  · exact ⟨.inl (by omega), .inl (by omega), .inl (by omega)⟩
  · exact ⟨.inr (.inr (.inl rfl)), .inr (.inr (.inr (.inl rfl))), .inr (.inr (.inr (.inr rfl)))⟩, ⟨.inl (by omega), .inl (by omega), .inl (by omega), .inl (by omega), .inl (by omega), .inr (.inl rfl)⟩, fun i h => by
  rcases h with h | rfl | rfl | rfl | rfl
  · exact sh_low h
  · exact ⟨by decide +kernel, by decide⟩
  · exact ⟨by decide +kernel, by decide⟩
  · exact ⟨by decide +kernel, by decide⟩
  · exact ⟨by decide +kernel, by decide⟩, fun i h => by
  rcases h with h | rfl
  · exact st_low (by omega)
  · exact ⟨by decide +kernel, by decide +kernel⟩⟩
theorem Step.it {P P' : Int → Prop} (S : Step P P') {d : Nat} {i : Int} (h : P' i) : It d 40 BG (.int i) := ⟨.int (S.sh i h).2, Nat.zero_le _, (S.sh i h).1⟩
theorem add_tup (a b : List PyData) (h : a.length + b.length ≤ 2000000) : opAdd (.d (.tuple a)) (.d (.tuple b)) = some (.d (.tuple (a ++ b))) := by
  show (if a.length + b.length ≤ sizeLine then some (S.d (.tuple (a ++ b))) else none) = _
  rw [if_pos (Nat.le_trans h (by decide))]
theorem add_lst (a b : List PyData) {u w : S} (hu : asI u = none) (h1 : asL u = some a) (h2 : asL w = some b) (h : a.length + b.length ≤ 2000000) : opAdd u w = some (.o (.l (a ++ b))) := by
  unfold opAdd
  rw [hu, h1, h2]
  simp only
  rw [if_pos (Nat.le_trans h (by decide))]
abbrev oddL : List PyData := [.none, .bool true, .bool false, .int 0, .int 1, .int (-1), .int 24, .int 25, .int (10 ^ 30), .str "", .str "0", .list [], .tuple [], .tuple [.int 0], .dict [], .list [.tuple []], .tuple [.tuple []], .dict [(.str "a", .int 1)]]
abbrev oddA : AEV := (consA (frzP (cst .none)) (consA (frzP (cst (.bool true))) (consA (frzP (cst (.bool false))) (consA (frzP (cst (.int 0))) (consA (frzP (cst (.int 1))) (consA (frzP (unI (frzP (cst (.int 1))) fun i => -i)) (consA (frzP (cst (.int 24))) (consA (frzP (cst (.int 25))) (consA (frzP (bin (opI2 iPow) (frzP (cst (.int 10))) (frzP (cst (.int 30))))) (consA (frzP (cst (.str ""))) (consA (frzP (cst (.str "0"))) (consA (frzP (lstE nilA)) (consA (frzP (tupE nilA)) (consA (frzP (tupE (consA (frzP (cst (.int 0))) nilA))) (consA (frzP dctE0) (consA (frzP (lstE (consA (frzP (tupE nilA)) nilA))) (consA (frzP (tupE (consA (frzP (tupE nilA)) nilA))) (consA (frzP (dctE1 "a" (cst (.int 1)))) nilA))))))))))))))))))
abbrev O3 (c : C) (x : PyData) (v2 : Option S) : Ds := [some (.o c), some (.d x), v2]
theorem odd_lst (c : C) (x : PyData) : lstE oddA (O3 c x none) = some (.o (.l oddL), O3 c x none) := rfl
theorem odd_it {P P' : Int → Prop} (S : Step P P') (d N : Nat) : ∀ x ∈ oddL, It (d + 2) 60 BG x ∧ Wd (N + 1) P' x := fun x hx => by
  obtain ⟨b0, b1, b2, b3, b4, b5⟩ := S.ba
  have i1 : ∀ i : Int, P' i → It (d + 2) 60 BG (.int i) ∧ Wd (N + 1) P' (.int i) := fun i hi => ⟨(S.it (d := d) hi).mono (by omega) (by omega) (Nat.le_refl _), .int hi⟩
  have wt : ∀ {z : PyData}, Wd (N + 1) P' z → Wd (N + 1) P' (.tuple [z]) := fun h => .tup (show 1 ≤ N + 1 by omega) fun z hz => by rw [List.mem_singleton.mp hz]; exact h
  have wn : Wd (N + 1) P' (.tuple []) := .tup (Nat.zero_le _) fun z hz => (nomatch hz)
  simp only [oddL, List.mem_cons, List.not_mem_nil, or_false] at hx
  rcases hx with rfl | rfl | rfl | rfl | rfl | rfl | rfl | rfl | rfl | rfl | rfl | rfl | rfl | rfl | rfl | rfl | rfl | rfl
  · exact ⟨(It.non (d + 2) BG).mono (by omega) (by omega) (Nat.le_refl _), .non⟩
  · exact ⟨(It.bl (d + 2) BG true).mono (by omega) (by omega) (Nat.le_refl _), .bl _⟩
  · exact ⟨(It.bl (d + 2) BG false).mono (by omega) (by omega) (Nat.le_refl _), .bl _⟩
  · exact i1 _ b0
  · exact i1 _ b1
  · exact i1 _ b2
  · exact i1 _ b3
  · exact i1 _ b4
  · exact i1 _ b5
  · exact ⟨It.txt _ (Nat.le_trans (by decide +kernel) (by decide : 10 ≤ 60)), .str _⟩
  · exact ⟨It.txt _ (Nat.le_trans (by decide +kernel) (by decide : 10 ≤ 60)), .str _⟩
  · exact ⟨(SqI.nil (d + 1) BG).lst.mono (by omega) (by omega) (Nat.le_refl _), .lst _⟩
  · exact ⟨(SqI.nil (d + 1) BG).tup.mono (by omega) (by omega) (Nat.le_refl _), wn⟩
  · exact ⟨(S.it (d := d + 1) b0).one.tup.mono (by omega) (by omega) (Nat.le_refl _), wt (.int b0)⟩
  · exact ⟨⟨.dE, by show 0 + 1 ≤ d + 2; omega, Nat.le_trans (by decide +kernel) (by decide : 10 ≤ 60)⟩, .dct _⟩
  · exact ⟨((SqI.nil d BG).tup).one.lst.mono (by omega) (by omega) (Nat.le_refl _), .lst _⟩
  · exact ⟨((SqI.nil d BG).tup).one.tup.mono (by omega) (by omega) (Nat.le_refl _), wt wn⟩
  · exact ⟨(It.dct (S.it (d := d) b1)).mono (by omega) (by omega) (Nat.le_refl _), .dct _⟩
theorem cut_sub (xs : List PyData) (lo hi : Option Int) : (DL.cutD xs lo hi).Sublist xs := (List.take_sublist _ _).trans (List.drop_sublist _ _)
abbrev ifTu : SEV := ifS (bl (isiE "tuple" (pk 1))) (setS 2 (bin opAdd (pk 2) (frzP (lstE (consA (frzP (callB fList (consA (pk 1) nilA))) (consA (frzP (bin opAdd (pk 1) (pk 1))) (consA (frzP (revE (pk 1))) nilA))))))) nxS
abbrev numA : AEV := (consA (frzP (bin (opNum (· + ·)) (pk 1) (frzP (cst (.int 1))))) (consA (frzP (bin (opNum (· - ·)) (pk 1) (frzP (cst (.int 1))))) (consA (frzP (bin (opNum (· - ·)) (frzP (cst (.int 0))) (pk 1))) (consA (frzP (bin opEq (pk 1) (frzP (cst (.int 1))))) (consA (frzP (callB fStrN (consA (pk 1) nilA))) (consA (frzP (tupE (consA (frzP (vr 1)) nilA))) (consA (frzP (cst .none)) (consA (frzP (cst (.int 0))) nilA))))))))
abbrev ifIn : SEV := ifS (andT (bl (isiE "int" (pk 1))) (notT (bl (isiE "bool" (pk 1))))) (setS 2 (lstE numA)) nxS
theorem other_end {c : C} {m : Nat} {x : PyData} {L : List PyData} {v : S} {Q : PyData → Prop} (hv : v = .o (.l L) ∨ v = .d (.list L)) (hp : Pot m c) (hm : m < 2 ^ 39) (h0 : L ≠ []) (h1 : L.length < 1000) (hL : ∀ y ∈ L, Q y) :
    ∃ y c', retS (callE F__law_of 2 (consA (pk 0) (consA (frzP (vr 2)) nilA))) (O3 c x (some v)) = some (.rt (.d y) (O3 c' x (some (.d (.list L))))) ∧ Q y ∧ Pot (m + 1) c' := by
  have hb := line_big
  obtain ⟨y, hy, c', e, hp'⟩ := of_list hp hm h0 (by omega)
  refine ⟨y, c', ?_, hL y hy, hp'⟩
  rcases hv with rfl | rfl
  · exact retS_of (callE_own (i := 0) (δ' := O3 c x (some (.d (.list L)))) [.d (.list L)] rfl rfl rfl e (Nat.le_refl 1))
  · exact retS_of (callE_own (i := 0) (δ' := O3 c x (some (.d (.list L)))) [.d (.list L)] rfl rfl rfl e (Nat.le_refl 1))
theorem other_spec {P P' : Int → Prop} (S : Step P P') {c : C} {m : Nat} {x : PyData} {d w N : Nat} (hp : Pot m c) (hm : m < 2 ^ 38) (hx : It d w BG x ∧ Wd N P x) (hw : w ≤ 600000) : ∃ y c', F__law_otherwise [.o c, .d x] = some (.d y, [some c', none]) ∧ (It (d + 2) (2 * w + 80) BG y ∧ Wd (2 * N + 1) P' y) ∧ Pot (m + 1) c' := by
  have s1 : setS 2 (lstE oddA) (O3 c x none) = some (.nx (O3 c x (some (.o (.l oddL))))) := (setS_of (odd_lst c x)).trans rfl
  have base : ∀ y ∈ oddL, It (d + 2) (2 * w + 80) BG y ∧ Wd (2 * N + 1) P' y := fun y hy => by
    obtain ⟨h1, h2⟩ := odd_it S d (2 * N) y hy
    exact ⟨h1.mono (Nat.le_refl _) (by omega) (Nat.le_refl _), h2⟩
  have plain : (∀ v, ifIn (O3 c x v) = some (.nx (O3 c x v))) → (∀ v, ifTu (O3 c x v) = some (.nx (O3 c x v))) → ∃ y c', F__law_otherwise [.o c, .d x] = some (.d y, [some c', none]) ∧ (It (d + 2) (2 * w + 80) BG y ∧ Wd (2 * N + 1) P' y) ∧ Pot (m + 1) c' := fun h1 h2 => by
    obtain ⟨y, c', e, hy, hp'⟩ := other_end (x := x) (L := oddL) (v := .o (.l oddL)) (.inl rfl) hp (by omega) (List.cons_ne_nil _ _) (by decide) base
    exact ⟨y, c', runF_rt (δ := O3 c' x (some (.d (.list oddL)))) (seqS_of s1 (seqS_of (h1 _) (seqS_of (h2 _) e))) rfl, hy, hp'⟩
  have noT : (∀ xs, x ≠ .tuple xs) → ∀ v, ifTu (O3 c x v) = some (.nx (O3 c x v)) := fun h v => by
    cases x with
    | tuple xs => exact absurd rfl (h xs)
    | _ => exact ifS_f (bl_of rfl) rfl
  cases x with
  | tuple xs =>
    obtain ⟨e0, rfl⟩ := hx.1.deep
    have sq := hx.1.un
    have hl := sq.len
    have hW := hx.2.items
    let L : List PyData := [.list xs, .tuple (xs ++ xs), .tuple xs.reverse]
    let δ : Ds := O3 c (.tuple xs) (some (.o (.l oddL)))
    have c2 : bin opAdd (pk 1) (pk 1) δ = some (.d (.tuple (xs ++ xs)), δ) := bin_of (p := .v (.d (.tuple xs))) (q := .v (.d (.tuple xs))) (δ1 := δ) rfl rfl rfl rfl (add_tup xs xs (by omega))
    have hL : lstE (consA (frzP (callB fList (consA (pk 1) nilA))) (consA (frzP (bin opAdd (pk 1) (pk 1))) (consA (frzP (revE (pk 1))) nilA))) δ = some (.o (.l L), δ) :=
      lstE_of (ds := L) (consA_of (p := .v (.d (.list xs))) (δ1 := δ) rfl (consA_of (frzP_d c2) (rfl : consA (frzP (revE (pk 1))) nilA δ = some ([.v (.d (.tuple xs.reverse))], δ)))) rfl (show 3 ≤ sizeLine by decide)
    have t2 : ifTu δ = some (.nx (O3 c (.tuple xs) (some (.o (.l (oddL ++ L)))))) := ifS_t (δ1 := δ) (bl_of rfl) ((setS_of (bin_of (p := .own 2) (δ1 := δ) rfl (frzP_l hL) rfl rfl (add_lst oddL L rfl rfl rfl (show 18 + 3 ≤ 2000000 by decide)))).trans rfl)
    have t1 : ifIn δ = some (.nx δ) := ifS_f (andT_f (bl_of rfl)) rfl
    have all : ∀ y ∈ oddL ++ L, It (e0 + 1 + 2) (2 * w + 80) BG y ∧ Wd (2 * N + 1) P' y := fun y hy => by
      rcases List.mem_append.mp hy with hy | hy
      · exact base y hy
      · simp only [L, List.mem_cons, List.not_mem_nil, or_false] at hy
        rcases hy with rfl | rfl | rfl
        · exact ⟨sq.lst.mono (by omega) (by omega) (Nat.le_refl _), .lst _⟩
        · exact ⟨((sq.app sq).tup).mono (by omega) (by omega) (Nat.le_refl _), .tup (by rw [List.length_append]; omega) fun z hz => ((List.mem_append.mp hz).elim (hW.2 z) (hW.2 z)).mono (by omega) S.up⟩
        · exact ⟨(sq.rev.tup).mono (by omega) (by omega) (Nat.le_refl _), .tup (by rw [List.length_reverse]; omega) fun z hz => (hW.2 z (List.mem_reverse.mp hz)).mono (by omega) S.up⟩
    obtain ⟨y, c', e, hy, hp'⟩ := other_end (x := .tuple xs) (L := oddL ++ L) (v := .o (.l (oddL ++ L))) (.inl rfl) hp (by omega) (by simp [oddL]) (show 21 < 1000 by omega) all
    exact ⟨y, c', runF_rt (δ := O3 c' (.tuple xs) (some (.d (.list (oddL ++ L))))) (seqS_of s1 (seqS_of t1 (seqS_of t2 e))) rfl, hy, hp'⟩
  | int i =>
    have hi : P i := by
      cases hx.2 with
      | int h => exact h
    obtain ⟨a1, a2, a3⟩ := S.ad i hi
    let δ : Ds := O3 c (.int i) (some (.o (.l oddL)))
    have hst : callB fStrN (consA (pk 1) nilA) δ = some (.d (.str (toString i)), δ) := callB_of (ss := [.d (.int i)]) rfl rfl (by
      show (if i.natAbs.log2 < 1920 then some (Str.ofString (toString i)) else none).map (fun t => DL.S.d (.str t)) = _
      rw [if_pos (S.st i hi).2]
      rfl)
    let L : List PyData := [.int (i + 1), .int (i - 1), .int (0 - i), .bool (i == 1), .str (toString i), .tuple [.int i], .none, .int 0]
    have hL : lstE numA δ = some (.o (.l L), δ) :=
      lstE_of (ds := L) (consA_of (p := .v (.d (.int (i + 1)))) (δ1 := δ) rfl (consA_of (p := .v (.d (.int (i - 1)))) (δ1 := δ) rfl (consA_of (p := .v (.d (.int (0 - i)))) (δ1 := δ) rfl (consA_of (p := .v (.d (.bool (i == 1)))) (δ1 := δ) rfl (consA_of (frzP_d hst) (rfl : consA (frzP (tupE (consA (frzP (vr 1)) nilA))) (consA (frzP (cst .none)) (consA (frzP (cst (.int 0))) nilA)) δ = some ([.v (.d (.tuple [.int i])), .v (.d .none), .v (.d (.int 0))], δ))))))) rfl (show 8 ≤ sizeLine by decide)
    have t1 : ifIn δ = some (.nx (O3 c (.int i) (some (.o (.l L))))) := ifS_t (δ1 := δ) (andT_t (δ1 := δ) (bl_of rfl) (notT_of (b := false) (bl_of rfl))) ((setS_of hL).trans rfl)
    have t2 : ifTu (O3 c (.int i) (some (.o (.l L)))) = some (.nx (O3 c (.int i) (some (.o (.l L))))) := ifS_f (bl_of rfl) rfl
    have ii : ∀ j : Int, P' j → It (d + 2) (2 * w + 80) BG (.int j) ∧ Wd (2 * N + 1) P' (.int j) := fun j h => ⟨(S.it (d := d + 2) h).mono (Nat.le_refl _) (by omega) (Nat.le_refl _), .int h⟩
    have all : ∀ y ∈ L, It (d + 2) (2 * w + 80) BG y ∧ Wd (2 * N + 1) P' y := fun y hy => by
      simp only [L, List.mem_cons, List.not_mem_nil, or_false] at hy
      rcases hy with rfl | rfl | rfl | rfl | rfl | rfl | rfl | rfl
      · exact ii _ a1
      · exact ii _ a2
      · exact ii _ a3
      · exact ⟨(It.bl (d + 2) BG _).mono (Nat.le_refl _) (by omega) (Nat.le_refl _), .bl _⟩
      · exact ⟨It.txt _ (Nat.le_trans (S.st i hi).1 (by omega)), .str _⟩
      · exact ⟨(S.it (d := d + 1) (S.up i hi)).one.tup.mono (by omega) (by omega) (Nat.le_refl _), .tup (show 1 ≤ 2 * N + 1 by omega) fun z hz => by rw [List.mem_singleton.mp hz]; exact .int (S.up i hi)⟩
      · exact ⟨(It.non (d + 2) BG).mono (Nat.le_refl _) (by omega) (Nat.le_refl _), .non⟩
      · exact ii _ S.ba.1
    obtain ⟨y, c', e, hy, hp'⟩ := other_end (x := .int i) (L := L) (v := .o (.l L)) (.inl rfl) hp (by omega) (List.cons_ne_nil _ _) (show 8 < 1000 by omega) all
    exact ⟨y, c', runF_rt (δ := O3 c' (.int i) (some (.d (.list L)))) (seqS_of s1 (seqS_of t1 (seqS_of t2 e))) rfl, hy, hp'⟩
  | bool b => exact plain (fun v => ifS_f (δ1 := O3 c (.bool b) v) (andT_t (δ1 := O3 c (.bool b) v) (bl_of rfl) (notT_of (b := true) (bl_of rfl))) rfl) (noT (fun _ => nofun))
  | none => exact plain (fun v => ifS_f (andT_f (bl_of rfl)) rfl) (noT (fun _ => nofun))
  | str b => exact plain (fun v => ifS_f (andT_f (bl_of rfl)) rfl) (noT (fun _ => nofun))
  | list b => exact plain (fun v => ifS_f (andT_f (bl_of rfl)) rfl) (noT (fun _ => nofun))
  | dict b => exact plain (fun v => ifS_f (andT_f (bl_of rfl)) rfl) (noT (fun _ => nofun))
end K35

namespace K35
open PySem PySem.Spec PyProof.Rows L2 DL DLS

theorem cut_lo (xs : List PyData) (k : Nat) (hk : k ≤ xs.length) : DL.cutD xs none (some (k : Int)) = xs.take k := by
  unfold DL.cutD
  rw [HT.sIx_none, HT.sIx_nat, Nat.min_eq_left hk]
  simp
theorem cut_hi (xs : List PyData) (k : Nat) (hk : k ≤ xs.length) : DL.cutD xs (some (k : Int)) none = xs.drop k := by
  unfold DL.cutD
  rw [HT.sIx_none, HT.sIx_nat, Nat.min_eq_left hk]
  refine List.take_of_length_le ?_
  rw [List.length_drop]
  exact Nat.le_refl _
theorem It.item {d w B : Nat} {xs : List PyData} (h : It (d + 1) w B (.tuple xs)) {x : PyData} (hx : x ∈ xs) : It d w B x := by
  have sq := h.un
  refine ⟨sq.sm x hx, sq.dp x hx, ?_⟩
  have := shown_le hx
  have := sq.ln
  omega
theorem len_any {δ : Ds} {i : Nat} {xs : List PyData} (h : pk i δ = some (.v (.d (.tuple xs)), δ)) : callB fLen (consA (pk i) nilA) δ = some (.d (.int (xs.length : Int)), δ) :=
  callB_of (ss := [.d (.tuple xs)]) (consA_of h (rfl : nilA δ = some ([], δ))) rfl rfl
theorem slen_mem {xs : List PyData} {M : Nat} : ∀ {rs : List PyData}, (∀ y ∈ rs, y.shown.length + 2 ≤ M) → slen rs ≤ rs.length * M
  | [], _ => Nat.zero_le _
  | y :: rs, h => by
    have e : slen (y :: rs) = y.shown.length + 2 + slen rs := by
      unfold slen
      rw [List.map_cons, List.sum_cons]
    have h1 := h y List.mem_cons_self
    have h2 := slen_mem (xs := xs) (rs := rs) fun z hz => h z (List.mem_cons_of_mem _ hz)
    rw [e, List.length_cons, Nat.succ_mul]
    omega
theorem ix_tup {δ : Ds} {f : PEV} {xs : List PyData} {j : Nat} (hj : j < xs.length) (h1 : pk 1 δ = some (.v (.d (.tuple xs)), δ)) (hf : f δ = some (.v (.d (.int (j : Int))), δ)) : bin opIx (pk 1) f δ = some (.d xs[j], δ) := by
  refine bin_of h1 hf rfl rfl ?_
  show (atI xs (j : Int)).map (fun x => S.d x) = _
  have : atI xs (j : Int) = some xs[j] := atI_nat (List.getElem?_eq_getElem hj)
  rw [this]
  rfl
abbrev T6 (c : C) (x : PyData) (v2 v3 v4 v5 : Option S) : Ds := [some (.o c), some (.d x), v2, v3, v4, v5]
abbrev outT : TEV := orT (notT (bl (isiE "tuple" (pk 1)))) (orT (bl (bin opEqU (pk 1) (frzP (tupE nilA)))) (bl (bin opEq (frzP (callE F__law_take 2 (consA (pk 0) (consA (frzP (cst (.int 5))) nilA)))) (frzP (cst (.int 0))))))
abbrev swE : EV := ifE (bl (bin (opIn false) (pk 5) (frzP (tupE (consA (frzP (vr 3)) (consA (frzP (vr 4)) nilA)))))) (bin opIx (pk 1) (frzP (bin opIx (frzP (lstE (consA (frzP (vr 4)) (consA (frzP (vr 3)) nilA)))) (frzP (callB fInt (consA (frzP (bin opEq (pk 5) (pk 4))) nilA)))))) (bin opIx (pk 1) (pk 5))
theorem sw_one {c : C} {xs : List PyData} {u : Int} {i j k : Nat} (hi : i < xs.length) (hj : j < xs.length) (hk : k < xs.length) :
    ∃ y ∈ xs, swE (T6 c (.tuple xs) (some (.d (.int u))) (some (.d (.int (i : Int)))) (some (.d (.int (j : Int)))) (some (.d (.int (k : Int))))) = some (.d y, T6 c (.tuple xs) (some (.d (.int u))) (some (.d (.int (i : Int)))) (some (.d (.int (j : Int)))) (some (.d (.int (k : Int))))) := by
  let δ : Ds := T6 c (.tuple xs) (some (.d (.int u))) (some (.d (.int (i : Int)))) (some (.d (.int (j : Int)))) (some (.d (.int (k : Int))))
  obtain ⟨b, hb⟩ : ∃ b : Bool, bl (bin (opIn false) (pk 5) (frzP (tupE (consA (frzP (vr 3)) (consA (frzP (vr 4)) nilA))))) δ = some (b, δ) := ⟨_, bl_of (bin_of rfl (frzP_d (tupE_of (ds := [.int (i : Int), .int (j : Int)]) rfl rfl (show 2 ≤ sizeLine by decide))) rfl rfl rfl)⟩
  cases b with
  | false => exact ⟨xs[k], List.getElem_mem _, ifE_f hb (ix_tup hk rfl rfl)⟩
  | true =>
    have e1 : bin opEq (pk 5) (pk 4) δ = some (.d (.bool ((k : Int) == (j : Int))), δ) := bin_of (g := opEq) rfl rfl rfl rfl rfl
    have hl : lstE (consA (frzP (vr 4)) (consA (frzP (vr 3)) nilA)) δ = some (.o (.l [.int (j : Int), .int (i : Int)]), δ) := lstE_of (ds := [.int (j : Int), .int (i : Int)]) rfl rfl (show 2 ≤ sizeLine by decide)
    cases hkj : ((k : Int) == (j : Int)) with
    | true =>
      rw [hkj] at e1
      have e2 : bin opIx (frzP (lstE (consA (frzP (vr 4)) (consA (frzP (vr 3)) nilA)))) (frzP (callB fInt (consA (frzP (bin opEq (pk 5) (pk 4))) nilA))) δ = some (.d (.int (i : Int)), δ) := bin_of (frzP_l hl) (frzP_d (callB_of (ss := [.d (.bool true)]) (r := .d (.int 1)) (consA_of (frzP_d e1) rfl) rfl rfl)) rfl rfl rfl
      exact ⟨xs[i], List.getElem_mem _, ifE_t hb (ix_tup hi rfl (frzP_d e2))⟩
    | false =>
      rw [hkj] at e1
      have e2 : bin opIx (frzP (lstE (consA (frzP (vr 4)) (consA (frzP (vr 3)) nilA)))) (frzP (callB fInt (consA (frzP (bin opEq (pk 5) (pk 4))) nilA))) δ = some (.d (.int (j : Int)), δ) := bin_of (frzP_l hl) (frzP_d (callB_of (ss := [.d (.bool false)]) (r := .d (.int 0)) (consA_of (frzP_d e1) rfl) rfl rfl)) rfl rfl rfl
      exact ⟨xs[j], List.getElem_mem _, ifE_t hb (ix_tup hj rfl (frzP_d e2))⟩
theorem bent_spec {P P' : Int → Prop} (St : Step P P') : ∀ (k : Nat) (x : PyData) (c : C) (m d w N : Nat), x.depth ≤ k → It d w BG x → Wd N P x → Pot m c → m + 10 * k < 2 ^ 36 → k ≤ 7 → w ≤ 300000 → N ≤ 300 →
    ∃ y c', R__law_bent (k + 1) [.o c, .d x] = some (.d y, [some c', none]) ∧ (It (d + 2) ((N + 2) * (2 * w + 100) + k * (w + 10)) BG y ∧ Wd (2 * N + 1) P' y) ∧ Pot (m + 10 * k + 10) c' := by
  intro k
  have big : ∀ (N w k : Nat), 2 * w + 80 ≤ (N + 2) * (2 * w + 100) + k * (w + 10) := fun N w k => by
    have : 1 * (2 * w + 100) ≤ (N + 2) * (2 * w + 100) := Nat.mul_le_mul_right _ (by omega)
    omega
  have outer : ∀ (k : Nat) (x : PyData) (c c1 : C) (m m1 d w N : Nat), It d w BG x → Wd N P x → Pot m1 c1 → m1 ≤ m + 1 → m < 2 ^ 36 → w ≤ 300000 → outT (T6 c x none none none none) = some (true, T6 c1 x none none none none) →
      ∃ y c', R__law_bent (k + 1) [.o c, .d x] = some (.d y, [some c', none]) ∧ (It (d + 2) ((N + 2) * (2 * w + 100) + k * (w + 10)) BG y ∧ Wd (2 * N + 1) P' y) ∧ Pot (m + 10 * k + 10) c' := fun k x c c1 m m1 d w N hx hW hp hm1 hm hw ht => by
    obtain ⟨y, c', e, hy, hp'⟩ := other_spec St hp (by omega) ⟨hx, hW⟩ (by omega)
    have hc : callE F__law_otherwise 2 (consA (pk 0) (consA (frzP (vr 1)) nilA)) (T6 c1 x none none none none) = some (.d y, T6 c' x none none none none) := callE_own (i := 0) (δ' := T6 c1 x none none none none) [.d x] rfl rfl rfl e (Nat.le_refl 1)
    exact ⟨y, c', runF_rt (δ := T6 c' x none none none none) (seqS_rt (ifS_t ht (retS_of hc))) rfl, ⟨hy.1.mono (Nat.le_refl _) (big N w k) (Nat.le_refl _), hy.2⟩, hp'.mono (by omega)⟩
  have flat : ∀ (x : PyData) (c : C), (∀ xs, x ≠ .tuple xs) → outT (T6 c x none none none none) = some (true, T6 c x none none none none) := fun x c h => by
    cases x with
    | tuple xs => exact absurd rfl (h xs)
    | none => exact orT_t (notT_of (b := false) (bl_of rfl))
    | bool b => exact orT_t (notT_of (b := false) (bl_of rfl))
    | int b => exact orT_t (notT_of (b := false) (bl_of rfl))
    | str b => exact orT_t (notT_of (b := false) (bl_of rfl))
    | list b => exact orT_t (notT_of (b := false) (bl_of rfl))
    | dict b => exact orT_t (notT_of (b := false) (bl_of rfl))
  induction k with
  | zero =>
    intro x c m d w N hdk hIt hWd hp hm hk hw hN
    exact outer 0 x c c m m d w N hIt hWd hp (by omega) (by omega) hw (flat x c fun xs e => by
      subst e
      have : PyData.depthAll xs + 1 ≤ 0 := hdk
      omega)
  | succ k ih =>
    intro x c m d w N hdk hIt hWd hp hm hk hw hN
    by_cases hnt : ∀ xs, x ≠ .tuple xs
    · exact outer (k + 1) x c c m m d w N hIt hWd hp (by omega) (by omega) hw (flat x c hnt)
    obtain ⟨xs, rfl⟩ : ∃ xs, x = .tuple xs := by
      cases x with
      | tuple xs => exact ⟨xs, rfl⟩
      | _ => exact absurd (fun xs => nofun) hnt
    obtain ⟨e0, rfl⟩ := hIt.deep
    have sq := hIt.un
    have hlx : xs.length ≤ N := hWd.items.1
    have itm : ∀ z ∈ xs, It e0 w BG z := fun z hz => K35.It.item hIt hz
    let δ0 : Ds := T6 c (.tuple xs) none none none none
    have hne : bl (bin opEqU (pk 1) (frzP (tupE nilA))) δ0 = some (xs.isEmpty, δ0) :=
      bl_of (bin_of (g := opEqU) (p := .v (.d (.tuple xs))) (δ1 := δ0) rfl (frzP_d (tupE_of (ds := []) (rfl : nilA δ0 = some ([], δ0)) rfl (show 0 ≤ sizeLine by decide))) rfl rfl rfl)
    have t0 : notT (bl (isiE "tuple" (pk 1))) δ0 = some (false, δ0) := notT_of (b := true) (bl_of rfl)
    by_cases hxs : xs = []
    · rw [show xs.isEmpty = true by rw [hxs]; rfl] at hne
      exact outer (k + 1) _ c c m m _ w N hIt hWd hp (by omega) (by omega) hw (orT_f t0 (orT_t hne))
    have hpos : 0 < xs.length := List.length_pos_iff.mpr hxs
    rw [show xs.isEmpty = false by cases xs with | nil => exact absurd rfl hxs | cons a b => rfl] at hne
    obtain ⟨q, c1, e1, q0, q1, hp1⟩ := take_pot (n := 5) hp (by omega) (by decide) (by decide)
    have h1 : callE F__law_take 2 (consA (pk 0) (consA (frzP (cst (.int 5))) nilA)) δ0 = some (.d (.int q), T6 c1 (.tuple xs) none none none none) := callE_own (i := 0) (δ' := δ0) [.d (.int 5)] rfl rfl rfl e1 (Nat.le_refl 1)
    have t1 : outT δ0 = some (q == 0, T6 c1 (.tuple xs) none none none none) := orT_f t0 (orT_f hne (bl_of (bin_of (g := opEq) (frzP_d h1) rfl rfl rfl rfl)))
    cases hq : (q == 0) with
    | true =>
      rw [hq] at t1
      exact outer (k + 1) _ c c1 m (m + 1) _ w N hIt hWd hp1 (Nat.le_refl _) (by omega) hw t1
    | false =>
      rw [hq] at t1
      obtain ⟨u, c2, e2, u0, u1, hp2⟩ := take_pot (n := 7) hp1 (by omega) (by decide) (by decide)
      obtain ⟨i', c3, e3, i0, i1, hp3⟩ := take_pot (n := (xs.length : Int)) hp2 (by omega) (by omega) (by omega)
      obtain ⟨i, rfl⟩ : ∃ i : Nat, i' = (i : Int) := ⟨i'.toNat, by omega⟩
      have hi : i < xs.length := by omega
      let δ1 : Ds := T6 c1 (.tuple xs) none none none none
      let δ3 (c : C) : Ds := T6 c (.tuple xs) (some (.d (.int u))) (some (.d (.int (i : Int)))) none none
      have f1 : callE F__law_take 2 (consA (pk 0) (consA (frzP (cst (.int 7))) nilA)) δ1 = some (.d (.int u), T6 c2 (.tuple xs) none none none none) := callE_own (i := 0) (δ' := δ1) [.d (.int 7)] rfl rfl rfl e2 (Nat.le_refl 1)
      have f2 : callE F__law_take 2 (consA (pk 0) (consA (frzP (callB fLen (consA (pk 1) nilA))) nilA)) (T6 c2 (.tuple xs) none none none none) = some (.d (.int (i : Int)), T6 c3 (.tuple xs) none none none none) := callE_own (i := 0) (δ' := T6 c2 (.tuple xs) none none none none) [.d (.int (xs.length : Int))] (consA_of rfl (consA_of (frzP_d (len_any rfl)) rfl)) rfl rfl e3 (Nat.le_refl 1)
      have f3 : consF (callE F__law_take 2 (consA (pk 0) (consA (frzP (callB fLen (consA (pk 1) nilA))) nilA))) nilF (T6 c2 (.tuple xs) none none none none) = some ([.d (.int (i : Int))], T6 c3 (.tuple xs) none none none none) := consF_of f2 rfl
      have s1 : parS [2, 3] (consF (callE F__law_take 2 (consA (pk 0) (consA (frzP (cst (.int 7))) nilA))) (consF (callE F__law_take 2 (consA (pk 0) (consA (frzP (callB fLen (consA (pk 1) nilA))) nilA))) nilF)) δ1 = some (.nx (δ3 c3)) := parS_of (consF_of f1 f3) rfl
      have lo : ∀ (c : C), slE (pk 1) noP (someP (pk 3)) (δ3 c) = some (.d (.tuple (xs.take i)), δ3 c) := fun c => by
        show some (S.d (.tuple (DL.cutD xs none (some (i : Int)))), _) = _
        rw [cut_lo _ i (by omega)]
      have hi1 : ∀ (c : C), slE (pk 1) (someP (frzP (bin opAdd (pk 3) (frzP (cst (.int 1)))))) noP (δ3 c) = some (.d (.tuple (xs.drop (i + 1))), δ3 c) := fun c => by
        show some (S.d (.tuple (DL.cutD xs (some ((i : Int) + 1)) none)), _) = _
        rw [show (i : Int) + 1 = ((i + 1 : Nat) : Int) by omega, cut_hi _ (i + 1) (by omega)]
      have lt : (xs.take i).length = i := by rw [List.length_take]; omega
      have ld : (xs.drop (i + 1)).length = xs.length - (i + 1) := List.length_drop
      have tk : ∀ i, SqI e0 (w + 2) BG (xs.take i) := fun i => sq.sub (List.take_sublist _ _)
      have dr : ∀ i, SqI e0 (w + 2) BG (xs.drop i) := fun i => sq.sub (List.drop_sublist _ _)
      have wt : ∀ i, ∀ z ∈ xs.take i, Wd (2 * N + 1) P' z := fun i z hz => (hWd.items.2 z (List.mem_of_mem_take hz)).mono (by omega) St.up
      have wd : ∀ i, ∀ z ∈ xs.drop i, Wd (2 * N + 1) P' z := fun i z hz => (hWd.items.2 z (List.mem_of_mem_drop hz)).mono (by omega) St.up
      have e9 : (k + 1) * (w + 10) = k * (w + 10) + (w + 10) := Nat.succ_mul _ _
      have e8 : 2 * (2 * w + 100) ≤ (N + 2) * (2 * w + 100) := Nat.mul_le_mul_right _ (by omega)
      have z0 : bl (bin opEq (pk 2) (frzP (cst (.int 0)))) (δ3 c3) = some (u == 0, δ3 c3) := bl_of (bin_of (g := opEq) rfl rfl rfl rfl rfl)
      have z1 : bl (bin opEq (pk 2) (frzP (cst (.int 1)))) (δ3 c3) = some (u == 1, δ3 c3) := bl_of (bin_of (g := opEq) rfl rfl rfl rfl rfl)
      have z2 : bl (bin opEq (pk 2) (frzP (cst (.int 2)))) (δ3 c3) = some (u == 2, δ3 c3) := bl_of (bin_of (g := opEq) rfl rfl rfl rfl rfl)
      cases h0 : (u == 0) with
      | true =>
        rw [h0] at z0
        have a1 := add_tup (xs.take i) (xs.drop (i + 1)) (by rw [lt, ld]; omega)
        refine ⟨.tuple (xs.take i ++ xs.drop (i + 1)), c3, runF_rt (δ := δ3 c3) (seqS_of (ifS_f t1 rfl) (seqS_of s1 (seqS_rt (ifS_t z0 (retS_of (bin_of (frzP_d (lo c3)) (frzP_d (hi1 c3)) rfl rfl a1)))))) rfl, ⟨((tk i).app (dr (i + 1))).tup.mono (by omega) (by omega) (Nat.le_refl _), .tup (by rw [List.length_append, lt, ld]; omega) fun z hz => (List.mem_append.mp hz).elim (wt _ z) (wd _ z)⟩, hp3.mono (by omega)⟩
      | false =>
        rw [h0] at z0
        cases h1' : (u == 1) with
        | true =>
          rw [h1'] at z1
          have mid : slE (pk 1) (someP (pk 3)) (someP (frzP (bin opAdd (pk 3) (frzP (cst (.int 1)))))) (δ3 c3) = some (.d (.tuple (DL.cutD xs (some (i : Int)) (some ((i : Int) + 1)))), δ3 c3) := rfl
          have hi0 : slE (pk 1) (someP (pk 3)) noP (δ3 c3) = some (.d (.tuple (xs.drop i)), δ3 c3) := by
            show some (S.d (.tuple (DL.cutD xs (some (i : Int)) none)), _) = _
            rw [cut_hi _ i (by omega)]
          have ml : (DL.cutD xs (some (i : Int)) (some ((i : Int) + 1))).length ≤ 1 := by
            unfold DL.cutD
            rw [show (i : Int) + 1 = ((i + 1 : Nat) : Int) by omega, HT.sIx_nat, HT.sIx_nat, List.length_take]
            omega
          have ms := cut_sub xs (some (i : Int)) (some ((i : Int) + 1))
          generalize DL.cutD xs (some (i : Int)) (some ((i : Int) + 1)) = ys at mid ml ms
          have ld0 : (xs.drop i).length = xs.length - i := List.length_drop
          have a1 := add_tup (xs.take i) ys (by rw [lt]; omega)
          have a2 := add_tup (xs.take i ++ ys) (xs.drop i) (by rw [List.length_append, lt, ld0]; omega)
          have sqy : SqI e0 (w + 2) BG ys := sq.sub ms
          refine ⟨.tuple (xs.take i ++ ys ++ xs.drop i), c3, runF_rt (δ := δ3 c3) (seqS_of (ifS_f t1 rfl) (seqS_of s1 (seqS_of (ifS_f z0 rfl) (seqS_rt (ifS_t z1 (retS_of (bin_of (frzP_d (bin_of (frzP_d (lo c3)) (frzP_d mid) rfl rfl a1)) (frzP_d hi0) rfl rfl a2))))))) rfl, ⟨(((tk i).app sqy).app (dr i)).tup.mono (by omega) (by omega) (Nat.le_refl _), .tup (by rw [List.length_append, List.length_append, lt, ld0]; omega) fun z hz => ?_⟩, hp3.mono (by omega)⟩
          rcases List.mem_append.mp hz with hz | hz
          · rcases List.mem_append.mp hz with hz | hz
            · exact wt _ z hz
            · exact (hWd.items.2 z (ms.subset hz)).mono (by omega) St.up
          · exact wd _ z hz
        | false =>
          rw [h1'] at z1
          cases h2' : (u == 2) with
          | true =>
            rw [h2'] at z2
            obtain ⟨j', c4, e4, j0, j1, hp4⟩ := take_pot (n := (xs.length : Int)) hp3 (by omega) (by omega) (by omega)
            obtain ⟨j, rfl⟩ : ∃ j : Nat, j' = (j : Int) := ⟨j'.toNat, by omega⟩
            have hj : j < xs.length := by omega
            let δ4 (v5 : Option S) : Ds := T6 c4 (.tuple xs) (some (.d (.int u))) (some (.d (.int (i : Int)))) (some (.d (.int (j : Int)))) v5
            have g1 : callE F__law_take 2 (consA (pk 0) (consA (frzP (callB fLen (consA (pk 1) nilA))) nilA)) (δ3 c3) = some (.d (.int (j : Int)), δ3 c4) := callE_own (i := 0) (δ' := δ3 c3) [.d (.int (xs.length : Int))] (consA_of rfl (consA_of (frzP_d (len_any rfl)) rfl)) rfl rfl e4 (Nat.le_refl 1)
            have s2 : setS 4 (callE F__law_take 2 (consA (pk 0) (consA (frzP (callB fLen (consA (pk 1) nilA))) nilA))) (δ3 c3) = some (.nx (δ4 none)) := (setS_of g1).trans rfl
            let J : Nat → List PyData → Ds → Prop := fun _ acc δ => δ = δ4 none ∧ ∀ y ∈ acc, y ∈ xs
            have hrl : (DL.rng 0 ((xs.length : Int)).toNat).length = xs.length := by rw [rng_len, Int.toNat_natCast]
            obtain ⟨rs, δ', e5, ⟨hδ, hrs⟩, hlen⟩ := lcE_inv (i := 5) (fi := rngI1 (consA (frzP (callB fLen (consA (pk 1) nilA))) nilA)) (te := swE) (I := J) (δ := δ4 none) (δ1 := δ4 none) (xs := rng 0 ((xs.length : Int)).toNat) (rngI1_of (n := (xs.length : Int)) (consA_of (frzP_d (len_any rfl)) rfl) ⟨by omega, by omega⟩) rfl ⟨rfl, fun y hy => (nomatch hy)⟩ (fun k x acc δ hk hx ⟨hδ, hacc⟩ => by
              subst hδ
              obtain ⟨r, hr⟩ := List.mem_iff_getElem?.mp hx
              obtain ⟨hr', rfl⟩ := rng_at hr
              rw [Int.toNat_natCast] at hr'
              rw [Int.zero_add]
              obtain ⟨y, hy, e⟩ := sw_one (c := c4) (u := u) hi hj hr'
              refine ⟨rfl, y, δ4 none, e, rfl, rfl, fun z hz => ?_⟩
              rcases List.mem_append.mp hz with hz | hz
              · exact hacc z hz
              · rw [List.mem_singleton.mp hz]
                exact hy) (by
                have := line_big
                rw [hrl]
                omega) (fun rs δ ⟨hδ, _⟩ => by subst hδ; rfl)
            subst hδ
            rw [hrl] at hlen
            have e6 := callB_of (g := fTuple) (ss := [.d (.list rs)]) (r := .d (.tuple rs)) (consA_of (frzP_l e5) (rfl : nilA (δ4 none) = some ([], δ4 none))) rfl rfl
            refine ⟨.tuple rs, c4, runF_rt (δ := δ4 none) (seqS_of (ifS_f t1 rfl) (seqS_of s1 (seqS_of (ifS_f z0 rfl) (seqS_of (ifS_f z1 rfl) (seqS_rt (ifS_t z2 (seqS_of s2 (retS_of e6)))))))) rfl, ⟨?_, .tup (by omega) fun z hz => (hWd.items.2 z (hrs z hz)).mono (by omega) St.up⟩, hp4.mono (by omega)⟩
            have hsl : slen rs ≤ rs.length * (w + 2) := slen_mem (xs := xs) fun y hy => Nat.le_trans (shown_le (hrs y hy)) sq.ln
            have hmul : rs.length * (w + 2) ≤ N * (2 * w + 100) := Nat.mul_le_mul (by omega) (by omega)
            have hN2 : (N + 2) * (2 * w + 100) = N * (2 * w + 100) + 2 * (2 * w + 100) := Nat.add_mul _ _ _
            exact (SqI.tup (d := e0) (w := N * (2 * w + 100)) ⟨fun z hz => sq.sm z (hrs z hz), fun z hz => sq.dp z (hrs z hz), by omega⟩).mono (by omega) (by omega) (Nat.le_refl _)
          | false =>
            rw [h2'] at z2
            have hin : xs[i] ∈ xs := List.getElem_mem _
            have hdi : xs[i].depth ≤ k := depth_mem (d := k) (Nat.le_of_succ_le_succ hdk) _ hin
            obtain ⟨y, c4, e4, hyI, hp4⟩ := ih xs[i] c3 (m + 1 + 1 + 1) e0 w N hdi (itm _ hin) (hWd.items.2 _ hin) hp3 (by omega) (by omega) hw hN
            have hix : bin opIx (pk 1) (pk 3) (δ3 c3) = some (.d xs[i], δ3 c3) := ix_tup hi rfl rfl
            have hc : callE (R__law_bent (k + 1)) 2 (consA (pk 0) (consA (frzP (bin opIx (pk 1) (pk 3))) nilA)) (δ3 c3) = some (.d y, δ3 c4) := callE_own (i := 0) (δ' := δ3 c3) [.d xs[i]] (consA_of rfl (consA_of (frzP_d hix) rfl)) rfl rfl e4 (Nat.le_refl 1)
            have htu : tupE (consA (frzP (callE (R__law_bent (k + 1)) 2 (consA (pk 0) (consA (frzP (bin opIx (pk 1) (pk 3))) nilA)))) nilA) (δ3 c3) = some (.d (.tuple [y]), δ3 c4) := tupE_of (ds := [y]) (consA_of (frzP_d hc) rfl) rfl (show 1 ≤ sizeLine by decide)
            have a1 := add_tup (xs.take i) [y] (by rw [lt, List.length_singleton]; omega)
            have a2 := add_tup (xs.take i ++ [y]) (xs.drop (i + 1)) (by rw [List.length_append, lt, ld, List.length_singleton]; omega)
            refine ⟨.tuple (xs.take i ++ [y] ++ xs.drop (i + 1)), c4, runF_rt (δ := δ3 c4) (seqS_of (ifS_f t1 rfl) (seqS_of s1 (seqS_of (ifS_f z0 rfl) (seqS_of (ifS_f z1 rfl) (seqS_of (ifS_f z2 rfl) (retS_of (bin_of (frzP_d (bin_of (frzP_d (lo c3)) (frzP_d htu) rfl rfl a1)) (frzP_d (hi1 c4)) rfl rfl a2))))))) rfl, ⟨?_, ?_⟩, hp4.mono (by omega)⟩
            · have hsl : slen (xs.take i) + slen (xs.drop (i + 1)) ≤ w + 2 := by
                rw [← slen_app, ← List.eraseIdx_eq_take_drop_succ]
                exact Nat.le_trans (slen_sub (List.eraseIdx_sublist _ _)) sq.ln
              have q3 : SqI (e0 + 2) (w + 2 + (((N + 2) * (2 * w + 100) + k * (w + 10)) + 2)) BG (xs.take i ++ [y] ++ xs.drop (i + 1)) := by
                refine ⟨fun z hz => ?_, fun z hz => ?_, ?_⟩
                · rcases List.mem_append.mp hz with hz | hz
                  · rcases List.mem_append.mp hz with hz | hz
                    · exact sq.sm z (List.mem_of_mem_take hz)
                    · rw [List.mem_singleton.mp hz]
                      exact hyI.1.sm
                  · exact sq.sm z (List.mem_of_mem_drop hz)
                · rcases List.mem_append.mp hz with hz | hz
                  · rcases List.mem_append.mp hz with hz | hz
                    · exact Nat.le_trans (sq.dp z (List.mem_of_mem_take hz)) (by omega)
                    · rw [List.mem_singleton.mp hz]
                      exact hyI.1.dp
                  · exact Nat.le_trans (sq.dp z (List.mem_of_mem_drop hz)) (by omega)
                · rw [slen_app, slen_app, slen_one]
                  have := hyI.1.ln
                  omega
              exact q3.tup.mono (by omega) (by omega) (Nat.le_refl _)
            · refine .tup (by rw [List.length_append, List.length_append, lt, ld, List.length_singleton]; omega) fun z hz => ?_
              rcases List.mem_append.mp hz with hz | hz
              · rcases List.mem_append.mp hz with hz | hz
                · exact wt _ z hz
                · rw [List.mem_singleton.mp hz]
                  exact hyI.2
              · exact wd _ z hz
end K35

namespace K35
open PySem PySem.Spec PyProof.Rows L2 DL DLS

/-! numbers, pairs, of anything -/
theorem unpS_of {f : PEV} {g : GEV} {δ δ1 δ2 : Ds} {d : PyData} (h : f δ = some (.v (.d d), δ1)) (k : g d δ1 = some δ2) : unpS f g δ = some (.nx δ2) := by
  unfold unpS
  rw [h]
  simp only [Option.bind_some]
  rw [k]
  rfl
theorem fAll_map (f : PyData → Bool) (xs : List PyData) : fAll [.d (.list (xs.map fun x => .bool (f x)))] = some (.d (.bool (xs.all f))) := by
  show ((bools (xs.map fun x => .bool (f x))).map fun bs => S.d (.bool (bs.all id))) = _
  rw [bools_map f]
  show some (S.d (.bool ((xs.map f).all id))) = _
  rw [List.all_map]
  rfl
theorem fAny_map (f : PyData → Bool) (xs : List PyData) : fAny [.d (.list (xs.map fun x => .bool (f x)))] = some (.d (.bool (xs.any f))) := by
  show ((bools (xs.map fun x => .bool (f x))).map fun bs => S.d (.bool (bs.any id))) = _
  rw [bools_map f]
  show some (S.d (.bool ((xs.map f).any id))) = _
  rw [List.any_map]
  rfl
def intOf : PyData → Int
  | .int i => i
  | _ => 0
def isI : PyData → Bool
  | .int _ => true
  | _ => false
def okM (n : Int) : PyData → Bool
  | .int m => pLe 0 m && pLt m n
  | _ => false
theorem is_whole_any (x : PyData) : F_is_whole [.d x] = some (.d (.bool (isI x)), [none]) := by
  cases x <;> exact runF_rt (δ := [some (.d _)]) (retS_of rfl) rfl
theorem chn_ints {g1 g2 : Int → Int → Bool} {δ : Ds} {fa fb fc : PEV} {a b c : Int} (ha : fa δ = some (.v (.d (.int a)), δ)) (hb : fb δ = some (.v (.d (.int b)), δ)) (hc : fc δ = some (.v (.d (.int c)), δ)) : chn (cmpI g1) (cmpI g2) fa fb fc δ = some (.d (.bool (g1 a b && g2 b c)), δ) := by
  unfold chn
  rw [ha]
  simp only [Option.bind_some]
  rw [hb]
  simp only [Option.bind_some, res]
  have k1 : cmpI g1 (.d (.int a)) (.d (.int b)) = some (.d (.bool (g1 a b))) := rfl
  have k2 : cmpI g2 (.d (.int b)) (.d (.int c)) = some (.d (.bool (g2 b c))) := rfl
  rw [k1]
  simp only [Option.bind_some]
  cases g1 a b with
  | false => rfl
  | true =>
    simp only [Bool.true_and]
    rw [hc]
    simp only [Option.bind_some]
    rw [k2]
    rfl
theorem is_below_any (n : Int) (x : PyData) : F_is_below [.d (.int n), .d x] = some (.d (.bool (okM n x)), [none, none]) := by
  have hw : callE F_is_whole 1 (consA (frzP (vr 1)) nilA) [some (.d (.int n)), some (.d x)] = some (.d (.bool (isI x)), [some (.d (.int n)), some (.d x)]) := callE_data [.d x] rfl rfl (is_whole_any x) (Nat.le_refl 1)
  refine runF_rt (δ := [some (.d (.int n)), some (.d x)]) (retS_of ?_) rfl
  cases x with
  | int m => exact andV_t hw (chn_ints rfl rfl rfl)
  | none => exact andV_f hw
  | bool b => exact andV_f hw
  | str t => exact andV_f hw
  | list t => exact andV_f hw
  | tuple t => exact andV_f hw
  | dict t => exact andV_f hw
/-- a whole number from a to b -/
def whB (a b : Int) : PyData → Bool
  | .int m => pLe a m && pLe m b
  | _ => false
theorem whole_any (x : PyData) (a b : Int) : F__law_whole [.d x, .d (.int a), .d (.int b)] = some (.d (.bool (whB a b x)), [none, none, none]) := by
  let δ : Ds := [some (.d x), some (.d (.int a)), some (.d (.int b))]
  refine runF_rt (δ := δ) (retS_of ?_) rfl
  cases x with
  | int m => exact andV_t (δ1 := [some (.d (.int m)), some (.d (.int a)), some (.d (.int b))]) rfl (andV_t (δ1 := [some (.d (.int m)), some (.d (.int a)), some (.d (.int b))]) rfl (chn_ints rfl rfl rfl))
  | bool t => exact andV_t (δ1 := [some (.d (.bool t)), some (.d (.int a)), some (.d (.int b))]) rfl (andV_f rfl)
  | none => exact andV_f rfl
  | str t => exact andV_f rfl
  | list t => exact andV_f rfl
  | tuple t => exact andV_f rfl
  | dict t => exact andV_f rfl
theorem wh_ok (n : Int) (x : PyData) : whB 0 (n - 1) x = okM n x := by
  cases x with
  | int m =>
    show (decide (0 ≤ m) && decide (m ≤ n - 1)) = (decide (0 ≤ m) && decide (m < n))
    have : decide (m ≤ n - 1) = decide (m < n) := by
      by_cases h : m < n
      · rw [decide_eq_true h, decide_eq_true (by omega)]
      · rw [decide_eq_false h, decide_eq_false (by omega)]
    rw [this]
  | _ => rfl
theorem okM_int {n : Int} {x : PyData} (h : okM n x = true) : x = .int (intOf x) ∧ 0 ≤ intOf x ∧ intOf x < n := by
  cases x with
  | int m =>
    obtain ⟨h1, h2⟩ := Bool.and_eq_true_iff.mp (show (pLe 0 m && pLt m n) = true from h)
    exact ⟨rfl, of_decide_eq_true h1, of_decide_eq_true h2⟩
  | _ => cases h
theorem opNe_int (a b : Int) : opNe (.d (.int a)) (.d (.int b)) = some (.d (.bool (!(a == b)))) := rfl
theorem len_ne {δ : Ds} {i : Nat} {xs : List PyData} {k : Int} (h : pk i δ = some (.v (.d (.tuple xs)), δ)) : bl (bin opNe (frzP (callB fLen (consA (pk i) nilA))) (frzP (cst (.int k)))) δ = some (!((xs.length : Int) == k), δ) :=
  bl_of (bin_of (g := opNe) (frzP_d (len_any h)) rfl rfl rfl rfl)
theorem len_not_two {xs : List PyData} (h : ∀ w t, PyData.tuple xs ≠ .tuple [w, t]) : ((xs.length : Int) == 2) = false := by
  match xs, h with
  | [], _ => rfl
  | [a], _ => rfl
  | [a, b], h => exact absurd rfl (h a b)
  | a :: b :: c :: r, _ =>
    rw [beq_eq_false_iff_ne]
    simp only [List.length_cons]
    omega
/-- two unlike marks of so many -/
def paB (n : Int) : PyData → Bool
  | .tuple [a, b] => okM n a && (okM n b && !(intOf a == intOf b))
  | _ => false
theorem pa_none {n : Int} {x : PyData} (h : ∀ w t, x ≠ .tuple [w, t]) : paB n x = false := by
  unfold paB
  split
  · rename_i a b
    exact absurd rfl (h a b)
  · rfl
theorem pair_or (x : PyData) : (∃ a b, x = .tuple [a, b]) ∨ ∀ w t, x ≠ .tuple [w, t] := by
  by_cases h : ∃ a b, x = .tuple [a, b]
  · exact .inl h
  · exact .inr fun w t e => h ⟨w, t, e⟩
def isTupB : PyData → Bool
  | .tuple _ => true
  | _ => false
theorem isi_tup {δ : Ds} {i : Nat} {x : PyData} (h : pk i δ = some (.v (.d x), δ)) : bl (isiE "tuple" (pk i)) δ = some (isTupB x, δ) := by
  refine bl_of ?_
  unfold isiE
  rw [h]
  cases x <;> rfl
/-- that a thing is no pair, as it is asked -/
theorem not_two {δ : Ds} {i : Nat} {x : PyData} (h : pk i δ = some (.v (.d x), δ)) (hx : ∀ w t, x ≠ .tuple [w, t]) : orT (notT (bl (isiE "tuple" (pk i)))) (bl (bin opNe (frzP (callB fLen (consA (pk i) nilA))) (frzP (cst (.int 2))))) δ = some (true, δ) := by
  have isi := isi_tup h
  cases x with
  | tuple xs =>
    have := len_ne (k := 2) h
    rw [len_not_two hx] at this
    exact orT_f (notT_of (b := true) isi) this
  | none => exact orT_t (notT_of (b := false) isi)
  | bool b => exact orT_t (notT_of (b := false) isi)
  | int b => exact orT_t (notT_of (b := false) isi)
  | str b => exact orT_t (notT_of (b := false) isi)
  | list b => exact orT_t (notT_of (b := false) isi)
  | dict b => exact orT_t (notT_of (b := false) isi)
theorem is_two {δ : Ds} {i : Nat} {a b : PyData} (h : pk i δ = some (.v (.d (.tuple [a, b])), δ)) : orT (notT (bl (isiE "tuple" (pk i)))) (bl (bin opNe (frzP (callB fLen (consA (pk i) nilA))) (frzP (cst (.int 2))))) δ = some (false, δ) := by
  refine orT_f (δ1 := δ) (notT_of (b := true) (bl_of ?_)) (len_ne (k := 2) (xs := [a, b]) h)
  unfold isiE
  rw [h]
  rfl
theorem is_pair_any (n : Int) (x : PyData) : F_is_pair [.d (.int n), .d x] = some (.d (.bool (paB n x)), [none, none]) := by
  rcases pair_or x with ⟨a, b, rfl⟩ | hx
  · let δ0 : Ds := [some (.d (.int n)), some (.d (.tuple [a, b])), none, none]
    let δ : Ds := [some (.d (.int n)), some (.d (.tuple [a, b])), some (.d a), some (.d b)]
    have e1 : unpS (frzP (vr 1)) (tupG 2 (consG (nameG 2) (consG (nameG 3) nilG))) δ0 = some (.nx δ) := unpS_of rfl rfl
    have c1 : callE F_is_below 2 (consA (frzP (vr 0)) (consA (frzP (vr 2)) nilA)) δ = some (.d (.bool (okM n a)), δ) := callE_data [.d (.int n), .d a] rfl rfl (is_below_any n a) (Nat.le_refl 2)
    have c2 : callE F_is_below 2 (consA (frzP (vr 0)) (consA (frzP (vr 3)) nilA)) δ = some (.d (.bool (okM n b)), δ) := callE_data [.d (.int n), .d b] rfl rfl (is_below_any n b) (Nat.le_refl 2)
    show _ = some (S.d (.bool (okM n a && (okM n b && !(intOf a == intOf b)))), _)
    refine runF_rt (δ := δ) (seqS_of (ifS_f (is_two (δ := δ0) rfl) rfl) (seqS_of e1 (retS_of ?_))) rfl
    cases ha : okM n a with
    | false =>
      rw [ha] at c1
      exact andV_f c1
    | true =>
      rw [ha] at c1
      rw [Bool.true_and]
      refine andV_t c1 ?_
      cases hb : okM n b with
      | false =>
        rw [hb] at c2
        exact andV_f c2
      | true =>
        rw [hb] at c2
        rw [Bool.true_and]
        obtain ⟨ea, _⟩ := okM_int ha
        obtain ⟨eb, _⟩ := okM_int hb
        refine andV_t c2 (bin_of (p := .v (.d a)) (q := .v (.d b)) (δ1 := δ) rfl rfl rfl rfl ?_)
        generalize intOf a = i at ea
        generalize intOf b = j at eb
        subst ea eb
        exact opNe_int i j
  · rw [pa_none hx]
    exact runF_rt (δ := [some (.d (.int n)), some (.d x), none, none]) (seqS_rt (ifS_t (not_two rfl hx) (retS_of rfl))) rfl
theorem law_pair_any (n : Int) (x : PyData) : F__law_is_pair [.d x, .d (.int n)] = some (.d (.bool (paB n x)), [none, none]) := by
  rcases pair_or x with ⟨a, b, rfl⟩ | hx
  · let δ : Ds := [some (.d (.tuple [a, b])), some (.d (.int n)), none]
    have hlc := lcE_map (i := 2) (fi := seqI (vr 0)) (te := callE F__law_whole 3 (consA (frzP (vr 2)) (consA (frzP (cst (.int 0))) (consA (frzP (bin (opI2 iSub) (pk 1) (frzP (cst (.int 1))))) nilA)))) (δ := δ) (xs := [a, b]) (fun y => .bool (okM n y)) rfl (seqI_of rfl (.inr rfl)) (fun y hy => by
      let δ2 : Ds := [some (.d (.tuple [a, b])), some (.d (.int n)), some (.d y)]
      have hsub : bin (opI2 iSub) (pk 1) (frzP (cst (.int 1))) δ2 = some (.d (.int (n - 1)), δ2) := bin_I (i := n) (j := 1) rfl rfl rfl
      have := whole_any y 0 (n - 1)
      rw [wh_ok] at this
      exact callE_data [.d y, .d (.int 0), .d (.int (n - 1))] (consA_of rfl (consA_of rfl (consA_of (frzP_d hsub) rfl))) rfl this (Nat.le_refl 3)) (show 2 ≤ sizeLine by decide)
    have c1 := callB_of (g := fAll) (consA_of (frzP_l hlc) (rfl : nilA δ = some ([], δ))) rfl (fAll_map (okM n) [a, b])
    have e2 : [a, b].all (okM n) = (okM n a && okM n b) := by
      show (okM n a && (okM n b && true)) = _
      rw [Bool.and_true]
    rw [e2] at c1
    show _ = some (S.d (.bool (okM n a && (okM n b && !(intOf a == intOf b)))), _)
    refine runF_rt (δ := δ) (seqS_of (ifS_f (is_two (δ := δ) rfl) rfl) (retS_of ?_)) rfl
    rw [← Bool.and_assoc]
    cases hab : (okM n a && okM n b) with
    | false =>
      rw [hab] at c1
      exact andV_f c1
    | true =>
      rw [hab] at c1
      obtain ⟨ha, hb⟩ := Bool.and_eq_true_iff.mp hab
      rw [Bool.true_and]
      obtain ⟨ea, _⟩ := okM_int ha
      obtain ⟨eb, _⟩ := okM_int hb
      refine andV_t c1 ?_
      generalize intOf a = i at ea
      generalize intOf b = j at eb
      subst ea eb
      exact bin_of (g := opNe) (frzP_d (bin_of rfl rfl rfl rfl rfl)) (frzP_d (bin_of rfl rfl rfl rfl rfl)) rfl rfl (opNe_int i j)
  · rw [pa_none hx]
    exact runF_rt (δ := [some (.d x), some (.d (.int n)), none]) (seqS_rt (ifS_t (not_two rfl hx) (retS_of rfl))) rfl
end K35

namespace K35
open PySem PySem.Spec PyProof.Rows L2 DL DLS

abbrev intsD (ms : List Int) : List PyData := ms.map PyData.int
abbrev tupD (ms : List Int) : PyData := .tuple (intsD ms)
def intsOf : PyData → List Int
  | .tuple ds => ds.map intOf
  | _ => []
theorem intsOf_tup (ms : List Int) : intsOf (tupD ms) = ms := by
  show (ms.map PyData.int).map intOf = ms
  rw [List.map_map]
  exact List.map_id ms
abbrev RA := List Int × List Int
def enc (p : RA) : PyData := .tuple [tupD p.1, tupD p.2]
def dec : PyData → RA
  | .tuple [a, b] => (intsOf a, intsOf b)
  | _ => ([], [])
theorem dec_enc (p : RA) : dec (enc p) = p := by
  show (intsOf (tupD p.1), intsOf (tupD p.2)) = p
  rw [intsOf_tup, intsOf_tup]
def kfI (x : PyData) : List Key := keyI (intsOf x)
theorem lay0 : ∀ ms : List Int, PyData.canLayAll0 (intsD ms) = true
  | [] => rfl
  | i :: ms => by
    show (PyData.canLay0 (.int i) && PyData.canLayAll0 (intsD ms)) = true
    rw [lay0 ms]
    rfl
theorem lay1 : ∀ rs : List (List Int), PyData.canLayAll0 (rs.map tupD) = true
  | [] => rfl
  | r :: rs => by
    show (PyData.canLayAll0 (intsD r) && PyData.canLayAll0 (rs.map tupD)) = true
    rw [lay1 rs, lay0 r]
    rfl
theorem depth0 : ∀ ms : List Int, PyData.depthAll (intsD ms) = 0
  | [] => rfl
  | i :: ms => by
    show max (PyData.depth (.int i)) (PyData.depthAll (intsD ms)) = 0
    rw [depth0 ms]
    rfl
theorem depth1 : ∀ rs : List (List Int), PyData.depthAll (rs.map tupD) ≤ 1
  | [] => Nat.zero_le _
  | r :: rs => by
    show max (PyData.depthAll (intsD r) + 1) (PyData.depthAll (rs.map tupD)) ≤ 1
    rw [depth0 r]
    have := depth1 rs
    omega
theorem shaped1 (rs : List (List Int)) : SeqAt.shaped (.tuple (rs.map tupD)) = true := by
  unfold SeqAt.shaped
  show (PyData.canLayAll0 (rs.map tupD) && decide (PyData.depthAll (rs.map tupD) + 1 ≤ 64)) = true
  have := depth1 rs
  rw [lay1, decide_eq_true (by omega)]
  rfl
theorem shapedL (rs : List (List Int)) : SeqAt.shaped (.list (rs.map tupD)) = true := by
  unfold SeqAt.shaped
  show (PyData.canLayAll0 (rs.map tupD) && decide (PyData.depthAll (rs.map tupD) + 1 ≤ 64)) = true
  have := depth1 rs
  rw [lay1, decide_eq_true (by omega)]
  rfl
def LtP (a b : List Int) : Prop := lexL a b = true
theorem lt_ne {a b : List Int} (h : LtP a b) : a ≠ b := fun e => by
  subst e
  have h' : lexL a a = true := h
  have := lexL_asym a a h'
  rw [h'] at this
  cases this
theorem sort_of {rs fs : List (List Int)} (h : rs.Pairwise LtP) (hf : fs.Nodup) (hm : ∀ r, r ∈ fs ↔ r ∈ rs) : sortT fs = rs := by
  have hp : fs.Perm rs := (List.perm_ext_iff_of_nodup hf (h.imp fun h => lt_ne h)).mpr hm
  refine perm_uniq (R := fun a b => lexL b a = false) (fun a b h1 h2 => lexL_anti a b h2 h1) ((isort_perm fs).trans hp) (isort_sorted (fun a b => lexL_asym a b) (fun a b c => lexL_tr a b c) _) (h.imp fun h => lexL_asym _ _ h)
def risB (rs : List (List Int)) : Bool := (rs.zip (rs.drop 1)).all fun p => lexL p.1 p.2
theorem zip_next : ∀ {rs : List (List Int)}, rs.Pairwise LtP → risB rs = true
  | [], _ => rfl
  | [_], _ => rfl
  | a :: b :: rs, h => by
    have h1 := (List.pairwise_cons.mp h).1 b List.mem_cons_self
    have ih := zip_next (List.pairwise_cons.mp h).2
    show (lexL a b && risB (b :: rs)) = true
    rw [ih, Bool.and_true]
    exact h1
theorem lt_tup (a b : List Int) : opLtX (.d (tupD a)) (.d (tupD b)) = some (.d (.bool (lexL a b))) := by
  show ((intsP (intsD a)).bind fun ns => (intsP (intsD b)).map fun ms => S.d (.bool (lexL ns ms))) = _
  rw [intsP_map, intsP_map]
  rfl
theorem zip_enc (rs : List (List Int)) : zipD (rs.map tupD) ((rs.map tupD).drop 1) = (rs.zip (rs.drop 1)).map enc := by
  unfold zipD
  rw [← List.map_drop, List.zip_map, List.map_map]
  rfl
theorem rise_all (rs : List (List Int)) : ((rs.zip (rs.drop 1)).map enc).all (fun x => lexL (dec x).1 (dec x).2) = risB rs := by
  rw [List.all_map]
  unfold risB
  congr 1
  funext p
  show lexL (dec (enc p)).1 (dec (enc p)).2 = _
  rw [dec_enc]
theorem zip_len (rs : List (List Int)) : ((rs.zip (rs.drop 1)).map enc).length ≤ rs.length := by
  rw [List.length_map, List.length_zip]
  exact Nat.min_le_left _ _
theorem are_rising_eq (rs : List (List Int)) (hl : rs.length ≤ 1000) : F_are_rising [.d (.tuple (rs.map tupD))] = some (.d (.bool (risB rs)), [none]) := by
  refine runF_rt (δ := [some (.d (.tuple (rs.map tupD))), none, none]) ?_ rfl
  have hsl : slE (pk 0) (someP (frzP (cst (.int 1)))) noP [some (.d (.tuple (rs.map tupD))), none, none] = some (.d (.tuple ((rs.map tupD).drop 1)), [some (.d (.tuple (rs.map tupD))), none, none]) := by
    cases rs with
    | nil => rfl
    | cons r rs =>
      show some (S.d (.tuple (DL.cutD _ (some ((1 : Nat) : Int)) none)), _) = _
      rw [cut_hi _ 1 (by rw [List.map_cons, List.length_cons]; omega)]
  have hz : zipX (consA (frzP (vr 0)) (consA (frzP (slE (pk 0) (someP (frzP (cst (.int 1)))) noP)) nilA)) [some (.d (.tuple (rs.map tupD))), none, none] = some ((rs.zip (rs.drop 1)).map enc, [some (.d (.tuple (rs.map tupD))), none, none]) := by
    have ha : consA (frzP (vr 0)) (consA (frzP (slE (pk 0) (someP (frzP (cst (.int 1)))) noP)) nilA) [some (.d (.tuple (rs.map tupD))), none, none] = some ([.v (.d (.tuple (rs.map tupD))), .v (.d (.tuple ((rs.map tupD).drop 1)))], [some (.d (.tuple (rs.map tupD))), none, none]) := consA_of rfl (consA_of (frzP_d hsl) rfl)
    unfold zipX
    rw [ha]
    show some (zipD _ _, _) = _
    rw [zip_enc]
  refine retS_of (callB_of (consA_of (frzP_l (lcE_all (fun x => .bool (lexL (dec x).1 (dec x).2)) hz rfl rfl (fun x hx => ?_) (Nat.le_trans (zip_len rs) (Nat.le_trans hl (by decide))))) rfl) rfl ?_)
  · obtain ⟨p, _, rfl⟩ := List.mem_map.mp hx
    refine ⟨[some (.d (.tuple (rs.map tupD))), some (.d (tupD p.1)), some (.d (tupD p.2))], rfl, rfl, rfl, .d (.bool (lexL p.1 p.2)), bin_of rfl rfl rfl rfl (lt_tup p.1 p.2), ?_⟩
    rw [dec_enc]
    rfl
  · have := fAll_map (fun x => lexL (dec x).1 (dec x).2) ((rs.zip (rs.drop 1)).map enc)
    rw [rise_all] at this
    exact this
def keptT (rs : List (List Int)) : Tb := putAll kfI (fun _ => .bool true) (rs.map tupD) []
theorem kept_has (rs : List (List Int)) (r : List Int) : hasK (keptT rs) (keyI r) = decide (r ∈ rs) := by
  unfold keptT
  rw [putAll_has, List.any_map]
  show (false || _) = _
  rw [Bool.false_or, Bool.eq_iff_iff, List.any_eq_true, decide_eq_true_iff]
  constructor
  · rintro ⟨q, hq, e⟩
    have e' : decide (keyI (intsOf (tupD q)) = keyI r) = true := e
    rw [intsOf_tup] at e'
    have := keyI_inj (of_decide_eq_true e')
    rw [← this]
    exact hq
  · intro h
    refine ⟨r, h, ?_⟩
    show decide (keyI (intsOf (tupD r)) = keyI r) = true
    rw [intsOf_tup]
    exact decide_eq_true rfl
theorem eqv_ints : ∀ a b : List Int, PyData.eqv (tupD a) (tupD b) = decide (a = b)
  | [], [] => rfl
  | [], _ :: _ => rfl
  | _ :: _, [] => rfl
  | x :: a, y :: b => by
    have ih := eqv_ints a b
    show ((x == y) && PyData.eqv (tupD a) (tupD b)) = _
    rw [ih]
    by_cases h1 : x = y <;> by_cases h2 : a = b <;> simp [h1, h2]
theorem shaped0 (l : List Int) : SeqAt.shaped (tupD l) = true := by
  unfold SeqAt.shaped
  show (PyData.canLayAll0 (intsD l) && decide (PyData.depthAll (intsD l) + 1 ≤ 64)) = true
  rw [lay0, depth0]
  rfl
theorem in_rowsT (S : List (List Int)) (l : List Int) : opIn false (.d (tupD l)) (.d (.tuple (S.map tupD))) = some (.d (.bool (decide (l ∈ S)))) := by
  show (if (SeqAt.shaped (tupD l) && PyData.canLayAll0 (S.map tupD)) = true then some (DL.S.d (.bool (false ^^ (S.map tupD).any fun z => PyData.eqv z (tupD l)))) else none) = _
  rw [shaped0, lay1]
  simp only [Bool.and_self, if_true, Bool.false_xor, List.any_map]
  congr 3
  rw [Bool.eq_iff_iff, List.any_eq_true, decide_eq_true_iff]
  constructor
  · rintro ⟨q, hq, e⟩
    have e' : PyData.eqv (tupD q) (tupD l) = true := e
    rw [eqv_ints] at e'
    rw [← of_decide_eq_true e']
    exact hq
  · intro h
    exact ⟨l, h, by show PyData.eqv (tupD l) (tupD l) = true; rw [eqv_ints]; exact decide_eq_true rfl⟩
theorem eqv_rows : ∀ a b : List (List Int), PyData.eqv (.list (a.map tupD)) (.list (b.map tupD)) = decide (a = b)
  | [], [] => rfl
  | [], _ :: _ => rfl
  | _ :: _, [] => rfl
  | x :: a, y :: b => by
    have ih := eqv_rows a b
    show (PyData.eqv (tupD x) (tupD y) && PyData.eqv (.list (a.map tupD)) (.list (b.map tupD))) = _
    rw [ih, eqv_ints]
    by_cases h1 : x = y <;> by_cases h2 : a = b <;> simp [h1, h2]
theorem ne_rows (a b : List (List Int)) : opNe (.d (.list (a.map tupD))) (.d (.list (b.map tupD))) = some (.d (.bool (!decide (a = b)))) := by
  show (if (SeqAt.shaped (.list (a.map tupD)) && SeqAt.shaped (.list (b.map tupD))) = true then some (S.d (.bool (!PyData.eqv (.list (a.map tupD)) (.list (b.map tupD))))) else none) = _
  rw [shapedL, shapedL, eqv_rows]
  rfl
end K35

namespace K35
open PySem PySem.Spec PyProof.Rows L2 DL DLS

/-! rising -/
theorem lt_tr {a b c : List Int} (h : LtP a b) (k : LtP b c) : LtP a c := by
  cases e : lexL a c with
  | true => exact e
  | false =>
    have := lexL_tr c a b e (lexL_asym a b h)
    have k' : lexL b c = true := k
    rw [this] at k'
    cases k'
theorem rise_pw : ∀ {rs : List (List Int)}, risB rs = true → rs.Pairwise LtP
  | [], _ => List.Pairwise.nil
  | [a], _ => List.pairwise_singleton _ _
  | a :: b :: rs, h => by
    obtain ⟨h1, h2⟩ := Bool.and_eq_true_iff.mp (show (lexL a b && risB (b :: rs)) = true from h)
    have ih := rise_pw h2
    refine List.pairwise_cons.mpr ⟨fun c hc => ?_, ih⟩
    rcases List.mem_cons.mp hc with rfl | hc
    · exact h1
    · exact lt_tr h1 ((List.pairwise_cons.mp ih).1 c hc)
/-- two alike beside one another -/
def adjB (rs : List (List Int)) : Bool := (rs.zip (rs.drop 1)).any fun p => decide (p.1 = p.2)
theorem zip_adj {rs : List (List Int)} {R : List Int → List Int → Prop} (h : rs.Pairwise R) {p : List Int × List Int} (hp : p ∈ rs.zip (rs.drop 1)) : R p.1 p.2 := by
  obtain ⟨i, hi⟩ := List.mem_iff_getElem?.mp hp
  obtain ⟨e1, e2⟩ := List.getElem?_zip_eq_some.mp hi
  rw [List.getElem?_drop] at e2
  obtain ⟨h1, f1⟩ := List.getElem?_eq_some_iff.mp e1
  obtain ⟨h2, f2⟩ := List.getElem?_eq_some_iff.mp e2
  rw [← f1, ← f2]
  exact List.pairwise_iff_getElem.mp h i (1 + i) h1 h2 (by omega)
theorem rise_eq (rs : List (List Int)) : risB rs = (decide (rs = sortT rs) && !adjB rs) := by
  rw [Bool.eq_iff_iff]
  constructor
  · intro h
    have pw := rise_pw h
    have nd : rs.Nodup := pw.imp fun h => lt_ne h
    have e := sort_of pw nd fun _ => Iff.rfl
    have ha : adjB rs = false := by
      cases q : adjB rs with
      | false => rfl
      | true =>
        obtain ⟨p, hp, e2⟩ := List.any_eq_true.mp q
        exact absurd (of_decide_eq_true e2) (lt_ne (zip_adj pw hp))
    rw [ha, decide_eq_true e.symm]
    rfl
  · intro h
    obtain ⟨h1, h2⟩ := Bool.and_eq_true_iff.mp h
    have e : rs = sortT rs := of_decide_eq_true h1
    have ha : adjB rs = false := by simpa using h2
    have pw : rs.Pairwise (fun a b => lexL b a = false) := by
      rw [e]
      exact isort_sorted (fun a b => lexL_asym a b) (fun a b c => lexL_tr a b c) rs
    refine List.all_eq_true.mpr fun p hp => ?_
    have h3 := zip_adj pw hp
    have h4 : p.1 ≠ p.2 := fun z => by
      have : adjB rs = true := List.any_eq_true.mpr ⟨p, hp, decide_eq_true z⟩
      rw [ha] at this
      cases this
    cases q : lexL p.1 p.2 with
    | true => rfl
    | false => exact absurd (lexL_anti _ _ q h3) h4
/-! one way -/
def sw2 (r : List Int) : List Int := [r.getD 1 0, r.getD 0 0]
def twoB (r : List Int) : Prop := ∃ x y, r = [x, y]
def wayB (rs : List (List Int)) : Bool := rs.all fun r => !decide (sw2 r ∈ rs)
theorem one_way_eq {rs : List (List Int)} (h2 : ∀ r ∈ rs, twoB r) (hl : rs.length ≤ 1000) : F_are_one_way [.d (.tuple (rs.map tupD))] = some (.d (.bool (wayB rs)), [none]) := by
  have hb := line_big
  let T : C := .t ⟨false, keptT rs⟩
  let δ : Ds := [some (.d (.tuple (rs.map tupD))), some (.o T), none, none, none]
  refine runF_rt (δ := δ) ?_ rfl
  have h1 : dcE false [2] (seqI (vr 0)) (nameG 2) yesT (vr 2) (cst (.bool true)) [some (.d (.tuple (rs.map tupD))), none, none, none, none] = some (.o T, [some (.d (.tuple (rs.map tupD))), none, none, none, none]) := by
    refine dcE_gen kfI (fun _ => .bool true) rfl rfl rfl (fun x hx => ?_) (by rw [List.length_map]; omega)
    obtain ⟨r, _, rfl⟩ := List.mem_map.mp hx
    refine ⟨_, tupD r, .d (.bool true), rfl, rfl, rfl, rfl, ?_, rfl, rfl⟩
    rw [keyS_ints]
    show _ = some (false, keyI (intsOf (tupD r)))
    rw [intsOf_tup]
  refine seqS_of (setS_of h1) ?_
  show retS _ δ = _
  have hlc := lcE_all (vs := [3, 4]) (fi := seqI (vr 0)) (δ := δ) (δ1 := δ) (xs := rs.map tupD) (g := tupG 2 (consG (nameG 3) (consG (nameG 4) nilG))) (te := bin (opInX true) (frzP (tupE (consA (frzP (vr 4)) (consA (frzP (vr 3)) nilA)))) (pk 1)) (fun x => .bool (!decide (sw2 (intsOf x) ∈ rs))) rfl rfl rfl (fun x hx => by
    obtain ⟨r, hr, rfl⟩ := List.mem_map.mp hx
    obtain ⟨a, b, rfl⟩ := h2 r hr
    refine ⟨[some (.d (.tuple (rs.map tupD))), some (.o T), none, some (.d (.int a)), some (.d (.int b))], rfl, rfl, rfl, .d (.bool (!decide ([b, a] ∈ rs))), ?_, ?_⟩
    · have t := in_tab (neg := true) (r := [b, a]) (s := .o T) (kvs := keptT rs) rfl
      rw [kept_has, Bool.true_xor] at t
      exact bin_of (frzP_d (tupE_of (ds := [.int b, .int a]) rfl rfl (show 2 ≤ sizeLine by decide))) rfl rfl rfl t
    · rw [intsOf_tup]
      rfl) (by rw [List.length_map]; omega)
  refine retS_of (callB_of (g := fAll) (consA_of (frzP_l hlc) rfl) rfl ?_)
  have := fAll_map (fun x => !decide (sw2 (intsOf x) ∈ rs)) (rs.map tupD)
  rw [List.all_map] at this
  have e : ((fun x => !decide (sw2 (intsOf x) ∈ rs)) ∘ tupD) = fun r => !decide (sw2 r ∈ rs) := funext fun r => by
    show (!decide (sw2 (intsOf (tupD r)) ∈ rs)) = _
    rw [intsOf_tup]
  rw [e] at this
  exact this
/-! a lot? -/
def rowsOf : PyData → List (List Int)
  | .tuple xs => xs.map intsOf
  | _ => []
def lotB : PyData → Bool
  | .tuple [a, .tuple ys] => okM 25 a && (ys.all (paB (intOf a)) && (risB (ys.map intsOf) && wayB (ys.map intsOf)))
  | _ => false
theorem pa_row {n : Int} {x : PyData} (h : paB n x = true) : x = tupD (intsOf x) ∧ twoB (intsOf x) := by
  rcases pair_or x with ⟨a, b, rfl⟩ | hx
  · obtain ⟨h1, h2⟩ := Bool.and_eq_true_iff.mp (show (okM n a && (okM n b && _)) = true from h)
    obtain ⟨h2, h3⟩ := Bool.and_eq_true_iff.mp h2
    obtain ⟨ea, _⟩ := okM_int h1
    obtain ⟨eb, _⟩ := okM_int h2
    refine ⟨?_, intOf a, intOf b, rfl⟩
    show PyData.tuple [a, b] = .tuple [.int (intOf a), .int (intOf b)]
    rw [← ea, ← eb]
  · rw [pa_none hx] at h
    cases h
theorem pa_rows {n : Int} {ys : List PyData} (h : ys.all (paB n) = true) : ys = (ys.map intsOf).map tupD ∧ ∀ r ∈ ys.map intsOf, twoB r := by
  have hx := List.all_eq_true.mp h
  constructor
  · rw [List.map_map]
    conv => lhs; rw [← List.map_id ys]
    exact List.map_congr_left fun x hx' => (pa_row (hx x hx')).1
  · intro r hr
    obtain ⟨x, hx', rfl⟩ := List.mem_map.mp hr
    exact (pa_row (hx x hx')).2
theorem lot_none {x : PyData} (h : ∀ w t, x ≠ .tuple [w, t]) : lotB x = false := by
  unfold lotB
  split
  · rename_i a ys
    exact absurd rfl (h a (.tuple ys))
  · rfl
theorem lot_not {a b : PyData} (h : ∀ ys, b ≠ .tuple ys) : lotB (.tuple [a, b]) = false := by
  cases b with
  | tuple ys => exact absurd rfl (h ys)
  | _ => rfl
abbrev L4 (x : PyData) (v1 v2 : Option S) : Ds := [some (.d x), v1, v2, none]
theorem is_lot_any {x : PyData} (hl : ∀ a ys, x = .tuple [a, .tuple ys] → ys.length ≤ 1000) : F_is_lot [.d x] = some (.d (.bool (lotB x)), [none]) := by
  have hb := line_big
  rcases pair_or x with ⟨a, b, rfl⟩ | hx
  · let δ0 : Ds := L4 (.tuple [a, b]) none none
    let δ : Ds := L4 (.tuple [a, b]) (some (.d a)) (some (.d b))
    have e1 : unpS (frzP (vr 0)) (tupG 2 (consG (nameG 1) (consG (nameG 2) nilG))) δ0 = some (.nx δ) := unpS_of rfl rfl
    have c1 : callE F_is_below 2 (consA (frzP (bin opAdd (frzP (cst (.int 24))) (frzP (cst (.int 1))))) (consA (frzP (vr 1)) nilA)) δ = some (.d (.bool (okM 25 a)), δ) := callE_data [.d (.int 25), .d a] rfl rfl (is_below_any 25 a) (Nat.le_refl 2)
    have t1 := isi_tup (i := 2) (δ := δ) (x := b) rfl
    have out : ∀ {t : TEV}, t δ = some (true, δ) → ifS t (retS (cst (.bool false))) nxS δ = some (.rt (.d (.bool false)) δ) := fun h => ifS_t h (retS_of rfl)
    cases ha : okM 25 a with
    | false =>
      rw [ha] at c1
      have : lotB (.tuple [a, b]) = false := by
        cases b with
        | tuple ys =>
          show (okM 25 a && _) = false
          rw [ha]
          rfl
        | _ => rfl
      rw [this]
      exact runF_rt (δ := δ) (seqS_of (ifS_f (is_two (δ := δ0) rfl) rfl) (seqS_of e1 (seqS_rt (out (orT_t (notT_of (b := false) (bl_of c1))))))) rfl
    | true =>
      rw [ha] at c1
      by_cases hb' : ∃ ys, b = .tuple ys
      · obtain ⟨ys, rfl⟩ := hb'
        have hyl := hl a ys rfl
        obtain ⟨ea, _⟩ := okM_int ha
        have hlc := lcE_map (i := 3) (fi := seqI (vr 2)) (te := callE F_is_pair 2 (consA (frzP (vr 1)) (consA (frzP (vr 3)) nilA))) (δ := δ) (xs := ys) (fun y => .bool (paB (intOf a) y)) rfl (seqI_of rfl (.inr rfl)) (fun y hy => callE_data [.d (.int (intOf a)), .d y] (by
          show some ([PV.v (.d a), PV.v (.d y)], _) = some ([PV.v (.d (.int (intOf a))), PV.v (.d y)], _)
          rw [← ea]) rfl (is_pair_any (intOf a) y) (Nat.le_refl 2)) (by omega)
        have c2 := callB_of (g := fAll) (consA_of (frzP_l hlc) (rfl : nilA δ = some ([], δ))) rfl (fAll_map (paB (intOf a)) ys)
        have t12 : orT (notT (bl (callE F_is_below 2 (consA (frzP (bin opAdd (frzP (cst (.int 24))) (frzP (cst (.int 1))))) (consA (frzP (vr 1)) nilA))))) (notT (bl (isiE "tuple" (pk 2)))) δ = some (false, δ) := orT_f (notT_of (b := true) (bl_of c1)) (notT_of (b := true) t1)
        show _ = some (S.d (.bool (okM 25 a && (ys.all (paB (intOf a)) && (risB (ys.map intsOf) && wayB (ys.map intsOf))))), _)
        rw [ha, Bool.true_and]
        cases hall : ys.all (paB (intOf a)) with
        | false =>
          rw [hall] at c2
          exact runF_rt (δ := δ) (seqS_of (ifS_f (is_two (δ := δ0) rfl) rfl) (seqS_of e1 (seqS_of (ifS_f t12 rfl) (seqS_rt (out (notT_of (b := false) (bl_of c2))))))) rfl
        | true =>
          rw [hall] at c2
          rw [Bool.true_and]
          obtain ⟨ey, h2⟩ := pa_rows hall
          have hrl : (ys.map intsOf).length ≤ 1000 := by rw [List.length_map]; exact hyl
          have k1 := are_rising_eq (ys.map intsOf) hrl
          have k2 := one_way_eq h2 hrl
          rw [← ey] at k1 k2
          have d1 : callE F_are_rising 1 (consA (frzP (vr 2)) nilA) δ = some (.d (.bool (risB (ys.map intsOf))), δ) := callE_data [.d (.tuple ys)] rfl rfl k1 (Nat.le_refl 1)
          have d2 : callE F_are_one_way 1 (consA (frzP (vr 2)) nilA) δ = some (.d (.bool (wayB (ys.map intsOf))), δ) := callE_data [.d (.tuple ys)] rfl rfl k2 (Nat.le_refl 1)
          refine runF_rt (δ := δ) (seqS_of (ifS_f (is_two (δ := δ0) rfl) rfl) (seqS_of e1 (seqS_of (ifS_f t12 rfl) (seqS_of (ifS_f (notT_of (b := true) (bl_of c2)) rfl) (retS_of ?_))))) rfl
          cases hr : risB (ys.map intsOf) with
          | false =>
            rw [hr] at d1
            exact andV_f d1
          | true =>
            rw [hr] at d1
            rw [Bool.true_and]
            exact andV_t d1 d2
      · have hb2 : ∀ ys, b ≠ .tuple ys := fun ys e => hb' ⟨ys, e⟩
        rw [lot_not hb2]
        have hf : isTupB b = false := by
          cases b with
          | tuple ys => exact absurd rfl (hb2 ys)
          | _ => rfl
        rw [hf] at t1
        exact runF_rt (δ := δ) (seqS_of (ifS_f (is_two (δ := δ0) rfl) rfl) (seqS_of e1 (seqS_rt (out (orT_f (notT_of (b := true) (bl_of c1)) (notT_of (b := false) t1)))))) rfl
  · rw [lot_none hx]
    exact runF_rt (δ := L4 x none none) (seqS_rt (ifS_t (not_two rfl hx) (retS_of rfl))) rfl
end K35

namespace K35
open PySem PySem.Spec PyProof.Rows L2 DL DLS

/-! the law's look at lots -/
def posB : PyData → Bool
  | .tuple [a, _] => pGt (intOf a) 0
  | _ => false
theorem wh_pos (a : PyData) : whB 1 24 a = (okM 25 a && pGt (intOf a) 0) := by
  cases a with
  | int m =>
    show (decide (1 ≤ m) && decide (m ≤ 24)) = ((decide (0 ≤ m) && decide (m < 25)) && decide (0 < m))
    rw [Bool.eq_iff_iff]
    simp only [Bool.and_eq_true, decide_eq_true_eq]
    omega
  | _ => rfl
theorem opEq_int (a b : Int) : opEq (.d (.int a)) (.d (.int b)) = some (.d (.bool (a == b))) := rfl
theorem eq_tup (a b : List Int) (ha : a.length ≤ 1000) : opEq (.d (tupD a)) (.d (tupD b)) = some (.d (.bool (decide (a = b)))) := by
  show (if (SeqAt.shaped (tupD a) && SeqAt.shaped (tupD b)) = true then some (S.d (.bool (PyData.eqv (tupD a) (tupD b)))) else none) = _
  rw [shaped0, shaped0, eqv_ints]
  rfl
abbrev L8 (x : PyData) (v1 v2 : Option S) : Ds := [some (.d x), v1, v2, none, none, none, none, none]
theorem cut_one (xs : List PyData) : DL.cutD xs (some 1) none = xs.drop 1 := by
  cases xs with
  | nil => rfl
  | cons a b => exact cut_hi (a :: b) 1 (by rw [List.length_cons]; omega)
theorem law_lot_any {x : PyData} (hl : ∀ a ys, x = .tuple [a, .tuple ys] → ys.length ≤ 1000) : F__law_is_lot [.d x] = some (.d (.bool (lotB x && posB x)), [none]) := by
  have hb := line_big
  rcases pair_or x with ⟨a, b, rfl⟩ | hx
  · let δ0 : Ds := L8 (.tuple [a, b]) none none
    let δ : Ds := L8 (.tuple [a, b]) (some (.d a)) (some (.d b))
    have hix : bin opIx (pk 0) (frzP (cst (.int 0))) δ0 = some (.d a, δ0) := bin_of rfl rfl rfl rfl rfl
    have c0 : callE F__law_whole 3 (consA (frzP (bin opIx (pk 0) (frzP (cst (.int 0))))) (consA (frzP (cst (.int 1))) (consA (frzP (cst (.int 24))) nilA))) δ0 = some (.d (.bool (whB 1 24 a)), δ0) := callE_data [.d a, .d (.int 1), .d (.int 24)] (consA_of (frzP_d hix) rfl) rfl (whole_any a 1 24) (Nat.le_refl 3)
    have t0 : orT (notT (bl (isiE "tuple" (pk 0)))) (orT (bl (bin opNe (frzP (callB fLen (consA (pk 0) nilA))) (frzP (cst (.int 2))))) (notT (bl (callE F__law_whole 3 (consA (frzP (bin opIx (pk 0) (frzP (cst (.int 0))))) (consA (frzP (cst (.int 1))) (consA (frzP (cst (.int 24))) nilA))))))) δ0 = some (!whB 1 24 a, δ0) :=
      orT_f (δ1 := δ0) (notT_of (b := true) (isi_tup (x := .tuple [a, b]) rfl)) (orT_f (δ1 := δ0) (len_ne (k := 2) (xs := [a, b]) rfl) (notT_of (bl_of c0)))
    have e1 : unpS (frzP (vr 0)) (tupG 2 (consG (nameG 1) (consG (nameG 2) nilG))) δ0 = some (.nx δ) := unpS_of rfl rfl
    have t1 := isi_tup (i := 2) (δ := δ) (x := b) rfl
    have out : ∀ {t : TEV}, t δ = some (true, δ) → ifS t (retS (cst (.bool false))) nxS δ = some (.rt (.d (.bool false)) δ) := fun h => ifS_t h (retS_of rfl)
    rw [wh_pos] at t0
    show _ = some (S.d (.bool (lotB (.tuple [a, b]) && pGt (intOf a) 0)), _)
    cases ha : (okM 25 a && pGt (intOf a) 0) with
    | false =>
      rw [ha] at t0
      have : (lotB (.tuple [a, b]) && pGt (intOf a) 0) = false := by
        cases b with
        | tuple ys =>
          show ((okM 25 a && _) && _) = false
          cases q : okM 25 a with
          | false => rfl
          | true =>
            rw [q, Bool.true_and] at ha
            rw [ha, Bool.and_false]
        | _ => rfl
      rw [this]
      exact runF_rt (δ := δ0) (seqS_rt (ifS_t t0 (retS_of rfl))) rfl
    | true =>
      rw [ha] at t0
      obtain ⟨h25, hpos⟩ := Bool.and_eq_true_iff.mp ha
      rw [hpos, Bool.and_true]
      by_cases hb' : ∃ ys, b = .tuple ys
      · obtain ⟨ys, rfl⟩ := hb'
        have hyl := hl a ys rfl
        obtain ⟨ea, _⟩ := okM_int h25
        have hlc := lcE_map (i := 3) (fi := seqI (vr 2)) (te := callE F__law_is_pair 2 (consA (frzP (vr 3)) (consA (frzP (vr 1)) nilA))) (δ := δ) (xs := ys) (fun y => .bool (paB (intOf a) y)) rfl (seqI_of rfl (.inr rfl)) (fun y hy => callE_data [.d y, .d (.int (intOf a))] (by
          show some ([PV.v (.d y), PV.v (.d a)], _) = some ([PV.v (.d y), PV.v (.d (.int (intOf a)))], _)
          rw [← ea]) rfl (law_pair_any (intOf a) y) (Nat.le_refl 2)) (by omega)
        have c2 := callB_of (g := fAll) (consA_of (frzP_l hlc) (rfl : nilA δ = some ([], δ))) rfl (fAll_map (paB (intOf a)) ys)
        have t12 : orT (notT (bl (isiE "tuple" (pk 2)))) (notT (bl (callB fAll (consA (frzP (lcE [3] (seqI (vr 2)) (nameG 3) yesT (callE F__law_is_pair 2 (consA (frzP (vr 3)) (consA (frzP (vr 1)) nilA))))) nilA)))) δ = some (!ys.all (paB (intOf a)), δ) := orT_f (δ1 := δ) (notT_of (b := true) t1) (notT_of (bl_of c2))
        show _ = some (S.d (.bool (okM 25 a && (ys.all (paB (intOf a)) && (risB (ys.map intsOf) && wayB (ys.map intsOf))))), _)
        rw [h25, Bool.true_and]
        cases hall : ys.all (paB (intOf a)) with
        | false =>
          rw [hall] at t12
          exact runF_rt (δ := δ) (seqS_of (ifS_f t0 rfl) (seqS_of e1 (seqS_rt (out t12)))) rfl
        | true =>
          rw [hall] at t12
          rw [Bool.true_and]
          obtain ⟨ey, h2⟩ := pa_rows hall
          have hrl : (ys.map intsOf).length ≤ 1000 := by rw [List.length_map]; exact hyl
          generalize ys.map intsOf = rs at ey h2 hrl
          clear hlc c2 hall hyl
          subst ey
          rw [rise_eq]
          have hls : callB fList (consA (pk 2) nilA) δ = some (.o (.l (rs.map tupD)), δ) := callB_of (ss := [.d (.tuple (rs.map tupD))]) rfl rfl rfl
          have hst : callB fSortedTT (consA (pk 2) nilA) δ = some (.o (.l ((sortT rs).map tupD)), δ) := by
            refine callB_of (g := fSortedTT) (δ1 := δ) (ss := [.d (.tuple (rs.map tupD))]) rfl rfl ?_
            show ((rowsP (rs.map tupI)).bind fun rs => if rs.length < 2 ∨ (rs.all fun r => !r.isEmpty) = true then some (S.o (.l ((sortT rs).map tupI))) else none) = _
            rw [rowsP_map]
            show (if rs.length < 2 ∨ (rs.all fun r => !r.isEmpty) = true then some (S.o (.l ((sortT rs).map tupI))) else none) = _
            rw [if_pos (.inr (List.all_eq_true.mpr fun r hr => by
              obtain ⟨x, y, rfl⟩ := h2 r hr
              rfl))]
          have ts : bl (bin opNe (frzP (callB fList (consA (pk 2) nilA))) (frzP (callB fSortedTT (consA (pk 2) nilA)))) δ = some (!decide (rs = sortT rs), δ) := bl_of (bin_of (frzP_l hls) (frzP_l hst) rfl rfl (ne_rows _ _))
          have hsl : slE (pk 2) (someP (frzP (cst (.int 1)))) noP δ = some (.d (.tuple ((rs.map tupD).drop 1)), δ) := by
            show some (S.d (.tuple (DL.cutD (rs.map tupD) (some 1) none)), _) = _
            rw [cut_one]
          have hz : zipX (consA (frzP (vr 2)) (consA (frzP (slE (pk 2) (someP (frzP (cst (.int 1)))) noP)) nilA)) δ = some ((rs.zip (rs.drop 1)).map enc, δ) := by
            have ha : consA (frzP (vr 2)) (consA (frzP (slE (pk 2) (someP (frzP (cst (.int 1)))) noP)) nilA) δ = some ([.v (.d (.tuple (rs.map tupD))), .v (.d (.tuple ((rs.map tupD).drop 1)))], δ) := consA_of rfl (consA_of (frzP_d hsl) rfl)
            unfold zipX
            rw [ha]
            show some (zipD _ _, _) = _
            rw [zip_enc]
          have hadj : callB fAny (consA (frzP (lcE [4, 5] (zipX (consA (frzP (vr 2)) (consA (frzP (slE (pk 2) (someP (frzP (cst (.int 1)))) noP)) nilA))) (tupG 2 (consG (nameG 4) (consG (nameG 5) nilG))) yesT (bin opEq (pk 4) (pk 5)))) nilA) δ = some (.d (.bool (adjB rs)), δ) := by
            refine callB_of (g := fAny) (consA_of (frzP_l (lcE_all (fun x => .bool (decide ((dec x).1 = (dec x).2))) hz rfl rfl (fun x hx => ?_) (Nat.le_trans (zip_len _) (by omega)))) (rfl : nilA δ = some ([], δ))) rfl ?_
            · obtain ⟨p, hp, rfl⟩ := List.mem_map.mp hx
              have hm : p.1 ∈ rs := (List.of_mem_zip hp).1
              obtain ⟨u, v, e⟩ := h2 p.1 hm
              refine ⟨(δ.set 4 (some (.d (tupD p.1)))).set 5 (some (.d (tupD p.2))), rfl, rfl, rfl, .d (.bool (decide (p.1 = p.2))), bin_of (g := opEq) rfl rfl rfl rfl (eq_tup p.1 p.2 (by rw [e]; show 2 ≤ 1000; omega)), ?_⟩
              rw [dec_enc]
              rfl
            · have := fAny_map (fun x => decide ((dec x).1 = (dec x).2)) ((rs.zip (rs.drop 1)).map enc)
              rw [List.any_map] at this
              have e : ((fun x => decide ((dec x).1 = (dec x).2)) ∘ enc) = fun p => decide (p.1 = p.2) := funext fun p => by
                show decide ((dec (enc p)).1 = (dec (enc p)).2) = _
                rw [dec_enc]
              rw [e] at this
              exact this
          have hway : callB fAny (consA (frzP (lcE [6, 7] (seqI (vr 2)) (tupG 2 (consG (nameG 6) (consG (nameG 7) nilG))) yesT (bin (opIn false) (frzP (tupE (consA (frzP (vr 7)) (consA (frzP (vr 6)) nilA)))) (pk 2)))) nilA) δ = some (.d (.bool (rs.any fun r => decide (sw2 r ∈ rs))), δ) := by
            refine callB_of (g := fAny) (consA_of (frzP_l (lcE_all (xs := rs.map tupD) (δ1 := δ) (fun x => .bool (decide (sw2 (intsOf x) ∈ rs))) rfl rfl rfl (fun x hx => ?_) (by rw [List.length_map]; omega))) (rfl : nilA δ = some ([], δ))) rfl ?_
            · obtain ⟨r, hr, rfl⟩ := List.mem_map.mp hx
              obtain ⟨u, v, rfl⟩ := h2 r hr
              refine ⟨(δ.set 6 (some (.d (.int u)))).set 7 (some (.d (.int v))), rfl, rfl, rfl, .d (.bool (decide ([v, u] ∈ rs))), bin_of (frzP_d (tupE_of (ds := [.int v, .int u]) rfl rfl (show 2 ≤ sizeLine by decide))) rfl rfl rfl (in_rowsT rs [v, u]), ?_⟩
              rw [intsOf_tup]
              rfl
            · have := fAny_map (fun x => decide (sw2 (intsOf x) ∈ rs)) (rs.map tupD)
              rw [List.any_map] at this
              have e : ((fun x => decide (sw2 (intsOf x) ∈ rs)) ∘ tupD) = fun r => decide (sw2 r ∈ rs) := funext fun r => by
                show decide (sw2 (intsOf (tupD r)) ∈ rs) = _
                rw [intsOf_tup]
              rw [e] at this
              exact this
          have ew : wayB rs = !(rs.any fun r => decide (sw2 r ∈ rs)) := by
            unfold wayB
            rw [List.not_any_eq_all_not]
          have fin : notV (callB fAny (consA (frzP (lcE [6, 7] (seqI (vr 2)) (tupG 2 (consG (nameG 6) (consG (nameG 7) nilG))) yesT (bin (opIn false) (frzP (tupE (consA (frzP (vr 7)) (consA (frzP (vr 6)) nilA)))) (pk 2)))) nilA)) δ = some (.d (.bool (wayB rs)), δ) := by
            rw [ew]
            unfold notV
            rw [hway]
            rfl
          by_cases hso : rs = sortT rs
          · rw [decide_eq_true hso] at ts
            rw [decide_eq_true hso, Bool.true_and]
            cases hA : adjB rs with
            | true =>
              rw [hA] at hadj
              exact runF_rt (δ := δ) (seqS_of (ifS_f t0 rfl) (seqS_of e1 (seqS_of (ifS_f t12 rfl) (seqS_rt (out (orT_f ts (bl_of hadj))))))) rfl
            | false =>
              rw [hA] at hadj
              show _ = some (S.d (.bool (true && wayB rs)), _)
              rw [Bool.true_and]
              exact runF_rt (δ := δ) (seqS_of (ifS_f t0 rfl) (seqS_of e1 (seqS_of (ifS_f t12 rfl) (seqS_of (ifS_f (orT_f ts (bl_of hadj)) rfl) (retS_of fin))))) rfl
          · rw [decide_eq_false hso] at ts
            rw [decide_eq_false hso]
            exact runF_rt (δ := δ) (seqS_of (ifS_f t0 rfl) (seqS_of e1 (seqS_of (ifS_f t12 rfl) (seqS_rt (out (orT_t ts)))))) rfl
      · have hb2 : ∀ ys, b ≠ .tuple ys := fun ys e => hb' ⟨ys, e⟩
        rw [lot_not hb2]
        have hf : isTupB b = false := by
          cases b with
          | tuple ys => exact absurd rfl (hb2 ys)
          | _ => rfl
        rw [hf] at t1
        exact runF_rt (δ := δ) (seqS_of (ifS_f t0 rfl) (seqS_of e1 (seqS_rt (out (orT_t (notT_of (b := false) t1)))))) rfl
  · rw [lot_none hx, Bool.false_and]
    let δ0 : Ds := L8 x none none
    have t0 : orT (notT (bl (isiE "tuple" (pk 0)))) (orT (bl (bin opNe (frzP (callB fLen (consA (pk 0) nilA))) (frzP (cst (.int 2))))) (notT (bl (callE F__law_whole 3 (consA (frzP (bin opIx (pk 0) (frzP (cst (.int 0))))) (consA (frzP (cst (.int 1))) (consA (frzP (cst (.int 24))) nilA))))))) δ0 = some (true, δ0) := by
      cases x with
      | tuple xs =>
        have := len_ne (i := 0) (k := 2) (δ := L8 (.tuple xs) none none) (xs := xs) rfl
        rw [len_not_two hx] at this
        exact orT_f (δ1 := δ0) (notT_of (b := true) (isi_tup (x := .tuple xs) rfl)) (orT_t this)
      | none => exact orT_t (notT_of (b := false) (isi_tup (x := .none) rfl))
      | bool b => exact orT_t (notT_of (b := false) (isi_tup (x := .bool b) rfl))
      | int b => exact orT_t (notT_of (b := false) (isi_tup (x := .int b) rfl))
      | str b => exact orT_t (notT_of (b := false) (isi_tup (x := .str b) rfl))
      | list b => exact orT_t (notT_of (b := false) (isi_tup (x := .list b) rfl))
      | dict b => exact orT_t (notT_of (b := false) (isi_tup (x := .dict b) rfl))
    exact runF_rt (δ := δ0) (seqS_rt (ifS_t t0 (retS_of rfl))) rfl
end K35

namespace K35
open PySem PySem.Spec PyProof.Rows L2 DL DLS

theorem shown_nat {n : Nat} {k : Nat} (hk : 0 < k) (h : n < 10 ^ k) : (PyData.shown (.int (n : Int))).length ≤ k := by
  have e := (Nat.length_repr_le_iff (n := n) hk).mpr h
  show (Str.ofString (toString (n : Int))).length ≤ k
  have e2 : toString (n : Int) = n.repr := rfl
  rw [e2, PySem.Str.ofString_eq_toList]
  show (n.repr.toList.map Char.toNat).toArray.size ≤ k
  rw [List.size_toArray, List.length_map, String.length_toList]
  exact e
theorem Step.okL {N : Nat} {P : Int → Prop} {x : PyData} (h : Wd N P x) (hN : N ≤ 1000) : ∀ a ys, x = .tuple [a, .tuple ys] → ys.length ≤ 1000 := fun a ys e => by
  subst e
  exact Nat.le_trans (h.items.2 (.tuple ys) (by simp)).items.1 hN
/-! towers -/
def oneB (y : PyData) : Bool := lotB y && posB y
def towB : PyData → Bool
  | .tuple ys => (pLe 1 (ys.length : Int) && pLe (ys.length : Int) 40) && ys.all oneB
  | _ => false
theorem lot_shape {y : PyData} (h : lotB y = true) : ∃ n b, y = .tuple [.int n, b] := by
  unfold lotB at h
  split at h
  · rename_i a ys
    obtain ⟨h1, _⟩ := Bool.and_eq_true_iff.mp h
    obtain ⟨e, _⟩ := okM_int h1
    exact ⟨intOf a, .tuple ys, by rw [← e]⟩
  · cases h
theorem one_shape {y : PyData} (h : oneB y = true) : ∃ n b, y = .tuple [.int n, b] ∧ 1 ≤ n ∧ n ≤ 24 := by
  obtain ⟨h1, h2⟩ := Bool.and_eq_true_iff.mp h
  obtain ⟨n, b, rfl⟩ := lot_shape h1
  have hp : (0 : Int) < n := of_decide_eq_true (show pGt n 0 = true from h2)
  refine ⟨n, b, rfl, by omega, ?_⟩
  unfold lotB at h1
  split at h1
  · rename_i a ys e
    obtain ⟨e1, e2⟩ : PyData.int n = a ∧ b = .tuple ys := by
      cases e
      exact ⟨rfl, rfl⟩
    subst e1
    obtain ⟨h3, _⟩ := Bool.and_eq_true_iff.mp h1
    obtain ⟨_, _, h4⟩ := okM_int h3
    have h5 : n < 25 := h4
    omega
  · cases h1
theorem is_tower_any {N : Nat} {P : Int → Prop} {x : PyData} (hW : Wd N P x) (hN : N ≤ 1000) : F_is_tower [.d x] = some (.d (.bool (towB x)), [none]) := by
  have hb := line_big
  let δ : Ds := [some (.d x), none]
  cases x with
  | tuple ys =>
    have hl := hW.items.1
    have hc : chn (cmpI pLe) (cmpI pLe) (frzP (cst (.int 1))) (frzP (callB fLen (consA (pk 0) nilA))) (frzP (cst (.int 40))) δ = some (.d (.bool (pLe 1 (ys.length : Int) && pLe (ys.length : Int) 40)), δ) := chn_ints rfl (frzP_d (len_any rfl)) rfl
    have t0 : orT (notT (bl (isiE "tuple" (pk 0)))) (notT (bl (chn (cmpI pLe) (cmpI pLe) (frzP (cst (.int 1))) (frzP (callB fLen (consA (pk 0) nilA))) (frzP (cst (.int 40)))))) δ = some (!(pLe 1 (ys.length : Int) && pLe (ys.length : Int) 40), δ) := orT_f (δ1 := δ) (notT_of (b := true) (isi_tup (x := .tuple ys) rfl)) (notT_of (bl_of hc))
    show _ = some (S.d (.bool ((pLe 1 (ys.length : Int) && pLe (ys.length : Int) 40) && ys.all oneB)), _)
    cases hk : (pLe 1 (ys.length : Int) && pLe (ys.length : Int) 40) with
    | false =>
      rw [hk] at t0
      exact runF_rt (δ := δ) (seqS_rt (ifS_t t0 (retS_of rfl))) rfl
    | true =>
      rw [hk] at t0
      rw [Bool.true_and]
      have hlc := lcE_map (i := 1) (fi := seqI (vr 0)) (te := andV (callE F_is_lot 1 (consA (frzP (vr 1)) nilA)) (bin (cmpI pGt) (frzP (bin opIx (pk 1) (frzP (cst (.int 0))))) (frzP (cst (.int 0))))) (δ := δ) (xs := ys) (fun y => .bool (oneB y)) rfl (seqI_of rfl (.inr rfl)) (fun y hy => by
        let δ2 : Ds := [some (.d (.tuple ys)), some (.d y)]
        have c1 : callE F_is_lot 1 (consA (frzP (vr 1)) nilA) δ2 = some (.d (.bool (lotB y)), δ2) := callE_data [.d y] rfl rfl (is_lot_any (Step.okL (hW.items.2 y hy) hN)) (Nat.le_refl 1)
        show andV _ _ δ2 = some (.d (.bool (lotB y && posB y)), δ2)
        cases hL : lotB y with
        | false =>
          rw [hL] at c1
          exact andV_f c1
        | true =>
          rw [hL] at c1
          rw [Bool.true_and]
          obtain ⟨n, b, rfl⟩ := lot_shape hL
          exact andV_t c1 (bin_cmp (frzP_d (bin_of rfl rfl rfl rfl rfl)) rfl)) (by omega)
      exact runF_rt (δ := δ) (seqS_of (ifS_f t0 rfl) (retS_of (callB_of (g := fAll) (consA_of (frzP_l hlc) rfl) rfl (fAll_map oneB ys)))) rfl
  | none => exact runF_rt (δ := δ) (seqS_rt (ifS_t (orT_t (notT_of (b := false) (isi_tup (x := .none) rfl))) (retS_of rfl))) rfl
  | bool b => exact runF_rt (δ := δ) (seqS_rt (ifS_t (orT_t (notT_of (b := false) (isi_tup (x := .bool b) rfl))) (retS_of rfl))) rfl
  | int b => exact runF_rt (δ := δ) (seqS_rt (ifS_t (orT_t (notT_of (b := false) (isi_tup (x := .int b) rfl))) (retS_of rfl))) rfl
  | str b => exact runF_rt (δ := δ) (seqS_rt (ifS_t (orT_t (notT_of (b := false) (isi_tup (x := .str b) rfl))) (retS_of rfl))) rfl
  | list b => exact runF_rt (δ := δ) (seqS_rt (ifS_t (orT_t (notT_of (b := false) (isi_tup (x := .list b) rfl))) (retS_of rfl))) rfl
  | dict b => exact runF_rt (δ := δ) (seqS_rt (ifS_t (orT_t (notT_of (b := false) (isi_tup (x := .dict b) rfl))) (retS_of rfl))) rfl
theorem law_tower_any {N : Nat} {P : Int → Prop} {x : PyData} (hW : Wd N P x) (hN : N ≤ 1000) : F__law_is_tower [.d x] = some (.d (.bool (towB x)), [none]) := by
  have hb := line_big
  let δ : Ds := [some (.d x), none]
  refine runF_rt (δ := δ) (retS_of ?_) rfl
  cases x with
  | tuple ys =>
    have hl := hW.items.1
    have hc : chn (cmpI pLe) (cmpI pLe) (frzP (cst (.int 1))) (frzP (callB fLen (consA (pk 0) nilA))) (frzP (cst (.int 40))) δ = some (.d (.bool (pLe 1 (ys.length : Int) && pLe (ys.length : Int) 40)), δ) := chn_ints rfl (frzP_d (len_any rfl)) rfl
    refine andV_t (δ1 := δ) rfl ?_
    show _ = some (S.d (.bool ((pLe 1 (ys.length : Int) && pLe (ys.length : Int) 40) && ys.all oneB)), _)
    cases hk : (pLe 1 (ys.length : Int) && pLe (ys.length : Int) 40) with
    | false =>
      rw [hk] at hc
      exact andV_f hc
    | true =>
      rw [hk] at hc
      rw [Bool.true_and]
      have hlc := lcE_map (i := 1) (fi := seqI (vr 0)) (te := callE F__law_is_lot 1 (consA (frzP (vr 1)) nilA)) (δ := δ) (xs := ys) (fun y => .bool (oneB y)) rfl (seqI_of rfl (.inr rfl)) (fun y hy => callE_data [.d y] rfl rfl (law_lot_any (Step.okL (hW.items.2 y hy) hN)) (Nat.le_refl 1)) (by omega)
      exact andV_t hc (callB_of (g := fAll) (consA_of (frzP_l hlc) rfl) rfl (fAll_map oneB ys))
  | none => exact andV_f rfl
  | bool b => exact andV_f rfl
  | int b => exact andV_f rfl
  | str b => exact andV_f rfl
  | list b => exact andV_f rfl
  | dict b => exact andV_f rfl
/-! marks -/
def firstOf : PyData → Int
  | .tuple (a :: _) => intOf a
  | _ => 0
def zokB : PyData → Bool
  | .tuple [l, o] => okM (firstOf l) o
  | _ => false
def markB (ls : List PyData) : PyData → Bool
  | .tuple xs => ((xs.length : Int) == (ls.length : Int)) && (zipD ls xs).all zokB
  | _ => false
theorem zip_in {ls xs : List PyData} {z : PyData} (h : z ∈ zipD ls xs) : ∃ l o, z = .tuple [l, o] ∧ l ∈ ls := by
  unfold zipD at h
  obtain ⟨p, hp, rfl⟩ := List.mem_map.mp h
  exact ⟨p.1, p.2, rfl, (List.of_mem_zip hp).1⟩
theorem zipD_len (ls xs : List PyData) : (zipD ls xs).length ≤ ls.length := by
  unfold zipD
  rw [List.length_map, List.length_zip]
  exact Nat.min_le_left _ _
abbrev M4 (ls : List PyData) (x : PyData) : Ds := [some (.d (.tuple ls)), some (.d x), none, none]
theorem lens_ne {δ : Ds} {xs ls : List PyData} (h : pk 1 δ = some (.v (.d (.tuple xs)), δ)) (k : pk 0 δ = some (.v (.d (.tuple ls)), δ)) : bl (bin opNe (frzP (callB fLen (consA (pk 1) nilA))) (frzP (callB fLen (consA (pk 0) nilA)))) δ = some (!((xs.length : Int) == (ls.length : Int)), δ) :=
  bl_of (bin_of (g := opNe) (frzP_d (len_any h)) (frzP_d (len_any k)) rfl rfl rfl)
theorem mark_head {ls : List PyData} {x : PyData} : ∃ b, orT (notT (bl (isiE "tuple" (pk 1)))) (bl (bin opNe (frzP (callB fLen (consA (pk 1) nilA))) (frzP (callB fLen (consA (pk 0) nilA))))) (M4 ls x) = some (b, M4 ls x) ∧ ((b = true ∧ markB ls x = false) ∨ (b = false ∧ ∃ xs, x = .tuple xs ∧ markB ls x = (zipD ls xs).all zokB)) := by
  cases x with
  | tuple xs =>
    refine ⟨_, orT_f (δ1 := M4 ls (.tuple xs)) (notT_of (b := true) (isi_tup (x := .tuple xs) rfl)) (lens_ne (xs := xs) (ls := ls) rfl rfl), ?_⟩
    cases h : ((xs.length : Int) == (ls.length : Int)) with
    | true =>
      refine .inr ⟨rfl, xs, rfl, ?_⟩
      show (((xs.length : Int) == (ls.length : Int)) && _) = _
      rw [h, Bool.true_and]
    | false =>
      refine .inl ⟨rfl, ?_⟩
      show (((xs.length : Int) == (ls.length : Int)) && _) = _
      rw [h, Bool.false_and]
  | none => exact ⟨true, orT_t (notT_of (b := false) (isi_tup (x := .none) rfl)), .inl ⟨rfl, rfl⟩⟩
  | bool b => exact ⟨true, orT_t (notT_of (b := false) (isi_tup (x := .bool b) rfl)), .inl ⟨rfl, rfl⟩⟩
  | int b => exact ⟨true, orT_t (notT_of (b := false) (isi_tup (x := .int b) rfl)), .inl ⟨rfl, rfl⟩⟩
  | str b => exact ⟨true, orT_t (notT_of (b := false) (isi_tup (x := .str b) rfl)), .inl ⟨rfl, rfl⟩⟩
  | list b => exact ⟨true, orT_t (notT_of (b := false) (isi_tup (x := .list b) rfl)), .inl ⟨rfl, rfl⟩⟩
  | dict b => exact ⟨true, orT_t (notT_of (b := false) (isi_tup (x := .dict b) rfl)), .inl ⟨rfl, rfl⟩⟩
theorem is_mark_any {ls : List PyData} (h : ls.all oneB = true) (hl : ls.length ≤ 1000) (x : PyData) : F_is_mark [.d (.tuple ls), .d x] = some (.d (.bool (markB ls x)), [none, none]) := by
  have hb := line_big
  obtain ⟨b, e, hq⟩ := mark_head (ls := ls) (x := x)
  rcases hq with ⟨rfl, hq⟩ | ⟨rfl, xs, rfl, hq⟩
  · rw [hq]
    exact runF_rt (δ := M4 ls x) (seqS_rt (ifS_t e (retS_of rfl))) rfl
  · rw [hq]
    let δ : Ds := M4 ls (.tuple xs)
    have hz : zipX (consA (frzP (vr 0)) (consA (frzP (vr 1)) nilA)) δ = some (zipD ls xs, δ) := rfl
    have hlc := lcE_all (vs := [2, 3]) (g := tupG 2 (consG (nameG 2) (consG (nameG 3) nilG))) (te := callE F_is_below 2 (consA (frzP (bin opIx (pk 2) (frzP (cst (.int 0))))) (consA (frzP (vr 3)) nilA))) (fun z => .bool (zokB z)) hz rfl rfl (fun z hzm => by
      obtain ⟨l, o, rfl, hlm⟩ := zip_in hzm
      obtain ⟨n, bb, rfl, _⟩ := one_shape (List.all_eq_true.mp h l hlm)
      let δ2 : Ds := [some (.d (.tuple ls)), some (.d (.tuple xs)), some (.d (.tuple [.int n, bb])), some (.d o)]
      have hix : bin opIx (pk 2) (frzP (cst (.int 0))) δ2 = some (.d (.int n), δ2) := bin_of rfl rfl rfl rfl rfl
      exact ⟨δ2, rfl, rfl, rfl, .d (.bool (okM n o)), callE_data [.d (.int n), .d o] (consA_of (frzP_d hix) rfl) rfl (is_below_any n o) (Nat.le_refl 2), rfl⟩) (by
        have := zipD_len ls xs
        omega)
    exact runF_rt (δ := δ) (seqS_of (ifS_f e rfl) (retS_of (callB_of (g := fAll) (consA_of (frzP_l hlc) rfl) rfl (fAll_map zokB _)))) rfl
theorem law_mark_any {ls : List PyData} (h : ls.all oneB = true) (hl : ls.length ≤ 1000) (x : PyData) : F__law_is_mark [.d (.tuple ls), .d x] = some (.d (.bool (markB ls x)), [none, none]) := by
  have hb := line_big
  obtain ⟨b, e, hq⟩ := mark_head (ls := ls) (x := x)
  rcases hq with ⟨rfl, hq⟩ | ⟨rfl, xs, rfl, hq⟩
  · rw [hq]
    exact runF_rt (δ := M4 ls x) (seqS_rt (ifS_t e (retS_of rfl))) rfl
  · rw [hq]
    let δ : Ds := M4 ls (.tuple xs)
    have hz : zipX (consA (frzP (vr 0)) (consA (frzP (vr 1)) nilA)) δ = some (zipD ls xs, δ) := rfl
    have hlc := lcE_all (vs := [2, 3]) (g := tupG 2 (consG (nameG 2) (consG (nameG 3) nilG))) (te := callE F__law_whole 3 (consA (frzP (vr 3)) (consA (frzP (cst (.int 0))) (consA (frzP (bin (opI2 iSub) (frzP (bin opIx (pk 2) (frzP (cst (.int 0))))) (frzP (cst (.int 1))))) nilA)))) (fun z => .bool (zokB z)) hz rfl rfl (fun z hzm => by
      obtain ⟨l, o, rfl, hlm⟩ := zip_in hzm
      obtain ⟨n, bb, rfl, _⟩ := one_shape (List.all_eq_true.mp h l hlm)
      let δ2 : Ds := [some (.d (.tuple ls)), some (.d (.tuple xs)), some (.d (.tuple [.int n, bb])), some (.d o)]
      have hix : bin opIx (pk 2) (frzP (cst (.int 0))) δ2 = some (.d (.int n), δ2) := bin_of rfl rfl rfl rfl rfl
      have hsub : bin (opI2 iSub) (frzP (bin opIx (pk 2) (frzP (cst (.int 0))))) (frzP (cst (.int 1))) δ2 = some (.d (.int (n - 1)), δ2) := bin_I (i := n) (j := 1) (frzP_d hix) rfl rfl
      have := whole_any o 0 (n - 1)
      rw [wh_ok] at this
      exact ⟨δ2, rfl, rfl, rfl, .d (.bool (okM n o)), callE_data [.d o, .d (.int 0), .d (.int (n - 1))] (consA_of rfl (consA_of rfl (consA_of (frzP_d hsub) rfl))) rfl this (Nat.le_refl 3), rfl⟩) (by
        have := zipD_len ls xs
        omega)
    exact runF_rt (δ := δ) (seqS_of (ifS_f e rfl) (retS_of (callB_of (g := fAll) (consA_of (frzP_l hlc) rfl) rfl (fAll_map zokB _)))) rfl
/-! how many -/
def prodV : List PyData → Int
  | [] => 1
  | y :: ys => firstOf y * prodV ys
def prodF (m : Int) (ys : List PyData) : Int := ys.foldl (fun m y => m * firstOf y) m
theorem pow_step {m n : Int} {k : Nat} (hm : 1 ≤ m ∧ m ≤ 24 ^ k) (hn : 1 ≤ n ∧ n ≤ 24) : 1 ≤ m * n ∧ m * n ≤ 24 ^ (k + 1) := by
  constructor
  · have : 1 * 1 ≤ m * n := Int.mul_le_mul hm.1 hn.1 (by omega) (by omega)
    omega
  · have h1 : m * n ≤ 24 ^ k * 24 := Int.mul_le_mul hm.2 hn.2 (by omega) (by omega)
    rw [Int.pow_succ]
    exact h1
theorem pow24 {k : Nat} (hk : k ≤ 40) : (24 : Int) ^ k ≤ 24 ^ 40 := by
  have := Nat.pow_le_pow_right (by decide : 0 < 24) hk
  exact_mod_cast this
theorem pow_log {m : Int} {k : Nat} (hk : k ≤ 40) (hm : 1 ≤ m ∧ m ≤ 24 ^ k) : 0 ≤ m ∧ m < 2 ^ 200 := by
  have h1 : (24 : Int) ^ k ≤ 24 ^ 40 := pow24 hk
  have h2 : (24 : Int) ^ 40 < 2 ^ 200 := by decide
  omega
theorem prod_at {ys : List PyData} (h : ys.all oneB = true) (hl : ys.length ≤ 40) : ∃ M : Int, (1 ≤ M ∧ M ≤ 24 ^ 40) ∧ F_many_in [.d (.tuple ys)] = some (.d (.int M), [none]) ∧ F__law_product [.d (.tuple ys)] = some (.d (.int M), [none]) := by
  have shp : ∀ y ∈ ys, ∃ n b, y = .tuple [.int n, b] ∧ 1 ≤ n ∧ n ≤ 24 := fun y hy => one_shape (List.all_eq_true.mp h y hy)
  let M : Nat → Int := fun k => prodF 1 (ys.take k)
  have M0 : M 0 = 1 := rfl
  have MS : ∀ k y, ys[k]? = some y → M (k + 1) = M k * firstOf y := fun k y hk => by
    show prodF 1 (ys.take (k + 1)) = prodF 1 (ys.take k) * firstOf y
    unfold prodF
    rw [List.take_succ, hk, List.foldl_append]
    rfl
  have MB : ∀ k, k ≤ ys.length → 1 ≤ M k ∧ M k ≤ 24 ^ k := by
    intro k
    induction k with
    | zero =>
      intro _
      rw [M0]
      exact ⟨by omega, by decide⟩
    | succ k ih =>
      intro hk
      have hk' : k < ys.length := by omega
      have e := List.getElem?_eq_getElem hk'
      rw [MS k _ e]
      obtain ⟨n, b, e2, n1, n2⟩ := shp ys[k] (List.getElem_mem _)
      have : firstOf ys[k] = n := by rw [e2]; rfl
      rw [this]
      exact pow_step (ih (by omega)) ⟨n1, n2⟩
  let δ (m : Int) (v : Option S) : Ds := [some (.d (.tuple ys)), some (.d (.int m)), v]
  let I : Nat → Ds → Prop := fun k δ' => ∃ v, δ' = δ (M k) v ∧ notOwn v = true
  have step : ∀ (body : SEV), (∀ (m : Int) (n : Int) (b : PyData) (k : Nat), k < 40 → 1 ≤ m ∧ m ≤ 24 ^ k → 1 ≤ n ∧ n ≤ 24 → body (δ m (some (.d (.tuple [.int n, b])))) = some (.nx (δ (m * n) (some (.d (.tuple [.int n, b])))))) → ∃ v, forD (nameG 2) body ys (δ 1 none) = some (.nx (δ (M ys.length) v)) := fun body hbody => by
    obtain ⟨δ', e, v, rfl, _⟩ := forD_inv (I := I) (tg := nameG 2) (body := body) (xs := ys) (δ := δ 1 none) 0 ⟨none, rfl, rfl⟩ (fun k y δ' hk ⟨v, hδ, hv⟩ => by
      subst hδ
      rw [Nat.zero_add]
      have hkl : k < ys.length := (List.getElem?_eq_some_iff.mp hk).1
      obtain ⟨n, b, rfl, n1, n2⟩ := shp y (List.mem_of_getElem? hk)
      have hng : nameG 2 (.tuple [.int n, b]) (δ (M k) v) = some (δ (M k) (some (.d (.tuple [.int n, b])))) := by
        cases v with
        | none => rfl
        | some v => cases v <;> first | rfl | cases hv
      refine ⟨_, _, hng, hbody (M k) n b k (by omega) (MB k (by omega)) ⟨n1, n2⟩, some (.d (.tuple [.int n, b])), ?_, rfl⟩
      rw [MS k _ hk]
      rfl)
    rw [Nat.zero_add] at e
    exact ⟨v, e⟩
  have hfin := MB ys.length (Nat.le_refl _)
  refine ⟨M ys.length, ⟨hfin.1, ?_⟩, ?_, ?_⟩
  · have : (24 : Int) ^ ys.length ≤ 24 ^ 40 := pow24 hl
    omega
  · obtain ⟨v, e⟩ := step (augMS 1 (frzP (bin opIx (pk 2) (frzP (cst (.int 0)))))) (fun m n b k hk hm hn => by
      let δ2 : Ds := δ m (some (.d (.tuple [.int n, b])))
      have hix : frzP (bin opIx (pk 2) (frzP (cst (.int 0)))) δ2 = some (.v (.d (.int n)), δ2) := frzP_d (bin_of rfl rfl rfl rfl rfl)
      show (match slot δ2 1 with
        | some (.d (.int m)) => _
        | _ => none) = _
      show ((frzP (bin opIx (pk 2) (frzP (cst (.int 0)))) δ2).bind fun x => match x.1 with
        | .v (.d (.int n)) => if -(2 ^ 64) < n ∧ n < 2 ^ 64 then some (Out.nx (x.2.set 1 (some (.d (.int (m * n)))))) else none
        | _ => none) = _
      rw [hix]
      show (if -(2 ^ 64) < n ∧ n < 2 ^ 64 then some (Out.nx (δ2.set 1 (some (.d (.int (m * n)))))) else none) = _
      rw [if_pos ⟨by omega, by omega⟩]
      rfl)
    exact runF_rt (δ := δ (M ys.length) v) (seqS_of (δ1 := δ 1 none) rfl (seqS_of (forS_of (seqI_of (s := .d (.tuple ys)) rfl (.inr rfl)) e) (retS_of rfl))) rfl
  · obtain ⟨v, e⟩ := step (setS 1 (bin opMul (pk 1) (frzP (bin opIx (pk 2) (frzP (cst (.int 0))))))) (fun m n b k hk hm hn => by
      let δ2 : Ds := δ m (some (.d (.tuple [.int n, b])))
      have hix : frzP (bin opIx (pk 2) (frzP (cst (.int 0)))) δ2 = some (.v (.d (.int n)), δ2) := frzP_d (bin_of rfl rfl rfl rfl rfl)
      obtain ⟨m0, m1⟩ := pow_log (by omega : k ≤ 40) hm
      exact (setS_of (bin_mul (i := m) (j := n) (rfl : pk 1 δ2 = some (.v (.d (.int m)), δ2)) hix (iMul_ok (a := 200) (b := 5) (lt_pow_of m0 m1) (lt_pow_of (by omega) (by omega)) (by decide) (by decide) (by decide)))).trans rfl)
    exact runF_rt (δ := δ (M ys.length) v) (seqS_of (δ1 := δ 1 none) rfl (seqS_of (forS_of (seqI_of (s := .d (.tuple ys)) rfl (.inr rfl)) e) (retS_of rfl))) rfl
end K35

namespace K35
open PySem PySem.Spec PyProof.Rows L2 DL DLS

/-! one thing looked at -/
theorem ne_str (t : Str) : opNe (.d (.str t)) (.d (.str t)) = some (.d (.bool false)) := by
  show (some (S.d (.bool (!decide (t = t))))) = _
  rw [decide_eq_true rfl]
  rfl
theorem eq_str (t : Str) : opEq (.d (.str t)) (.d (.str t)) = some (.d (.bool true)) := by
  show (some (S.d (.bool (decide (t = t))))) = _
  rw [decide_eq_true rfl]
theorem bool_show (b : Bool) : fReprD [.d (.bool b)] = some (.d (.str (PyData.bool b).shown)) := (It.bl 0 0 b).ok (by decide) (by decide) (by decide)
theorem num_show {M : Int} (h : 1 ≤ M ∧ M ≤ 24 ^ 40) : fReprD [.d (.int M)] = some (.d (.str (PyData.int M).shown)) := by
  obtain ⟨n, rfl⟩ : ∃ n : Nat, M = (n : Int) := ⟨M.toNat, by omega⟩
  have hl : n < 10 ^ 60 := by
    have h1 : (n : Int) ≤ 24 ^ 40 := h.2
    have h2 : ((24 ^ 40 : Nat) : Int) = 24 ^ 40 := by norm_cast
    have h3 : n ≤ 24 ^ 40 := by
      rw [← h2] at h1
      exact_mod_cast h1
    exact Nat.lt_of_le_of_lt h3 (by decide)
  refine RpD.ok (d := 0) (w := 60) ⟨?_, Nat.le_refl _, shown_nat (by decide) hl⟩ (by decide) (by decide)
  refine decide_eq_true ?_
  have hb : ((n : Int)).natAbs < 2 ^ 200 := by
    show n < 2 ^ 200
    exact Nat.lt_of_lt_of_le hl (by decide)
  exact log_lt (a := 200) hb (by decide) (by decide)
theorem marks_it {ms : List PyData} (h : ∀ y ∈ ms, ∃ i : Int, y = .int i ∧ Pz i) (hl : ms.length ≤ 40) : It 1 300 BG (.tuple ms) ∧ Wd 40 Pz (.tuple ms) := by
  refine ⟨?_, .tup hl fun y hy => by
    obtain ⟨i, rfl, hi⟩ := h y hy
    exact .int hi⟩
  have one : ∀ y ∈ ms, It 0 5 BG y := fun y hy => by
    obtain ⟨i, rfl, hi⟩ := h y hy
    unfold Pz at hi
    exact It.int' (by omega)
  have hsl : slen ms ≤ ms.length * 7 := slen_mem (xs := ms) fun y hy => by
    have := (one y hy).ln
    omega
  exact (SqI.tup (d := 0) (w := 280) ⟨fun y hy => (one y hy).sm, fun y hy => (one y hy).dp, by omega⟩).mono (by omega) (by omega) (Nat.le_refl _)
abbrev R8 (c : C) (x : PyData) (v2 v3 v4 v5 : Option S) : Ds := [some (.o c), some (.d x), v2, v3, v4, v5, none, none]
theorem tower_right {P : Int → Prop} {c : C} {m d w N : Nat} {x : PyData} (hp : Pot m c) (hm : m < 2 ^ 35) (hI : It d w BG x) (hW : Wd N P x) (hd : d ≤ 60) (hw : w ≤ 16000000) (hN : N ≤ 1000) :
    ∃ c', F__law_tower_right [.o c, .d x] = some (.d (.bool true), [some c', none]) ∧ Pot (m + 1000) c' := by
  have hb := line_big
  have sx : fReprD [.d x] = some (.d (.str x.shown)) := hI.ok hd hw (by decide)
  have e1 := law_tower_any hW hN
  have e2 := is_tower_any hW hN
  let δ0 : Ds := R8 c x none none none none
  let V4 : Option S := some (.d (.str x.shown))
  let V5 : Option S := some (.d (.bool (towB x)))
  let δ1 (c : C) (v2 v3 : Option S) : Ds := R8 c x v2 v3 V4 V5
  have k1 : callB fReprD (consA (pk 1) nilA) δ0 = some (.d (.str x.shown), δ0) := callB_of (ss := [.d x]) rfl rfl sx
  have k2 : callE F__law_is_tower 1 (consA (frzP (vr 1)) nilA) δ0 = some (.d (.bool (towB x)), δ0) := callE_data [.d x] rfl rfl e1 (Nat.le_refl 1)
  have s1 : parS [4, 5] (consF (callB fReprD (consA (pk 1) nilA)) (consF (callE F__law_is_tower 1 (consA (frzP (vr 1)) nilA)) nilF)) δ0 = some (.nx (δ1 c none none)) := parS_of (consF_of k1 (consF_of k2 (rfl : nilF δ0 = some ([], δ0)))) rfl
  have k3 : callE F_is_tower 1 (consA (frzP (vr 1)) nilA) (δ1 c none none) = some (.d (.bool (towB x)), δ1 c none none) := callE_data [.d x] rfl rfl e2 (Nat.le_refl 1)
  have k4 : callB fReprD (consA (frzP (callE F_is_tower 1 (consA (frzP (vr 1)) nilA))) nilA) (δ1 c none none) = some (.d (.str (PyData.bool (towB x)).shown), δ1 c none none) := callB_of (ss := [.d (.bool (towB x))]) (consA_of (frzP_d k3) rfl) rfl (bool_show _)
  have k5 : callB fReprD (consA (pk 5) nilA) (δ1 c none none) = some (.d (.str (PyData.bool (towB x)).shown), δ1 c none none) := callB_of (ss := [.d (.bool (towB x))]) rfl rfl (bool_show _)
  have k6 : callB fReprD (consA (pk 1) nilA) (δ1 c none none) = some (.d (.str x.shown), δ1 c none none) := callB_of (ss := [.d x]) rfl rfl sx
  have t1 : orT (bl (bin opNe (frzP (callB fReprD (consA (frzP (callE F_is_tower 1 (consA (frzP (vr 1)) nilA))) nilA))) (frzP (callB fReprD (consA (pk 5) nilA))))) (bl (bin opNe (frzP (callB fReprD (consA (pk 1) nilA))) (pk 4))) (δ1 c none none) = some (false, δ1 c none none) :=
    orT_f (δ1 := δ1 c none none) (bl_of (bin_of (frzP_d k4) (frzP_d k5) rfl rfl (ne_str _))) (bl_of (bin_of (frzP_d k6) (rfl : pk 4 (δ1 c none none) = some (.v (.d (.str x.shown)), δ1 c none none)) rfl rfl (ne_str _)))
  have t2 : notT (bl (vr 5)) (δ1 c none none) = some (!towB x, δ1 c none none) := notT_of (bl_of rfl)
  cases hT : towB x with
  | false =>
    rw [hT] at t2
    exact ⟨c, runF_rt (δ := δ1 c none none) (seqS_of s1 (seqS_of (ifS_f t1 rfl) (seqS_rt (ifS_t t2 (retS_of rfl))))) rfl, hp.mono (by omega)⟩
  | true =>
    rw [hT] at t2
    obtain ⟨ls, rfl⟩ : ∃ ls, x = .tuple ls := by
      cases x with
      | tuple ls => exact ⟨ls, rfl⟩
      | _ => cases hT
    obtain ⟨h1, hall⟩ := Bool.and_eq_true_iff.mp (show ((pLe 1 (ls.length : Int) && pLe (ls.length : Int) 40) && ls.all oneB) = true from hT)
    have hlen : ls.length ≤ 40 := by
      have : (ls.length : Int) ≤ 40 := of_decide_eq_true (Bool.and_eq_true_iff.mp h1).2
      omega
    have shp : ∀ y ∈ ls, ∃ n b, y = .tuple [.int n, b] ∧ 1 ≤ n ∧ n ≤ 24 := fun y hy => one_shape (List.all_eq_true.mp hall y hy)
    obtain ⟨M, hM, p1, p2⟩ := prod_at hall hlen
    have q1 : callE F_many_in 1 (consA (frzP (vr 1)) nilA) (δ1 c none none) = some (.d (.int M), δ1 c none none) := callE_data [.d (.tuple ls)] rfl rfl p1 (Nat.le_refl 1)
    have q2 : callE F__law_product 1 (consA (frzP (vr 1)) nilA) (δ1 c none none) = some (.d (.int M), δ1 c none none) := callE_data [.d (.tuple ls)] rfl rfl p2 (Nat.le_refl 1)
    have q3 : callB fReprD (consA (frzP (callE F_many_in 1 (consA (frzP (vr 1)) nilA))) nilA) (δ1 c none none) = some (.d (.str (PyData.int M).shown), δ1 c none none) := callB_of (ss := [.d (.int M)]) (consA_of (frzP_d q1) rfl) rfl (num_show hM)
    have q4 : callB fReprD (consA (frzP (callE F__law_product 1 (consA (frzP (vr 1)) nilA))) nilA) (δ1 c none none) = some (.d (.str (PyData.int M).shown), δ1 c none none) := callB_of (ss := [.d (.int M)]) (consA_of (frzP_d q2) rfl) rfl (num_show hM)
    have t3 : bl (bin opNe (frzP (callB fReprD (consA (frzP (callE F_many_in 1 (consA (frzP (vr 1)) nilA))) nilA))) (frzP (callB fReprD (consA (frzP (callE F__law_product 1 (consA (frzP (vr 1)) nilA))) nilA)))) (δ1 c none none) = some (false, δ1 c none none) := bl_of (bin_of (frzP_d q3) (frzP_d q4) rfl rfl (ne_str _))
    -- a mark drawn
    let J : Nat → List PyData → Ds → Prop := fun k acc δ => ∃ c, δ = δ1 c none none ∧ Pot (m + k) c ∧ ∀ y ∈ acc, ∃ i : Int, y = .int i ∧ Pz i
    obtain ⟨ms, δ', e5, ⟨c1, rfl, hp1, hms⟩, hml⟩ := lcE_inv (i := 6) (fi := seqI (vr 1)) (te := callE F__law_take 2 (consA (pk 0) (consA (frzP (bin opIx (pk 6) (frzP (cst (.int 0))))) nilA))) (I := J) (δ := δ1 c none none) (δ1 := δ1 c none none) (xs := ls) (seqI_of (s := .d (.tuple ls)) rfl (.inr rfl)) rfl ⟨c, rfl, hp, fun y hy => (nomatch hy)⟩ (fun k y acc δ hk hy ⟨c, hδ, hp, hacc⟩ => by
      subst hδ
      obtain ⟨n, b, rfl, n1, n2⟩ := shp y hy
      obtain ⟨r, c', e, r0, r1, hp'⟩ := take_pot (n := n) hp (by omega) (by omega) (by omega)
      let δ6 (c : C) : Ds := (δ1 c none none).set 6 (some (.d (.tuple [.int n, b])))
      have hix : bin opIx (pk 6) (frzP (cst (.int 0))) (δ6 c) = some (.d (.int n), δ6 c) := bin_of rfl rfl rfl rfl rfl
      refine ⟨rfl, .int r, δ1 c' none none, callE_own (i := 0) (δ' := δ6 c) [.d (.int n)] (consA_of rfl (consA_of (frzP_d hix) rfl)) rfl rfl e (Nat.le_refl 1), rfl, c', rfl, hp', fun z hz => ?_⟩
      rcases List.mem_append.mp hz with hz | hz
      · exact hacc z hz
      · rw [List.mem_singleton.mp hz]
        exact ⟨r, rfl, by unfold Pz; omega⟩) (by omega) (fun rs δ ⟨c, hδ, _⟩ => by subst hδ; rfl)
    have s4 : setS 2 (callB fTuple (consA (frzP (lcE [6] (seqI (vr 1)) (nameG 6) yesT (callE F__law_take 2 (consA (pk 0) (consA (frzP (bin opIx (pk 6) (frzP (cst (.int 0))))) nilA))))) nilA)) (δ1 c none none) = some (.nx (δ1 c1 (some (.d (.tuple ms))) none)) :=
      (setS_of (callB_of (g := fTuple) (ss := [.d (.list ms)]) (r := .d (.tuple ms)) (consA_of (frzP_l e5) rfl) rfl rfl)).trans rfl
    let δ2 (c : C) (v3 : Option S) : Ds := δ1 c (some (.d (.tuple ms))) v3
    -- five marks and near to them
    have f1 : ∀ (te : EV) (h : PyData → PyData), (∀ n b, .tuple [.int n, b] ∈ ls → te ((δ2 c1 none).set 6 (some (.d (.tuple [.int n, b])))) = some (.d (h (.tuple [.int n, b])), (δ2 c1 none).set 6 (some (.d (.tuple [.int n, b]))))) → callB fTuple (consA (frzP (lcE [6] (seqI (vr 1)) (nameG 6) yesT te)) nilA) (δ2 c1 none) = some (.d (.tuple (ls.map h)), δ2 c1 none) := fun te h hte => by
      have hlc := lcE_map (i := 6) (fi := seqI (vr 1)) (te := te) (δ := δ2 c1 none) (xs := ls) h rfl (seqI_of (s := .d (.tuple ls)) rfl (.inr rfl)) (fun y hy => by
        obtain ⟨n, b, rfl, n1, n2⟩ := shp y hy
        exact hte n b hy) (by omega)
      exact callB_of (g := fTuple) (ss := [.d (.list (ls.map h))]) (consA_of (frzP_l hlc) rfl) rfl rfl
    have g1 := f1 (bin (opI2 iSub) (frzP (bin opIx (pk 6) (frzP (cst (.int 0))))) (frzP (cst (.int 1)))) (fun y => .int (firstOf y - 1)) (fun n b hm => bin_I (i := n) (j := 1) (frzP_d (bin_of rfl rfl rfl rfl rfl)) rfl rfl)
    have g2 := f1 (bin opIx (pk 6) (frzP (cst (.int 0)))) (fun y => .int (firstOf y)) (fun n b hm => bin_of rfl rfl rfl rfl rfl)
    have g3 : slE (pk 2) noP (someP (frzP (unI (frzP (cst (.int 1))) fun i => -i))) (δ2 c1 none) = some (.d (.tuple (DL.cutD ms none (some (-1)))), δ2 c1 none) := rfl
    have g4 : bin opAdd (pk 2) (frzP (tupE (consA (frzP (cst (.int 0))) nilA))) (δ2 c1 none) = some (.d (.tuple (ms ++ [.int 0])), δ2 c1 none) := bin_of (p := .v (.d (.tuple ms))) (q := .v (.d (.tuple [.int 0]))) (δ1 := δ2 c1 none) rfl (frzP_d (tupE_of (ds := [.int 0]) rfl rfl (show 1 ≤ sizeLine by decide))) rfl rfl (add_tup ms [.int 0] (by rw [hml, List.length_singleton]; omega))
    let A : List PyData := [.tuple ms, .tuple (ls.map fun y => .int (firstOf y - 1)), .tuple (ls.map fun y => .int (firstOf y)), .tuple (DL.cutD ms none (some (-1))), .tuple (ms ++ [.int 0])]
    have hA : lstE (consA (frzP (vr 2)) (consA (frzP (callB fTuple (consA (frzP (lcE [6] (seqI (vr 1)) (nameG 6) yesT (bin (opI2 iSub) (frzP (bin opIx (pk 6) (frzP (cst (.int 0))))) (frzP (cst (.int 1)))))) nilA))) (consA (frzP (callB fTuple (consA (frzP (lcE [6] (seqI (vr 1)) (nameG 6) yesT (bin opIx (pk 6) (frzP (cst (.int 0)))))) nilA))) (consA (frzP (slE (pk 2) noP (someP (frzP (unI (frzP (cst (.int 1))) fun i => -i))))) (consA (frzP (bin opAdd (pk 2) (frzP (tupE (consA (frzP (cst (.int 0))) nilA))))) nilA))))) (δ2 c1 none) = some (.o (.l A), δ2 c1 none) :=
      lstE_of (ds := A) (consA_of (p := .v (.d (.tuple ms))) (δ1 := δ2 c1 none) rfl (consA_of (frzP_d g1) (consA_of (frzP_d g2) (consA_of (frzP_d g3) (consA_of (frzP_d g4) (rfl : nilA (δ2 c1 none) = some ([], δ2 c1 none))))))) rfl (show 5 ≤ sizeLine by decide)
    have s5 := (setS_of (i := 3) hA).trans (show _ = some (Out.nx (δ2 c1 (some (.o (.l A))))) from rfl)
    -- five more
    obtain ⟨mI, mW⟩ := marks_it hms (by omega)
    have mdep : (PyData.tuple ms).depth ≤ 7 := Nat.le_trans mI.dp (by omega)
    obtain ⟨y1, c2, b1, _, hp2⟩ := bent_spec step0 7 (.tuple ms) c1 (m + ls.length) 1 300 40 mdep mI mW hp1 (by omega) (by omega) (by omega) (by omega)
    obtain ⟨y2, c3, b2, _, hp3⟩ := bent_spec step0 7 (.tuple ms) c2 _ 1 300 40 mdep mI mW hp2 (by omega) (by omega) (by omega) (by omega)
    obtain ⟨y3, c4, b3, _, hp4⟩ := other_spec step0 (x := .tuple ms) hp3 (by omega) ⟨mI, mW⟩ (by omega)
    let δ3 (c : C) : Ds := δ2 c (some (.o (.l A)))
    have n0 : callB fList (consA (pk 2) nilA) (δ3 c1) = some (.o (.l ms), δ3 c1) := callB_of (ss := [.d (.tuple ms)]) rfl rfl rfl
    have n1 : callE F__law_bent 2 (consA (pk 0) (consA (frzP (vr 2)) nilA)) (δ3 c1) = some (.d y1, δ3 c2) := callE_own (i := 0) (δ' := δ3 c1) [.d (.tuple ms)] rfl rfl rfl b1 (Nat.le_refl 1)
    have n2 : callE F__law_bent 2 (consA (pk 0) (consA (frzP (vr 2)) nilA)) (δ3 c2) = some (.d y2, δ3 c3) := callE_own (i := 0) (δ' := δ3 c2) [.d (.tuple ms)] rfl rfl rfl b2 (Nat.le_refl 1)
    have n3 : callE F__law_otherwise 2 (consA (pk 0) (consA (frzP (vr 2)) nilA)) (δ3 c3) = some (.d y3, δ3 c4) := callE_own (i := 0) (δ' := δ3 c3) [.d (.tuple ms)] rfl rfl rfl b3 (Nat.le_refl 1)
    let B : List PyData := [.list ms, y1, y2, y3, .tuple ls]
    have n4 : lstE (consA (frzP (callB fList (consA (pk 2) nilA))) (consA (frzP (callE F__law_bent 2 (consA (pk 0) (consA (frzP (vr 2)) nilA)))) (consA (frzP (callE F__law_bent 2 (consA (pk 0) (consA (frzP (vr 2)) nilA)))) (consA (frzP (callE F__law_otherwise 2 (consA (pk 0) (consA (frzP (vr 2)) nilA)))) (consA (frzP (vr 1)) nilA))))) (δ3 c1) = some (.o (.l B), δ3 c4) :=
      lstE_of (ds := B) (consA_of (frzP_l n0) (consA_of (frzP_d n1) (consA_of (frzP_d n2) (consA_of (frzP_d n3) (rfl : consA (frzP (vr 1)) nilA (δ3 c4) = some ([.v (.d (.tuple ls))], δ3 c4)))))) rfl (show 5 ≤ sizeLine by decide)
    have s6 := (setS_of (i := 3) (bin_of (g := opAdd) (fa := pk 3) (p := .own 3) (δ := δ3 c1) (δ1 := δ3 c1) rfl (frzP_l n4) rfl rfl (add_lst A B rfl rfl rfl (show 10 ≤ 2000000 by decide)))).trans (show _ = some (Out.nx (δ2 c4 (some (.o (.l (A ++ B)))))) from rfl)
    have hlc := lcE_map1 (i := 7) (fi := seqI (vr 3)) (te := bin opEq (frzP (callB fReprD (consA (frzP (callE F_is_mark 2 (consA (frzP (vr 1)) (consA (frzP (vr 7)) nilA)))) nilA))) (frzP (callB fReprD (consA (frzP (callE F__law_is_mark 2 (consA (frzP (vr 1)) (consA (frzP (vr 7)) nilA)))) nilA)))) (δ := δ2 c4 (some (.o (.l (A ++ B))))) (δ1 := δ2 c4 (some (.d (.list (A ++ B))))) (xs := A ++ B) (fun _ => .bool true) (seqI_of (s := .d (.list (A ++ B))) rfl (.inl rfl)) rfl (fun y hy => by
      let δ7 : Ds := (δ2 c4 (some (.d (.list (A ++ B))))).set 7 (some (.d y))
      have u1 : callE F_is_mark 2 (consA (frzP (vr 1)) (consA (frzP (vr 7)) nilA)) δ7 = some (.d (.bool (markB ls y)), δ7) := callE_data [.d (.tuple ls), .d y] rfl rfl (is_mark_any hall (by omega) y) (Nat.le_refl 2)
      have u2 : callE F__law_is_mark 2 (consA (frzP (vr 1)) (consA (frzP (vr 7)) nilA)) δ7 = some (.d (.bool (markB ls y)), δ7) := callE_data [.d (.tuple ls), .d y] rfl rfl (law_mark_any hall (by omega) y) (Nat.le_refl 2)
      have u3 : callB fReprD (consA (frzP (callE F_is_mark 2 (consA (frzP (vr 1)) (consA (frzP (vr 7)) nilA)))) nilA) δ7 = some (.d (.str (PyData.bool (markB ls y)).shown), δ7) := callB_of (ss := [.d (.bool (markB ls y))]) (consA_of (frzP_d u1) rfl) rfl (bool_show _)
      have u4 : callB fReprD (consA (frzP (callE F__law_is_mark 2 (consA (frzP (vr 1)) (consA (frzP (vr 7)) nilA)))) nilA) δ7 = some (.d (.str (PyData.bool (markB ls y)).shown), δ7) := callB_of (ss := [.d (.bool (markB ls y))]) (consA_of (frzP_d u2) rfl) rfl (bool_show _)
      exact bin_of (frzP_d u3) (frzP_d u4) rfl rfl (eq_str _)) (show 10 ≤ sizeLine by decide)
    have hfa := fAll_map (fun _ => true) (A ++ B)
    rw [List.all_eq_true.mpr fun _ _ => rfl] at hfa
    have fin := callB_of (g := fAll) (consA_of (frzP_l hlc) (rfl : nilA (δ2 c4 (some (.d (.list (A ++ B))))) = some ([], _))) rfl hfa
    exact ⟨c4, runF_rt (δ := δ2 c4 (some (.d (.list (A ++ B))))) (seqS_of s1 (seqS_of (ifS_f t1 rfl) (seqS_of (ifS_f t2 rfl) (seqS_of (ifS_f t3 rfl) (seqS_of s4 (seqS_of s5 (seqS_of s6 (retS_of fin)))))))) rfl, hp4.mono (by omega)⟩
end K35

namespace K35
open PySem PySem.Spec PyProof.Rows L2 DL DLS

/-! lots that are drawn -/
def lotD (n : Int) (ps : List (Int × Int)) : PyData := .tuple [.int n, .tuple (ps.map pr)]
def Low (ps : List (Int × Int)) : Prop := ∀ p ∈ ps, Pz p.1 ∧ Pz p.2
theorem pr_it {p : Int × Int} (h : Pz p.1 ∧ Pz p.2) : It 1 17 BG (pr p) ∧ Wd 25 Pz (pr p) := by
  have a : It 0 5 BG (.int p.1) := It.int' (by have := h.1; unfold Pz at this; omega)
  have b : It 0 5 BG (.int p.2) := It.int' (by have := h.2; unfold Pz at this; omega)
  refine ⟨(a.one.app b.one).tup.mono (Nat.le_refl _) (by omega) (Nat.le_refl _), .tup (show 2 ≤ 25 by omega) fun z hz => ?_⟩
  rcases List.mem_cons.mp hz with rfl | hz
  · exact .int h.1
  · rw [List.mem_singleton.mp hz]
    exact .int h.2
theorem lot_it {n : Int} {ps : List (Int × Int)} (hn : Pz n) (h : Low ps) (hl : ps.length ≤ 25) : It 3 500 BG (lotD n ps) ∧ Wd 25 Pz (lotD n ps) := by
  have each : ∀ y ∈ ps.map pr, It 1 17 BG y ∧ Wd 25 Pz y := fun y hy => by
    obtain ⟨p, hp, rfl⟩ := List.mem_map.mp hy
    exact pr_it (h p hp)
  have hsl : slen (ps.map pr) ≤ (ps.map pr).length * 19 := slen_mem (xs := ps.map pr) fun y hy => by
    have := (each y hy).1.ln
    omega
  rw [List.length_map] at hsl
  have t : It 2 480 BG (.tuple (ps.map pr)) := (SqI.tup (d := 1) (w := 475) ⟨fun y hy => (each y hy).1.sm, fun y hy => (each y hy).1.dp, by omega⟩).mono (Nat.le_refl _) (by omega) (Nat.le_refl _)
  have a : It 2 5 BG (.int n) := It.int' (by unfold Pz at hn; omega)
  refine ⟨(a.one.app t.one).tup.mono (Nat.le_refl _) (by omega) (Nat.le_refl _), .tup (show 2 ≤ 25 by omega) fun z hz => ?_⟩
  rcases List.mem_cons.mp hz with rfl | hz
  · exact .int hn
  · rw [List.mem_singleton.mp hz]
    exact .tup (by rw [List.length_map]; exact hl) fun y hy => (each y hy).2
abbrev sqL : List (Int × Int) := [(0, 3), (0, 5), (0, 6), (1, 0), (1, 4), (1, 6), (2, 0), (2, 1), (2, 5), (3, 1), (3, 2), (3, 6), (4, 0), (4, 2), (4, 3), (5, 1), (5, 3), (5, 4), (6, 2), (6, 4), (6, 5)]
theorem squares_eq : F__law_squares [] = some (.d (lotD 7 sqL), []) := rfl
theorem lowB {ps : List (Int × Int)} (h : (ps.all fun p => decide (0 ≤ p.1 ∧ p.1 ≤ 50 ∧ 0 ≤ p.2 ∧ p.2 ≤ 50)) = true) : Low ps := fun p hp => by
  have := of_decide_eq_true (List.all_eq_true.mp h p hp)
  exact ⟨⟨this.1, this.2.1⟩, this.2.2.1, this.2.2.2⟩
abbrev W8 (c : C) (ps : List (Int × Int)) (v2 : Option S) (way many : Int) (v6 v7 : Option S) : Ds := [some (.o c), some (.d (.int 7)), v2, some (.d (.int way)), some (.d (.int many)), some (.o (.l (ps.map pr))), v6, v7]
abbrev sideE : EV := ifE (bl (bin (cmpI pGt) (pk 3) (frzP (cst (.int 2))))) (callE F__law_take 2 (consA (pk 0) (consA (frzP (cst (.int 2))) nilA))) (callE F__law_take 2 (consA (pk 0) (consA (frzP (cst (.int 3))) nilA)))
abbrev inB : SEV := seqS (setS 7 sideE) (exprS (mutL 5 gExt (consA (frzP (bin opIx (frzP (lstE (consA (frzP (lstE (consA (frzP (tupE (consA (frzP (vr 2)) (consA (frzP (vr 6)) nilA)))) nilA))) (consA (frzP (lstE (consA (frzP (tupE (consA (frzP (vr 6)) (consA (frzP (vr 2)) nilA)))) nilA))) (consA (frzP (lstE nilA)) nilA))))) (pk 7))) nilA)))
theorem in_step {c : C} {m : Nat} {ps : List (Int × Int)} {x y way many : Int} {v7 : Option S} (hp : Pot m c) (hm : m < 2 ^ 38) (hl : ps.length ≤ 900) (hL : Low ps) (hx : Pz x) (hy : Pz y) :
    ∃ c' qs v7', inB (W8 c ps (some (.d (.int x))) way many (some (.d (.int y))) v7) = some (.nx (W8 c' (ps ++ qs) (some (.d (.int x))) way many (some (.d (.int y))) v7')) ∧ Pot (m + 1) c' ∧ qs.length ≤ 1 ∧ Low (ps ++ qs) := by
  let δ (c : C) (v7 : Option S) : Ds := W8 c ps (some (.d (.int x))) way many (some (.d (.int y))) v7
  have t0 : bl (bin (cmpI pGt) (pk 3) (frzP (cst (.int 2)))) (δ c v7) = some (pGt way 2, δ c v7) := bl_of (bin_cmp rfl rfl)
  obtain ⟨r, c', hr, hp', e⟩ : ∃ (r : Int) (c' : C), (0 ≤ r ∧ r < 3) ∧ Pot (m + 1) c' ∧ sideE (δ c v7) = some (.d (.int r), δ c' v7) := by
    cases h : pGt way 2 with
    | true =>
      rw [h] at t0
      obtain ⟨r, c', e, r0, r1, hp'⟩ := take_pot (n := 2) hp (by omega) (by decide) (by decide)
      exact ⟨r, c', ⟨r0, by omega⟩, hp', ifE_t t0 (callE_own (i := 0) (δ' := δ c v7) [.d (.int 2)] rfl rfl rfl e (Nat.le_refl 1))⟩
    | false =>
      rw [h] at t0
      obtain ⟨r, c', e, r0, r1, hp'⟩ := take_pot (n := 3) hp (by omega) (by decide) (by decide)
      exact ⟨r, c', ⟨r0, r1⟩, hp', ifE_f t0 (callE_own (i := 0) (δ' := δ c v7) [.d (.int 3)] rfl rfl rfl e (Nat.le_refl 1))⟩
  have s1 : setS 7 sideE (δ c v7) = some (.nx (δ c' (some (.d (.int r))))) := (setS_of e).trans rfl
  obtain ⟨qs, hq, hql, eo⟩ : ∃ qs : List (Int × Int), (∀ p ∈ qs, Pz p.1 ∧ Pz p.2) ∧ qs.length ≤ 1 ∧ opIx (.d (.list [.list [pr (x, y)], .list [pr (y, x)], .list []])) (.d (.int r)) = some (.d (.list (qs.map pr))) := by
    have h1 : r = 0 ∨ r = 1 ∨ r = 2 := by omega
    rcases h1 with rfl | rfl | rfl
    · exact ⟨[(x, y)], fun p hp => by rw [List.mem_singleton.mp hp]; exact ⟨hx, hy⟩, Nat.le_refl _, rfl⟩
    · exact ⟨[(y, x)], fun p hp => by rw [List.mem_singleton.mp hp]; exact ⟨hy, hx⟩, Nat.le_refl _, rfl⟩
    · exact ⟨[], fun p hp => (nomatch hp), Nat.zero_le _, rfl⟩
  have hmm : gExt (ps.map pr) [.list (qs.map pr)] = some (.d .none, (ps ++ qs).map pr) := by
    rw [List.map_append]
    refine if_pos ?_
    rw [List.length_map, List.length_map]
    exact Nat.le_trans (show ps.length + qs.length ≤ 1000 by omega) (by decide)
  let δ7 : Ds := δ c' (some (.d (.int r)))
  have hlst : lstE (consA (frzP (lstE (consA (frzP (tupE (consA (frzP (vr 2)) (consA (frzP (vr 6)) nilA)))) nilA))) (consA (frzP (lstE (consA (frzP (tupE (consA (frzP (vr 6)) (consA (frzP (vr 2)) nilA)))) nilA))) (consA (frzP (lstE nilA)) nilA))) δ7 = some (.o (.l [.list [pr (x, y)], .list [pr (y, x)], .list []]), δ7) := rfl
  have s2 := exprS_of (δ := δ7) (δ1 := δ7.set 5 (some (.o (.l ((ps ++ qs).map pr))))) (mutL_of (i := 5) (g := gExt) (δ := δ7) (δ1 := δ7) (ys0 := ps.map pr) (ys := ps.map pr) (ds := [.list (qs.map pr)]) (s := .d .none) (ps := [.v (.d (.list (qs.map pr)))]) rfl (consA_of (frzP_d (bin_of (frzP_l hlst) (rfl : pk 7 δ7 = some (.v (.d (.int r)), δ7)) rfl rfl eo)) (rfl : nilA δ7 = some ([], δ7))) rfl rfl hmm)
  exact ⟨c', qs, some (.d (.int r)), seqS_of s1 s2, hp', hql, fun p hp => (List.mem_append.mp hp).elim (hL p) (hq p)⟩
theorem lot_spec {c : C} {m : Nat} (hp : Pot m c) (hm : m < 2 ^ 30) : ∃ y c', F__law_lot [.o c, .d (.int 7)] = some (.d y, [some c', none]) ∧ (It 3 500 BG y ∧ Wd 25 Pz y) ∧ Pot (m + 100) c' := by
  obtain ⟨way, c1, e1, w0, w1, hp1⟩ := take_pot (n := 6) hp (by omega) (by decide) (by decide)
  obtain ⟨q, c2, e2, q0, q1, hp2⟩ := take_pot (n := 5) hp1 (by omega) (by decide) (by decide)
  let δz (c : C) : Ds := [some (.o c), some (.d (.int 7)), none, none, none, none, none, none]
  have k1 : callE F__law_take 2 (consA (pk 0) (consA (frzP (cst (.int 6))) nilA)) (δz c) = some (.d (.int way), δz c1) := callE_own (i := 0) (δ' := δz c) [.d (.int 6)] rfl rfl rfl e1 (Nat.le_refl 1)
  have hmin : callB fMin (consA (frzP (cst (.int 5))) (consA (pk 1) nilA)) (δz c1) = some (.d (.int 5), δz c1) := callB_of (ss := [.d (.int 5), .d (.int 7)]) rfl rfl rfl
  have k2 : callE F__law_take 2 (consA (pk 0) (consA (frzP (callB fMin (consA (frzP (cst (.int 5))) (consA (pk 1) nilA)))) nilA)) (δz c1) = some (.d (.int q), δz c2) := callE_own (i := 0) (δ' := δz c1) [.d (.int 5)] (consA_of rfl (consA_of (frzP_d hmin) rfl)) rfl rfl e2 (Nat.le_refl 1)
  have k3 : bin opAdd (frzP (cst (.int 1))) (frzP (callE F__law_take 2 (consA (pk 0) (consA (frzP (callB fMin (consA (frzP (cst (.int 5))) (consA (pk 1) nilA)))) nilA)))) (δz c1) = some (.d (.int (1 + q)), δz c2) := bin_add rfl (frzP_d k2)
  obtain ⟨n, hn, n1, n5⟩ : ∃ n : Nat, 1 + q = (n : Int) ∧ 1 ≤ n ∧ n ≤ 5 := ⟨(1 + q).toNat, by omega, by omega, by omega⟩
  rw [hn] at k3
  have k4 : consF (bin opAdd (frzP (cst (.int 1))) (frzP (callE F__law_take 2 (consA (pk 0) (consA (frzP (callB fMin (consA (frzP (cst (.int 5))) (consA (pk 1) nilA)))) nilA))))) (consF (lstE nilA) nilF) (δz c1) = some ([.d (.int (n : Int)), .o (.l [])], δz c2) := consF_of k3 rfl
  have s1 : parS [3, 4, 5] (consF (callE F__law_take 2 (consA (pk 0) (consA (frzP (cst (.int 6))) nilA))) (consF (bin opAdd (frzP (cst (.int 1))) (frzP (callE F__law_take 2 (consA (pk 0) (consA (frzP (callB fMin (consA (frzP (cst (.int 5))) (consA (pk 1) nilA)))) nilA))))) (consF (lstE nilA) nilF))) (δz c) = some (.nx (W8 c2 [] none way (n : Int) none none)) := parS_of (consF_of k1 k4) rfl
  let δ1 : Ds := W8 c2 [] none way (n : Int) none none
  have t0 : bl (bin opEq (pk 3) (frzP (cst (.int 0)))) δ1 = some (way == 0, δ1) := bl_of (bin_of (g := opEq) rfl rfl rfl rfl rfl)
  have t1 : bl (bin opEq (pk 3) (frzP (cst (.int 1)))) δ1 = some (way == 1, δ1) := bl_of (bin_of (g := opEq) rfl rfl rfl rfl rfl)
  cases h0 : (way == 0) with
  | true =>
    rw [h0] at t0
    refine ⟨lotD 3 [(0, 2), (1, 0), (2, 1)], c2, runF_rt (δ := δ1) (seqS_of s1 (seqS_rt (ifS_t t0 (retS_of rfl)))) rfl, lot_it ⟨by decide, by decide⟩ (lowB (by decide)) (by decide), hp2.mono (by omega)⟩
  | false =>
    rw [h0] at t0
    cases h1 : (way == 1) with
    | true =>
      rw [h1] at t1
      have t2 : andT (bl (bin opEq (pk 3) (frzP (cst (.int 1))))) (bl (bin (cmpI pGt) (pk 1) (frzP (cst (.int 6))))) δ1 = some (true, δ1) := andT_t t1 (bl_of rfl)
      have k5 : callE F__law_squares 0 nilA δ1 = some (.d (lotD 7 sqL), δ1) := callE_data [] rfl rfl squares_eq (Nat.le_refl 0)
      exact ⟨lotD 7 sqL, c2, runF_rt (δ := δ1) (seqS_of s1 (seqS_of (ifS_f t0 rfl) (seqS_rt (ifS_t t2 (retS_of k5))))) rfl, lot_it ⟨by decide, by decide⟩ (lowB (by decide)) (by decide), hp2.mono (by omega)⟩
    | false =>
      rw [h1] at t1
      have t2 : andT (bl (bin opEq (pk 3) (frzP (cst (.int 1))))) (bl (bin (cmpI pGt) (pk 1) (frzP (cst (.int 6))))) δ1 = some (false, δ1) := andT_f t1
      let J : Nat → Nat → Ds → Prop := fun k j δ => ∃ (c : C) (ps : List (Int × Int)) (v6 v7 : Option S), δ = W8 c ps (some (.d (.int (k : Int)))) way (n : Int) v6 v7 ∧ Low ps ∧ ps.length ≤ 5 * k + j ∧ notOwn v6 = true ∧ Pot (m + 2 + 5 * k + j) c
      let I : Nat → Ds → Prop := fun k δ => ∃ (c : C) (ps : List (Int × Int)) (v2 v6 v7 : Option S), δ = W8 c ps v2 way (n : Int) v6 v7 ∧ Low ps ∧ ps.length ≤ 5 * k ∧ notOwn v2 = true ∧ notOwn v6 = true ∧ Pot (m + 2 + 5 * k) c
      obtain ⟨δ', e, c', ps, v2, v6, v7, rfl, hL, hl, _, _, hp'⟩ := forD_inv (I := I) (tg := nameG 2) (body := forS (rngI1 (consA (pk 2) nilA)) (nameG 6) inB) (xs := rng 0 ((n : Int)).toNat) (δ := δ1) 0 ⟨c2, [], none, none, none, rfl, fun p hp => (nomatch hp), Nat.le_refl _, rfl, rfl, hp2⟩ (fun k x δ hx ⟨c, ps, v2, v6, v7, hδ, hL, hl, hv2, hv6, hp⟩ => by
        subst hδ
        obtain ⟨hk, rfl⟩ := rng_at hx
        rw [Int.toNat_natCast] at hk
        rw [Nat.zero_add] at *
        rw [Int.zero_add]
        have hng : nameG 2 (.int (k : Int)) (W8 c ps v2 way (n : Int) v6 v7) = some (W8 c ps (some (.d (.int (k : Int)))) way (n : Int) v6 v7) := by
          cases v2 with
          | none => rfl
          | some v => cases v <;> first | rfl | cases hv2
        obtain ⟨δ', e, c', ps', v6', v7', rfl, hL', hl', hv6', hp'⟩ := forD_inv (I := J k) (tg := nameG 6) (body := inB) (xs := rng 0 ((k : Int)).toNat) (δ := W8 c ps (some (.d (.int (k : Int)))) way (n : Int) v6 v7) 0 ⟨c, ps, v6, v7, rfl, hL, hl, hv6, hp⟩ (fun j y δ hy ⟨c, ps, v6, v7, hδ, hL, hl, hv6, hp⟩ => by
          subst hδ
          obtain ⟨hj, rfl⟩ := rng_at hy
          rw [Int.toNat_natCast] at hj
          rw [Nat.zero_add] at *
          rw [Int.zero_add]
          have hng : nameG 6 (.int (j : Int)) (W8 c ps (some (.d (.int (k : Int)))) way (n : Int) v6 v7) = some (W8 c ps (some (.d (.int (k : Int)))) way (n : Int) (some (.d (.int (j : Int)))) v7) := by
            cases v6 with
            | none => rfl
            | some v => cases v <;> first | rfl | cases hv6
          obtain ⟨c', qs, v7', e, hp', hql, hL'⟩ := in_step (c := c) (x := (k : Int)) (y := (j : Int)) (way := way) (many := (n : Int)) (v7 := v7) hp (by omega) (by omega) hL ⟨by omega, by omega⟩ ⟨by omega, by omega⟩
          exact ⟨_, _, hng, e, c', ps ++ qs, _, v7', rfl, hL', by rw [List.length_append]; omega, rfl, hp'.mono (by omega)⟩)
        rw [rng_len, Int.toNat_natCast, Nat.zero_add] at hl' hp'
        exact ⟨_, _, hng, forS_of (rngI1_of (n := (k : Int)) rfl ⟨by omega, by omega⟩) e, c', ps', _, v6', v7', rfl, hL', by omega, rfl, hv6', hp'.mono (by omega)⟩)
      rw [rng_len, Int.toNat_natCast, Nat.zero_add] at hl hp'
      let δ2 : Ds := W8 c' ps v2 way (n : Int) v6 v7
      have hs : callB fSorted (consA (pk 5) nilA) δ2 = some (.o (.l ((sortP ps).map pr)), δ2) := by
        refine callB_of rfl rfl ?_
        show (prs (ps.map pr)).map _ = _
        rw [prs_map]
        rfl
      have fin := retS_of (tupE_of (ds := [.int (n : Int), .tuple ((sortP ps).map pr)]) (δ := δ2) (fa := consA (frzP (vr 4)) (consA (frzP (callB fTuple (consA (frzP (callB fSorted (consA (pk 5) nilA))) nilA))) nilA)) (consA_of rfl (consA_of (frzP_d (callB_of (consA_of (frzP_l hs) rfl) rfl rfl)) rfl)) rfl (show 2 ≤ sizeLine by decide))
      refine ⟨lotD (n : Int) (sortP ps), c', runF_rt (δ := δ2) (seqS_of s1 (seqS_of (ifS_f t0 rfl) (seqS_of (ifS_f t2 rfl) (seqS_of (forS_of (rngI1_of (n := (n : Int)) rfl ⟨by omega, by omega⟩) e) fin)))) rfl, lot_it ⟨by omega, by omega⟩ (fun p hp => hL p ((isort_perm ps).mem_iff.mp hp)) (by rw [(isort_perm ps).length_eq]; omega), hp'.mono (by omega)⟩
end K35

namespace K35
open PySem PySem.Spec PyProof.Rows L2 DL DLS

/-! the law -/
abbrev D8 (ns : List Int) (v1 : Option S) (c : C) (v3 v4 v5 : Option S) : Ds := [some (.z ns), v1, some (.o c), v3, v4, v5, none, none]
def Look (x : PyData) : Prop := It 8 15000000 BG x ∧ Wd 900 (fun _ => True) x
theorem look_of {P : Int → Prop} {d w N : Nat} {x : PyData} (h : It d w BG x ∧ Wd N P x) (hd : d ≤ 8) (hw : w ≤ 15000000) (hN : N ≤ 900) : Look x := ⟨h.1.mono hd hw (Nat.le_refl _), h.2.mono hN fun _ _ => trivial⟩
theorem towers_it {ys : List PyData} (h : ∀ y ∈ ys, It 3 500 BG y ∧ Wd 25 Pz y) {N : Nat} (hN : 25 ≤ N) (hl : ys.length ≤ N) : It 4 (502 * ys.length + 3) BG (.tuple ys) ∧ Wd N Pz (.tuple ys) := by
  have hsl : slen ys ≤ ys.length * 502 := slen_mem (xs := ys) fun y hy => by
    have := (h y hy).1.ln
    omega
  exact ⟨(SqI.tup (d := 3) (w := 502 * ys.length) ⟨fun y hy => (h y hy).1.sm, fun y hy => (h y hy).1.dp, by omega⟩).mono (by omega) (by omega) (Nat.le_refl _), .tup hl fun y hy => (h y hy).2.mono hN fun _ h => h⟩
theorem bare_it {n : Int} (hn : Pz n) : It 3 500 BG (lotD n []) ∧ Wd 25 Pz (lotD n []) := lot_it hn (fun p hp => (nomatch hp)) (Nat.zero_le _)
abbrev drawS : SEV := setS 3 (callB fTuple (consA (frzP (lcE [6] (rngI1 (consA (frzP (bin opAdd (frzP (cst (.int 1))) (frzP (callE F__law_take 2 (consA (pk 2) (consA (frzP (cst (.int 3))) nilA)))))) nilA)) (nameG 6) yesT (callE F__law_lot 2 (consA (pk 2) (consA (frzP (cst (.int 7))) nilA))))) nilA))
theorem draw_tower {ns : List Int} {v1 v3 v4 v5 : Option S} {c : C} {m : Nat} (hp : Pot m c) (hm : m < 2 ^ 29) : ∃ (ys : List PyData) (c' : C), drawS (D8 ns v1 c v3 v4 v5) = some (.nx (D8 ns v1 c' (some (.d (.tuple ys))) v4 v5)) ∧ (∀ y ∈ ys, It 3 500 BG y ∧ Wd 25 Pz y) ∧ 1 ≤ ys.length ∧ ys.length ≤ 3 ∧ Pot (m + 500) c' := by
  have hb := line_big
  let δ (c : C) : Ds := D8 ns v1 c v3 v4 v5
  obtain ⟨r, c1, e1, r0, r1, hp1⟩ := take_pot (n := 3) hp (by omega) (by decide) (by decide)
  have k1 : callE F__law_take 2 (consA (pk 2) (consA (frzP (cst (.int 3))) nilA)) (δ c) = some (.d (.int r), δ c1) := callE_own (i := 2) (δ' := δ c) [.d (.int 3)] rfl rfl rfl e1 (Nat.le_refl 1)
  obtain ⟨n, hn, n1, n3⟩ : ∃ n : Nat, 1 + r = (n : Int) ∧ 1 ≤ n ∧ n ≤ 3 := ⟨(1 + r).toNat, by omega, by omega, by omega⟩
  have k2 : bin opAdd (frzP (cst (.int 1))) (frzP (callE F__law_take 2 (consA (pk 2) (consA (frzP (cst (.int 3))) nilA)))) (δ c) = some (.d (.int (1 + r)), δ c1) := bin_add rfl (frzP_d k1)
  rw [hn] at k2
  have hfi : rngI1 (consA (frzP (bin opAdd (frzP (cst (.int 1))) (frzP (callE F__law_take 2 (consA (pk 2) (consA (frzP (cst (.int 3))) nilA)))))) nilA) (δ c) = some (rng 0 ((n : Int)).toNat, δ c1) := rngI1_of (n := (n : Int)) (consA_of (frzP_d k2) rfl) ⟨by omega, by omega⟩
  let J : Nat → List PyData → Ds → Prop := fun k acc δ' => ∃ c, δ' = δ c ∧ Pot (m + 1 + 100 * k) c ∧ ∀ y ∈ acc, It 3 500 BG y ∧ Wd 25 Pz y
  have hrl : (DL.rng 0 ((n : Int)).toNat).length = n := by rw [rng_len, Int.toNat_natCast]
  obtain ⟨ys, δ', e5, ⟨c2, rfl, hp2, hys⟩, hyl⟩ := lcE_inv (i := 6) (fi := rngI1 (consA (frzP (bin opAdd (frzP (cst (.int 1))) (frzP (callE F__law_take 2 (consA (pk 2) (consA (frzP (cst (.int 3))) nilA)))))) nilA)) (te := callE F__law_lot 2 (consA (pk 2) (consA (frzP (cst (.int 7))) nilA))) (I := J) (δ := δ c) (δ1 := δ c1) (xs := rng 0 ((n : Int)).toNat) hfi rfl ⟨c1, rfl, hp1, fun y hy => (nomatch hy)⟩ (fun k x acc δ' hk hx ⟨c, hδ, hp, hacc⟩ => by
    subst hδ
    rw [hrl] at hk
    obtain ⟨y, c', e, hy, hp'⟩ := lot_spec hp (by omega)
    refine ⟨rfl, y, δ c', callE_own (i := 2) (δ' := (δ c).set 6 (some (.d x))) [.d (.int 7)] rfl rfl rfl e (Nat.le_refl 1), rfl, c', rfl, hp'.mono (by omega), fun z hz => ?_⟩
    rcases List.mem_append.mp hz with hz | hz
    · exact hacc z hz
    · rw [List.mem_singleton.mp hz]
      exact hy) (by rw [hrl]; omega) (fun rs δ' ⟨c, hδ, _⟩ => by subst hδ; rfl)
  rw [hrl] at hyl hp2
  exact ⟨ys, c2, (setS_of (callB_of (g := fTuple) (ss := [.d (.list ys)]) (r := .d (.tuple ys)) (consA_of (frzP_l e5) rfl) rfl rfl)).trans rfl, hys, by omega, by omega, hp2.mono (by omega)⟩
theorem slE_hi {f g : PEV} {δ δ1 δ2 : Ds} {xs : List PyData} {i : Int} (h : f δ = some (.v (.d (.tuple xs)), δ1)) (k : g δ1 = some (.v (.d (.int i)), δ2)) : slE f noP (someP g) δ = some (.d (.tuple (DL.cutD xs none (some i))), δ2) := by
  unfold slE someP
  rw [h]
  simp only [Option.bind_some, noP]
  rw [k]
  rfl
abbrev highS : SEV := setS 4 (slE (frzP (bin opMulTN (frzP (slE (pk 3) noP (someP (frzP (cst (.int 1)))))) (frzP (cst (.int 41))))) noP (someP (frzP (callE F__law_of 2 (consA (pk 2) (consA (frzP (lstE (consA (frzP (cst (.int 40))) (consA (frzP (cst (.int 41))) (consA (frzP (bin opAdd (frzP (cst (.int 1))) (frzP (callE F__law_take 2 (consA (pk 2) (consA (frzP (cst (.int 41))) nilA)))))) nilA))))) nilA))))))
theorem high_tower {ns : List Int} {v1 v4 v5 : Option S} {c : C} {m : Nat} {ys : List PyData} (hp : Pot m c) (hm : m < 2 ^ 29) (hys : ∀ y ∈ ys, It 3 500 BG y ∧ Wd 25 Pz y) (h1 : 1 ≤ ys.length) : ∃ (h : PyData) (c' : C), highS (D8 ns v1 c (some (.d (.tuple ys))) v4 v5) = some (.nx (D8 ns v1 c' (some (.d (.tuple ys))) (some (.d h)) v5)) ∧ Look h ∧ Pot (m + 2) c' := by
  have hb := line_big
  obtain ⟨y0, r0, rfl⟩ : ∃ y0 r0, ys = y0 :: r0 := by
    cases ys with
    | nil => exact absurd h1 (by simp)
    | cons a b => exact ⟨a, b, rfl⟩
  let δ (c : C) : Ds := D8 ns v1 c (some (.d (.tuple (y0 :: r0)))) v4 v5
  have b1 : slE (pk 3) noP (someP (frzP (cst (.int 1)))) (δ c) = some (.d (.tuple [y0]), δ c) := by
    show some (S.d (.tuple (DL.cutD (y0 :: r0) none (some ((1 : Nat) : Int)))), _) = _
    rw [cut_lo _ 1 (by rw [List.length_cons]; omega)]
    rfl
  let big : List PyData := (List.replicate 41 [y0]).flatten
  have b2 : opMulTN (.d (.tuple [y0])) (.d (.int 41)) = some (.d (.tuple big)) := by
    show (if [y0] ≠ [] ∧ (2 : Int) ≤ 41 ∧ (41 : Int) ≤ 1000 ∧ [y0].length ≤ 1000 then some (S.d (.tuple (List.replicate (41 : Int).toNat [y0]).flatten)) else none) = _
    rw [if_pos ⟨List.cons_ne_nil _ _, by decide, by decide, by show 1 ≤ 1000; omega⟩]
    rfl
  have b3 : bin opMulTN (frzP (slE (pk 3) noP (someP (frzP (cst (.int 1)))))) (frzP (cst (.int 41))) (δ c) = some (.d (.tuple big), δ c) := bin_of (q := .v (.d (.int 41))) (frzP_d b1) rfl rfl rfl b2
  obtain ⟨q, c1, e1, q0, q1, hp1⟩ := take_pot (n := 41) hp (by omega) (by decide) (by decide)
  have k1 : callE F__law_take 2 (consA (pk 2) (consA (frzP (cst (.int 41))) nilA)) (δ c) = some (.d (.int q), δ c1) := callE_own (i := 2) (δ' := δ c) [.d (.int 41)] rfl rfl rfl e1 (Nat.le_refl 1)
  have k2 : bin opAdd (frzP (cst (.int 1))) (frzP (callE F__law_take 2 (consA (pk 2) (consA (frzP (cst (.int 41))) nilA)))) (δ c) = some (.d (.int (1 + q)), δ c1) := bin_add rfl (frzP_d k1)
  have k3 : lstE (consA (frzP (cst (.int 40))) (consA (frzP (cst (.int 41))) (consA (frzP (bin opAdd (frzP (cst (.int 1))) (frzP (callE F__law_take 2 (consA (pk 2) (consA (frzP (cst (.int 41))) nilA)))))) nilA))) (δ c) = some (.o (.l [.int 40, .int 41, .int (1 + q)]), δ c1) := lstE_of (ds := [.int 40, .int 41, .int (1 + q)]) (consA_of (δ1 := δ c) (p := .v (.d (.int 40))) rfl (consA_of (δ1 := δ c) (p := .v (.d (.int 41))) rfl (consA_of (frzP_d k2) (rfl : nilA (δ c1) = some ([], δ c1))))) rfl (show 3 ≤ sizeLine by decide)
  obtain ⟨v, hv, c2, e2, hp2⟩ := of_list (xs := [.int 40, .int 41, .int (1 + q)]) hp1 (by omega) (List.cons_ne_nil _ _) (show 3 ≤ sizeLine by decide)
  obtain ⟨i, rfl⟩ : ∃ i : Int, v = .int i := by
    simp only [List.mem_cons, List.not_mem_nil, or_false] at hv
    rcases hv with rfl | rfl | rfl
    · exact ⟨_, rfl⟩
    · exact ⟨_, rfl⟩
    · exact ⟨_, rfl⟩
  have k4 : callE F__law_of 2 (consA (pk 2) (consA (frzP (lstE (consA (frzP (cst (.int 40))) (consA (frzP (cst (.int 41))) (consA (frzP (bin opAdd (frzP (cst (.int 1))) (frzP (callE F__law_take 2 (consA (pk 2) (consA (frzP (cst (.int 41))) nilA)))))) nilA))))) nilA)) (δ c) = some (.d (.int i), δ c2) := callE_own (i := 2) (δ' := δ c1) [.d (.list [.int 40, .int 41, .int (1 + q)])] (consA_of rfl (consA_of (frzP_l k3) rfl)) rfl rfl e2 (Nat.le_refl 1)
  have k5 : slE (frzP (bin opMulTN (frzP (slE (pk 3) noP (someP (frzP (cst (.int 1)))))) (frzP (cst (.int 41))))) noP (someP (frzP (callE F__law_of 2 (consA (pk 2) (consA (frzP (lstE (consA (frzP (cst (.int 40))) (consA (frzP (cst (.int 41))) (consA (frzP (bin opAdd (frzP (cst (.int 1))) (frzP (callE F__law_take 2 (consA (pk 2) (consA (frzP (cst (.int 41))) nilA)))))) nilA))))) nilA))))) (δ c) = some (.d (.tuple (DL.cutD big none (some i))), δ c2) := by
    exact slE_hi (frzP_d b3) (frzP_d k4)
  have hsub := cut_sub big none (some i)
  have hbig : ∀ y ∈ big, y = y0 := fun y hy => by
    obtain ⟨l, hl, hy'⟩ := List.mem_flatten.mp hy
    rw [(List.mem_replicate.mp hl).2] at hy'
    exact List.mem_singleton.mp hy'
  have hbl : big.length = 41 := rfl
  have hle : (DL.cutD big none (some i)).length ≤ 41 := by
    have := hsub.length_le
    omega
  have it := towers_it (ys := DL.cutD big none (some i)) (fun y hy => by rw [hbig y (hsub.subset hy)]; exact hys y0 List.mem_cons_self) (N := 41) (by omega) hle
  exact ⟨_, c2, (setS_of k5).trans rfl, look_of it (by omega) (by omega) (by omega), hp2.mono (by omega)⟩
end K35

namespace K35
open PySem PySem.Spec PyProof.Rows L2 DL DLS

abbrev sevA : AEV := consA (frzP (vr 3)) (consA (frzP (vr 4)) (consA (frzP (tupE (consA (frzP (tupE (consA (frzP (cst (.int 0))) (consA (frzP (tupE nilA)) nilA)))) nilA))) (consA (frzP (tupE nilA)) (consA (frzP (tupE (consA (frzP (tupE (consA (frzP (cst (.int 24))) (consA (frzP (tupE nilA)) nilA)))) nilA))) (consA (frzP (tupE (consA (frzP (tupE (consA (frzP (cst (.int 25))) (consA (frzP (tupE nilA)) nilA)))) nilA))) (consA (frzP (bin opAdd (pk 3) (frzP (tupE (consA (frzP (tupE (consA (frzP (cst (.int 0))) (consA (frzP (tupE nilA)) nilA)))) nilA))))) nilA))))))
abbrev sixE : EV := lcE [6] (rngI1 (consA (frzP (cst (.int 6))) nilA)) (nameG 6) yesT (callE F__law_bent 2 (consA (pk 2) (consA (frzP (vr 3)) nilA)))
abbrev moreS : SEV := setS 5 (bin opAdd (frzP (bin opAdd (pk 5) (frzP sixE))) (frzP (lstE (consA (frzP (callE F__law_otherwise 2 (consA (pk 2) (consA (frzP (vr 3)) nilA)))) nilA))))
abbrev lastS : SEV := exprS (mutL 5 gApp (consA (frzP (callE F__law_bent 2 (consA (pk 2) (consA (frzP (callE F__law_bent 2 (consA (pk 2) (consA (frzP (vr 3)) nilA)))) nilA)))) nilA))
abbrev askS : SEV := ifS (notT (bl (callB fAll (consA (frzP (lcE [7] (seqI (vr 5)) (nameG 7) yesT (callE F__law_tower_right 2 (consA (pk 2) (consA (frzP (vr 7)) nilA))))) nilA)))) (retS (cst (.bool false))) nxS
abbrev cellS : SEV := seqS (setS 2 (callE F__law_pot 2 (consA (frzP (vr 0)) (consA (frzP (vr 1)) nilA)))) (seqS drawS (seqS highS (seqS (setS 5 (lstE sevA)) (seqS moreS (seqS lastS askS)))))
theorem ask_step {ns : List Int} {v1 v3 v4 : Option S} {c : C} {m : Nat} {L : List PyData} (hp : Pot m c) (hm : m < 2 ^ 29) (hL : ∀ x ∈ L, Look x) (hl : L.length ≤ 100) : ∃ (c' : C), askS (D8 ns v1 c v3 v4 (some (.o (.l L)))) = some (.nx (D8 ns v1 c' v3 v4 (some (.d (.list L))))) := by
  have hb := line_big
  let δ (c : C) : Ds := D8 ns v1 c v3 v4 (some (.d (.list L)))
  let J : Nat → List PyData → Ds → Prop := fun k acc δ' => ∃ c, δ' = δ c ∧ Pot (m + 1000 * k) c ∧ ∀ y ∈ acc, y = .bool true
  obtain ⟨rs, δ', e5, ⟨c2, rfl, hp2, hrs⟩, hrl⟩ := lcE_inv (i := 7) (fi := seqI (vr 5)) (te := callE F__law_tower_right 2 (consA (pk 2) (consA (frzP (vr 7)) nilA))) (I := J) (δ := D8 ns v1 c v3 v4 (some (.o (.l L)))) (δ1 := δ c) (xs := L) (seqI_of (s := .d (.list L)) rfl (.inl rfl)) rfl ⟨c, rfl, hp, fun y hy => (nomatch hy)⟩ (fun k x acc δ' hk hx ⟨c, hδ, hp, hacc⟩ => by
    subst hδ
    obtain ⟨hI, hW⟩ := hL x hx
    obtain ⟨c', e, hp'⟩ := tower_right hp (by omega) hI hW (by omega) (by omega) (by omega)
    refine ⟨rfl, .bool true, δ c', callE_own (i := 2) (δ' := (δ c).set 7 (some (.d x))) [.d x] rfl rfl rfl e (Nat.le_refl 1), rfl, c', rfl, hp'.mono (by omega), fun z hz => ?_⟩
    rcases List.mem_append.mp hz with hz | hz
    · exact hacc z hz
    · exact List.mem_singleton.mp hz) (by omega) (fun rs δ' ⟨c, hδ, _⟩ => by subst hδ; rfl)
  have hmap : rs = rs.map fun _ => PyData.bool true := by
    conv => lhs; rw [← List.map_id rs]
    exact List.map_congr_left fun y hy => hrs y hy
  have hfa := fAll_map (fun _ => true) rs
  rw [List.all_eq_true.mpr fun _ _ => rfl, ← hmap] at hfa
  have fin := callB_of (g := fAll) (consA_of (frzP_l e5) (rfl : nilA (δ c2) = some ([], δ c2))) rfl hfa
  exact ⟨c2, ifS_f (notT_of (b := true) (bl_of fin)) rfl⟩
theorem cell_step {ns : List Int} {k : Nat} {v2 v3 v4 v5 : Option S} (hk : k ≤ 2) : ∃ c' w3 w4 w5, cellS [some (.z ns), some (.d (.int (k : Int))), v2, v3, v4, v5, none, none] = some (.nx (D8 ns (some (.d (.int (k : Int)))) c' w3 w4 w5)) := by
  have hb := line_big
  obtain ⟨c0, e0, hp0⟩ := pot_spec ns k hk
  let V1 : Option S := some (.d (.int (k : Int)))
  have x1 : setS 2 (callE F__law_pot 2 (consA (frzP (vr 0)) (consA (frzP (vr 1)) nilA))) [some (.z ns), some (.d (.int (k : Int))), v2, v3, v4, v5, none, none] = some (.nx (D8 ns V1 c0 v3 v4 v5)) := (setS_of (callE_data [.z ns, .d (.int (k : Int))] rfl rfl e0 (Nat.le_refl 2))).trans rfl
  obtain ⟨ys, c1, x2, hys, y1, y3, hp1⟩ := draw_tower (ns := ns) (v1 := V1) (v3 := v3) (v4 := v4) (v5 := v5) hp0 (by omega)
  obtain ⟨H, c2, x3, hH, hp2⟩ := high_tower (ns := ns) (v1 := V1) (v4 := v4) (v5 := v5) hp1 (by omega) hys y1
  have tI := towers_it hys (N := 25) (by omega) (by omega)
  have tI' : It 4 1510 BG (.tuple ys) ∧ Wd 25 Pz (.tuple ys) := ⟨tI.1.mono (Nat.le_refl _) (by omega) (Nat.le_refl _), tI.2⟩
  let T : PyData := .tuple ys
  let δ (c : C) (v5 : Option S) : Ds := D8 ns V1 c (some (.d T)) (some (.d H)) v5
  -- seven
  let A : List PyData := [T, H, .tuple [lotD 0 []], .tuple [], .tuple [lotD 24 []], .tuple [lotD 25 []], .tuple (ys ++ [lotD 0 []])]
  have em : ∀ (δ : Ds), tupE nilA δ = some (.d (.tuple []), δ) := fun δ => tupE_of (ds := []) (rfl : nilA δ = some ([], δ)) rfl (show 0 ≤ sizeLine by decide)
  have lt : ∀ (n : Int) (δ : Ds), tupE (consA (frzP (tupE (consA (frzP (cst (.int n))) (consA (frzP (tupE nilA)) nilA)))) nilA) δ = some (.d (.tuple [lotD n []]), δ) := fun n δ =>
    tupE_of (ds := [lotD n []]) (consA_of (frzP_d (tupE_of (ds := [.int n, .tuple []]) (consA_of rfl (consA_of (frzP_d (em δ)) rfl)) rfl (show 2 ≤ sizeLine by decide))) (rfl : nilA δ = some ([], δ))) rfl (show 1 ≤ sizeLine by decide)
  have a7 : bin opAdd (pk 3) (frzP (tupE (consA (frzP (tupE (consA (frzP (cst (.int 0))) (consA (frzP (tupE nilA)) nilA)))) nilA))) (δ c2 v5) = some (.d (.tuple (ys ++ [lotD 0 []])), δ c2 v5) := bin_of (p := .v (.d T)) (q := .v (.d (.tuple [lotD 0 []]))) (δ1 := δ c2 v5) rfl (frzP_d (lt 0 _)) rfl rfl (add_tup ys [lotD 0 []] (by rw [List.length_singleton]; omega))
  have hA : lstE sevA (δ c2 v5) = some (.o (.l A), δ c2 v5) :=
    lstE_of (ds := A) (consA_of (p := .v (.d T)) (δ1 := δ c2 v5) rfl (consA_of (p := .v (.d H)) (δ1 := δ c2 v5) rfl (consA_of (frzP_d (lt 0 _)) (consA_of (frzP_d (em _)) (consA_of (frzP_d (lt 24 _)) (consA_of (frzP_d (lt 25 _)) (consA_of (frzP_d a7) (rfl : nilA (δ c2 v5) = some ([], δ c2 v5))))))))) rfl (show 7 ≤ sizeLine by decide)
  have x4 : setS 5 (lstE sevA) (δ c2 v5) = some (.nx (δ c2 (some (.o (.l A))))) := (setS_of hA).trans rfl
  have one : ∀ n : Int, Pz n → Look (.tuple [lotD n []]) := fun n hn => look_of (towers_it (ys := [lotD n []]) (fun y hy => by rw [List.mem_singleton.mp hy]; exact bare_it hn) (N := 25) (by omega) (by show 1 ≤ 25; omega)) (by omega) (by show 502 * 1 + 3 ≤ _; omega) (by omega)
  have lA : ∀ x ∈ A, Look x := fun x hx => by
    simp only [A, List.mem_cons, List.not_mem_nil, or_false] at hx
    rcases hx with rfl | rfl | rfl | rfl | rfl | rfl | rfl
    · exact look_of tI' (by omega) (by omega) (by omega)
    · exact hH
    · exact one 0 ⟨by decide, by decide⟩
    · exact look_of (towers_it (ys := []) (fun y hy => (nomatch hy)) (N := 25) (by omega) (Nat.zero_le _)) (by omega) (by show 502 * 0 + 3 ≤ _; omega) (by omega)
    · exact one 24 ⟨by decide, by decide⟩
    · exact one 25 ⟨by decide, by decide⟩
    · have hl : (ys ++ [lotD 0 []]).length ≤ 4 := by rw [List.length_append, List.length_singleton]; omega
      refine look_of (towers_it (ys := ys ++ [lotD 0 []]) (fun y hy => ?_) (N := 25) (by omega) (by omega)) (by omega) (by omega) (by omega)
      rcases List.mem_append.mp hy with hy | hy
      · exact hys y hy
      · rw [List.mem_singleton.mp hy]
        exact bare_it ⟨by decide, by decide⟩
  -- six bent, one otherwise
  have tdep : T.depth ≤ 7 := Nat.le_trans tI'.1.dp (by omega)
  let δ5 (c : C) : Ds := δ c (some (.o (.l A)))
  let J : Nat → List PyData → Ds → Prop := fun j acc δ' => ∃ c, δ' = δ5 c ∧ Pot (1000 + 100 * j) c ∧ ∀ y ∈ acc, Look y
  have hrl : (DL.rng 0 (6 : Int).toNat).length = 6 := by rw [rng_len]; rfl
  obtain ⟨rs, δ', e5, ⟨c3, rfl, hp3, hrs⟩, hrsl⟩ := lcE_inv (i := 6) (fi := rngI1 (consA (frzP (cst (.int 6))) nilA)) (te := callE F__law_bent 2 (consA (pk 2) (consA (frzP (vr 3)) nilA))) (I := J) (δ := δ5 c2) (δ1 := δ5 c2) (xs := rng 0 (6 : Int).toNat) (rngI1_of (n := 6) rfl ⟨by decide, by decide⟩) rfl ⟨c2, rfl, hp2.mono (by omega), fun y hy => (nomatch hy)⟩ (fun j x acc δ' hj hx ⟨c, hδ, hp, hacc⟩ => by
    subst hδ
    rw [hrl] at hj
    obtain ⟨y, c', e, hy, hp'⟩ := bent_spec step0 7 T c _ 4 1510 25 tdep tI'.1 tI'.2 hp (by omega) (Nat.le_refl _) (by omega) (by omega)
    refine ⟨rfl, y, δ5 c', callE_own (i := 2) (δ' := (δ5 c).set 6 (some (.d x))) [.d T] rfl rfl rfl e (Nat.le_refl 1), rfl, c', rfl, hp'.mono (by omega), fun z hz => ?_⟩
    rcases List.mem_append.mp hz with hz | hz
    · exact hacc z hz
    · rw [List.mem_singleton.mp hz]
      exact look_of hy (by omega) (by omega) (by omega)) (by rw [hrl]; omega) (fun rs δ' ⟨c, hδ, _⟩ => by subst hδ; rfl)
  rw [hrl] at hrsl hp3
  obtain ⟨o, c4, e6, ho, hp4⟩ := other_spec step0 (x := T) hp3 (by omega) tI' (by omega)
  have k6 : callE F__law_otherwise 2 (consA (pk 2) (consA (frzP (vr 3)) nilA)) (δ5 c3) = some (.d o, δ5 c4) := callE_own (i := 2) (δ' := δ5 c3) [.d T] rfl rfl rfl e6 (Nat.le_refl 1)
  have k7 : bin opAdd (pk 5) (frzP sixE) (δ5 c2) = some (.o (.l (A ++ rs)), δ5 c3) := bin_of (p := .own 5) (δ1 := δ5 c2) rfl (frzP_l e5) rfl rfl (add_lst A rs rfl rfl rfl (by rw [hrsl]; show 7 + 6 ≤ 2000000; omega))
  have k8 : lstE (consA (frzP (callE F__law_otherwise 2 (consA (pk 2) (consA (frzP (vr 3)) nilA)))) nilA) (δ5 c3) = some (.o (.l [o]), δ5 c4) := lstE_of (ds := [o]) (consA_of (frzP_d k6) rfl) rfl (show 1 ≤ sizeLine by decide)
  let L : List PyData := A ++ rs ++ [o]
  have hll : L.length = 14 := by
    show (A ++ rs ++ [o]).length = 14
    rw [List.length_append, List.length_append, hrsl]
    rfl
  have x5 : moreS (δ5 c2) = some (.nx (δ c4 (some (.o (.l L))))) := (setS_of (bin_of (g := opAdd) (frzP_l k7) (frzP_l k8) rfl rfl (add_lst (A ++ rs) [o] rfl rfl rfl (by rw [List.length_append, hrsl]; show 7 + 6 + 1 ≤ 2000000; omega)))).trans rfl
  -- one bent twice
  let δ6 (c : C) : Ds := δ c (some (.o (.l L)))
  obtain ⟨y, c5, b1, hy, hp5⟩ := bent_spec step0 7 T c4 _ 4 1510 25 tdep tI'.1 tI'.2 hp4 (by omega) (Nat.le_refl _) (by omega) (by omega)
  obtain ⟨z, c6, b2, hz, hp6⟩ := bent_spec step1 7 y c5 _ 6 100000 51 (Nat.le_trans hy.1.dp (by omega)) (hy.1.mono (by omega) (by omega) (Nat.le_refl _)) hy.2 hp5 (by omega) (Nat.le_refl _) (by omega) (by omega)
  have n1 : callE F__law_bent 2 (consA (pk 2) (consA (frzP (vr 3)) nilA)) (δ6 c4) = some (.d y, δ6 c5) := callE_own (i := 2) (δ' := δ6 c4) [.d T] rfl rfl rfl b1 (Nat.le_refl 1)
  have n2 : callE F__law_bent 2 (consA (pk 2) (consA (frzP (callE F__law_bent 2 (consA (pk 2) (consA (frzP (vr 3)) nilA)))) nilA)) (δ6 c4) = some (.d z, δ6 c6) := callE_own (i := 2) (δ' := δ6 c5) [.d y] (consA_of rfl (consA_of (frzP_d n1) rfl)) rfl rfl b2 (Nat.le_refl 1)
  have x6 : lastS (δ6 c4) = some (.nx (δ c6 (some (.o (.l (L ++ [z])))))) := (exprS_of (mutL_of (i := 5) (g := gApp) (δ := δ6 c4) (δ1 := δ6 c6) (ys0 := L) (ys := L) (zs := L ++ [z]) (ds := [z]) (s := .d .none) (ps := [.v (.d z)]) rfl (consA_of (frzP_d n2) rfl) rfl rfl (if_pos (by omega)))).trans rfl
  obtain ⟨c7, x7⟩ := ask_step (ns := ns) (v1 := V1) (v3 := some (.d T)) (v4 := some (.d H)) (L := L ++ [z]) hp6 (by omega) (fun x hx => by
    rcases List.mem_append.mp hx with hx | hx
    · rcases List.mem_append.mp hx with hx | hx
      · rcases List.mem_append.mp hx with hx | hx
        · exact lA x hx
        · exact hrs x hx
      · rw [List.mem_singleton.mp hx]
        exact look_of ho (by omega) (by omega) (by omega)
    · rw [List.mem_singleton.mp hx]
      exact look_of hz (by omega) (by omega) (by omega)) (by rw [List.length_append, hll]; show 14 + 1 ≤ 100; omega)
  exact ⟨c7, _, _, _, seqS_of x1 (seqS_of x2 (seqS_of x3 (seqS_of x4 (seqS_of x5 (seqS_of x6 x7)))))⟩
theorem true_law (ns : List Int) (hn : ns.length ≤ 63) : ∃ cs, F_law [.z ns] = some (.d (.bool true), cs) := by
  generalize ek : (if (if (ns.length : Int) < 3 then (ns.length : Int) else 3) > 1 then (if (ns.length : Int) < 3 then (ns.length : Int) else 3) else 1) = kk
  have kk0 : 1 ≤ kk ∧ kk ≤ 3 := by
    rw [← ek]
    split <;> split <;> omega
  let I : Nat → Ds → Prop := fun j δ => ∃ (w1 w2 w3 w4 w5 : Option S), δ = [some (.z ns), w1, w2, w3, w4, w5, none, none] ∧ notOwn w1 = true
  obtain ⟨δ', e, w1, w2, w3, w4, w5, rfl, _⟩ := forD_inv (I := I) (tg := nameG 1) (body := cellS) (xs := DL.rng 0 kk.toNat) (δ := [some (.z ns), none, none, none, none, none, none, none]) 0 ⟨none, none, none, none, none, rfl, rfl⟩ (fun j x δ hx hI => by
    obtain ⟨w1, w2, w3, w4, w5, rfl, h1⟩ := hI
    obtain ⟨hj, rfl⟩ := rng_at hx
    rw [Int.zero_add]
    have hng : nameG 1 (.int (j : Int)) [some (.z ns), w1, w2, w3, w4, w5, none, none] = some [some (.z ns), some (.d (.int (j : Int))), w2, w3, w4, w5, none, none] := by
      cases w1 with
      | none => rfl
      | some v => cases v <;> first | rfl | cases h1
    obtain ⟨c', u3, u4, u5, e⟩ := cell_step (ns := ns) (k := j) (v2 := w2) (v3 := w3) (v4 := w4) (v5 := w5) (by omega)
    exact ⟨_, _, hng, e, _, _, _, _, _, rfl, rfl⟩)
  refine ⟨[none], runF_rt (δ := [some (.z ns), w1, w2, w3, w4, w5, none, none]) ?_ rfl⟩
  refine seqS_of (forS_of (rngI1_of (n := kk) (consA_of (frzP_d ?_) rfl) ⟨by omega, by omega⟩) e) (retS_of rfl)
  rw [← ek]
  exact callB_of (consA_of rfl (consA_of (frzP_d (callB_of (consA_of rfl (consA_of (frzP_d (callB_of rfl rfl rfl)) rfl)) rfl rfl)) rfl)) rfl rfl
end K35

open PySem PySem.W PyProof.Rows in
set_option maxRecDepth 100000 in
set_option maxHeartbeats 0 in
theorem PySem.Challenge.cw_everlater_k35_towers_and_marks_holds : PySem.Challenge.rw_everlater_k35_towers_and_marks.Holds := by
  w_on; o_law; k_head; (case hw => w_witness2)
  k_fill
  refine DL.walkS (l := PySem.Challenge.rw_everlater_k35_towers_and_marks) (n := 63) (k := 14) (x := "_law_script") (G := K35.F_law) rfl (by decide) rfl ⟨rfl, by decide, by decide⟩ (by decide +kernel) (fun w h Y => PySem.W.kIn_of Y) ?F K35.true_law
  case F =>
    intro w mg fa h KX G hmg
    refine' K35.all_mk KX G hmg ?a0 ?l0 ?c0 ?k0 ?a1 ?l1 ?c1 ?k1 ?a2 ?l2 ?c2 ?k2 ?a3 ?l3 ?c3 ?k3 ?a4 ?l4 ?c4 ?k4 ?a5 ?l5 ?c5 ?k5 ?a6 ?l6 ?c6 ?k6 ?a7 ?l7 ?c7 ?k7 ?a8 ?l8 ?c8 ?k8 ?a9 ?l9 ?c9 ?k9 ?a10 ?l10 ?c10 ?k10 ?a11 ?l11 ?c11 ?k11 ?a12 ?l12 ?c12 ?k12 ?a13 ?l13 ?c13 ?k13 ?a14 ?l14 ?c14 ?k14 ?a15 ?l15 ?c15 ?k15 ?a16 ?l16 ?c16 ?k16 ?a17 ?l17 ?c17 ?k17 ?a18 ?l18 ?c18 ?k18 ?a19 ?l19 ?c19 ?k19 ?a20 ?l20 ?c20 ?k20 ?a21 ?l21 ?c21 ?k21 ?a22 ?l22 ?c22 ?k22 ?a23 ?l23 ?c23 ?k23 ?z_abs ?z_int ?z_len ?z_range ?z_sorted ?z_tuple ?z_min ?z_bool ?z_isinstance ?z_list ?z_str ?z_all ?z_any ?z_zip ?z_repr ?z_max ?zc_MOST_MARKS ?rc_MOST_MARKS ?zc_MOST_LOTS ?rc_MOST_LOTS
    (case a0 => k_is)
    (case l0 => k_is)
    (case c0 => k_is)
    (case k0 => k_is)
    (case a1 => k_is)
    (case l1 => k_is)
    (case c1 => k_is)
    (case k1 => k_is)
    (case a2 => k_is)
    (case l2 => k_is)
    (case c2 => k_is)
    (case k2 => k_is)
    (case a3 => k_is)
    (case l3 => k_is)
    (case c3 => k_is)
    (case k3 => k_is)
    (case a4 => k_is)
    (case l4 => k_is)
    (case c4 => k_is)
    (case k4 => k_is)
    (case a5 => k_is)
    (case l5 => k_is)
    (case c5 => k_is)
    (case k5 => k_is)
    (case a6 => k_is)
    (case l6 => k_is)
    (case c6 => k_is)
    (case k6 => k_is)
    (case a7 => k_is)
    (case l7 => k_is)
    (case c7 => k_is)
    (case k7 => k_is)
    (case a8 => k_is)
    (case l8 => k_is)
    (case c8 => k_is)
    (case k8 => k_is)
    (case a9 => k_is)
    (case l9 => k_is)
    (case c9 => k_is)
    (case k9 => k_is)
    (case a10 => k_is)
    (case l10 => k_is)
    (case c10 => k_is)
    (case k10 => k_is)
    (case a11 => k_is)
    (case l11 => k_is)
    (case c11 => k_is)
    (case k11 => k_is)
    (case a12 => k_is)
    (case l12 => k_is)
    (case c12 => k_is)
    (case k12 => k_is)
    (case a13 => k_is)
    (case l13 => k_is)
    (case c13 => k_is)
    (case k13 => k_is)
    (case a14 => k_is)
    (case l14 => k_is)
    (case c14 => k_is)
    (case k14 => k_is)
    (case a15 => k_is)
    (case l15 => k_is)
    (case c15 => k_is)
    (case k15 => k_is)
    (case a16 => k_is)
    (case l16 => k_is)
    (case c16 => k_is)
    (case k16 => k_is)
    (case a17 => k_is)
    (case l17 => k_is)
    (case c17 => k_is)
    (case k17 => k_is)
    (case a18 => k_is)
    (case l18 => k_is)
    (case c18 => k_is)
    (case k18 => k_is)
    (case a19 => k_is)
    (case l19 => k_is)
    (case c19 => k_is)
    (case k19 => k_is)
    (case a20 => k_is)
    (case l20 => k_is)
    (case c20 => k_is)
    (case k20 => k_is)
    (case a21 => k_is)
    (case l21 => k_is)
    (case c21 => k_is)
    (case k21 => k_is)
    (case a22 => k_is)
    (case l22 => k_is)
    (case c22 => k_is)
    (case k22 => k_is)
    (case a23 => k_is)
    (case l23 => k_is)
    (case c23 => k_is)
    (case k23 => k_is)
    (case z_abs => k_is)
    (case z_int => k_is)
    (case z_len => k_is)
    (case z_range => k_is)
    (case z_sorted => k_is)
    (case z_tuple => k_is)
    (case z_min => k_is)
    (case z_bool => k_is)
    (case z_isinstance => k_is)
    (case z_list => k_is)
    (case z_str => k_is)
    (case z_all => k_is)
    (case z_any => k_is)
    (case z_zip => k_is)
    (case z_repr => k_is)
    (case z_max => k_is)
    (case zc_MOST_MARKS => k_is)
    (case rc_MOST_MARKS => exact ⟨_, rfl⟩)
    (case zc_MOST_LOTS => k_is)
    (case rc_MOST_LOTS => exact ⟨_, rfl⟩)

