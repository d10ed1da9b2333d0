import PyProof.Rows.All
import Wide.All
import OpenK.AllK
import Wide.FinOn
import PySem.Challenge.RW_everlater_k13_beside_and_within
import HandS.ForMost
import HandS.TupAny
import HandS.Deep
import HandS.Wide
import HandS.SortRule
import HandS.Conv
import HandS.Zip
import HandS.Lambda
import HandS.NestedK
import HandS.EndTab
import HandS.OwnEq
import HandS.Exc
import KE.KeyNested
import HandS.Style
import HandS.RaiseMore
import HandS.SortInts
import HandS.IsInst
import HandS.More
import HandS.SetFor
import HandS.Dict
import HandS.WideBits
import HandS.DictComp
import HandS.Small
import KE.KDictCopyH
import HandS.TupMul
import PyProof.TupleOfSeq
import HandS.TupLen
import KE.KDictPairs
import HandS.DictTup
import KE.KDictKeyed
import PyProof.EqKinds
import PyProof.Rows.IntBool
import PyProof.TwoTypesSub
import PyProof.NeData
import KE.SortKeyHeap
import KE.KMinKey
import HandS.SortKw
import HandS.Strs
import KE.KNestM
import HandS.SetKeys
import KE.DataMinMax
import HandS.TupLe
import KE.KDictDisplayH
import PyProof.MaxThree
import HandS.NoneIn
import HandS.Nested
import HandS.TupSets
import HandS.TryOnly
import HandS.TryMany
import HandS.ExcOwn
import KE.KIsAll
import HandS.ExcIs
import HandS.ExcValue
import KE.KIndexWalk
import KE.GoesNew
import KE.GoesMore
import KE.DataFind
import KE.SortData
import HandS.ExcInit
import HandS.ExcField
import HandS.Text
import HandS.FStr
import PyProof.StrOps2
import HandS.CallLocal
set_option Elab.async false
set_option linter.all false
set_option maxRecDepth 100000
set_option maxHeartbeats 4000000
set_option exponentiation.threshold 3000
namespace DL
open PySem PySem.Spec PyProof.Rows L2

/-! data without a heap: what a slot holds -/
/-- a table: fl tells that its keys are flat (each told as a list of one), else they are tuples -/
structure Tab where
  fl : Bool
  kvs : List (List Key × PyData)
inductive C where
  | l (xs : List PyData)
  | t (kvs : Tab)
/-- what stands in a tuple that has tables in it -/
inductive M where
  | d (x : PyData)
  | t (kvs : Tab)
inductive S where
  | d (x : PyData)
  | t (kvs : Tab)
  | z (ns : List Int)
  | p (xs : List M)
  | o (c : C)
abbrev Ds := List (Option S)

def hid (T : List Addr) (ρ : List (Option Addr)) (H : Hp) : Hp := fun b => if b ∈ T ∨ some b ∈ ρ then none else H b
theorem hid_some {T : List Addr} {ρ : List (Option Addr)} {H : Hp} {b : Addr} {o : HO} : hid T ρ H b = some o ↔ H b = some o ∧ b ∉ T ∧ some b ∉ ρ := by
  unfold hid
  constructor
  · intro h
    split at h
    · cases h
    · rename_i hn
      exact ⟨h, fun z => hn (.inl z), fun z => hn (.inr z)⟩
  · intro ⟨h, h1, h2⟩
    rw [if_neg (fun z => z.elim h1 h2)]
    exact h
theorem hid_same {T : List Addr} {ρ : List (Option Addr)} {H : Hp} : Same (hid T ρ H) H := fun _ _ h => (hid_some.mp h).1
theorem hid_mono {T : List Addr} {ρ : List (Option Addr)} {H H' : Hp} (h : Same H H') : Same (hid T ρ H) (hid T ρ H') := fun _ _ e =>
  let ⟨a, b, c⟩ := hid_some.mp e
  hid_some.mpr ⟨h _ _ a, b, c⟩
theorem hid_less {T T' : List Addr} {ρ ρ' : List (Option Addr)} {H : Hp} (h : ∀ b, (b ∈ T' ∨ some b ∈ ρ') → (b ∈ T ∨ some b ∈ ρ)) : Same (hid T ρ H) (hid T' ρ' H) := fun b _ e => by
  obtain ⟨a, h1, h2⟩ := hid_some.mp e
  refine hid_some.mpr ⟨a, fun z => ?_, fun z => ?_⟩
  · exact (h b (.inl z)).elim h1 h2
  · exact (h b (.inr z)).elim h1 h2

/-! data that is tracked as it is -/
/-- what stands in the code of a tuple that the module itself holds; no text shows it -/
def konI : Int := 2 ^ 1920
/-- a tuple of whole numbers that the module itself holds -/
abbrev konC (is : List Int) : PyData := .dict [(.int konI, .none), (.none, .tuple (is.map .int))]
/-- a function that is handed on, as data: where it stands, its code object, that one's name, what it captured -/
abbrev adrC (f c : Addr) (q : Str) (cs : List PyData) : PyData := .dict [(.int konI, .int (f : Nat)), (.int (c : Nat), .tuple (.str q :: cs))]
/-- an exception that was caught and is held as a value: its class, its own dict -/
def ExV (cls : Value) (d : Option Addr) (a : Addr) : HO := .ext fun h => ∃ (oe : Obj) (vs : Array Value), h.get? a = some oe ∧ oe.cls = cls ∧ oe.dict = d ∧ oe.data = .fields vs
/-- the same as data: by its class's name; with one field -/
abbrev excC (n : Str) : PyData := .dict [(.int konI, .str n), (.none, .none)]
abbrev exfC (n f : Str) (x : PyData) : PyData := .dict [(.int konI, .str n), (.str f, x)]
/-- a def of the module, handed on -/
abbrev fnC (n : Str) : PyData := .dict [(.int konI, .str n), (.bool false, .none)]
/-- a tuple of whole numbers that may be asked for a place -/
abbrev idxC (is : List Int) : PyData := .dict [(.int konI, .tuple (is.map .int)), (.none, .none)]
/-- a dict that has been filled for good: whether its keys are flat, its keys, its values -/
abbrev tblC (fl : Bool) (ks : List PyData) (xs : List PyData) : PyData := .dict [(.int konI, .bool fl), (.list ks, .list xs)]
/-- a dict by nested tuples that has been filled for good -/
abbrev memC (ks xs : List PyData) : PyData := .dict [(.int konI, .list ks), (.none, .list xs)]
/-- the tuple at v is the key k -/
def keyT (H : Hp) : NestedKey → V → Prop
  | .num i, v => v = .int i
  | .tup ks, v => ∃ (a : Addr) (vs : List V), v = .ref a ∧ H a = some (.tup vs) ∧ keyTs H ks vs
  | _, _ => False
where keyTs (H : Hp) : List NestedKey → List V → Prop
  | [], vs => vs = []
  | k :: ks, vs => ∃ v us, vs = v :: us ∧ keyT H k v ∧ keyTs H ks us
/-- at a: a dict whose keys are such tuples -/
def MemO (a : Addr) (L : List (Addr × NestedKey × V)) : HO := .ext fun h => ∃ (w : World) (o : Obj) (es : Array DictEntry) (ep : Nat) (us : List Value), h.get? a = some o ∧ o.ExactDict ∧ o.data = .dict es ep ∧ Vals (L.map fun p => p.2.2) us ∧ es.toList = (L.zip us).map (fun q => (⟨q.1.2.1.hash w, .ref q.1.1, q.2⟩ : DictEntry)) ∧ (L.map fun p => p.2.1).Nodup ∧ (a == sysModules) = false ∧ (∀ p ∈ L, p.2.1.depth ≤ 8) ∧ L.length ≤ sizeLine
def kEnc : Key → PyData
  | .inl i => .int i
  | .inr x => .str x
/-- what a function captured: a number, or a table of flat keys (all True) that nobody walks over just now -/
def capOk (H : Hp) : PyData → Prop
  | .int _ => True
  | .tuple [.int d, .tuple ks] => ∃ kk : List Key, ks = kk.map kEnc ∧ H d.toNat = some (.dK (kk.map fun k => (k, V.bl true)))
  | .tuple [.int d, .list ks] => ∃ kk : List (List Key), ks = kk.map (fun k => .tuple (k.map kEnc)) ∧ H d.toNat = some (.dT (kk.map fun k => (k, V.bl true)))
  | _ => False
mutual
inductive Dq (K : PySem.W.Frag) (H : Hp) : V → PyData → Prop
  | non : Dq K H .non .none
  | bl (b : Bool) : Dq K H (.bl b) (.bool b)
  | int (i : Int) : Dq K H (.int i) (.int i)
  | str (x : Str) : Dq K H (.str x) (.str x)
  | lst {a : Addr} {xs : List V} {ds : List PyData} : H a = some (.lst xs) → DqAll K H xs ds → Dq K H (.ref a) (.list ds)
  | tup {a : Addr} {xs : List V} {ds : List PyData} : H a = some (.tup xs) → DqAll K H xs ds → Dq K H (.ref a) (.tuple ds)
  | dctE {a : Addr} : H a = some (.dK []) → Dq K H (.ref a) (.dict [])
  | dct1 {a : Addr} {k : Str} {v : V} {x : PyData} : H a = some (.dK [(.inr k, v)]) → Dq K H v x → Dq K H (.ref a) (.dict [(.str k, x)])
  | kon {a : Addr} {o : Obj} {its : Array Value} {n : Nat} {is : List Int} : K.lookup a = some o → o.cls = .type "tuple" → o.data = .seq its n → its.size ≤ sizeLine → Vals (is.map V.int) its.toList → Dq K H (.ref a) (.dict [(.int konI, .none), (.none, .tuple (is.map .int))])
  | adr {f c : Addr} {fi ci : Int} {q : Str} {cs : List PyData} : fi = (f : Nat) → ci = (c : Nat) → H c = some (LamX.CodeO c q) → (∀ x ∈ cs, capOk H x) → Dq K H (.ref f) (.dict [(.int konI, .int fi), (.int ci, .tuple (.str q :: cs))])
  | exc {a C : Addr} {n : Str} : PySem.W.nsIn K mainGlobals n = some (some (.ref C)) → H a = some (ExV (.ref C) none a) → Dq K H (.ref a) (.dict [(.int konI, .str n), (.none, .none)])
  | exf {a C dd : Addr} {n f : Str} {v : V} {x : PyData} : PySem.W.nsIn K mainGlobals n = some (some (.ref C)) → H a = some (ExV (.ref C) (some dd) a) → H dd = some (.xd [(f, v)]) → Dq K H v x → Dq K H (.ref a) (.dict [(.int konI, .str n), (.str f, x)])
  | fn {f : Addr} {n : Str} : PySem.W.nsIn K mainGlobals n = some (some (.ref f)) → Dq K H (.ref f) (.dict [(.int konI, .str n), (.bool false, .none)])
  | tab {a : Addr} {ws : List (Key × V)} {xs : List PyData} : H a = some (.dK ws) → DqAll K H (ws.map fun p => p.2) xs → Dq K H (.ref a) (.dict [(.int konI, .bool true), (.list (ws.map fun p => .tuple [kEnc p.1]), .list xs)])
  | tabT {a : Addr} {ws : List (List Key × V)} {xs : List PyData} : H a = some (.dT ws) → DqAll K H (ws.map fun p => p.2) xs → Dq K H (.ref a) (.dict [(.int konI, .bool false), (.list (ws.map fun p => .tuple (p.1.map kEnc)), .list xs)])
  | mem {a : Addr} {L : List (Addr × NestedKey × V)} {ps us : List V} {ks xs : List PyData} : H a = some (MemO a L) → (∀ p ∈ L, keyT H p.2.1 (.ref p.1)) → (∀ q ∈ ps.zip us, ∃ p ∈ L, q = (.ref p.1, p.2.2)) → DqAll K H ps ks → DqAll K H us xs → Dq K H (.ref a) (.dict [(.int konI, .list ks), (.none, .list xs)])
  | idx {a : Addr} {o : Obj} {is : List Int} : o.dict = none → H a = some (.frz o (.tup (is.map V.int))) → Dq K H (.ref a) (.dict [(.int konI, .tuple (is.map .int)), (.none, .none)])
inductive DqAll (K : PySem.W.Frag) (H : Hp) : List V → List PyData → Prop
  | nil : DqAll K H [] []
  | cons {v : V} {vs : List V} {d : PyData} {ds : List PyData} : Dq K H v d → DqAll K H vs ds → DqAll K H (v :: vs) (d :: ds)
end
mutual
theorem dq_dp {K : PySem.W.Frag} {H : Hp} : ∀ {v : V} (d : PyData), d.canLay0 = true → Dq K H v d → L2.Dp K H v d
  | _, .none, _, h => by cases h; exact .non
  | _, .bool b, _, h => by cases h; exact .bl b
  | _, .int b, _, h => by cases h; exact .int b
  | _, .str b, _, h => by cases h; exact .str b
  | _, .list ds, l, h => by
    cases h with
    | lst hs ha => exact .lst (SqL.of hs) (dq_dpA ds l ha)
  | _, .tuple ds, l, h => by
    cases h with
    | tup hs ha => exact .tup (SqT.of hs) (dq_dpA ds l ha)
  | _, .dict _, l, h => by cases l
theorem dq_dpA {K : PySem.W.Frag} {H : Hp} : ∀ {vs : List V} (ds : List PyData), PyData.canLayAll0 ds = true → DqAll K H vs ds → L2.DpAll K H vs ds
  | _, [], _, h => by cases h; exact .nil
  | _, d :: ds, l, h => by
    cases h with
    | cons h1 h2 => exact .cons (dq_dp d (Bool.and_eq_true_iff.mp l).1 h1) (dq_dpA ds (Bool.and_eq_true_iff.mp l).2 h2)
end
theorem capM {H H' : Hp} (e : Same H H') {x : PyData} (h : capOk H x) : capOk H' x := by
  unfold capOk at h ⊢
  split at h
  · trivial
  · obtain ⟨kk, h1, h2⟩ := h
    exact ⟨kk, h1, e _ _ h2⟩
  · obtain ⟨kk, h1, h2⟩ := h
    exact ⟨kk, h1, e _ _ h2⟩
  · exact h.elim
mutual
theorem keyTM {H H' : Hp} (e : ∀ a vs, H a = some (.tup vs) → H' a = some (.tup vs)) : ∀ (k : NestedKey) (v : V), keyT H k v → keyT H' k v
  | .num i, v, h => h
  | .none, _, h => h
  | .text _, _, h => h
  | .tup ks, v, h => by
    obtain ⟨a, vs, h1, h2, h3⟩ := h
    exact ⟨a, vs, h1, e _ _ h2, keyTsM e ks vs h3⟩
theorem keyTsM {H H' : Hp} (e : ∀ a vs, H a = some (.tup vs) → H' a = some (.tup vs)) : ∀ (ks : List NestedKey) (vs : List V), keyT.keyTs H ks vs → keyT.keyTs H' ks vs
  | [], vs, h => h
  | k :: ks, vs, h => by
    obtain ⟨v, us, h1, h2, h3⟩ := h
    exact ⟨v, us, h1, keyTM e k v h2, keyTsM e ks us h3⟩
end
mutual
theorem dpM {K : PySem.W.Frag} {H H' : Hp} (e : Same H H') : ∀ {v : V} (d : PyData), Dq K H v d → Dq K H' v d
  | _, .none, h => by cases h; exact .non
  | _, .bool b, h => by cases h; exact .bl b
  | _, .int b, h => by cases h; exact .int b
  | _, .str b, h => by cases h; exact .str b
  | _, .list ds, h => by
    cases h with
    | lst hs ha => exact .lst (e _ _ hs) (dpAllM e ds ha)
  | _, .tuple ds, h => by
    cases h with
    | tup hs ha => exact .tup (e _ _ hs) (dpAllM e ds ha)
  | _, .dict [], h => by
    cases h with
    | dctE hs => exact .dctE (e _ _ hs)
  | _, .dict [(k, x)], h => by
    cases h with
    | dct1 hs ha => exact .dct1 (e _ _ hs) (dpM e x ha)
  | _, .dict (_ :: _ :: _), h => by
    cases h with
    | kon h1 h2 h3 h4 h5 => exact .kon h1 h2 h3 h4 h5
    | adr g1 g2 h1 h2 => exact .adr g1 g2 (e _ _ h1) fun x hx => capM e (h2 x hx)
    | exc g h1 => exact .exc g (e _ _ h1)
    | exf g h1 h2 h3 => exact .exf g (e _ _ h1) (e _ _ h2) (dpM e _ h3)
    | idx g h1 => exact .idx g (e _ _ h1)
    | fn g => exact .fn g
    | tab h1 h2 => exact .tab (e _ _ h1) (dpAllM e _ h2)
    | tabT h1 h2 => exact .tabT (e _ _ h1) (dpAllM e _ h2)
    | mem h1 h2 h3 h4 h5 => exact .mem (e _ _ h1) (fun p hp => keyTM (fun _ _ z => e _ _ z) _ _ (h2 p hp)) h3 (dpAllM e _ h4) (dpAllM e _ h5)
theorem dpAllM {K : PySem.W.Frag} {H H' : Hp} (e : Same H H') : ∀ {vs : List V} (ds : List PyData), DqAll K H vs ds → DqAll K H' vs ds
  | _, [], h => by cases h; exact .nil
  | _, d :: ds, h => by
    cases h with
    | cons h1 h2 => exact .cons (dpM e d h1) (dpAllM e ds h2)
end
theorem dpAll_len {K : PySem.W.Frag} {H : Hp} : ∀ {vs : List V} {ds : List PyData}, DqAll K H vs ds → vs.length = ds.length
  | _, [], h => by cases h; rfl
  | _, d :: ds, h => by
    cases h with
    | cons h1 h2 => simp [dpAll_len h2]
theorem dpAll_app {K : PySem.W.Frag} {H : Hp} : ∀ {vs ws : List V} {ds es : List PyData}, DqAll K H vs ds → DqAll K H ws es → DqAll K H (vs ++ ws) (ds ++ es)
  | _, _, [], _, h, h' => by cases h; exact h'
  | _, _, d :: ds, _, h, h' => by
    cases h with
    | cons h1 h2 => exact .cons h1 (dpAll_app h2 h')
theorem dpAll_get {K : PySem.W.Frag} {H : Hp} : ∀ {vs : List V} {ds : List PyData} {i : Nat} {d : PyData}, DqAll K H vs ds → ds[i]? = some d → ∃ v, vs[i]? = some v ∧ Dq K H v d
  | _, [], i, _, h, e => by simp at e
  | _, x :: ds, 0, d, h, e => by
    cases h with
    | cons h1 h2 => simp at e; subst e; exact ⟨_, rfl, h1⟩
  | _, x :: ds, i + 1, d, h, e => by
    cases h with
    | cons h1 h2 =>
      obtain ⟨v, a, b⟩ := dpAll_get (i := i) h2 (by simpa using e)
      exact ⟨v, by simpa using a, b⟩
theorem dpAll_getV {K : PySem.W.Frag} {H : Hp} {vs : List V} {ds : List PyData} {i : Nat} {v : V} (h : DqAll K H vs ds) (e : vs[i]? = some v) : ∃ d, ds[i]? = some d ∧ Dq K H v d := by
  have hl : i < vs.length := (List.getElem?_eq_some_iff.mp e).1
  rw [dpAll_len h] at hl
  obtain ⟨w, a, b⟩ := dpAll_get (i := i) h (List.getElem?_eq_getElem hl)
  rw [e] at a
  cases a
  exact ⟨_, List.getElem?_eq_getElem hl, b⟩
theorem dpAll_set {K : PySem.W.Frag} {H : Hp} {v : V} {d : PyData} (hv : Dq K H v d) : ∀ {vs : List V} {ds : List PyData} (n : Nat), DqAll K H vs ds → DqAll K H (vs.set n v) (ds.set n d)
  | _, [], n, h => by cases h; exact .nil
  | _, x :: ds, 0, h => by
    cases h with
    | cons h1 h2 => exact .cons hv h2
  | _, x :: ds, n + 1, h => by
    cases h with
    | cons h1 h2 => exact .cons h1 (dpAll_set hv n h2)
theorem dpAll_rep {K : PySem.W.Frag} {H : Hp} {vs : List V} {ds : List PyData} (h : DqAll K H vs ds) : ∀ n : Nat, DqAll K H (List.replicate n vs).flatten (List.replicate n ds).flatten
  | 0 => .nil
  | n + 1 => by
    rw [List.replicate_succ, List.replicate_succ, List.flatten_cons, List.flatten_cons]
    exact dpAll_app h (dpAll_rep h n)

def TV (K : PySem.W.Frag) (G : Hp) (ws : List (List Key × V)) (kvs : List (List Key × PyData)) : Prop := Paired (fun (p : List Key × V) (q : List Key × PyData) => p.1 = q.1 ∧ Dq K G p.2 q.2) ws kvs
theorem tvM {K : PySem.W.Frag} {H H' : Hp} (e : Same H H') {ws : List (List Key × V)} {kvs : List (List Key × PyData)} (h : TV K H ws kvs) : TV K H' ws kvs := Paired.mapP h fun _ q z => ⟨z.1, dpM e _ z.2⟩
def TbO (K : PySem.W.Frag) (G : Hp) (o : HO) (t : Tab) : Prop := (t.fl = false ∧ ∃ ws, o = .dT ws ∧ TV K G ws t.kvs) ∨ (t.fl = true ∧ ∃ ws : List (Key × V), o = .dK ws ∧ TV K G (ws.map fun p => ([p.1], p.2)) t.kvs)
theorem tbM {K : PySem.W.Frag} {H H' : Hp} (e : Same H H') {o : HO} {t : Tab} (h : TbO K H o t) : TbO K H' o t := h.elim (fun ⟨f, ws, h1, h2⟩ => .inl ⟨f, ws, h1, tvM e h2⟩) fun ⟨f, ws, h1, h2⟩ => .inr ⟨f, ws, h1, tvM e h2⟩
def CO (K : PySem.W.Frag) (G : Hp) (o : HO) : C → Prop
  | .l xs => ∃ vs, o = .lst vs ∧ DqAll K G vs xs
  | .t kvs => TbO K G o kvs
theorem coM {K : PySem.W.Frag} {H H' : Hp} (e : Same H H') {o : HO} : ∀ {c : C}, CO K H o c → CO K H' o c
  | .l _, ⟨vs, h1, h2⟩ => ⟨vs, h1, dpAllM e _ h2⟩
  | .t _, h => tbM e h
theorem rdM {H H' : Hp} (e : Same H H') {a : Addr} {u : HO} (h : Rd H a u) : Rd H' a u := h.elim (fun h => .inl (e _ _ h)) fun ⟨od, h⟩ => .inr ⟨od, e _ _ h⟩
def MV (K : PySem.W.Frag) (G : Hp) (v : V) : M → Prop
  | .d x => Dq K G v x
  | .t kvs => ∃ a o, v = .ref a ∧ Rd G a o ∧ TbO K G o kvs
theorem mvM {K : PySem.W.Frag} {H H' : Hp} (e : Same H H') {v : V} : ∀ {s : M}, MV K H v s → MV K H' v s
  | .d x, h => dpM e _ h
  | .t kvs, ⟨a, o, h1, h2, h3⟩ => ⟨a, o, h1, rdM e h2, tbM e h3⟩
def SV (K : PySem.W.Frag) (G : Hp) (v : V) : S → Prop
  | .d x => Dq K G v x
  | .t kvs => ∃ a o, v = .ref a ∧ Rd G a o ∧ TbO K G o kvs
  | .z ns => ∃ a, v = .ref a ∧ SqL K G a (ns.map V.int)
  | .p xs => ∃ a, v = .ref a ∧ ∃ vs, G a = some (.tup vs) ∧ Paired (MV K G) vs xs
  | .o _ => False
theorem svM {K : PySem.W.Frag} {H H' : Hp} (e : Same H H') {v : V} : ∀ {s : S}, SV K H v s → SV K H' v s
  | .d x, h => dpM e _ h
  | .t kvs, ⟨a, o, h1, h2, h3⟩ => ⟨a, o, h1, rdM e h2, tbM e h3⟩
  | .z ns, ⟨a, h1, h2⟩ => ⟨a, h1, e.seq h2⟩
  | .p xs, ⟨a, h1, vs, h2, h3⟩ => ⟨a, h1, vs, e _ _ h2, Paired.mapP h3 fun _ q z => mvM e z⟩
/-- a value as it may be looked at: data, or an owned object as it stands -/
def At (K : PySem.W.Frag) (T : List Addr) (ρ : List (Option Addr)) (H : Hp) (v : V) : S → Prop
  | .o c => ∃ a o, v = .ref a ∧ H a = some o ∧ CO K (hid T ρ H) o c
  | s => SV K (hid T ρ H) v s
def frz : S → S
  | .o (.l xs) => .d (.list xs)
  | .o (.t kvs) => .t kvs
  | s => s

/-- no tuple: what may change -/
def NT : HO → Prop
  | .tup _ => False
  | .ext φ => ∃ a L, HO.ext φ = MemO a L
  | _ => True
theorem nt_mem (a : Addr) (L : List (Addr × NestedKey × V)) : NT (MemO a L) := by
  unfold MemO
  exact ⟨a, L, by unfold MemO; rfl⟩
/-- a heap of nothing but code objects -/
def codeHeap (c : Addr) (q : Str) : Heap := { objs := Array.replicate (c + 1) { cls := .none, data := .fields #[.none, .str q 0] } }
theorem nt_code (c : Addr) (q : Str) : ¬ NT (LamX.CodeO c q) := by
  intro h
  unfold LamX.CodeO at h
  obtain ⟨a, L, e⟩ := h
  unfold MemO at e
  injection e with e
  have e1 := congrFun e (codeHeap c q)
  have y : ∃ (oc : Obj) (vs : Array Value) (t : Tok), (codeHeap c q).get? c = some oc ∧ oc.data = .fields vs ∧ vs[1]? = some (.str q t) := by
    refine ⟨{ cls := .none, data := .fields #[.none, .str q 0] }, #[.none, .str q 0], 0, ?_, rfl, rfl⟩
    unfold Heap.get? codeHeap
    simp
  rw [e1] at y
  obtain ⟨_, o, es, ep, _, h1, _, h3, _⟩ := y
  unfold Heap.get? codeHeap at h1
  by_cases ha : a < c + 1
  · simp [ha] at h1
    rw [← h1] at h3
    cases h3
  · simp [ha] at h1
/-- the tables of code objects, each with the name that its code objects bear -/
class TB where
  tb : List (Addr × Str)
instance (priority := low) defTB : TB := ⟨[]⟩
variable [TB]
/-- what stands at an address that nobody writes: the same, or a table that has grown -/
def Kp (x y : Option HO) : Prop := y = x ∨ (∃ ps, x = some (.tbl ps)) ∧ ∃ qs, y = some (.tbl qs)
omit [TB] in
theorem Kp.refl {x : Option HO} : Kp x x := .inl rfl
omit [TB] in
theorem Kp.trans {x y z : Option HO} (a : Kp x y) (b : Kp y z) : Kp x z := by
  rcases a with rfl | ⟨⟨ps, rfl⟩, qs, rfl⟩
  · exact b
  · rcases b with rfl | ⟨_, rs, rfl⟩
    · exact .inr ⟨⟨ps, rfl⟩, qs, rfl⟩
    · exact .inr ⟨⟨ps, rfl⟩, rs, rfl⟩
omit [TB] in
theorem Kp.eq {x y : Option HO} {o : HO} (a : Kp x y) (h : x = some o) (n : ∀ ps, o ≠ .tbl ps) : y = some o := by
  rcases a with rfl | ⟨⟨ps, e⟩, _⟩
  · exact h
  · rw [h] at e
    exact absurd (Option.some.inj e) (n ps)
omit [TB] in
theorem Kp.nt {x y : Option HO} (a : Kp x y) (h : ∃ o, x = some o ∧ NT o) : ∃ o, y = some o ∧ NT o := by
  rcases a with rfl | ⟨_, qs, e⟩
  · exact h
  · exact ⟨_, e, trivial⟩
theorem tb_nt {K : PySem.W.Frag} {G : Hp} {o : HO} {t : Tab} (h : TbO K G o t) : NT o := h.elim (fun ⟨_, _, e, _⟩ => by rw [e]; trivial) fun ⟨_, _, e, _⟩ => by rw [e]; trivial
theorem co_nt {K : PySem.W.Frag} {G : Hp} {o : HO} : ∀ {c : C}, CO K G o c → NT o
  | .l _, ⟨_, e, _⟩ => by rw [e]; trivial
  | .t _, h => tb_nt h

theorem co_nb {K : PySem.W.Frag} {G : Hp} {o : HO} {c : C} (h : CO K G o c) : (∀ ps, o ≠ .tbl ps) ∧ NT o := by
  refine ⟨fun ps e => ?_, co_nt h⟩
  subst e
  cases c with
  | l xs =>
    obtain ⟨_, z, _⟩ := h
    cases z
  | t kvs =>
    rcases h with ⟨_, _, z, _⟩ | ⟨_, _, z, _⟩
    · cases z
    · cases z
theorem tb_nb {K : PySem.W.Frag} {G : Hp} {o : HO} {t : Tab} (h : TbO K G o t) : (∀ ps, o ≠ .tbl ps) ∧ NT o := co_nb (c := .t t) h
structure Sim (K : PySem.W.Frag) (T : List Addr) (ρ : List (Option Addr)) (δ : Ds) (σ : L2.St) (H : Hp) : Prop where
  len : ρ.length = δ.length
  slen : σ.length = δ.length
  slot : ∀ (i : Nat) (s : S), δ[i]? = some (some s) → ∃ v, σ[i]? = some (some v) ∧ At K T ρ H v s
  own : ∀ (i : Nat) (c : C), δ[i]? = some (some (.o c)) → ∃ a, ρ[i]? = some (some a) ∧ σ[i]? = some (some (.ref a))
  own' : ∀ (i : Nat) (a : Addr), ρ[i]? = some (some a) → ∃ c, δ[i]? = some (some (.o c))
  inj : ∀ (i j : Nat) (a : Addr), ρ[i]? = some (some a) → ρ[j]? = some (some a) → i = j
  nt : ∀ (i : Nat) (a : Addr), ρ[i]? = some (some a) → a ∉ T
  tmp : ∀ a, a ∈ T → ∃ o, H a = some o ∧ NT o
  tabT : ∀ p ∈ TB.tb, p.1 ∈ T
  tabs : LamX.Tabs TB.tb H
structure Ext (T : List Addr) (ρ : List (Option Addr)) (H : Hp) (ρ' : List (Option Addr)) (H' : Hp) : Prop where
  same : Same (hid T ρ H) (hid T ρ' H')
  tmp : ∀ a, a ∈ T → Kp (H a) (H' a)
  tabs : LamX.Tabs TB.tb H → LamX.Tabs TB.tb H'
theorem Ext.refl {T : List Addr} {ρ : List (Option Addr)} {H : Hp} : Ext T ρ H ρ H := ⟨Same.refl _, fun _ _ => .refl, id⟩
theorem Ext.trans {T : List Addr} {ρ ρ1 ρ2 : List (Option Addr)} {H H1 H2 : Hp} (a : Ext T ρ H ρ1 H1) (b : Ext T ρ1 H1 ρ2 H2) : Ext T ρ H ρ2 H2 := ⟨a.same.trans b.same, fun c h => (a.tmp c h).trans (b.tmp c h), fun h => b.tabs (a.tabs h)⟩
structure Trk (T : List Addr) (ρ : List (Option Addr)) (H : Hp) : Prop where
  tmp : ∀ a, a ∈ T → ∃ o, H a = some o ∧ NT o
  own : ∀ a, some a ∈ ρ → ∃ o, H a = some o ∧ NT o
  tabT : ∀ p ∈ TB.tb, p.1 ∈ T
section
variable {K : PySem.W.Frag} {T : List Addr} {ρ ρ1 ρ' : List (Option Addr)} {δ δ' : Ds} {σ σ' : L2.St} {H H1 H' : Hp}
theorem mem_ix {α : Type} {l : List α} {x : α} (h : x ∈ l) : ∃ i : Nat, l[i]? = some x := List.mem_iff_getElem?.mp h
theorem ix_mem {α : Type} {l : List α} {x : α} {i : Nat} (h : l[i]? = some x) : x ∈ l := List.mem_iff_getElem?.mpr ⟨i, h⟩
theorem Sim.trk (h : Sim K T ρ δ σ H) : Trk T ρ H := ⟨h.tmp, fun a ha => by
  obtain ⟨i, hi⟩ := mem_ix ha
  obtain ⟨c, hc⟩ := h.own' i a hi
  obtain ⟨v, e1, e2⟩ := h.slot i _ hc
  obtain ⟨b, eb1, eb2⟩ := h.own i c hc
  rw [hi] at eb1
  cases eb1
  rw [eb2] at e1
  cases e1
  obtain ⟨b, o, z, hb, hc⟩ := e2
  cases z
  exact ⟨o, hb, co_nt hc⟩, h.tabT⟩
theorem Trk.extT (k : Trk T ρ H) (e : Same H H') : Ext T ρ H ρ H' := ⟨hid_mono e, fun a ha => by
  obtain ⟨o, ho, _⟩ := k.tmp a ha
  exact .inl (by rw [e a o ho, ho]), fun h => h.ext e⟩
/-- where the tables stand still -/
theorem Ext.of (k : Trk T ρ H) (e : Same (hid T ρ H) (hid T ρ' H')) (t : ∀ a, a ∈ T → H' a = H a) : Ext T ρ H ρ' H' := ⟨e, fun a ha => .inl (t a ha), fun h p hp => by
  obtain ⟨ps, h1, h2, h3⟩ := h p hp
  refine ⟨ps, (t _ (k.tabT p hp)).trans h1, h2, fun pos cv hc => ?_⟩
  obtain ⟨c, e1, e2⟩ := h3 pos cv hc
  refine ⟨c, e1, (hid_some.mp (e c _ (hid_some.mpr ⟨e2, fun z => ?_, fun z => ?_⟩))).1⟩
  · obtain ⟨o, ho, hn⟩ := k.tmp c z
    rw [e2] at ho
    cases ho
    exact nt_code _ _ hn
  · obtain ⟨o, ho, hn⟩ := k.own c z
    rw [e2] at ho
    cases ho
    exact nt_code _ _ hn⟩
theorem Ext.at (x : Ext T ρ H ρ' H') {a : Addr} {o : HO} (ha : a ∈ T) (h : H a = some o) (n : ∀ ps, o ≠ .tbl ps := by intro _ z; cases z) : H' a = some o := (x.tmp a ha).eq h n
omit [TB] in
theorem nb_of {H : Hp} {D : Addr} {o : HO} (h : H D = some o) (n1 : ∀ ps, o ≠ .tbl ps := by intro _ z; cases z) (n2 : NT o := by trivial) : ∀ x, H D = some x → (∀ ps, x ≠ .tbl ps) ∧ NT x := fun x e => by
  rw [h] at e
  cases e
  exact ⟨n1, n2⟩
/-- a table elsewhere than where something else is written -/
theorem tabs_upd {T : List (Addr × Str)} {H : Hp} {a : Addr} {o : HO} (h : LamX.Tabs T H) (n : ∀ x, H a = some x → (∀ ps, x ≠ .tbl ps) ∧ NT x) : LamX.Tabs T (upd H a o) := fun p hp => by
  obtain ⟨ps, h1, h2, h3⟩ := h p hp
  refine ⟨ps, by rw [upd_ne (fun z => (n _ (by rw [← z]; exact h1)).1 ps rfl)]; exact h1, h2, fun pos cv hc => ?_⟩
  obtain ⟨c, e1, e2⟩ := h3 pos cv hc
  exact ⟨c, e1, by rw [upd_ne (fun z => nt_code _ _ (n (LamX.CodeO c p.2) (by rw [← z]; exact e2)).2)]; exact e2⟩
theorem Sim.nb {i : Nat} {c : C} {a : Addr} (h : Sim K T ρ δ σ H) (hi : δ[i]? = some (some (.o c))) (ha : ρ[i]? = some (some a)) : ∀ x, H a = some x → (∀ ps, x ≠ .tbl ps) ∧ NT x := fun x hx => by
  obtain ⟨v, e1, e2⟩ := h.slot i _ hi
  obtain ⟨b, e3, e4⟩ := h.own i c hi
  rw [ha] at e3
  cases e3
  rw [e4] at e1
  cases e1
  obtain ⟨b, o, z, hb, hc⟩ := e2
  cases z
  rw [hx] at hb
  cases hb
  exact co_nb hc
theorem atM (e : Same H H') {v : V} : ∀ {s : S}, At K T ρ H v s → At K T ρ H' v s
  | .o c, ⟨a, o, h1, h2, h3⟩ => ⟨a, o, h1, e _ _ h2, coM (hid_mono e) h3⟩
  | .d x, h => svM (s := .d x) (hid_mono e) h
  | .t x, h => svM (s := .t x) (hid_mono e) h
  | .z x, h => svM (s := .z x) (hid_mono e) h
  | .p x, h => svM (s := .p x) (hid_mono e) h
theorem Sim.mono (h : Sim K T ρ δ σ H) (e : Same H H') : Sim K T ρ δ σ H' where
  len := h.len
  slen := h.slen
  slot := fun i s hs => let ⟨v, a, b⟩ := h.slot i s hs; ⟨v, a, atM e b⟩
  own := h.own
  own' := h.own'
  inj := h.inj
  nt := h.nt
  tmp := fun a ha => let ⟨o, ho, hn⟩ := h.tmp a ha; ⟨o, e a o ho, hn⟩
  tabT := h.tabT
  tabs := h.tabs.ext e
/-- a new object is nobody's -/
theorem Trk.fresh (k : Trk T ρ H) {p : Addr} (hp : H p = none) : p ∉ T ∧ some p ∉ ρ := by
  constructor
  · intro z
    obtain ⟨o, ho, _⟩ := k.tmp p z
    rw [hp] at ho
    cases ho
  · intro z
    obtain ⟨o, ho, _⟩ := k.own p z
    rw [hp] at ho
    cases ho
theorem same_new {p : Addr} {o : HO} (hp : H p = none) : Same H (upd H p o) := fun b x e => by
  rw [upd_ne (ne_of_none e hp)]
  exact e
theorem Trk.hidNew (k : Trk T ρ H) {p : Addr} {o : HO} (hp : H p = none) : hid T ρ (upd H p o) p = some o := hid_some.mpr ⟨upd_same, k.fresh hp⟩
end
end DL

namespace DL
open PySem PySem.Spec PyProof.Rows L2
variable [TB]

inductive PV where
  | v (s : S)
  | own (i : Nat)
def slot (δ : Ds) (i : Nat) : Option S := (δ[i]?).join
theorem slot_some {δ : Ds} {i : Nat} {s : S} (h : slot δ i = some s) : δ[i]? = some (some s) := by
  unfold slot at h
  cases e : δ[i]? with
  | none => rw [e] at h; cases h
  | some x => rw [e] at h; cases x with
    | none => cases h
    | some y => cases h; rfl
def res (δ : Ds) : PV → Option S
  | .v s => some s
  | .own i => slot δ i
def resA (δ : Ds) : List PV → Option (List S)
  | [] => some []
  | p :: ps => (res δ p).bind fun s => (resA δ ps).map (s :: ·)
def dataA : List PV → Option (List PyData)
  | [] => some []
  | .v (.d x) :: ps => (dataA ps).map (x :: ·)
  | _ => none

abbrev EV := Ds → Option (S × Ds)
abbrev PEV := Ds → Option (PV × Ds)
abbrev TEV := Ds → Option (Bool × Ds)
abbrev AEV := Ds → Option (List PV × Ds)

section
variable (K : PySem.W.Frag) (T : List Addr) (ρ : List (Option Addr)) (H : Hp) (σ : L2.St)
def Post (Q : VK) (δ' : Ds) : S → Prop
  | .o c => ∀ ρ' p H0 o, Sim K T ρ' δ' σ H0 → Ext T ρ H ρ' H0 → H0 p = none → CO K (hid T ρ' H0) o c → Q (.ref p) (upd H0 p o)
  | s => ∀ ρ' v H', Sim K T ρ' δ' σ H' → Ext T ρ H ρ' H' → SV K (hid T ρ' H') v s → Q v H'
def PAt (v : V) : PV → Prop
  | .v s => SV K (hid T ρ H) v s
  | .own i => σ[i]? = some (some v)
/-- behind an operation that only lays new things -/
def PostO (Q : VK) : S → Prop
  | .o c => ∀ p o, H p = none → CO K (hid T ρ H) o c → Q (.ref p) (upd H p o)
  | s => ∀ v H', Same H H' → SV K (hid T ρ H') v s → Q v H'
end
def lift (K : PySem.W.Frag) (f : EV) : TE := fun σ H Q => ∃ T ρ δ s δ', Sim K T ρ δ σ H ∧ f δ = some (s, δ') ∧ Post K T ρ H σ Q δ' s
def liftP (K : PySem.W.Frag) (f : PEV) : TE := fun σ H Q => ∃ T ρ δ p δ', Sim K T ρ δ σ H ∧ f δ = some (p, δ') ∧ ∀ ρ' v H', Sim K T ρ' δ' σ H' → Ext T ρ H ρ' H' → PAt K T ρ' H' σ v p → Q v H'
def liftT (K : PySem.W.Frag) (f : TEV) : TT := fun σ H Q => ∃ T ρ δ b δ', Sim K T ρ δ σ H ∧ f δ = some (b, δ') ∧ ∀ ρ' H', Sim K T ρ' δ' σ H' → Ext T ρ H ρ' H' → Q b H'
def liftA (K : PySem.W.Frag) (f : AEV) : TA := fun σ H Q => ∃ T ρ δ ps δ', Sim K T ρ δ σ H ∧ f δ = some (ps, δ') ∧ ∀ ρ' vs H', Sim K T ρ' δ' σ H' → Ext T ρ H ρ' H' → Paired (PAt K T ρ' H' σ) vs ps → Q vs H'
abbrev DE (X : Cx) (e : Expr) (f : EV) : Prop := PE X e (lift X.K f)
abbrev DP (X : Cx) (e : Expr) (f : PEV) : Prop := PE X e (liftP X.K f)
abbrev DT (X : Cx) (e : Expr) (f : TEV) : Prop := PT X e (liftT X.K f)
abbrev DW (X : Cx) (e : Expr) (f : TEV) : Prop := PW X e (liftT X.K f)
abbrev DA (X : Cx) (es : List Expr) (f : AEV) : Prop := PA X es (liftA X.K f)

section
variable {X : Cx} {e : Expr}
theorem pe_imp {t t' : TE} (p : PE X e t) (m : ∀ σ H Q, t' σ H Q → t σ H Q) : PE X e t' := ⟨fun pins s σ H Q I h => p.run pins s σ H Q I (m σ H Q h)⟩
theorem pt_imp {t t' : TT} (p : PT X e t) (m : ∀ σ H Q, t' σ H Q → t σ H Q) : PT X e t' := ⟨fun pins s σ H Q I h => p.run pins s σ H Q I (m σ H Q h)⟩
theorem pw_imp {t t' : TT} (p : PW X e t) (m : ∀ σ H Q, t' σ H Q → t σ H Q) : PW X e t' := ⟨fun wh pins s σ H Q I h => p.run wh pins s σ H Q I (m σ H Q h)⟩
theorem pa_imp {es : List Expr} {t t' : TA} (p : PA X es t) (m : ∀ σ H Q, t' σ H Q → t σ H Q) : PA X es t' := ⟨fun pos pins s σ H Q I h => p.run pos pins s σ H Q I (m σ H Q h)⟩
theorem ps_imp {st : Stmt} {t t' : TS} (p : PS X st t) (m : ∀ D σ H, t' D σ H → t D σ H) : PS X st t' := ⟨fun pins s σ H D I h => p.run pins s σ H D I (m D σ H h)⟩
theorem pss_imp {st : List Stmt} {t t' : TS} (p : PSs X st t) (m : ∀ D σ H, t' D σ H → t D σ H) : PSs X st t' := ⟨fun pins s σ H D I h => p.run pins s σ H D I (m D σ H h)⟩
end

section
variable {K : PySem.W.Frag} {T : List Addr} {ρ ρ0 ρ1 : List (Option Addr)} {δ δ' : Ds} {σ σ' : L2.St} {H H0 H1 H' : Hp}
theorem sv_at {v : V} : ∀ {s : S}, SV K (hid T ρ H) v s → At K T ρ H v s
  | .d _, h => h
  | .t _, h => h
  | .z _, h => h
  | .p _, h => h
theorem pat_at {v : V} {p : PV} {s : S} (h : Sim K T ρ δ σ H) (e : Ext T ρ0 H0 ρ H) (hp : PAt K T ρ0 H0 σ v p) (hr : res δ p = some s) : At K T ρ H v s := by
  cases p with
  | v s' => cases hr; exact sv_at (svM e.same hp)
  | own i =>
    obtain ⟨w, e1, e2⟩ := h.slot i s (slot_some hr)
    have hp' : σ[i]? = some (some v) := hp
    rw [hp'] at e1
    cases e1
    exact e2
theorem pats_at (h : Sim K T ρ δ σ H) (e : Ext T ρ0 H0 ρ H) : ∀ {vs : List V} {ps : List PV} {ss : List S}, Paired (PAt K T ρ0 H0 σ) vs ps → resA δ ps = some ss → Paired (At K T ρ H) vs ss
  | _, _, _, .nil, hr => by cases hr; exact .nil
  | _, p :: ps, ss, .cons a b, hr => by
    unfold resA at hr
    cases e1 : res δ p with
    | none => rw [e1] at hr; cases hr
    | some s =>
      rw [e1] at hr
      cases e2 : resA δ ps with
      | none => rw [e2] at hr; cases hr
      | some r =>
        rw [e2] at hr
        cases hr
        exact .cons (pat_at h e a e1) (pats_at h e b e2)
theorem patM {v : V} {p : PV} (e : Ext T ρ0 H0 ρ H) (hp : PAt K T ρ0 H0 σ v p) : PAt K T ρ H σ v p := by
  cases p with
  | v s => exact svM (s := s) e.same hp
  | own i => exact hp
theorem data_dp : ∀ {vs : List V} {ps : List PV} {ds : List PyData}, Paired (PAt K T ρ H σ) vs ps → dataA ps = some ds → DqAll K (hid T ρ H) vs ds
  | _, _, _, .nil, hr => by cases hr; exact .nil
  | _, .v (.d x) :: ps, ds, .cons a b, hr => by
    have hr' : (dataA ps).map (x :: ·) = some ds := hr
    cases e2 : dataA ps with
    | none => rw [e2] at hr'; cases hr'
    | some r =>
      rw [e2] at hr'
      cases hr'
      exact .cons a (data_dp b e2)
  | _, .v (.t x) :: ps, ds, .cons a b, hr => by cases hr
  | _, .v (.z x) :: ps, ds, .cons a b, hr => by cases hr
  | _, .v (.p x) :: ps, ds, .cons a b, hr => by cases hr
  | _, .v (.o x) :: ps, ds, .cons a b, hr => by cases hr
  | _, .own x :: ps, ds, .cons a b, hr => by cases hr

/-- from the whole's end to an operation's -/
theorem post_o {Q : VK} {s : S} (h : Sim K T ρ1 δ' σ H1) (e : Ext T ρ H ρ1 H1) (q : Post K T ρ H σ Q δ' s) : PostO K T ρ1 H1 Q s := by
  cases s with
  | o c => exact fun p o hp hc => q ρ1 p H1 o h e hp hc
  | d x => exact fun v H' hs hv => q ρ1 v H' (h.mono hs) (e.trans (h.trk.extT hs)) hv
  | t x => exact fun v H' hs hv => q ρ1 v H' (h.mono hs) (e.trans (h.trk.extT hs)) hv
  | z x => exact fun v H' hs hv => q ρ1 v H' (h.mono hs) (e.trans (h.trk.extT hs)) hv
  | p x => exact fun v H' hs hv => q ρ1 v H' (h.mono hs) (e.trans (h.trk.extT hs)) hv
theorem post_step {Q : VK} {s : S} (e : Ext T ρ H ρ1 H1) (q : Post K T ρ H σ Q δ' s) : Post K T ρ1 H1 σ Q δ' s := by
  cases s with
  | o c => exact fun ρ' p H0 o h e' hp hc => q ρ' p H0 o h (e.trans e') hp hc
  | d x => exact fun ρ' v H' h e' hv => q ρ' v H' h (e.trans e') hv
  | t x => exact fun ρ' v H' h e' hv => q ρ' v H' h (e.trans e') hv
  | z x => exact fun ρ' v H' h e' hv => q ρ' v H' h (e.trans e') hv
  | p x => exact fun ρ' v H' h e' hv => q ρ' v H' h (e.trans e') hv
/-- what is new is laid down as data -/
theorem frz_new {p : Addr} {o : HO} {c : C} (k : Trk T ρ H) (hp : H p = none) (hc : CO K (hid T ρ H) o c) : SV K (hid T ρ (upd H p o)) (.ref p) (frz (.o c)) := by
  have hm : Same (hid T ρ H) (hid T ρ (upd H p o)) := hid_mono (same_new hp)
  cases c with
  | l xs =>
    obtain ⟨vs, rfl, ha⟩ := hc
    exact Dq.lst (k.hidNew hp) (dpAllM hm _ ha)
  | t kvs =>
    exact ⟨p, o, rfl, .inl (k.hidNew hp), tbM hm hc⟩
/-- an owned slot is data from now on -/
theorem Sim.freeze {i : Nat} {c : C} (h : Sim K T ρ δ σ H) (hi : δ[i]? = some (some (.o c))) : Sim K T (ρ.set i none) (δ.set i (some (frz (.o c)))) σ H ∧ Ext T ρ H (ρ.set i none) H ∧ ∃ v, σ[i]? = some (some v) ∧ SV K (hid T (ρ.set i none) H) v (frz (.o c)) := by
  have hil : i < δ.length := (List.getElem?_eq_some_iff.mp hi).1
  have hir : i < ρ.length := by rw [h.len]; exact hil
  have hl : Same (hid T ρ H) (hid T (ρ.set i none) H) := hid_less fun b hb => hb.elim .inl fun z => .inr (by
    rcases List.mem_or_eq_of_mem_set z with z | z
    · exact z
    · cases z)
  obtain ⟨a, ha, hσ⟩ := h.own i c hi
  obtain ⟨v, hv, hat⟩ := h.slot i _ hi
  rw [hσ] at hv
  cases hv
  obtain ⟨b, o, z, ho, hc⟩ := hat
  cases z
  have hna : some a ∉ ρ.set i none := fun z => by
    obtain ⟨j, hj⟩ := mem_ix z
    by_cases hij : i = j
    · subst hij
      rw [List.getElem?_set_self hir] at hj
      cases hj
    · rw [List.getElem?_set_ne hij] at hj
      exact hij (h.inj i j a ha hj)
  have hva : hid T (ρ.set i none) H a = some o := hid_some.mpr ⟨ho, h.nt i a ha, hna⟩
  have hsv : SV K (hid T (ρ.set i none) H) (.ref a) (frz (.o c)) := by
    cases c with
    | l xs =>
      obtain ⟨vs, rfl, hd⟩ := hc
      exact Dq.lst hva (dpAllM hl _ hd)
    | t kvs =>
      exact ⟨a, o, rfl, .inl hva, tbM hl hc⟩
  have hno : ∀ c', frz (.o c) ≠ .o c' := fun c' z => by cases c <;> cases z
  refine ⟨⟨?_, ?_, ?_, ?_, ?_, ?_, ?_, h.tmp, h.tabT, h.tabs⟩, ⟨hl, fun _ _ => .refl, id⟩, _, hσ, hsv⟩
  · rw [List.length_set, List.length_set]; exact h.len
  · rw [List.length_set]; exact h.slen
  · intro j s hj
    by_cases hij : i = j
    · subst hij
      rw [List.getElem?_set_self hil] at hj
      cases hj
      exact ⟨_, hσ, sv_at hsv⟩
    · rw [List.getElem?_set_ne hij] at hj
      obtain ⟨w, e1, e2⟩ := h.slot j s hj
      refine ⟨w, e1, ?_⟩
      cases s with
      | o c' =>
        obtain ⟨x, o', z1, z2, z3⟩ := e2
        exact ⟨x, o', z1, z2, coM hl z3⟩
      | d x => exact svM (s := .d x) hl e2
      | t x => exact svM (s := .t x) hl e2
      | z x => exact svM (s := .z x) hl e2
      | p x => exact svM (s := .p x) hl e2
  · intro j c' hj
    by_cases hij : i = j
    · subst hij
      rw [List.getElem?_set_self hil] at hj
      exact absurd (Option.some.inj (Option.some.inj hj)) (hno c')
    · rw [List.getElem?_set_ne hij] at hj
      rw [List.getElem?_set_ne hij]
      exact h.own j c' hj
  · intro j b hj
    by_cases hij : i = j
    · subst hij
      rw [List.getElem?_set_self hir] at hj
      cases hj
    · rw [List.getElem?_set_ne hij] at hj
      rw [List.getElem?_set_ne hij]
      exact h.own' j b hj
  · intro j k b hj hk
    have f : ∀ m, (ρ.set i none)[m]? = some (some b) → ρ[m]? = some (some b) := fun m hm => by
      by_cases him : i = m
      · subst him
        rw [List.getElem?_set_self hir] at hm
        cases hm
      · rw [List.getElem?_set_ne him] at hm
        exact hm
    exact h.inj j k b (f j hj) (f k hk)
  · intro j b hj
    by_cases hij : i = j
    · subst hij
      rw [List.getElem?_set_self hir] at hj
      cases hj
    · rw [List.getElem?_set_ne hij] at hj
      exact h.nt j b hj
end

/-! ### names, constants -/
def vr (i : Nat) : EV := fun δ => match slot δ i with
  | some (.o c) => some (frz (.o c), δ.set i (some (frz (.o c))))
  | some s => some (s, δ)
  | none => none
def pk (i : Nat) : PEV := fun δ => match slot δ i with
  | some (.o _) => some (.own i, δ)
  | some s => some (.v s, δ)
  | none => none
def cst (x : PyData) : EV := fun δ => some (.d x, δ)
def frzP (f : EV) : PEV := fun δ => (f δ).map fun r => (PV.v (frz r.1), r.2)
section
variable {X : Cx} {a b : Expr} {pos : Pos}
theorem de_var {i : Nat} {x : Str} (p : PE X (.Name x pos) (tVar i)) : DE X (.Name x pos) (vr i) := pe_imp p fun σ H Q ⟨T, ρ, δ, s, δ', hs, hf, hq⟩ => by
  unfold vr at hf
  cases e : slot δ i with
  | none => rw [e] at hf; cases hf
  | some s' =>
    rw [e] at hf
    cases s' with
    | o c =>
      obtain ⟨h1, h2, v, h3, h4⟩ := hs.freeze (slot_some e)
      cases hf
      refine ⟨v, h3, ?_⟩
      cases c with
      | l xs => exact hq _ v H h1 h2 h4
      | t xs => exact hq _ v H h1 h2 h4
    | d x =>
      cases hf
      obtain ⟨v, h3, h4⟩ := hs.slot i _ (slot_some e)
      exact ⟨v, h3, hq _ v H hs .refl h4⟩
    | t x =>
      cases hf
      obtain ⟨v, h3, h4⟩ := hs.slot i _ (slot_some e)
      exact ⟨v, h3, hq _ v H hs .refl h4⟩
    | z x =>
      cases hf
      obtain ⟨v, h3, h4⟩ := hs.slot i _ (slot_some e)
      exact ⟨v, h3, hq _ v H hs .refl h4⟩
    | p x =>
      cases hf
      obtain ⟨v, h3, h4⟩ := hs.slot i _ (slot_some e)
      exact ⟨v, h3, hq _ v H hs .refl h4⟩
theorem dp_var {i : Nat} {x : Str} (p : PE X (.Name x pos) (tVar i)) : DP X (.Name x pos) (pk i) := pe_imp p fun σ H Q ⟨T, ρ, δ, s, δ', hs, hf, hq⟩ => by
  unfold pk at hf
  cases e : slot δ i with
  | none => rw [e] at hf; cases hf
  | some s' =>
    rw [e] at hf
    obtain ⟨v, h3, h4⟩ := hs.slot i _ (slot_some e)
    cases s' with
    | o c =>
      cases hf
      exact ⟨v, h3, hq _ v H hs .refl h3⟩
    | d x =>
      cases hf
      exact ⟨v, h3, hq _ v H hs .refl h4⟩
    | t x =>
      cases hf
      exact ⟨v, h3, hq _ v H hs .refl h4⟩
    | z x =>
      cases hf
      exact ⟨v, h3, hq _ v H hs .refl h4⟩
    | p x =>
      cases hf
      exact ⟨v, h3, hq _ v H hs .refl h4⟩
theorem de_cst {e : Expr} {v : V} {x : PyData} (p : PE X e (tC v)) (hd : ∀ G, Dq X.K G v x) : DE X e (cst x) := pe_imp p fun σ H Q ⟨T, ρ, δ, s, δ', hs, hf, hq⟩ => by
  cases hf
  exact hq _ v H hs .refl (hd _)
theorem de_int {i j pos} : DE X (.Constant (.int i) j pos) (cst (.int i)) := de_cst pe_int fun _ => .int i
theorem de_bl {b j pos} : DE X (.Constant (.bool b) j pos) (cst (.bool b)) := de_cst pe_bl fun _ => .bl b
theorem de_non {j pos} : DE X (.Constant .none j pos) (cst .none) := de_cst pe_non fun _ => .non
theorem de_str {x j pos} : DE X (.Constant (.str x) j pos) (cst (.str x)) := de_cst pe_str fun _ => .str x
theorem dp_of {e : Expr} {f : EV} (p : DE X e f) : DP X e (frzP f) := pe_imp p fun σ H Q ⟨T, ρ, δ, s, δ', hs, hf, hq⟩ => by
  unfold frzP at hf
  cases e : f δ with
  | none => rw [e] at hf; cases hf
  | some r =>
    obtain ⟨s', δ1⟩ := r
    rw [e] at hf
    cases hf
    refine ⟨T, ρ, δ, s', δ1, hs, e, ?_⟩
    cases s' with
    | o c => exact fun ρ' p H0 o h e hp hc => hq ρ' (.ref p) (upd H0 p o) (h.mono (same_new hp)) (e.trans (h.trk.extT (same_new hp))) (frz_new h.trk hp hc)
    | d x => exact fun ρ' v H' h e hv => hq ρ' v H' h e hv
    | t x => exact fun ρ' v H' h e hv => hq ρ' v H' h e hv
    | z x => exact fun ρ' v H' h e hv => hq ρ' v H' h e hv
    | p x => exact fun ρ' v H' h e hv => hq ρ' v H' h e hv

/-! ### two operands -/
def bin (g : S → S → Option S) (fa fb : PEV) : EV := fun δ => (fa δ).bind fun x => (fb x.2).bind fun y => (res y.2 x.1).bind fun s => (res y.2 y.1).bind fun u => (g s u).map fun z => (z, y.2)
def OpD (K : PySem.W.Frag) (r : R2) (g : S → S → Option S) : Prop := ∀ (T : List Addr) (ρ : List (Option Addr)) (H : Hp) (x y : V) (a b s : S) (Q : VK), Trk T ρ H → At K T ρ H x a → At K T ρ H y b → g a b = some s → PostO K T ρ H Q s → r x y H Q
theorem bin_ok {r : R2} {g : S → S → Option S} {fa fb : PEV} (hd : OpD X.K r g) (σ : L2.St) (H : Hp) (Q : VK) (h : lift X.K (bin g fa fb) σ H Q) : tOp r (liftP X.K fa) (liftP X.K fb) σ H Q := by
  obtain ⟨T, ρ, δ, s, δ', hs, hf, hq⟩ := h
  unfold bin at hf
  cases ea : fa δ with
  | none => rw [ea] at hf; cases hf
  | some x =>
    rw [ea] at hf
    simp only [Option.bind_some] at hf
    cases eb : fb x.2 with
    | none => rw [eb] at hf; cases hf
    | some y =>
      rw [eb] at hf
      simp only [Option.bind_some] at hf
      cases e1 : res y.2 x.1 with
      | none => rw [e1] at hf; cases hf
      | some u =>
        rw [e1] at hf
        simp only [Option.bind_some] at hf
        cases e2 : res y.2 y.1 with
        | none => rw [e2] at hf; cases hf
        | some w =>
          rw [e2] at hf
          simp only [Option.bind_some] at hf
          cases e3 : g u w with
          | none => rw [e3] at hf; cases hf
          | some z =>
            rw [e3] at hf
            cases hf
            refine ⟨T, ρ, δ, x.1, x.2, hs, by rw [ea], fun ρ1 v1 H1 s1 x1 p1 => ?_⟩
            refine ⟨T, ρ1, x.2, y.1, y.2, s1, by rw [eb], fun ρ2 v2 H2 s2 x2 p2 => ?_⟩
            exact hd T ρ2 H2 v1 v2 u w s Q s2.trk (pat_at s2 x2 p1 e1) (pat_at s2 .refl p2 e2) e3 (post_o s2 (x1.trans x2) hq)
theorem de_op {op : Operator} {r : R2} {g : S → S → Option S} {fa fb : PEV} (ho : OpR X (binaryOp op) r) (hd : OpD X.K r g) (ha : DP X a fa) (hb : DP X b fb) : DE X (.BinOp a op b pos) (bin g fa fb) := pe_imp (pe_op ho ha hb) (bin_ok hd)
theorem de_cmp {op : CmpOp} {r : R2} {g : S → S → Option S} {fa fb : PEV} (ho : OpR X (compareOp op) r) (hd : OpD X.K r g) (ha : DP X a fa) (hb : DP X b fb) (hm : behindInMarks op b = false) : DE X (.Compare a [op] [b] pos) (bin g fa fb) := pe_imp (pe_cmpR ho ha hb hm) (bin_ok hd)
theorem de_ix {r : R2} {g : S → S → Option S} {fa fb : PEV} (ho : IxR X r) (hd : OpD X.K r g) (ha : DP X a fa) (hb : DP X b fb) (hs : PlainIx b) : DE X (.Subscript a b pos) (bin g fa fb) := pe_imp (pe_ix ho ha hb hs) (bin_ok hd)
/-! ### tests -/
def bl (f : EV) : TEV := fun δ => (f δ).bind fun r => match r.1 with
  | .d (.bool b) => some (b, r.2)
  | _ => none
theorem bl_ok {f : EV} (σ : L2.St) (H : Hp) (Q : Bool → Hp → Prop) (h : liftT X.K (bl f) σ H Q) : tB (lift X.K f) σ H Q := by
  obtain ⟨T, ρ, δ, b, δ', hs, hf, hq⟩ := h
  unfold bl at hf
  cases ea : f δ with
  | none => rw [ea] at hf; cases hf
  | some x =>
    obtain ⟨s, δ1⟩ := x
    rw [ea] at hf
    simp only [Option.bind_some] at hf
    split at hf
    · rename_i k
      cases hf
      refine ⟨T, ρ, δ, _, _, hs, ea, fun ρ' v H' s1 x1 hv => ?_⟩
      cases hv
      exact ⟨_, rfl, hq ρ' H' s1 x1⟩
    · cases hf
theorem dt_val {e : Expr} {f : EV} (p : DE X e f) (he : ∀ whole, isTrue e X.env whole = (do let v ← whole; standAt e.pos; holding [v] (truthy v)) := by intro _; rfl) : DT X e (bl f) := pt_imp (pt_val p he) bl_ok
theorem dt_cmp {op : CmpOp} {r : R2} {g : S → S → Option S} {fa fb : PEV} (ho : OpR X (compareOp op) r) (hd : OpD X.K r g) (ha : DP X a fa) (hb : DP X b fb) (hm : behindInMarks op b = false) : DT X (.Compare a [op] [b] pos) (bl (bin g fa fb)) :=
  pt_imp (pt_cmpR ho ha hb hm) fun σ H Q h => by
    have q := bl_ok σ H Q h
    exact bin_ok (X := X) hd σ H _ q
def andT (f g : TEV) : TEV := fun δ => (f δ).bind fun r => if r.1 then g r.2 else some (false, r.2)
def orT (f g : TEV) : TEV := fun δ => (f δ).bind fun r => if r.1 then some (true, r.2) else g r.2
def notT (f : TEV) : TEV := fun δ => (f δ).map fun r => (!r.1, r.2)
variable {rest : List Expr} {f g : TEV}
theorem and_ok (σ : L2.St) (H : Hp) (Q : Bool → Hp → Prop) (h : liftT X.K (andT f g) σ H Q) : tAnd (liftT X.K f) (liftT X.K g) σ H Q := by
  obtain ⟨T, ρ, δ, b, δ', hs, hf, hq⟩ := h
  unfold andT at hf
  cases ea : f δ with
  | none => rw [ea] at hf; cases hf
  | some x =>
    obtain ⟨k, δ1⟩ := x
    rw [ea] at hf
    simp only [Option.bind_some] at hf
    refine ⟨T, ρ, δ, k, δ1, hs, ea, fun ρ' H' s1 x1 => ?_⟩
    cases k with
    | true =>
      rw [if_pos rfl] at hf
      rw [if_pos rfl]
      exact ⟨T, ρ', δ1, b, δ', s1, hf, fun ρ2 H2 s2 x2 => hq ρ2 H2 s2 (x1.trans x2)⟩
    | false =>
      rw [if_neg Bool.false_ne_true] at hf
      rw [if_neg Bool.false_ne_true]
      cases hf
      exact hq ρ' H' s1 x1
theorem or_ok (σ : L2.St) (H : Hp) (Q : Bool → Hp → Prop) (h : liftT X.K (orT f g) σ H Q) : tOr (liftT X.K f) (liftT X.K g) σ H Q := by
  obtain ⟨T, ρ, δ, b, δ', hs, hf, hq⟩ := h
  unfold orT at hf
  cases ea : f δ with
  | none => rw [ea] at hf; cases hf
  | some x =>
    obtain ⟨k, δ1⟩ := x
    rw [ea] at hf
    simp only [Option.bind_some] at hf
    refine ⟨T, ρ, δ, k, δ1, hs, ea, fun ρ' H' s1 x1 => ?_⟩
    cases k with
    | false =>
      rw [if_neg Bool.false_ne_true] at hf
      rw [if_neg Bool.false_ne_true]
      exact ⟨T, ρ', δ1, b, δ', s1, hf, fun ρ2 H2 s2 x2 => hq ρ2 H2 s2 (x1.trans x2)⟩
    | true =>
      rw [if_pos rfl] at hf
      rw [if_pos rfl]
      cases hf
      exact hq ρ' H' s1 x1
theorem dw_and1 (ha : DT X a f) : DW X (.BoolOp .And [a] pos) f := pw_and1 ha
theorem dw_or1 (ha : DT X a f) : DW X (.BoolOp .Or [a] pos) f := pw_or1 ha
theorem dw_and (ha : DT X a f) (hb : DW X (.BoolOp .And (b :: rest) pos) g) : DW X (.BoolOp .And (a :: b :: rest) pos) (andT f g) := pw_imp (pw_and ha hb) and_ok
theorem dw_or (ha : DT X a f) (hb : DW X (.BoolOp .Or (b :: rest) pos) g) : DW X (.BoolOp .Or (a :: b :: rest) pos) (orT f g) := pw_imp (pw_or ha hb) or_ok
theorem dt_not (ha : DT X a f) : DT X (.UnaryOp .Not a pos) (notT f) := pt_imp (pt_not ha) fun σ H Q ⟨T, ρ, δ, b, δ', hs, hf, hq⟩ => by
  unfold notT at hf
  cases ea : f δ with
  | none => rw [ea] at hf; cases hf
  | some x =>
    rw [ea] at hf
    cases hf
    exact ⟨T, ρ, δ, x.1, x.2, hs, by rw [ea], hq⟩
/-- as values -/
def andV (f g : EV) : EV := fun δ => (f δ).bind fun r => match r.1 with
  | .d (.bool b) => if b then g r.2 else some (.d (.bool false), r.2)
  | _ => none
def orV (f g : EV) : EV := fun δ => (f δ).bind fun r => match r.1 with
  | .d (.bool b) => if b then some (.d (.bool true), r.2) else g r.2
  | _ => none
def notV (f : EV) : EV := fun δ => (f δ).bind fun r => match r.1 with
  | .d (.bool b) => some (.d (.bool (!b)), r.2)
  | _ => none
variable {f1 f2 f3 : EV}
theorem de_one {op} (ha : DE X a f1) : DE X (.BoolOp op [a] pos) f1 := pe_one ha
theorem de_and (ha : DE X a f1) (hb : DE X (.BoolOp .And (b :: rest) pos) f2) : DE X (.BoolOp .And (a :: b :: rest) pos) (andV f1 f2) := pe_imp (pe_and ha hb) fun σ H Q ⟨T, ρ, δ, s, δ', hs, hf, hq⟩ => by
  unfold andV at hf
  cases ea : f1 δ with
  | none => rw [ea] at hf; cases hf
  | some x =>
    obtain ⟨s1, δ1⟩ := x
    rw [ea] at hf
    simp only [Option.bind_some] at hf
    split at hf
    · rename_i k
      refine ⟨T, ρ, δ, _, δ1, hs, ea, fun ρ' v H' s1 x1 hv => ?_⟩
      cases hv
      refine ⟨k, rfl, ?_⟩
      cases k with
      | true =>
        rw [if_pos rfl] at hf
        rw [if_pos rfl]
        exact ⟨T, ρ', δ1, s, δ', s1, hf, post_step x1 hq⟩
      | false =>
        rw [if_neg Bool.false_ne_true] at hf
        rw [if_neg Bool.false_ne_true]
        cases hf
        exact hq ρ' _ H' s1 x1 (Dq.bl false)
    · cases hf
theorem de_or (ha : DE X a f1) (hb : DE X (.BoolOp .Or (b :: rest) pos) f2) : DE X (.BoolOp .Or (a :: b :: rest) pos) (orV f1 f2) := pe_imp (pe_or ha hb) fun σ H Q ⟨T, ρ, δ, s, δ', hs, hf, hq⟩ => by
  unfold orV at hf
  cases ea : f1 δ with
  | none => rw [ea] at hf; cases hf
  | some x =>
    obtain ⟨s1, δ1⟩ := x
    rw [ea] at hf
    simp only [Option.bind_some] at hf
    split at hf
    · rename_i k
      refine ⟨T, ρ, δ, _, δ1, hs, ea, fun ρ' v H' s1 x1 hv => ?_⟩
      cases hv
      refine ⟨k, rfl, ?_⟩
      cases k with
      | false =>
        rw [if_neg Bool.false_ne_true] at hf
        rw [if_neg Bool.false_ne_true]
        exact ⟨T, ρ', δ1, s, δ', s1, hf, post_step x1 hq⟩
      | true =>
        rw [if_pos rfl] at hf
        rw [if_pos rfl]
        cases hf
        exact hq ρ' _ H' s1 x1 (Dq.bl true)
    · cases hf
def ifE (t : TEV) (f g : EV) : EV := fun δ => (t δ).bind fun r => if r.1 then f r.2 else g r.2
theorem de_ifE {c : Expr} (hc : DT X c f) (ha : DE X a f1) (hb : DE X b f2) : DE X (.IfExp c a b pos) (ifE f f1 f2) := pe_imp (pe_ifExp hc ha hb) fun σ H Q ⟨T, ρ, δ, s, δ', hs, hf, hq⟩ => by
  unfold ifE at hf
  cases ea : f δ with
  | none => rw [ea] at hf; cases hf
  | some x =>
    obtain ⟨k, δ1⟩ := x
    rw [ea] at hf
    simp only [Option.bind_some] at hf
    refine ⟨T, ρ, δ, k, δ1, hs, ea, fun ρ' H' s1 x1 => ?_⟩
    cases k with
    | true =>
      rw [if_pos rfl] at hf
      rw [if_pos rfl]
      exact ⟨T, ρ', δ1, s, δ', s1, hf, post_step x1 hq⟩
    | false =>
      rw [if_neg Bool.false_ne_true] at hf
      rw [if_neg Bool.false_ne_true]
      exact ⟨T, ρ', δ1, s, δ', s1, hf, post_step x1 hq⟩
/-! ### arguments, displays, calls of what is built in -/
def nilA : AEV := fun δ => some ([], δ)
def consA (f : PEV) (g : AEV) : AEV := fun δ => (f δ).bind fun x => (g x.2).map fun y => (x.1 :: y.1, y.2)
theorem da_nil : DA X [] nilA := pa_imp pa_nil fun σ H Q ⟨T, ρ, δ, ps, δ', hs, hf, hq⟩ => by
  cases hf
  exact hq ρ [] H hs .refl .nil
theorem da_cons {es : List Expr} {fp : PEV} {fa : AEV} (h1 : DP X e fp) (h2 : DA X es fa) (hstar : starEach (e :: es) X.env = (false, eval e X.env) :: starEach es X.env := by rfl) : DA X (e :: es) (consA fp fa) := pa_imp (pa_cons h1 h2 hstar) fun σ H Q ⟨T, ρ, δ, ps, δ', hs, hf, hq⟩ => by
  unfold consA at hf
  cases ea : fp δ with
  | none => rw [ea] at hf; cases hf
  | some x =>
    rw [ea] at hf
    simp only [Option.bind_some] at hf
    cases eb : fa x.2 with
    | none => rw [eb] at hf; cases hf
    | some y =>
      rw [eb] at hf
      cases hf
      refine ⟨T, ρ, δ, x.1, x.2, hs, by rw [ea], fun ρ1 v1 H1 s1 x1 p1 => ?_⟩
      refine ⟨T, ρ1, x.2, y.1, y.2, s1, by rw [eb], fun ρ2 vs H2 s2 x2 p2 => ?_⟩
      exact hq ρ2 (v1 :: vs) H2 s2 (x1.trans x2) (.cons (patM x2 p1) p2)
def tupE (fa : AEV) : EV := fun δ => (fa δ).bind fun x => (dataA x.1).bind fun ds => if ds.length ≤ sizeLine then some (.d (.tuple ds), x.2) else none
def lstE (fa : AEV) : EV := fun δ => (fa δ).bind fun x => (dataA x.1).bind fun ds => if ds.length ≤ sizeLine then some (.o (.l ds), x.2) else none
theorem de_tup {es : List Expr} {fa : AEV} {k} (h : DA X es fa) : DE X (.Tuple es k pos) (tupE fa) := pe_imp (pe_tup h) fun σ H Q ⟨T, ρ, δ, s, δ', hs, hf, hq⟩ => by
  unfold tupE at hf
  cases ea : fa δ with
  | none => rw [ea] at hf; cases hf
  | some x =>
    rw [ea] at hf
    simp only [Option.bind_some] at hf
    cases eb : dataA x.1 with
    | none => rw [eb] at hf; cases hf
    | some ds =>
      rw [eb] at hf
      simp only [Option.bind_some] at hf
      split at hf
      · rename_i hl
        cases hf
        refine ⟨T, ρ, δ, x.1, x.2, hs, by rw [ea], fun ρ1 vs H1 s1 x1 p1 => ?_⟩
        have hd := data_dp p1 eb
        refine ⟨by rw [dpAll_len hd]; exact hl, fun p hp => ?_⟩
        have hm := same_new (o := .tup vs) hp
        exact hq ρ1 (.ref p) _ (s1.mono hm) (x1.trans (s1.trk.extT hm)) (Dq.tup (s1.trk.hidNew hp) (dpAllM (hid_mono hm) _ hd))
      · cases hf
theorem de_lst {es : List Expr} {fa : AEV} (h : DA X es fa) : DE X (.List es pos) (lstE fa) := pe_imp (pe_lst h) fun σ H Q ⟨T, ρ, δ, s, δ', hs, hf, hq⟩ => by
  unfold lstE at hf
  cases ea : fa δ with
  | none => rw [ea] at hf; cases hf
  | some x =>
    rw [ea] at hf
    simp only [Option.bind_some] at hf
    cases eb : dataA x.1 with
    | none => rw [eb] at hf; cases hf
    | some ds =>
      rw [eb] at hf
      simp only [Option.bind_some] at hf
      split at hf
      · rename_i hl
        cases hf
        refine ⟨T, ρ, δ, x.1, x.2, hs, by rw [ea], fun ρ1 vs H1 s1 x1 p1 => ?_⟩
        have hd := data_dp p1 eb
        refine ⟨by rw [dpAll_len hd]; exact hl, fun p hp => ?_⟩
        exact hq ρ1 p H1 (.lst vs) s1 x1 hp ⟨vs, rfl, hd⟩
      · cases hf
def callB (g : List S → Option S) (fa : AEV) : EV := fun δ => (fa δ).bind fun x => (resA x.2 x.1).bind fun ss => (g ss).map fun z => (z, x.2)
def CallD (K : PySem.W.Frag) (r : List V → Hp → VK → Prop) (g : List S → Option S) : Prop := ∀ (T : List Addr) (ρ : List (Option Addr)) (H : Hp) (vs : List V) (ss : List S) (s : S) (Q : VK), Trk T ρ H → Paired (At K T ρ H) vs ss → g ss = some s → PostO K T ρ H Q s → r vs H Q
theorem callB_ok {r : List V → Hp → VK → Prop} {g : List S → Option S} {fa : AEV} (hd : CallD X.K r g) (σ : L2.St) (H : Hp) (Q : VK) (h : lift X.K (callB g fa) σ H Q) : tCB r (liftA X.K fa) σ H Q := by
  obtain ⟨T, ρ, δ, s, δ', hs, hf, hq⟩ := h
  unfold callB at hf
  cases ea : fa δ with
  | none => rw [ea] at hf; cases hf
  | some x =>
    rw [ea] at hf
    simp only [Option.bind_some] at hf
    cases eb : resA x.2 x.1 with
    | none => rw [eb] at hf; cases hf
    | some ss =>
      rw [eb] at hf
      simp only [Option.bind_some] at hf
      cases e3 : g ss with
      | none => rw [e3] at hf; cases hf
      | some z =>
        rw [e3] at hf
        cases hf
        refine ⟨T, ρ, δ, x.1, x.2, hs, by rw [ea], fun ρ1 vs H1 s1 x1 p1 => ?_⟩
        exact hd T ρ1 H1 vs ss _ Q s1.trk (pats_at s1 .refl p1 eb) e3 (post_o s1 x1 hq)
theorem de_callB {id : String} {x : Str} {es : List Expr} {p : Pos} {r : List V → Hp → VK → Prop} {g : List S → Option S} {fa : AEV} (hc : CallR X (.builtin id) r) (hd : CallD X.K r g) (hg : Gl X x) (hm : X.mg x = none) (hv : bootBuiltins x = some (.builtin id)) (ha : DA X (e :: es) fa) (hn : x ≠ "__name__" := by decide) (hdb : (x == ("__debug__" : Str)) = false := by decide)
    (he : starEach (e :: es) X.env = (false, eval e X.env) :: starEach es X.env := by rfl) (hpl : (backTo pos (starEach es X.env)).any (·.1) = false := by rfl) : DE X (.Call (.Name x p) (e :: es) [] pos) (callB g fa) := pe_imp (pe_callB hc hg hm hv ha hn hdb he hpl) (callB_ok hd)
theorem de_callTy {id : String} {x : Str} {es : List Expr} {p : Pos} {r : List V → Hp → VK → Prop} {g : List S → Option S} {fa : AEV} (hc : CallR X (.type id) r) (hd : CallD X.K r g) (hg : Gl X x) (hm : X.mg x = none) (hv : bootBuiltins x = some (.type id)) (ha : DA X (e :: es) fa) (hn : x ≠ "__name__" := by decide) (hdb : (x == ("__debug__" : Str)) = false := by decide)
    (he : starEach (e :: es) X.env = (false, eval e X.env) :: starEach es X.env := by rfl) (hpl : (backTo pos (starEach es X.env)).any (·.1) = false := by rfl) : DE X (.Call (.Name x p) (e :: es) [] pos) (callB g fa) := pe_imp (pe_callTy hc hg hm hv ha hn hdb he hpl) (callB_ok hd)
end
end DL

namespace DL
open PySem PySem.Spec PyProof.Rows L2
variable [TB]

inductive Out where
  | nx (δ : Ds) | rt (s : S) (δ : Ds) | bk (δ : Ds) | ct (δ : Ds)
abbrev SEV := Ds → Option Out
def Keep (P : List Nat) (σ σ' : L2.St) : Prop := ∀ i ∈ P, σ'[i]? = σ[i]?
theorem Keep.refl {P : List Nat} {σ : L2.St} : Keep P σ σ := fun _ _ => rfl
theorem Keep.trans {P : List Nat} {σ σ1 σ2 : L2.St} (a : Keep P σ σ1) (b : Keep P σ1 σ2) : Keep P σ σ2 := fun i hi => (b i hi).trans (a i hi)

section
variable (K : PySem.W.Frag) (T : List Addr) (ρ : List (Option Addr)) (H : Hp) (σ : L2.St) (P : List Nat)
def PostR (Q : VK) (δ' : Ds) : S → Prop
  | .o c => ∀ ρ' σ' p H0 o, Sim K T ρ' δ' σ' H0 → Ext T ρ H ρ' H0 → Keep P σ σ' → H0 p = none → CO K (hid T ρ' H0) o c → Q (.ref p) (upd H0 p o)
  | s => ∀ ρ' σ' v H', Sim K T ρ' δ' σ' H' → Ext T ρ H ρ' H' → Keep P σ σ' → SV K (hid T ρ' H') v s → Q v H'
def PostN (q : L2.St → Hp → Prop) (δ' : Ds) : Prop := ∀ ρ' σ' H', Sim K T ρ' δ' σ' H' → Ext T ρ H ρ' H' → Keep P σ σ' → q σ' H'
def PostS (D : Ends) : Out → Prop
  | .nx δ' => PostN K T ρ H σ P D.nx δ'
  | .bk δ' => PostN K T ρ H σ P D.bk δ'
  | .ct δ' => PostN K T ρ H σ P D.ct δ'
  | .rt s δ' => PostR K T ρ H σ P D.rt δ' s
end
def liftS (K : PySem.W.Frag) (P : List Nat) (f : SEV) : TS := fun D σ H => ∃ T ρ δ o, Sim K T ρ δ σ H ∧ f δ = some o ∧ PostS K T ρ H σ P D o
abbrev DS (X : Cx) (P : List Nat) (st : Stmt) (f : SEV) : Prop := PS X st (liftS X.K P f)
abbrev DSs (X : Cx) (P : List Nat) (st : List Stmt) (f : SEV) : Prop := PSs X st (liftS X.K P f)

section
variable {K : PySem.W.Frag} {T : List Addr} {ρ ρ0 ρ1 : List (Option Addr)} {δ δ' : Ds} {σ σ' σ1 : L2.St} {H H0 H1 H' : Hp} {P : List Nat}
theorem postN_step {q : L2.St → Hp → Prop} (e : Ext T ρ H ρ1 H1) (k : Keep P σ σ1) (h : PostN K T ρ H σ P q δ') : PostN K T ρ1 H1 σ1 P q δ' := fun ρ' σ' H' s x y => h ρ' σ' H' s (e.trans x) (k.trans y)
theorem postR_step {Q : VK} {s : S} (e : Ext T ρ H ρ1 H1) (k : Keep P σ σ1) (h : PostR K T ρ H σ P Q δ' s) : PostR K T ρ1 H1 σ1 P Q δ' s := by
  cases s with
  | o c => exact fun ρ' σ' p H0 o s x y hp hc => h ρ' σ' p H0 o s (e.trans x) (k.trans y) hp hc
  | d c => exact fun ρ' σ' v H' s x y hv => h ρ' σ' v H' s (e.trans x) (k.trans y) hv
  | t c => exact fun ρ' σ' v H' s x y hv => h ρ' σ' v H' s (e.trans x) (k.trans y) hv
  | z c => exact fun ρ' σ' v H' s x y hv => h ρ' σ' v H' s (e.trans x) (k.trans y) hv
  | p c => exact fun ρ' σ' v H' s x y hv => h ρ' σ' v H' s (e.trans x) (k.trans y) hv
theorem postS_step {D : Ends} {o : Out} (e : Ext T ρ H ρ1 H1) (k : Keep P σ σ1) (h : PostS K T ρ H σ P D o) : PostS K T ρ1 H1 σ1 P D o := by
  cases o with
  | nx δ => exact postN_step e k h
  | bk δ => exact postN_step e k h
  | ct δ => exact postN_step e k h
  | rt s δ => exact postR_step e k h
/-- where a value of an expression goes on -/
theorem post_mk {Q : VK} {s : S} (h : PostR K T ρ H σ P Q δ' s) : Post K T ρ H σ Q δ' s := by
  cases s with
  | o c => exact fun ρ' p H0 o s x hp hc => h ρ' σ p H0 o s x .refl hp hc
  | d c => exact fun ρ' v H' s x hv => h ρ' σ v H' s x .refl hv
  | t c => exact fun ρ' v H' s x hv => h ρ' σ v H' s x .refl hv
  | z c => exact fun ρ' v H' s x hv => h ρ' σ v H' s x .refl hv
  | p c => exact fun ρ' v H' s x hv => h ρ' σ v H' s x .refl hv

/-- a slot gets data -/
theorem Sim.setD {i : Nat} {v : V} {s : S} (h : Sim K T ρ δ σ H) (hv : SV K (hid T ρ H) v s) : Sim K T (ρ.set i none) (δ.set i (some s)) (σ.set i (some v)) H ∧ Ext T ρ H (ρ.set i none) H := by
  by_cases hil : i < δ.length
  case neg =>
    rw [List.set_eq_of_length_le (by rw [h.len]; omega), List.set_eq_of_length_le (by omega), List.set_eq_of_length_le (by rw [h.slen]; omega)]
    exact ⟨h, .refl⟩
  have hir : i < ρ.length := by rw [h.len]; exact hil
  have his : i < σ.length := by rw [h.slen]; exact hil
  have hl : Same (hid T ρ H) (hid T (ρ.set i none) H) := hid_less fun b hb => hb.elim .inl fun z => .inr (by
    rcases List.mem_or_eq_of_mem_set z with z | z
    · exact z
    · cases z)
  have fr : ∀ (m : Nat) (b : Addr), (ρ.set i none)[m]? = some (some b) → m ≠ i ∧ ρ[m]? = some (some b) := fun m b hm => by
    by_cases him : i = m
    · subst him
      rw [List.getElem?_set_self hir] at hm
      cases hm
    · rw [List.getElem?_set_ne him] at hm
      exact ⟨Ne.symm him, hm⟩
  refine ⟨⟨?_, ?_, ?_, ?_, ?_, ?_, ?_, h.tmp, h.tabT, h.tabs⟩, hl, fun _ _ => .refl, id⟩
  · rw [List.length_set, List.length_set]; exact h.len
  · rw [List.length_set, List.length_set]; exact h.slen
  · intro j s' hj
    by_cases hij : i = j
    · subst hij
      rw [List.getElem?_set_self hil] at hj
      cases hj
      exact ⟨v, List.getElem?_set_self his, sv_at (svM hl hv)⟩
    · rw [List.getElem?_set_ne hij] at hj
      obtain ⟨w, e1, e2⟩ := h.slot j s' hj
      refine ⟨w, by rw [List.getElem?_set_ne hij]; exact e1, ?_⟩
      cases s' with
      | o c' =>
        obtain ⟨x, o', z1, z2, z3⟩ := e2
        exact ⟨x, o', z1, z2, coM hl z3⟩
      | d x => exact svM (s := .d x) hl e2
      | t x => exact svM (s := .t x) hl e2
      | z x => exact svM (s := .z x) hl e2
      | p x => exact svM (s := .p x) hl e2
  · intro j c' hj
    by_cases hij : i = j
    · subst hij
      rw [List.getElem?_set_self hil] at hj
      cases hj
      exact hv.elim
    · rw [List.getElem?_set_ne hij] at hj
      rw [List.getElem?_set_ne hij, List.getElem?_set_ne hij]
      exact h.own j c' hj
  · intro j b hj
    obtain ⟨h1, h2⟩ := fr j b hj
    rw [List.getElem?_set_ne (Ne.symm h1)]
    exact h.own' j b h2
  · intro j k b hj hk
    exact h.inj j k b (fr j b hj).2 (fr k b hk).2
  · intro j b hj
    exact h.nt j b (fr j b hj).2
/-- a slot gets what is new -/
theorem Sim.setO {i : Nat} {p : Addr} {o : HO} {c : C} (h : Sim K T ρ δ σ H) (hp : H p = none) (hc : CO K (hid T ρ H) o c) : ∃ ρ', Sim K T ρ' (δ.set i (some (.o c))) (σ.set i (some (.ref p))) (upd H p o) ∧ Ext T ρ H ρ' (upd H p o) := by
  by_cases hil : i < δ.length
  case neg =>
    rw [List.set_eq_of_length_le (by omega), List.set_eq_of_length_le (by rw [h.slen]; omega)]
    exact ⟨ρ, h.mono (same_new hp), h.trk.extT (same_new hp)⟩
  have hir : i < ρ.length := by rw [h.len]; exact hil
  have his : i < σ.length := by rw [h.slen]; exact hil
  obtain ⟨npT, npρ⟩ := h.trk.fresh hp
  have hl : Same (hid T ρ H) (hid T (ρ.set i (some p)) (upd H p o)) := fun b x e => by
    obtain ⟨e1, e2, e3⟩ := hid_some.mp e
    have nb : b ≠ p := ne_of_none e1 hp
    refine hid_some.mpr ⟨by rw [upd_ne nb]; exact e1, e2, fun z => ?_⟩
    rcases List.mem_or_eq_of_mem_set z with z | z
    · exact e3 z
    · exact nb (Option.some.inj z)
  have fr : ∀ (m : Nat) (b : Addr), (ρ.set i (some p))[m]? = some (some b) → (m = i ∧ b = p) ∨ (m ≠ i ∧ ρ[m]? = some (some b)) := fun m b hm => by
    by_cases him : i = m
    · subst him
      rw [List.getElem?_set_self hir] at hm
      cases hm
      exact .inl ⟨rfl, rfl⟩
    · rw [List.getElem?_set_ne him] at hm
      exact .inr ⟨Ne.symm him, hm⟩
  refine ⟨ρ.set i (some p), ⟨?_, ?_, ?_, ?_, ?_, ?_, ?_, ?_, h.tabT, tabs_upd h.tabs fun x e => by rw [hp] at e; cases e⟩, Ext.of h.trk hl fun a ha => ?_⟩
  · rw [List.length_set, List.length_set]; exact h.len
  · rw [List.length_set, List.length_set]; exact h.slen
  · intro j s' hj
    by_cases hij : i = j
    · subst hij
      rw [List.getElem?_set_self hil] at hj
      cases hj
      exact ⟨.ref p, List.getElem?_set_self his, p, o, rfl, upd_same, coM hl hc⟩
    · rw [List.getElem?_set_ne hij] at hj
      obtain ⟨w, e1, e2⟩ := h.slot j s' hj
      refine ⟨w, by rw [List.getElem?_set_ne hij]; exact e1, ?_⟩
      cases s' with
      | o c' =>
        obtain ⟨x, o', z1, z2, z3⟩ := e2
        exact ⟨x, o', z1, by rw [upd_ne (ne_of_none z2 hp)]; exact z2, coM hl z3⟩
      | d x => exact svM (s := .d x) hl e2
      | t x => exact svM (s := .t x) hl e2
      | z x => exact svM (s := .z x) hl e2
      | p x => exact svM (s := .p x) hl e2
  · intro j c' hj
    by_cases hij : i = j
    · subst hij
      exact ⟨p, List.getElem?_set_self hir, List.getElem?_set_self his⟩
    · rw [List.getElem?_set_ne hij] at hj
      rw [List.getElem?_set_ne hij, List.getElem?_set_ne hij]
      exact h.own j c' hj
  · intro j b hj
    rcases fr j b hj with ⟨rfl, rfl⟩ | ⟨h1, h2⟩
    · exact ⟨c, List.getElem?_set_self hil⟩
    · rw [List.getElem?_set_ne (Ne.symm h1)]
      exact h.own' j b h2
  · intro j k b hj hk
    rcases fr j b hj with ⟨e1, e2⟩ | ⟨h1, h2⟩
    · rcases fr k b hk with ⟨e3, e4⟩ | ⟨h3, h4⟩
      · rw [e1, e3]
      · subst e2
        exact absurd (ix_mem h4) npρ
    · rcases fr k b hk with ⟨e3, e4⟩ | ⟨h3, h4⟩
      · subst e4
        exact absurd (ix_mem h2) npρ
      · exact h.inj j k b h2 h4
  · intro j b hj
    rcases fr j b hj with ⟨e1, e2⟩ | ⟨h1, h2⟩
    · subst e2
      exact npT
    · exact h.nt j b h2
  · intro a ha
    obtain ⟨x, hx, hn⟩ := h.tmp a ha
    exact ⟨x, by rw [upd_ne (ne_of_none hx hp)]; exact hx, hn⟩
  · obtain ⟨x, hx, _⟩ := h.tmp a ha
    rw [upd_ne (ne_of_none hx hp)]
/-- an owned object is written -/
theorem hid_write {a : Addr} {o : HO} (ha : some a ∈ ρ) : hid T ρ (upd H a o) = hid T ρ H := by
  funext b
  unfold hid
  by_cases hb : b = a
  · subst hb
    rw [if_pos (.inr ha), if_pos (.inr ha)]
  · rw [upd_ne hb]
theorem Sim.write {i : Nat} {a : Addr} {o : HO} {c c0 : C} (h : Sim K T ρ δ σ H) (hi : δ[i]? = some (some (.o c0))) (ha : ρ[i]? = some (some a)) (hc : CO K (hid T ρ H) o c) : Sim K T ρ (δ.set i (some (.o c))) σ (upd H a o) ∧ Ext T ρ H ρ (upd H a o) := by
  have hil : i < δ.length := (List.getElem?_eq_some_iff.mp hi).1
  have hw := hid_write (T := T) (H := H) (o := o) (ix_mem ha)
  have hσ : σ[i]? = some (some (.ref a)) := by
    obtain ⟨b, e1, e2⟩ := h.own i c0 hi
    rw [ha] at e1
    cases e1
    exact e2
  refine ⟨⟨?_, ?_, ?_, ?_, ?_, h.inj, h.nt, ?_, h.tabT, tabs_upd h.tabs (h.nb hi ha)⟩, Ext.of h.trk (by rw [hw]; exact Same.refl _) fun b hb => ?_⟩
  · rw [List.length_set]; exact h.len
  · rw [List.length_set]; exact h.slen
  · intro j s hj
    by_cases hij : i = j
    · subst hij
      rw [List.getElem?_set_self hil] at hj
      cases hj
      exact ⟨.ref a, hσ, a, o, rfl, upd_same, by rw [hw]; exact hc⟩
    · rw [List.getElem?_set_ne hij] at hj
      obtain ⟨w, e1, e2⟩ := h.slot j s hj
      refine ⟨w, e1, ?_⟩
      cases s with
      | o c' =>
        obtain ⟨b, f1, f2⟩ := h.own j c' hj
        obtain ⟨x, o', z1, z2, z3⟩ := e2
        rw [e1, z1] at f2
        cases f2
        have nb : b ≠ a := fun z => by
          subst z
          exact hij (h.inj i j b ha f1)
        exact ⟨b, o', z1, by rw [upd_ne nb]; exact z2, by rw [hw]; exact z3⟩
      | d x => exact (show SV K (hid T ρ (upd H a o)) w (.d x) by rw [hw]; exact e2)
      | t x => exact (show SV K (hid T ρ (upd H a o)) w (.t x) by rw [hw]; exact e2)
      | z x => exact (show SV K (hid T ρ (upd H a o)) w (.z x) by rw [hw]; exact e2)
      | p x => exact (show SV K (hid T ρ (upd H a o)) w (.p x) by rw [hw]; exact e2)
  · intro j c' hj
    by_cases hij : i = j
    · subst hij
      exact ⟨a, ha, hσ⟩
    · rw [List.getElem?_set_ne hij] at hj
      exact h.own j c' hj
  · intro j b hj
    by_cases hij : i = j
    · subst hij
      exact ⟨c, List.getElem?_set_self hil⟩
    · rw [List.getElem?_set_ne hij]
      exact h.own' j b hj
  · intro b hb
    obtain ⟨x, hx, hn⟩ := h.tmp b hb
    by_cases hba : b = a
    · exact ⟨o, by rw [hba, upd_same], co_nt hc⟩
    · exact ⟨x, by rw [upd_ne hba]; exact hx, hn⟩
  · have nb : b ≠ a := fun z => by
      subst z
      exact h.nt i b ha hb
    rw [upd_ne nb]
end

/-! ### statements -/
section
variable {X : Cx} {P : List Nat} {pos : Pos} {e : Expr}
def nxS : SEV := fun δ => some (.nx δ)
def seqS (f g : SEV) : SEV := fun δ => (f δ).bind fun
  | .nx δ' => g δ'
  | o => some o
theorem dss_nil : DSs X P [] nxS := pss_imp pss_nil fun D σ H ⟨T, ρ, δ, o, hs, hf, hq⟩ => by
  cases hf
  exact hq ρ σ H hs .refl .refl
theorem dss_cons {st : Stmt} {rest : List Stmt} {f g : SEV} (h1 : DS X P st f) (h2 : DSs X P rest g) : DSs X P (st :: rest) (seqS f g) := pss_imp (pss_cons h1 h2) fun D σ H ⟨T, ρ, δ, o, hs, hf, hq⟩ => by
  unfold seqS at hf
  cases ea : f δ with
  | none => rw [ea] at hf; cases hf
  | some x =>
    rw [ea] at hf
    simp only [Option.bind_some] at hf
    refine ⟨T, ρ, δ, x, hs, ea, ?_⟩
    cases x with
    | nx δ1 => exact fun ρ' σ' H' s1 x1 k1 => ⟨T, ρ', δ1, o, s1, hf, postS_step x1 k1 hq⟩
    | bk δ1 => cases hf; exact hq
    | ct δ1 => cases hf; exact hq
    | rt s δ1 => cases hf; exact hq
theorem dss_one {st : Stmt} {f : SEV} (h1 : DS X P st f) : DSs X P [st] f := pss_one h1
def setS (i : Nat) (f : EV) : SEV := fun δ => (f δ).map fun r => .nx (r.2.set i (some r.1))
theorem set_ok {K : PySem.W.Frag} {i : Nat} {f : EV} (hP : i ∉ P) {D : Ends} {σ : L2.St} {H : Hp} (h : liftS K P (setS i f) D σ H) : lift K f σ H (fun x H1 => gName i x σ H1 D.nx) := by
  obtain ⟨T, ρ, δ, o, hs, hf, hq⟩ := h
  unfold setS at hf
  cases ea : f δ with
  | none => rw [ea] at hf; cases hf
  | some x =>
    obtain ⟨s, δ1⟩ := x
    rw [ea] at hf
    cases hf
    have kp : ∀ v : V, Keep P σ (σ.set i (some v)) := fun v j hj => List.getElem?_set_ne (fun z : i = j => hP (by rw [z]; exact hj))
    refine ⟨T, ρ, δ, s, δ1, hs, ea, ?_⟩
    cases s with
    | o c =>
      intro ρ' p H0 o s1 x1 hp hc
      obtain ⟨ρ2, a, b⟩ := s1.setO (i := i) hp hc
      exact hq ρ2 _ _ a (x1.trans b) (kp _)
    | d c =>
      intro ρ' v H' s1 x1 hv
      obtain ⟨a, b⟩ := s1.setD (i := i) hv
      exact hq _ _ _ a (x1.trans b) (kp _)
    | t c =>
      intro ρ' v H' s1 x1 hv
      obtain ⟨a, b⟩ := s1.setD (i := i) hv
      exact hq _ _ _ a (x1.trans b) (kp _)
    | z c =>
      intro ρ' v H' s1 x1 hv
      obtain ⟨a, b⟩ := s1.setD (i := i) hv
      exact hq _ _ _ a (x1.trans b) (kp _)
    | p c =>
      intro ρ' v H' s1 x1 hv
      obtain ⟨a, b⟩ := s1.setD (i := i) hv
      exact hq _ _ _ a (x1.trans b) (kp _)
theorem ds_set {i : Nat} {x : Str} {f : EV} {pos' : Pos} (hN : X.N.Nodup) (hi : X.N[i]? = some x) (hx : Loc X.env.scope x) (hP : i ∉ P) (he : DE X e f) (hs : swapsWith e (some (.Name x pos')) pos.line X.env = pure false := by rfl)
    (hf : X.fn x = true ∨ X.env.scope.names.lookup x = some .local := by first | exact .inl rfl | exact .inr rfl | assumption) : DS X P (.Assign [.Name x pos'] e pos) (setS i f) := ps_imp (ps_set hN hi hx he hs hf) fun D σ H h => set_ok hP h
def exprS (f : EV) : SEV := fun δ => (f δ).map fun r => .nx r.2
theorem ds_expr {f : EV} (he : DE X e f) (hs : swapsWith e none pos.line X.env = pure false := by rfl) : DS X P (.Expr e pos) (exprS f) := ps_imp (ps_expr he hs) fun D σ H ⟨T, ρ, δ, o, hs, hf, hq⟩ => by
  unfold exprS at hf
  cases ea : f δ with
  | none => rw [ea] at hf; cases hf
  | some x =>
    obtain ⟨s, δ1⟩ := x
    rw [ea] at hf
    cases hf
    refine ⟨T, ρ, δ, s, δ1, hs, ea, ?_⟩
    cases s with
    | o c => exact fun ρ' p H0 o s1 x1 hp hc => hq ρ' σ _ (s1.mono (same_new hp)) (x1.trans (s1.trk.extT (same_new hp))) .refl
    | d c => exact fun ρ' v H' s1 x1 hv => hq ρ' σ _ s1 x1 .refl
    | t c => exact fun ρ' v H' s1 x1 hv => hq ρ' σ _ s1 x1 .refl
    | z c => exact fun ρ' v H' s1 x1 hv => hq ρ' σ _ s1 x1 .refl
    | p c => exact fun ρ' v H' s1 x1 hv => hq ρ' σ _ s1 x1 .refl
def retS (f : EV) : SEV := fun δ => (f δ).map fun r => .rt r.1 r.2
theorem ds_ret {f : EV} (he : DE X e f) : DS X P (.Return (some e) pos) (retS f) := ps_imp (ps_ret he) fun D σ H ⟨T, ρ, δ, o, hs, hf, hq⟩ => by
  unfold retS at hf
  cases ea : f δ with
  | none => rw [ea] at hf; cases hf
  | some x =>
    rw [ea] at hf
    cases hf
    exact ⟨T, ρ, δ, x.1, x.2, hs, by rw [ea], post_mk hq⟩
def ifS (t : TEV) (f g : SEV) : SEV := fun δ => (t δ).bind fun r => if r.1 then f r.2 else g r.2
theorem ds_if {c : Expr} {a b : List Stmt} {t : TEV} {f g : SEV} (hc : DT X c t) (ha : DSs X P a f) (hb : DSs X P b g) : DS X P (.If c a b pos) (ifS t f g) := ps_imp (ps_if hc ha hb) fun D σ H ⟨T, ρ, δ, o, hs, hf, hq⟩ => by
  unfold ifS at hf
  cases ea : t δ with
  | none => rw [ea] at hf; cases hf
  | some x =>
    obtain ⟨k, δ1⟩ := x
    rw [ea] at hf
    simp only [Option.bind_some] at hf
    refine ⟨T, ρ, δ, k, δ1, hs, ea, fun ρ' H' s1 x1 => ?_⟩
    cases k with
    | true =>
      rw [if_pos rfl] at hf
      rw [if_pos rfl]
      exact ⟨T, ρ', δ1, o, s1, hf, postS_step x1 .refl hq⟩
    | false =>
      rw [if_neg Bool.false_ne_true] at hf
      rw [if_neg Bool.false_ne_true]
      exact ⟨T, ρ', δ1, o, s1, hf, postS_step x1 .refl hq⟩
end
end DL

namespace DL
open PySem PySem.Spec PyProof.Rows L2
variable [TB]

/-! ### defs and their calls -/
abbrev FN := List S → Option (S × List (Option C))
section
variable (K : PySem.W.Frag) (T : List Addr) (as : List (Option Addr)) (H : Hp)
def Own (cs : List (Option C)) : Prop := ∀ (k : Nat) (a : Addr), as[k]? = some (some a) → ∃ c o, cs[k]? = some (some c) ∧ H a = some o ∧ CO K (hid T as H) o c
def PostF (Q : VK) (cs : List (Option C)) : S → Prop
  | .o c => ∀ p H0 o, Own K T as H0 cs → Ext T as H as H0 → H0 p = none → CO K (hid T as H0) o c → Q (.ref p) (upd H0 p o)
  | s => ∀ v H', Own K T as H' cs → Ext T as H as H' → SV K (hid T as H') v s → Q v H'
end
def spF (K : PySem.W.Frag) (m : Nat) (F : FN) : Sp := fun vs H Q _ => ∃ T as ss r cs, Sim K T as (ss.map some) (vs.map some) H ∧ ss.length = m ∧ F ss = some (r, cs) ∧ PostF K T as H Q cs r
def ownC (P : List Nat) : Nat → List S → Ds → Option (List (Option C))
  | _, [], _ => some []
  | k, .o _ :: ss, some (.o c) :: δ => if k ∈ P then (ownC P (k + 1) ss δ).map (some c :: ·) else none
  | _, .o _ :: _, _ => none
  | k, _ :: ss, _ :: δ => (ownC P (k + 1) ss δ).map (none :: ·)
  | _, _ :: _, [] => none
def finF (P : List Nat) (ss : List S) : Option Out → Option (S × List (Option C))
  | some (.rt s δ) => (ownC P 0 ss δ).map fun cs => (s, cs)
  | some (.nx δ) => (ownC P 0 ss δ).map fun cs => (.d .none, cs)
  | _ => none
def runF (P : List Nat) (n : Nat) (body : SEV) : FN := fun ss => finF P ss (body (ss.map some ++ List.replicate (n - ss.length) none))
theorem ownC_spec {P : List Nat} : ∀ {k : Nat} {ss : List S} {δ : Ds} {cs : List (Option C)}, ownC P k ss δ = some cs → ∀ (j : Nat) (c0 : C), ss[j]? = some (.o c0) → k + j ∈ P ∧ ∃ c, δ[j]? = some (some (.o c)) ∧ cs[j]? = some (some c)
  | k, [], δ, cs, h, j, c0, e => by simp at e
  | k, .o c :: ss, some (.o c') :: δ, cs, h, j, c0, e => by
    unfold ownC at h
    split at h
    · rename_i hk
      cases e1 : ownC P (k + 1) ss δ with
      | none => rw [e1] at h; cases h
      | some r =>
        rw [e1] at h
        cases h
        cases j with
        | zero => exact ⟨hk, c', rfl, rfl⟩
        | succ j =>
          obtain ⟨a, c1, b, d⟩ := ownC_spec e1 j c0 (by simpa using e)
          exact ⟨by rw [show k + (j + 1) = k + 1 + j by omega]; exact a, c1, by simpa using b, by simpa using d⟩
    · cases h
  | k, .d x :: ss, y :: δ, cs, h, j, c0, e => by
    unfold ownC at h
    cases e1 : ownC P (k + 1) ss δ with
    | none => rw [e1] at h; cases h
    | some r =>
      rw [e1] at h
      cases h
      cases j with
      | zero => simp at e
      | succ j =>
        obtain ⟨a, c1, b, d⟩ := ownC_spec e1 j c0 (by simpa using e)
        exact ⟨by rw [show k + (j + 1) = k + 1 + j by omega]; exact a, c1, by simpa using b, by simpa using d⟩
  | k, .t x :: ss, y :: δ, cs, h, j, c0, e => by
    unfold ownC at h
    cases e1 : ownC P (k + 1) ss δ with
    | none => rw [e1] at h; cases h
    | some r =>
      rw [e1] at h
      cases h
      cases j with
      | zero => simp at e
      | succ j =>
        obtain ⟨a, c1, b, d⟩ := ownC_spec e1 j c0 (by simpa using e)
        exact ⟨by rw [show k + (j + 1) = k + 1 + j by omega]; exact a, c1, by simpa using b, by simpa using d⟩
  | k, .z x :: ss, y :: δ, cs, h, j, c0, e => by
    unfold ownC at h
    cases e1 : ownC P (k + 1) ss δ with
    | none => rw [e1] at h; cases h
    | some r =>
      rw [e1] at h
      cases h
      cases j with
      | zero => simp at e
      | succ j =>
        obtain ⟨a, c1, b, d⟩ := ownC_spec e1 j c0 (by simpa using e)
        exact ⟨by rw [show k + (j + 1) = k + 1 + j by omega]; exact a, c1, by simpa using b, by simpa using d⟩
  | k, .p x :: ss, y :: δ, cs, h, j, c0, e => by
    unfold ownC at h
    cases e1 : ownC P (k + 1) ss δ with
    | none => rw [e1] at h; cases h
    | some r =>
      rw [e1] at h
      cases h
      cases j with
      | zero => simp at e
      | succ j =>
        obtain ⟨a, c1, b, d⟩ := ownC_spec e1 j c0 (by simpa using e)
        exact ⟨by rw [show k + (j + 1) = k + 1 + j by omega]; exact a, c1, by simpa using b, by simpa using d⟩
  | k, .o c :: ss, [], cs, h, j, c0, e => by simp [ownC] at h
  | k, .o c :: ss, none :: δ, cs, h, j, c0, e => by simp [ownC] at h
  | k, .o c :: ss, some (.d x) :: δ, cs, h, j, c0, e => by simp [ownC] at h
  | k, .o c :: ss, some (.t x) :: δ, cs, h, j, c0, e => by simp [ownC] at h
  | k, .o c :: ss, some (.z x) :: δ, cs, h, j, c0, e => by simp [ownC] at h
  | k, .o c :: ss, some (.p x) :: δ, cs, h, j, c0, e => by simp [ownC] at h
  | k, .z c :: ss, [], cs, h, j, c0, e => by simp [ownC] at h
  | k, .p c :: ss, [], cs, h, j, c0, e => by simp [ownC] at h
  | k, .d c :: ss, [], cs, h, j, c0, e => by simp [ownC] at h
  | k, .t c :: ss, [], cs, h, j, c0, e => by simp [ownC] at h
theorem mem_app_none {ρ : List (Option Addr)} {n : Nat} {b : Addr} : some b ∈ ρ ++ List.replicate n none ↔ some b ∈ ρ := by
  rw [List.mem_append]
  constructor
  · rintro (h | h)
    · exact h
    · cases (List.mem_replicate.mp h).2
  · exact .inl
theorem hid_app {T : List Addr} {ρ : List (Option Addr)} {n : Nat} {H : Hp} : hid T (ρ ++ List.replicate n none) H = hid T ρ H := by
  funext b
  unfold hid
  simp only [mem_app_none]
theorem get_app {α : Type} {l : List (Option α)} {n j : Nat} {x : α} (h : (l ++ List.replicate n none)[j]? = some (some x)) : l[j]? = some (some x) := by
  by_cases hj : j < l.length
  · rw [List.getElem?_append_left hj] at h
    exact h
  · rw [List.getElem?_append_right (by omega), List.getElem?_replicate] at h
    split at h <;> cases h
theorem get_app' {α : Type} {l : List (Option α)} {n j : Nat} {x : α} (h : l[j]? = some (some x)) : (l ++ List.replicate n none)[j]? = some (some x) := by
  rw [List.getElem?_append_left (List.getElem?_eq_some_iff.mp h).1]
  exact h
theorem at_hid {K : PySem.W.Frag} {T T' : List Addr} {ρ ρ' : List (Option Addr)} {H : Hp} {v : V} {s : S} (e : hid T ρ H = hid T' ρ' H) (h : At K T ρ H v s) : At K T' ρ' H v s := by
  cases s with
  | o c =>
    obtain ⟨a, o, h1, h2, h3⟩ := h
    exact ⟨a, o, h1, h2, by rw [← e]; exact h3⟩
  | d x => exact (show SV K (hid T' ρ' H) v (.d x) by rw [← e]; exact h)
  | t x => exact (show SV K (hid T' ρ' H) v (.t x) by rw [← e]; exact h)
  | z x => exact (show SV K (hid T' ρ' H) v (.z x) by rw [← e]; exact h)
  | p x => exact (show SV K (hid T' ρ' H) v (.p x) by rw [← e]; exact h)
theorem Sim.start {K : PySem.W.Frag} {T : List Addr} {as : List (Option Addr)} {ss : List S} {vs : List V} {H : Hp} (h : Sim K T as (ss.map some) (vs.map some) H) (n : Nat) : Sim K T (as ++ List.replicate n none) (ss.map some ++ List.replicate n none) (vs.map some ++ List.replicate n none) H where
  len := by simpa using h.len
  slen := by simpa using h.slen
  slot := fun i s hi => let ⟨v, a, b⟩ := h.slot i s (get_app hi); ⟨v, get_app' a, at_hid hid_app.symm b⟩
  own := fun i c hi => let ⟨a, x, y⟩ := h.own i c (get_app hi); ⟨a, get_app' x, get_app' y⟩
  own' := fun i a hi => let ⟨c, x⟩ := h.own' i a (get_app hi); ⟨c, get_app' x⟩
  inj := fun i j a hi hj => h.inj i j a (get_app hi) (get_app hj)
  nt := fun i a hi => h.nt i a (get_app hi)
  tmp := h.tmp
  tabT := h.tabT
  tabs := h.tabs
/-! ### a def's promise where no guard stands -/
structure FnG (Pr : Program) (w : World) (K : PySem.W.Frag) (mg : Str → Option Value) (base : Heap) (k : Nat) (f : Addr) (fd : FuncData) (ps : List Str) (sp : Sp) : Prop where
  len : ∀ vs H Q E, sp vs H Q E → vs.length = ps.length
  run : ∀ (A : Around) (outer : List Env) (s : Shared) (H : Hp) (args : Args) (us : List Value) (vs : List V) (Q : VK) (E : XK), A.guards = some [] → Room k A → Env0 Pr w K mg base A outer s H →
    BindsTo s fd args (ps.zip us) → Vals vs us → sp vs H Q E → codeAny (model Pr w) A (.call (.ref f) args) (CR CX0 outer Pr w H s Q E) s
theorem FnG.mono {Pr : Program} {w : World} {K : PySem.W.Frag} {mg : Str → Option Value} {base : Heap} {j k : Nat} {f : Addr} {fd : FuncData} {ps : List Str} {sp : Sp} (F : FnG Pr w K mg base j f fd ps sp) (h : j ≤ k) :
    FnG Pr w K mg base k f fd ps sp :=
  ⟨F.len, fun A outer s H args us vs Q E hG hr =>
    F.run A outer s H args us vs Q E hG (hr.mono h)⟩
theorem gfn_of {Pr : Program} {w : World} {K : PySem.W.Frag} {mg : Str → Option Value} {base : Heap} {x qual : Str} {st : Stmt} {f : Addr} {fd : FuncData} {N ps : List Str} {k : Nat} {sp : Sp} (F : Fun K x qual st f fd) (Sc : FnScope N ps (defScope st))
    (hlen : ∀ vs H Q E, sp vs H Q E → vs.length = ps.length)
    (hbody : ∀ (cdv : Value) (A : Around) (outer : List Env) (s : Shared) (H : Hp) (vs : List V) (Q : VK) (E : XK), A.guards = some [] → Room k (A.deeper (envOfC qual (defScope st) s.heap.objs.size f cdv)) → sp vs H Q E →
      ∃ t, PSs (cxOf CX0 Pr w K mg base N qual (defScope st) f cdv A outer s H E).nox (defBody st) t ∧ t { nx := fun _ H' => Q .non H', rt := Q } (L2.start N vs) H) :
    FnG Pr w K mg base (k + 1) f fd ps sp := by
  obtain ⟨oc, od, kV, doc, pm, an, cdv, ct, osl, efd, lk, hcd⟩ := F.ex
  subst efd
  constructor
  · exact hlen
  intro A outer s H args us vs Q E hG hr e0 hb r hsp
  have vl := hlen _ _ _ _ hsp
  have kept : ∀ b o, base.get? b = some o → s.heap.get? b = some o := fun b o e => (e0.bs b o e).1
  have KX : K.In s.heap := e0.mod.kin.keeps kept
  have nl : s.heap.NoLimit := e0.mod.nolimit.keeps kept
  have kinds : ∀ y ∈ ps.zip us, (defScope st).names.lookup y.1 = some .local ∨
      ((defScope st).names.lookup y.1 = some .cell ∧
        ((cellsFrom (s.heap.objs.size + 1) (defScope st).names []).lookup y.1).isSome = true) := by
    intro y hy
    have hm : y.1 ∈ ps := (List.of_mem_zip (a := y.1) (b := y.2) hy).1
    rcases Sc.par y.1 hm with q | q
    · exact .inl q
    · refine .inr ⟨q, ?_⟩
      exact PySem.W.cellsFrom_some _ _ _ (.inl q)
  refine codeAny_call_function hr.depth (KX _ _ lk) rfl Sc.co Sc.gen rfl ?_ (hb _ _ _ _ ?_)
  · exact PySem.W.codeRec_of KX hcd
  refine wpAny_newFunctionEnv_cells Sc.kind kinds ?_
  intro env henv s1 x1
  subst henv
  refine ⟨nl.keeps x1.toInCall.keep, ?_⟩
  apply codeAny_func
  obtain ⟨t, ht, hq⟩ := hbody cdv A outer s H vs Q E hG (hr.deeper _) hsp
  have I0 := inv_start (CX := CX0) (E := E) Sc hr.hd e0 vl r x1
  have W := ht.nox.run [] s1 (L2.start N vs) H _ I0 hq
  refine wpAny_mono W ?_ (fun _ _ z => z)
  intro fl s' hs
  cases fl with
  | ret u =>
    obtain ⟨v, σ', H', J, rv, q⟩ := hs
    exact ⟨v, H', J.os, J.bare, J.base, J.hok, rv, q⟩
  | next =>
    obtain ⟨σ', H', J, q⟩ := hs
    exact ⟨V.non, H', J.os, J.bare, J.base, J.hok, rfl, q⟩
  | brk => exact hs.elim fun _ z => z.elim fun _ z => z.2.elim
  | cont => exact hs.elim fun _ z => z.elim fun _ z => z.2.elim
theorem pe_callG {X : Cx} {x : Str} {p pos : Pos} {e : Expr} {es : List Expr} {t : TA} {k : Nat} {f : Addr} {fd : FuncData} {ps : List Str} {sp : Sp} (F : FnG X.prog X.w X.K X.mg X.base k f fd ps sp) (hG : X.A.guards = some []) (hr : Room k X.A) (hg : Gl X x) (hm : X.mg x = some (.ref f)) (hk : PySem.W.keepIn X.K (.ref f) = true) (hb : Binds X.K fd ps [])
    (ha : PA X (e :: es) t) (hdb : (x == ("__debug__" : Str)) = false := by decide) (he : starEach (e :: es) X.env = (false, eval e X.env) :: starEach es X.env := by rfl) (hpl : (backTo pos (starEach es X.env)).any (·.1) = false := by rfl) :
    PE X (.Call (.Name x p) (e :: es) [] pos) (tCall sp [] E0 t) := by
  constructor
  intro pins s σ H Q I h
  apply wpAny_Call_Name_kw
  apply ld_glob I hg hm _ hdb
  refine PySem.W.callWith_K (h₀ := X.base) I.ok.mod.kin hk (thn (ha.run pos pins s σ H _ I h) ?_) he hpl
  rintro us s1 ⟨vs, H1, I1, r, q⟩
  refine ⟨I1.kIn, ?_⟩
  have q' : sp vs H1 Q E0 := by
    have := q
    rw [List.append_nil] at this
    exact this
  have hl : us.length = ps.length := r.length.symm.trans (F.len _ _ _ _ q')
  have bt := hb s1 us I1.kIn (by rw [List.append_nil]; exact hl)
  rw [List.append_nil] at bt
  refine wpAny_call (codeAny_mono (F.run X.A X.stack s1 H1 ⟨us, []⟩ us vs Q E0 hG hr I1.env0 bt r q') ?_)
  intro rs s2 hq
  cases rs with
  | error e => exact hq.elim
  | ok fl =>
    cases fl with
    | ret u => exact I1.after hq
    | next => exact hq.elim
    | brk => exact hq.elim
    | cont => exact hq.elim
/-- THE RULE of a def -/
theorem fn_ok {Pr : Program} {w : World} {K : PySem.W.Frag} {mg : Str → Option Value} {base : Heap} {x qual : Str} {st : Stmt} {f : Addr} {fd : FuncData} {N ps : List Str} {k : Nat} {P : List Nat} {body : SEV} (F : Fun K x qual st f fd) (Sc : FnScope N ps (defScope st))
    (hbody : ∀ (cdv : Value) (A : Around) (outer : List Env) (s : Shared) (H : Hp) (E : XK), A.guards = some [] → Room k (A.deeper (envOfC qual (defScope st) s.heap.objs.size f cdv)) → DSs (cxOf CX0 Pr w K mg base N qual (defScope st) f cdv A outer s H E).nox P (defBody st) body) :
    FnG Pr w K mg base (k + 1) f fd ps (spF K ps.length (runF P N.length body)) := by
  refine gfn_of F Sc (fun vs H Q E h => ?_) (fun cdv A outer s H vs Q E hG hr h => ?_)
  · obtain ⟨T, as, ss, r, cs, hs, hl, _⟩ := h
    have := hs.slen
    simp at this
    omega
  · obtain ⟨T, as, ss, r, cs, hs, hl, hF, hq⟩ := h
    refine ⟨_, hbody cdv A outer s H E hG hr, ?_⟩
    have hvl : vs.length = ss.length := by have := hs.slen; simpa using this
    have hst := hs.start (N.length - ss.length)
    unfold runF at hF
    cases eb : body (ss.map some ++ List.replicate (N.length - ss.length) none) with
    | none => rw [eb] at hF; cases hF
    | some o =>
      rw [eb] at hF
      have hst' : Sim K T (as ++ List.replicate (N.length - ss.length) none) (ss.map some ++ List.replicate (N.length - ss.length) none) (L2.start N vs) H := by
        unfold L2.start
        rw [hvl]
        exact hst
      refine ⟨T, _, _, o, hst', eb, ?_⟩
      -- what stands at the end
      have fin : ∀ (δ : Ds), ownC P 0 ss δ = some cs → ∀ (ρ' : List (Option Addr)) (σ' : L2.St) (H' : Hp), Sim K T ρ' δ σ' H' → Ext T (as ++ List.replicate (N.length - ss.length) none) H ρ' H' → Keep P (L2.start N vs) σ' →
          Same (hid T ρ' H') (hid T as H') ∧ Own K T as H' cs ∧ Ext T as H as H' := by
        intro δ hc ρ' σ' H' s1 x1 k1
        have each : ∀ (j : Nat) (a : Addr), as[j]? = some (some a) → ∃ c, ρ'[j]? = some (some a) ∧ δ[j]? = some (some (.o c)) ∧ cs[j]? = some (some c) := by
          intro j a hj
          obtain ⟨c0, hc0⟩ := hs.own' j a hj
          have hc1 : ss[j]? = some (.o c0) := by
            rw [List.getElem?_map] at hc0
            cases e : ss[j]? with
            | none => rw [e] at hc0; cases hc0
            | some z => rw [e] at hc0; cases hc0; rfl
          obtain ⟨hP, c, e1, e2⟩ := ownC_spec hc j c0 hc1
          obtain ⟨b, f1, f2⟩ := s1.own j c e1
          obtain ⟨a', g1, g2⟩ := hst'.own j c0 (get_app' hc0)
          rw [get_app' hj] at g1
          cases g1
          have := k1 j (by simpa using hP)
          rw [f2, g2] at this
          cases this
          exact ⟨c, f1, e1, e2⟩
        have hl : Same (hid T ρ' H') (hid T as H') := hid_less fun b hb => hb.elim .inl fun z => .inr (by
          obtain ⟨j, hj⟩ := mem_ix z
          obtain ⟨c, h1, _⟩ := each j b hj
          exact ix_mem h1)
        refine ⟨hl, fun j a hj => ?_, ?_, x1.tmp, x1.tabs⟩
        · obtain ⟨c, h1, h2, h3⟩ := each j a hj
          obtain ⟨v, e1, e2⟩ := s1.slot j _ h2
          obtain ⟨b, f1, f2⟩ := s1.own j c h2
          rw [h1] at f1
          cases f1
          rw [f2] at e1
          cases e1
          obtain ⟨b, o, z, z1, z2⟩ := e2
          cases z
          exact ⟨c, o, h3, z1, coM hl z2⟩
        · have := x1.same
          rw [hid_app] at this
          exact this.trans hl
      cases o with
      | bk δ => cases hF
      | ct δ => cases hF
      | nx δ =>
        have hF' : (ownC P 0 ss δ).map (fun cs => (S.d .none, cs)) = some (r, cs) := hF
        cases e : ownC P 0 ss δ with
        | none => rw [e] at hF'; cases hF'
        | some cs' =>
          rw [e] at hF'
          cases hF'
          intro ρ' σ' H' s1 x1 k1
          obtain ⟨a, b, c⟩ := fin δ e ρ' σ' H' s1 x1 k1
          exact hq _ H' b c .non
      | rt u δ =>
        have hF' : (ownC P 0 ss δ).map (fun cs => (u, cs)) = some (r, cs) := hF
        cases e : ownC P 0 ss δ with
        | none => rw [e] at hF'; cases hF'
        | some cs' =>
          rw [e] at hF'
          cases u with
          | o z =>
            cases hF'
            intro ρ' σ' p H0 o s1 x1 k1 hp hc
            obtain ⟨a, b, c⟩ := fin δ e ρ' σ' H0 s1 x1 k1
            exact hq p H0 o b c hp (coM a hc)
          | d z =>
            cases hF'
            intro ρ' σ' v H' s1 x1 k1 hv
            obtain ⟨a, b, c⟩ := fin δ e ρ' σ' H' s1 x1 k1
            exact hq v H' b c (svM (s := .d z) a hv)
          | t z =>
            cases hF'
            intro ρ' σ' v H' s1 x1 k1 hv
            obtain ⟨a, b, c⟩ := fin δ e ρ' σ' H' s1 x1 k1
            exact hq v H' b c (svM (s := .t z) a hv)
          | z z =>
            cases hF'
            intro ρ' σ' v H' s1 x1 k1 hv
            obtain ⟨a, b, c⟩ := fin δ e ρ' σ' H' s1 x1 k1
            exact hq v H' b c (svM (s := .z z) a hv)
          | p z =>
            cases hF'
            intro ρ' σ' v H' s1 x1 k1 hv
            obtain ⟨a, b, c⟩ := fin δ e ρ' σ' H' s1 x1 k1
            exact hq v H' b c (svM (s := .p z) a hv)

/-! ### the call -/
def PV.ix : PV → Option Nat
  | .own i => some i
  | .v _ => none
def wb : Ds → List PV → List (Option C) → Option Ds
  | δ, [], _ => some δ
  | δ, .own i :: ps, some c :: cs => match slot δ i with
    | some (.o _) => wb (δ.set i (some (.o c))) ps cs
    | _ => none
  | δ, .own _ :: ps, none :: cs => wb δ ps cs
  | δ, .v _ :: ps, _ :: cs => wb δ ps cs
  | _, _ :: _, [] => none
def callE (F : FN) (m : Nat) (fa : AEV) : EV := fun δ => (fa δ).bind fun x => (resA x.2 x.1).bind fun ss => if (x.1.filterMap PV.ix).Nodup ∧ ss.length = m then (F ss).bind fun r => (wb x.2 x.1 r.2).map fun δ' => (r.1, δ') else none
theorem wb_spec : ∀ {ps : List PV} {δ δ' : Ds} {cs : List (Option C)}, (ps.filterMap PV.ix).Nodup → wb δ ps cs = some δ' → δ'.length = δ.length ∧
    (∀ (k j : Nat) (c : C), ps[k]? = some (.own j) → cs[k]? = some (some c) → δ'[j]? = some (some (.o c)) ∧ ∃ c0, δ[j]? = some (some (.o c0))) ∧
    (∀ j : Nat, (∀ (k : Nat) (c : C), ps[k]? = some (.own j) → cs[k]? = some (some c) → False) → δ'[j]? = δ[j]?)
  | [], δ, δ', cs, _, h => by
    cases h
    exact ⟨rfl, fun k j c e => by simp at e, fun j _ => rfl⟩
  | .own i :: ps, δ, δ', [], nd, h => by cases h
  | .v s :: ps, δ, δ', [], nd, h => by cases h
  | .v s :: ps, δ, δ', x :: cs, nd, h => by
    obtain ⟨h1, h2, h3⟩ := wb_spec (ps := ps) (δ := δ) (δ' := δ') (cs := cs) (show (ps.filterMap PV.ix).Nodup from nd) (by simpa [wb] using h)
    refine ⟨h1, fun k j c e1 e2 => ?_, fun j hj => h3 j fun k c e1 e2 => hj (k + 1) c (by simpa using e1) (by simpa using e2)⟩
    cases k with
    | zero => simp at e1
    | succ k => exact h2 k j c (by simpa using e1) (by simpa using e2)
  | .own i :: ps, δ, δ', none :: cs, nd, h => by
    have nd' : (i :: ps.filterMap PV.ix).Nodup := nd
    obtain ⟨h1, h2, h3⟩ := wb_spec (ps := ps) (δ := δ) (δ' := δ') (cs := cs) (List.nodup_cons.mp nd').2 (by simpa [wb] using h)
    refine ⟨h1, fun k j c e1 e2 => ?_, fun j hj => h3 j fun k c e1 e2 => hj (k + 1) c (by simpa using e1) (by simpa using e2)⟩
    cases k with
    | zero => simp at e2
    | succ k => exact h2 k j c (by simpa using e1) (by simpa using e2)
  | .own i :: ps, δ, δ', some c :: cs, nd, h => by
    have nd' : (i :: ps.filterMap PV.ix).Nodup := nd
    unfold wb at h
    split at h
    · rename_i c0 hc0
      have hc1 := slot_some hc0
      have hil : i < δ.length := (List.getElem?_eq_some_iff.mp hc1).1
      obtain ⟨h1, h2, h3⟩ := wb_spec (ps := ps) (δ := δ.set i (some (.o c))) (δ' := δ') (cs := cs) (List.nodup_cons.mp nd').2 h
      have hni : ∀ (k : Nat), ps[k]? = some (.own i) → False := fun k e => (List.nodup_cons.mp nd').1 (List.mem_filterMap.mpr ⟨.own i, ix_mem e, rfl⟩)
      refine ⟨by rw [h1, List.length_set], fun k j c' e1 e2 => ?_, fun j hj => ?_⟩
      · cases k with
        | zero =>
          simp at e1 e2
          subst e1 e2
          refine ⟨?_, c0, hc1⟩
          rw [h3 i fun k c e _ => hni k e, List.getElem?_set_self hil]
        | succ k =>
          obtain ⟨a, c1, b⟩ := h2 k j c' (by simpa using e1) (by simpa using e2)
          refine ⟨a, ?_⟩
          by_cases hij : i = j
          · subst hij
            exact ⟨c0, hc1⟩
          · rw [List.getElem?_set_ne hij] at b
            exact ⟨c1, b⟩
      · have hij : i ≠ j := fun z => hj 0 c (by rw [z]; rfl) rfl
        rw [h3 j fun k c e1 e2 => hj (k + 1) c (by simpa using e1) (by simpa using e2), List.getElem?_set_ne hij]
    · cases h
def asOf (ρ : List (Option Addr)) : PV → Option Addr
  | .own i => (ρ[i]?).join
  | .v _ => none
def tmps (T : List Addr) (ρ as : List (Option Addr)) : List Addr := T ++ (ρ.filterMap id).filter fun a => decide (some a ∉ as)
theorem join_some {α : Type} {x : Option (Option α)} {a : α} (h : x.join = some a) : x = some (some a) := by
  cases x with
  | none => cases h
  | some y => cases y with
    | none => cases h
    | some z => cases h; rfl
theorem tmps_iff {T : List Addr} {ρ : List (Option Addr)} {ps : List PV} {b : Addr} : (b ∈ tmps T ρ (ps.map (asOf ρ)) ∨ some b ∈ ps.map (asOf ρ)) ↔ (b ∈ T ∨ some b ∈ ρ) := by
  have back : some b ∈ ps.map (asOf ρ) → some b ∈ ρ := fun h => by
    obtain ⟨p, hp, e⟩ := List.mem_map.mp h
    cases p with
    | v s => cases e
    | own i => exact ix_mem (join_some e)
  unfold tmps
  constructor
  · rintro (h | h)
    · rcases List.mem_append.mp h with h | h
      · exact .inl h
      · obtain ⟨x, hx, e⟩ := List.mem_filterMap.mp (List.mem_filter.mp h).1
        cases x with
        | none => cases e
        | some y => cases e; exact .inr hx
    · exact .inr (back h)
  · rintro (h | h)
    · exact .inl (List.mem_append_left _ h)
    · by_cases hb : some b ∈ ps.map (asOf ρ)
      · exact .inr hb
      · exact .inl (List.mem_append_right _ (List.mem_filter.mpr ⟨List.mem_filterMap.mpr ⟨some b, h, rfl⟩, decide_eq_true hb⟩))
theorem hid_tmps {T : List Addr} {ρ : List (Option Addr)} {ps : List PV} {H : Hp} : hid (tmps T ρ (ps.map (asOf ρ))) (ps.map (asOf ρ)) H = hid T ρ H := by
  funext b
  unfold hid
  simp only [tmps_iff]
theorem resA_get {δ : Ds} : ∀ {ps : List PV} {ss : List S}, resA δ ps = some ss → ss.length = ps.length ∧ ∀ k : Nat, (ps[k]?).bind (res δ) = ss[k]?
  | [], ss, h => by cases h; exact ⟨rfl, fun k => by simp⟩
  | p :: ps, ss, h => by
    unfold resA at h
    cases e1 : res δ p with
    | none => rw [e1] at h; cases h
    | some s =>
      rw [e1] at h
      cases e2 : resA δ ps with
      | none => rw [e2] at h; cases h
      | some r =>
        rw [e2] at h
        cases h
        obtain ⟨a, b⟩ := resA_get e2
        refine ⟨by simp [a], fun k => ?_⟩
        cases k with
        | zero => simpa using e1
        | succ k => simpa using b k
theorem paired_get {α β : Type} {R : α → β → Prop} : ∀ {xs : List α} {ys : List β}, Paired R xs ys → ∀ (k : Nat) (y : β), ys[k]? = some y → ∃ x, xs[k]? = some x ∧ R x y
  | _, _, .nil, k, y, e => by simp at e
  | _, _, .cons r t, 0, y, e => by simp at e; subst e; exact ⟨_, rfl, r⟩
  | _, _, .cons r t, k + 1, y, e => by
    obtain ⟨x, a, b⟩ := paired_get t k y (by simpa using e)
    exact ⟨x, by simpa using a, b⟩
theorem call_ok {K : PySem.W.Frag} {F : FN} {m : Nat} {fa : AEV} (σ : L2.St) (H : Hp) (Q : VK) (h : lift K (callE F m fa) σ H Q) : tCall (spF K m F) [] E0 (liftA K fa) σ H Q := by
  obtain ⟨T, ρ, δ, s, δ', hs, hf, hq⟩ := h
  unfold callE at hf
  cases ea : fa δ with
  | none => rw [ea] at hf; cases hf
  | some x =>
    rw [ea] at hf
    simp only [Option.bind_some] at hf
    obtain ⟨ps, δ1⟩ := x
    simp only at hf
    cases eb : resA δ1 ps with
    | none => rw [eb] at hf; cases hf
    | some ss =>
      rw [eb] at hf
      simp only [Option.bind_some] at hf
      split at hf
      case isFalse => cases hf
      rename_i hnd
      cases e3 : F ss with
      | none => rw [e3] at hf; cases hf
      | some z =>
        obtain ⟨r, cs⟩ := z
        rw [e3] at hf
        simp only [Option.bind_some] at hf
        cases e4 : wb δ1 ps cs with
        | none => rw [e4] at hf; cases hf
        | some δ2 =>
          rw [e4] at hf
          cases hf
          refine ⟨T, ρ, δ, ps, δ1, hs, ea, fun ρ1 vs H1 s1 x1 p1 => ?_⟩
          obtain ⟨hlen, hget⟩ := resA_get eb
          have hat := pats_at s1 .refl p1 eb
          have hvl : vs.length = ps.length := Paired.length p1
          obtain ⟨w1, w2, w3⟩ := wb_spec hnd.1 e4
          -- the k-th argument is lent
          have lent : ∀ (k : Nat) (a : Addr), (ps.map (asOf ρ1))[k]? = some (some a) → ∃ i c, ps[k]? = some (.own i) ∧ ρ1[i]? = some (some a) ∧ δ1[i]? = some (some (.o c)) ∧ ss[k]? = some (.o c) := by
            intro k a hk
            rw [List.getElem?_map] at hk
            cases e : ps[k]? with
            | none => rw [e] at hk; cases hk
            | some p =>
              rw [e] at hk
              have hk' : asOf ρ1 p = some a := Option.some.inj hk
              cases p with
              | v s => cases hk'
              | own i =>
                have hi := join_some hk'
                obtain ⟨c, hc⟩ := s1.own' i a hi
                refine ⟨i, c, rfl, hi, hc, ?_⟩
                rw [← hget k, e]
                show slot δ1 i = _
                unfold slot
                rw [hc]
                rfl
          rw [List.append_nil]
          refine ⟨tmps T ρ1 (ps.map (asOf ρ1)), ps.map (asOf ρ1), ss, _, cs, ⟨?_, ?_, ?_, ?_, ?_, ?_, ?_, ?_, fun p hp => List.mem_append_left _ (s1.tabT p hp), s1.tabs⟩, hnd.2, e3, ?_⟩
          · simp [hlen]
          · simp [hlen, hvl]
          · intro k s hk
            rw [List.getElem?_map] at hk
            cases e : ss[k]? with
            | none => rw [e] at hk; cases hk
            | some s' =>
              rw [e] at hk
              cases hk
              obtain ⟨v, a, b⟩ := paired_get hat k _ e
              exact ⟨v, by rw [List.getElem?_map, a]; rfl, at_hid hid_tmps.symm b⟩
          · intro k c hk
            rw [List.getElem?_map] at hk
            cases e : ss[k]? with
            | none => rw [e] at hk; cases hk
            | some s' =>
              rw [e] at hk
              cases hk
              have hg := hget k
              rw [e] at hg
              cases ep : ps[k]? with
              | none => rw [ep] at hg; cases hg
              | some p =>
                rw [ep] at hg
                have hg' : res δ1 p = some (.o c) := hg
                obtain ⟨v, b1, b2⟩ := paired_get p1 k p ep
                cases p with
                | v s =>
                  cases hg'
                  exact b2.elim
                | own i =>
                  obtain ⟨a, c1, c2⟩ := s1.own i c (slot_some hg')
                  refine ⟨a, ?_, ?_⟩
                  · rw [List.getElem?_map, ep]
                    show some ((ρ1[i]?).join) = _
                    rw [c1]
                    rfl
                  · have b2' : σ[i]? = some (some v) := b2
                    rw [c2] at b2'
                    cases b2'
                    rw [List.getElem?_map, b1]
                    rfl
          · intro k a hk
            obtain ⟨i, c, _, _, _, h4⟩ := lent k a hk
            exact ⟨c, by rw [List.getElem?_map, h4]; rfl⟩
          · intro k l a hk hl
            obtain ⟨i, c, h1, h2, _, _⟩ := lent k a hk
            obtain ⟨j, c', g1, g2, _, _⟩ := lent l a hl
            have hij := s1.inj i j a h2 g2
            subst hij
            exact nodup_fm hnd.1 h1 g1
          · intro k a hk hm
            obtain ⟨i, c, h1, h2, _, _⟩ := lent k a hk
            rcases List.mem_append.mp hm with hm | hm
            · exact s1.nt i a h2 hm
            · have := of_decide_eq_true (List.mem_filter.mp hm).2
              exact this (ix_mem hk)
          · intro a hm
            rcases tmps_iff.mp (.inl hm) with h | h
            · exact s1.tmp a h
            · exact s1.trk.own a h
          · -- behind the call
            have back : ∀ H', Own K (tmps T ρ1 (ps.map (asOf ρ1))) (ps.map (asOf ρ1)) H' cs → Ext (tmps T ρ1 (ps.map (asOf ρ1))) (ps.map (asOf ρ1)) H1 (ps.map (asOf ρ1)) H' → Sim K T ρ1 δ' σ H' ∧ Ext T ρ1 H1 ρ1 H' := by
              intro H' hown hext
              have hl : Same (hid T ρ1 H1) (hid T ρ1 H') := by
                have := hext.same
                rw [hid_tmps, hid_tmps] at this
                exact this
              have slots : ∀ (j : Nat), δ'[j]? = δ1[j]? ∧ (∀ c, δ1[j]? = some (some (.o c)) → ∃ a o, ρ1[j]? = some (some a) ∧ H' a = some o ∧ CO K (hid T ρ1 H') o c) ∨ ∃ a c c0 o, ρ1[j]? = some (some a) ∧ δ1[j]? = some (some (.o c0)) ∧ δ'[j]? = some (some (.o c)) ∧ H' a = some o ∧ CO K (hid T ρ1 H') o c := by
                intro j
                by_cases hj : ∃ (k : Nat) (c : C), ps[k]? = some (PV.own j) ∧ cs[k]? = some (some c)
                · obtain ⟨k, c, k1, k2⟩ := hj
                  obtain ⟨a1, c0, a2⟩ := w2 k j c k1 k2
                  obtain ⟨a, b1, b2⟩ := s1.own j c0 a2
                  have hk : (ps.map (asOf ρ1))[k]? = some (some a) := by
                    rw [List.getElem?_map, k1]
                    show some ((ρ1[j]?).join) = _
                    rw [b1]
                    rfl
                  obtain ⟨c', o, d1, d2, d3⟩ := hown k a hk
                  rw [k2] at d1
                  cases d1
                  rw [hid_tmps] at d3
                  exact .inr ⟨a, c, c0, o, b1, a2, a1, d2, d3⟩
                · refine .inl ⟨w3 j fun k c e1 e2 => hj ⟨k, c, e1, e2⟩, fun c hc => ?_⟩
                  obtain ⟨a, b1, b2⟩ := s1.own j c hc
                  obtain ⟨v, e1, e2⟩ := s1.slot j _ hc
                  rw [b2] at e1
                  cases e1
                  obtain ⟨a', o, z, z1, z2⟩ := e2
                  cases z
                  by_cases hk : some a ∈ ps.map (asOf ρ1)
                  · obtain ⟨k, hk⟩ := mem_ix hk
                    obtain ⟨i, c', h1, h2, h3, h4⟩ := lent k a hk
                    have := s1.inj i j a h2 b1
                    subst this
                    obtain ⟨c2, o2, d1, d2, d3⟩ := hown k a hk
                    exact absurd ⟨k, c2, h1, d1⟩ hj
                  · have hm : a ∈ tmps T ρ1 (ps.map (asOf ρ1)) := (tmps_iff.mpr (.inr (ix_mem b1))).resolve_right hk
                    exact ⟨a, o, b1, hext.at hm z1 (co_nb z2).1, coM hl z2⟩
              refine ⟨⟨by rw [w1]; exact s1.len, by rw [w1]; exact s1.slen, ?_, ?_, ?_, s1.inj, s1.nt, ?_, s1.tabT, hext.tabs s1.tabs⟩, hl, fun a ha => hext.tmp a (List.mem_append_left _ ha), hext.tabs⟩
              · intro j s hj
                rcases slots j with ⟨e1, e2⟩ | ⟨a, c, c0, o, f1, f2, f3, f4, f5⟩
                · rw [e1] at hj
                  obtain ⟨v, g1, g2⟩ := s1.slot j s hj
                  refine ⟨v, g1, ?_⟩
                  cases s with
                  | o c =>
                    obtain ⟨a, o, d1, d2, d3⟩ := e2 c hj
                    obtain ⟨a', b1, b2⟩ := s1.own j c hj
                    rw [d1] at b1
                    cases b1
                    rw [b2] at g1
                    cases g1
                    exact ⟨a, o, rfl, d2, d3⟩
                  | d y => exact svM (s := .d y) hl g2
                  | t y => exact svM (s := .t y) hl g2
                  | z y => exact svM (s := .z y) hl g2
                  | p y => exact svM (s := .p y) hl g2
                · rw [f3] at hj
                  cases hj
                  obtain ⟨a', b1, b2⟩ := s1.own j c0 f2
                  rw [f1] at b1
                  cases b1
                  exact ⟨.ref a, b2, a, o, rfl, f4, f5⟩
              · intro j c hj
                rcases slots j with ⟨e1, e2⟩ | ⟨a, c', c0, o, f1, f2, f3, f4, f5⟩
                · rw [e1] at hj
                  exact s1.own j c hj
                · exact s1.own j c0 f2
              · intro j a hj
                rcases slots j with ⟨e1, e2⟩ | ⟨a, c', c0, o, f1, f2, f3, f4, f5⟩
                · rw [e1]
                  exact s1.own' j a hj
                · exact ⟨c', f3⟩
              · intro a ha
                exact (hext.tmp a (List.mem_append_left _ ha)).nt (s1.tmp a ha)
            cases s with
            | o c =>
              intro p H0 o ho hx hp hc
              obtain ⟨a, b⟩ := back H0 ho hx
              exact hq ρ1 p H0 o a (x1.trans b) hp (by rw [hid_tmps] at hc; exact hc)
            | d c =>
              intro v H' ho hx hv
              obtain ⟨a, b⟩ := back H' ho hx
              exact hq ρ1 v H' a (x1.trans b) (by rw [hid_tmps] at hv; exact hv)
            | t c =>
              intro v H' ho hx hv
              obtain ⟨a, b⟩ := back H' ho hx
              exact hq ρ1 v H' a (x1.trans b) (by rw [hid_tmps] at hv; exact hv)
            | z c =>
              intro v H' ho hx hv
              obtain ⟨a, b⟩ := back H' ho hx
              exact hq ρ1 v H' a (x1.trans b) (by rw [hid_tmps] at hv; exact hv)
            | p c =>
              intro v H' ho hx hv
              obtain ⟨a, b⟩ := back H' ho hx
              exact hq ρ1 v H' a (x1.trans b) (by rw [hid_tmps] at hv; exact hv)
where
  nodup_fm {ps : List PV} {k l i : Nat} (nd : (ps.filterMap PV.ix).Nodup) (h1 : ps[k]? = some (.own i)) (h2 : ps[l]? = some (.own i)) : k = l := by
    induction ps generalizing k l with
    | nil => simp at h1
    | cons p ps ih =>
      have tail : (ps.filterMap PV.ix).Nodup := by
        cases p with
        | v s => exact nd
        | own j =>
          have nd' : (j :: ps.filterMap PV.ix).Nodup := nd
          exact (List.nodup_cons.mp nd').2
      have hd : ∀ m : Nat, p = .own i → ps[m]? = some (.own i) → False := fun m e1 e2 => by
        subst e1
        have nd' : (i :: ps.filterMap PV.ix).Nodup := nd
        exact (List.nodup_cons.mp nd').1 (List.mem_filterMap.mpr ⟨.own i, ix_mem e2, rfl⟩)
      cases k with
      | zero =>
        cases l with
        | zero => rfl
        | succ l => exact (hd l (by simpa using h1) (by simpa using h2)).elim
      | succ k =>
        cases l with
        | zero => exact (hd k (by simpa using h2) (by simpa using h1)).elim
        | succ l => exact congrArg (· + 1) (ih (k := k) (l := l) tail (by simpa using h1) (by simpa using h2))
section
variable {X : Cx} {pos p : Pos} {e : Expr} {es : List Expr} {x : Str}
theorem de_call {k : Nat} {f : Addr} {fd : FuncData} {ps : List Str} {F : FN} {m : Nat} {fa : AEV} (G : FnG X.prog X.w X.K X.mg X.base k f fd ps (spF X.K m F)) (hG : X.A.guards = some []) (hr : Room k X.A) (hg : Gl X x) (hm : X.mg x = some (.ref f)) (hk : PySem.W.keepIn X.K (.ref f) = true) (hb : Binds X.K fd ps [])
    (ha : DA X (e :: es) fa) (hdb : (x == ("__debug__" : Str)) = false := by decide) (he : starEach (e :: es) X.env = (false, eval e X.env) :: starEach es X.env := by rfl) (hpl : (backTo pos (starEach es X.env)).any (·.1) = false := by rfl) :
    DE X (.Call (.Name x p) (e :: es) [] pos) (callE F m fa) := pe_imp (pe_callG G hG hr hg hm hk hb ha hdb he hpl) call_ok
end
end DL

namespace DL
open PySem PySem.Spec PyProof.Rows L2
variable [TB]

/-! ### what is owned is changed -/
def mutE (i : Nat) (g : C → List PyData → Option (S × C)) (fa : AEV) : EV := fun δ => match slot δ i with
  | some (.o _) => (fa δ).bind fun x => (dataA x.1).bind fun ds => match slot x.2 i with
    | some (.o c) => (g c ds).map fun r => (r.1, x.2.set i (some (.o r.2)))
    | _ => none
  | _ => none
def isL : C → Bool
  | .l _ => true
  | .t _ => false
def mutL (i : Nat) (g : List PyData → List PyData → Option (S × List PyData)) (fa : AEV) : EV := fun δ => match slot δ i with
  | some (.o (.l _)) => (fa δ).bind fun x => (dataA x.1).bind fun ds => match slot x.2 i with
    | some (.o (.l ys)) => (g ys ds).map fun r => (r.1, x.2.set i (some (.o (.l r.2))))
    | _ => none
  | _ => none
def MutD (K : PySem.W.Frag) (r : V → List V → Hp → VK → Prop) (g : List PyData → List PyData → Option (S × List PyData)) : Prop :=
  ∀ (T : List Addr) (ρ : List (Option Addr)) (H : Hp) (a : Addr) (ys : List V) (xs ds : List PyData) (vs : List V) (s : S) (zs : List PyData) (Q : VK), H a = some (.lst ys) → DqAll K (hid T ρ H) ys xs → DqAll K (hid T ρ H) vs ds → g xs ds = some (s, zs) →
    (∀ ws v, DqAll K (hid T ρ H) ws zs → SV K (hid T ρ H) v s → Q v (upd H a (.lst ws))) → r (.ref a) vs H Q
theorem sim_owned {K : PySem.W.Frag} {T : List Addr} {ρ : List (Option Addr)} {δ : Ds} {σ : L2.St} {H : Hp} {i : Nat} {c : C} (h : Sim K T ρ δ σ H) (hi : slot δ i = some (.o c)) : ∃ a o, σ[i]? = some (some (.ref a)) ∧ ρ[i]? = some (some a) ∧ H a = some o ∧ CO K (hid T ρ H) o c := by
  obtain ⟨a, h1, h2⟩ := h.own i c (slot_some hi)
  obtain ⟨v, e1, e2⟩ := h.slot i _ (slot_some hi)
  rw [h2] at e1
  cases e1
  obtain ⟨b, o, z, z1, z2⟩ := e2
  cases z
  exact ⟨a, o, h2, h1, z1, z2⟩
section
variable {X : Cx} {P : List Nat} {pos : Pos} {e : Expr} {es : List Expr}
theorem mutL_ok {r : V → List V → Hp → VK → Prop} {g : List PyData → List PyData → Option (S × List PyData)} {fa : AEV} {i : Nat} (hd : MutD X.K r g) (σ : L2.St) (H : Hp) (Q : VK) (h : lift X.K (mutL i g fa) σ H Q) : tBM X.K "list" r (tVar i) (liftA X.K fa) σ H Q := by
  obtain ⟨T, ρ, δ, s, δ', hs, hf, hq⟩ := h
  unfold mutL at hf
  split at hf
  case h_2 => cases hf
  rename_i ys0 hi0
  cases ea : fa δ with
  | none => rw [ea] at hf; cases hf
  | some x =>
    rw [ea] at hf
    simp only [Option.bind_some] at hf
    cases eb : dataA x.1 with
    | none => rw [eb] at hf; cases hf
    | some ds =>
      rw [eb] at hf
      simp only [Option.bind_some] at hf
      split at hf
      case h_2 => cases hf
      rename_i ys1 hi1
      cases e3 : g ys1 ds with
      | none => rw [e3] at hf; cases hf
      | some z =>
        obtain ⟨u, zs⟩ := z
        rw [e3] at hf
        obtain ⟨a, o, a1, a2, a3, a4⟩ := sim_owned hs hi0
        obtain ⟨vs0, rfl, a5⟩ := a4
        refine ⟨.ref a, a1, .inl ⟨rfl, _, SqL.of a3⟩, ?_⟩
        refine ⟨T, ρ, δ, x.1, x.2, hs, by rw [ea], fun ρ1 vs H1 s1 x1 p1 => ?_⟩
        obtain ⟨b, o, b1, b2, b3, b4⟩ := sim_owned s1 hi1
        obtain ⟨vs1, rfl, b5⟩ := b4
        rw [a1] at b1
        cases b1
        have hsome := Option.some.inj hf
        cases hsome
        refine hd T ρ1 H1 a vs1 ys1 ds vs _ _ Q b3 b5 (data_dp p1 eb) e3 fun ws v hw hv => ?_
        obtain ⟨c1, c2⟩ := s1.write (slot_some hi1) b2 (o := .lst ws) (c := .l zs) ⟨ws, rfl, hw⟩
        have hv' := hv
        rw [← hid_write (T := T) (o := .lst ws) (ix_mem b2)] at hv'
        cases u with
        | o c => exact hv.elim
        | d c => exact hq ρ1 v _ c1 (x1.trans c2) hv'
        | t c => exact hq ρ1 v _ c1 (x1.trans c2) hv'
        | z c => exact hq ρ1 v _ c1 (x1.trans c2) hv'
        | p c => exact hq ρ1 v _ c1 (x1.trans c2) hv'
theorem de_mut {name : Str} {apos cpos opos : Pos} {x : Str} {id : String} {r : V → List V → Hp → VK → Prop} {g : List PyData → List PyData → Option (S × List PyData)} {fa : AEV} {i : Nat} (pa : PlainAttrs "list") (sl : Slot "list" name id) (hty : typeOf (.builtin id) = pure (.type "method_descriptor")) (hm : MtR X id r) (hd : MutD X.K r g) (p : PE X (.Name x opos) (tVar i)) (ha : DA X (e :: es) fa)
    (hbase : attributeBase (.Name x opos) name X.env (eval (.Name x opos) X.env) = eval (.Name x opos) X.env := by rfl)
    (hfew : ((backTo cpos (starEach (e :: es) X.env)).all (fun x => !x.1) && (backToKw cpos (keywordEach [] X.env)).all (fun x => x.1.isSome)
      && decide ((e :: es).length + ([] : List Keyword).length + (if ([] : List Keyword).isEmpty then 0 else 1) < 30)) = true := by rfl)
    (hline : (apos.endLine == cpos.line) = true := by rfl) (hs : starEach (e :: es) X.env = (false, eval e X.env) :: starEach es X.env := by rfl) (hplain : (backTo cpos (starEach es X.env)).any (·.1) = false := by rfl) :
    DE X (.Call (.Attribute (.Name x opos) name apos) (e :: es) [] cpos) (mutL i g fa) := pe_imp (pe_bm pa sl hty hm p ha hbase hfew hline hs hplain) (mutL_ok hd)
def gApp (xs ds : List PyData) : Option (S × List PyData) := match ds with
  | [d] => if xs.length < sizeLine then some (.d .none, xs ++ [d]) else none
  | _ => none
def gExt (xs ds : List PyData) : Option (S × List PyData) := match ds with
  | [.list ys] => if xs.length + ys.length ≤ sizeLine then some (.d .none, xs ++ ys) else none
  | _ => none
theorem md_append {K : PySem.W.Frag} : MutD K rAppend gApp := fun T ρ H a ys xs ds vs s zs Q h1 h2 h3 h4 h5 => by
  unfold gApp at h4
  split at h4
  · rename_i d
    split at h4
    · rename_i hl
      cases h4
      cases h3 with
      | cons q1 q2 =>
        cases q2
        exact ⟨a, ys, _, rfl, rfl, h1, by rw [dpAll_len h2]; exact hl, h5 _ _ (dpAll_app h2 (.cons q1 .nil)) .non⟩
    · cases h4
  · cases h4
/-! ### o[i] = e, o owned -/
def setI (i : Nat) (fe fi : PEV) : SEV := fun δ => (fe δ).bind fun x => match x.1, slot x.2 i with
  | .v (.d d), some (.o _) => (fi x.2).bind fun y => match y.1, slot y.2 i with
    | .v (.d (.int k)), some (.o (.l xs)) => (ixN xs.length k).map fun j => .nx (y.2.set i (some (.o (.l (xs.set j d)))))
    | _, _ => none
  | _, _ => none
theorem ds_setI {i : Nat} {ix : Expr} {x : Str} {opos : Pos} {fe fi : PEV} {spos : Pos} (he : DP X e fe) (p : PE X (.Name x opos) (tVar i)) (hi : DP X ix fi)
    (ha : ∀ v, assign (.Subscript (.Name x opos) ix spos) X.env v = (do
      let ov ← holding [v] (eval (.Name x opos) X.env)
      let iv ← holding [v, ov] (eval ix X.env)
      standAt spos
      holding [v, ov, iv] (setItem ov iv v)
      release [v, ov, iv] []) := by intro _; rfl)
    (hs : swapsWithSole [.Subscript (.Name x opos) ix spos] e pos.line X.env = pure false := by rfl) (hw : swappedStores [.Subscript (.Name x opos) ix spos] e X.env = pure none := by rfl)
    (h1 : (assignEach [.Subscript (.Name x opos) ix spos] X.env).map (·.2) = [assign (.Subscript (.Name x opos) ix spos) X.env] := by rfl) :
    DS X P (.Assign [.Subscript (.Name x opos) ix spos] e pos) (setI i fe fi) := ps_imp (ps_asg he (pg_sub p hi set_list ha) hs hw h1) fun D σ H ⟨T, ρ, δ, o, hs, hf, hq⟩ => by
  unfold setI at hf
  cases ea : fe δ with
  | none => rw [ea] at hf; cases hf
  | some z =>
    obtain ⟨pv, δ1⟩ := z
    rw [ea] at hf
    simp only [Option.bind_some] at hf
    split at hf
    case h_2 => cases hf
    rename_i d c0 hi1
    cases eb : fi δ1 with
    | none => rw [eb] at hf; cases hf
    | some y =>
      obtain ⟨pw, δ2⟩ := y
      rw [eb] at hf
      simp only [Option.bind_some] at hf
      split at hf
      case h_2 => cases hf
      rename_i k xs hsl
      cases ec : ixN xs.length k with
      | none => rw [ec] at hf; cases hf
      | some j =>
        rw [ec] at hf
        cases hf
        refine ⟨T, ρ, δ, _, δ1, hs, ea, fun ρ1 v1 H1 s1 x1 p1 => ?_⟩
        obtain ⟨a, ob, a1, a2, a3, a4⟩ := sim_owned s1 hi1
        refine ⟨.ref a, a1, T, ρ1, δ1, _, δ2, s1, eb, fun ρ2 v2 H2 s2 x2 p2 => ?_⟩
        obtain ⟨b, ob2, b1, b2, b3, b4⟩ := sim_owned s2 hsl
        rw [a1] at b1
        cases b1
        obtain ⟨ws, rfl, b5⟩ := b4
        have p1' : Dq X.K (hid T ρ2 H2) v1 d := dpM x2.same _ p1
        have e2 : v2 = .int k := by
          have p2' : Dq X.K (hid T ρ2 H2) v2 (.int k) := p2
          cases p2'
          rfl
        refine ⟨a, ws, k, j, rfl, e2, b3, by rw [dpAll_len b5]; exact ec, ?_⟩
        obtain ⟨c1, c2⟩ := s2.write (slot_some hsl) b2 (o := .lst (ws.set j v1)) (c := .l (xs.set j d)) ⟨_, rfl, dpAll_set p1' j b5⟩
        exact hq ρ2 σ _ c1 ((x1.trans x2).trans c2) .refl
end

/-! ### what is walked -/
def Serves (K : PySem.W.Frag) (T : List Addr) (ρ : List (Option Addr)) (H : Hp) (J : It) (xs : List PyData) : Prop := ∀ (i : Nat) (T2 : List Addr) (ρ2 : List (Option Addr)) (H2 : Hp), Same (hid T ρ H) (hid T2 ρ2 H2) → Trk T2 ρ2 H2 →
  (∀ d, xs[i]? = some d → J.go i H2 ∧ ∀ x H3, J.yld i H2 x H3 → Same H2 H3 ∧ Dq K (hid T2 ρ2 H3) x d) ∧ (xs.length ≤ i → J.stop i H2)
abbrev IEV := Ds → Option (List PyData × Ds)
def liftI (K : PySem.W.Frag) (f : IEV) : TI := fun σ H R => ∃ T ρ δ xs δ', Sim K T ρ δ σ H ∧ f δ = some (xs, δ') ∧ ∀ ρ' H' J, Sim K T ρ' δ' σ H' → Ext T ρ H ρ' H' → Serves K T ρ' H' J xs → R J H'
abbrev DI (X : Cx) (tg e : Expr) (f : IEV) : Prop := PI X tg e (liftI X.K f)
theorem pi_imp {X : Cx} {tg e : Expr} {t t' : TI} (p : PI X tg e t) (m : ∀ σ H R, t' σ H R → t σ H R) : PI X tg e t' := ⟨fun pins s σ H R I h => p.run pins s σ H R I (m σ H R h)⟩
section
variable {X : Cx} {tg : Expr}
/-- a list or a tuple -/
def iSeq (K : PySem.W.Frag) (tl : TE) : TI := fun σ H R => tl σ H fun x H1 => ∃ a, x = .ref a ∧ (((∃ xs, SqL K H1 a xs) ∧ R (Itl K a) H1) ∨ ((∃ xs, SqT K H1 a xs) ∧ R (Itt K a) H1))
theorem walkL {pins : List (Addr × Obj)} {σ : L2.St} {H : Hp} {s : Shared} {a : Addr} {ws : List V} {R : It → Hp → Prop} {E : Value → Shared → Prop} (I : Inv X pins σ H s) (hq : SqL X.K H a ws) (q : R (Itl X.K a) H) :
    wpAny (model X.prog X.w) X.A (pyIter (.ref a)) (PIE X pins σ tg R) E s := by
  obtain ⟨us, _, pl, _⟩ := I.list hq
  refine wpAny_pyIter_list pl.isList ?_
  have nw : ∀ b ∈ [s.heap.objs.size], FpOk X pins H b := fun b hb => by
    rw [List.mem_singleton.mp hb]
    exact I.fpOk (Nat.le_refl _) (I.hok.fresh (Nat.le_refl _))
  refine ⟨_, _, _, Itl X.K a, H, rfl, ?i, turn_list a _, ?z, nw, q⟩
  case i => exact I.kept (t' := s.toks) (fun b u hb => Heap.get?_push_of_some _ hb)
  case z => exact ⟨_, Heap.get?_push_size _ rfl, rfl, rfl⟩
theorem walkT {pins : List (Addr × Obj)} {σ : L2.St} {H : Hp} {s : Shared} {a : Addr} {ws : List V} {R : It → Hp → Prop} {E : Value → Shared → Prop} (I : Inv X pins σ H s) (hq : SqT X.K H a ws) (q : R (Itt X.K a) H) :
    wpAny (model X.prog X.w) X.A (pyIter (.ref a)) (PIE X pins σ tg R) E s := by
  obtain ⟨us, _, pl, _⟩ := I.tuple hq
  have pt : s.heap.IsTuple a us.toArray := pl
  refine wpAny_pyIter_tuple pt ?_
  have nw : ∀ b ∈ [s.heap.objs.size], FpOk X pins H b := fun b hb => by
    rw [List.mem_singleton.mp hb]
    exact I.fpOk (Nat.le_refl _) (I.hok.fresh (Nat.le_refl _))
  refine ⟨_, _, _, Itt X.K a, H, rfl, ?i, turn_tuple a _, ?z, nw, q⟩
  case i => exact I.kept (t' := s.toks) (fun b u hb => Heap.get?_push_of_some _ hb)
  case z => exact ⟨_, Heap.get?_push_size _ rfl, rfl, rfl⟩
theorem pi_seq {l : Expr} {tl : TE} (hl : PE X l tl) : PI X tg l (iSeq X.K tl) := ⟨fun pins s σ H R I h => by
  refine thn (hl.run pins s σ H _ I h) fun v s1 ⟨x, H1, I1, r1, a, e, q⟩ => ?_
  subst e
  cases r1
  rcases q with ⟨⟨ws, hq⟩, q⟩ | ⟨⟨ws, hq⟩, q⟩
  · exact walkL I1 hq q
  · exact walkT I1 hq q⟩
def seqI (f : EV) : IEV := fun δ => (f δ).bind fun r => match frz r.1 with
  | .d (.list xs) => some (xs, r.2)
  | .d (.tuple xs) => some (xs, r.2)
  | _ => none
theorem serves_L {K : PySem.W.Frag} {T : List Addr} {ρ : List (Option Addr)} {H : Hp} {a : Addr} {ws : List V} {xs : List PyData} (h0 : hid T ρ H a = some (.lst ws)) (hd : DqAll K (hid T ρ H) ws xs) : Serves K T ρ H (Itl K a) xs := fun i T2 ρ2 H2 sm tr => by
  have h2 : SqL K H2 a ws := SqL.of (hid_same _ _ (sm _ _ h0))
  refine ⟨fun d hi => ?_, fun hi => ⟨ws, h2, by rw [dpAll_len hd]; exact hi⟩⟩
  obtain ⟨v, e1, e2⟩ := dpAll_get hd hi
  refine ⟨⟨ws, v, h2, e1⟩, fun x H3 hy => ?_⟩
  obtain ⟨rfl, fv⟩ := hy
  have := fv ws h2
  rw [e1] at this
  cases this
  exact ⟨Same.refl _, dpM sm _ e2⟩
theorem serves_T {K : PySem.W.Frag} {T : List Addr} {ρ : List (Option Addr)} {H : Hp} {a : Addr} {ws : List V} {xs : List PyData} (h0 : hid T ρ H a = some (.tup ws)) (hd : DqAll K (hid T ρ H) ws xs) : Serves K T ρ H (Itt K a) xs := fun i T2 ρ2 H2 sm tr => by
  have h2 : SqT K H2 a ws := SqT.of (hid_same _ _ (sm _ _ h0))
  refine ⟨fun d hi => ?_, fun hi => ⟨ws, h2, by rw [dpAll_len hd]; exact hi⟩⟩
  obtain ⟨v, e1, e2⟩ := dpAll_get hd hi
  refine ⟨⟨ws, v, h2, e1⟩, fun x H3 hy => ?_⟩
  obtain ⟨rfl, fv⟩ := hy
  have := fv ws h2
  rw [e1] at this
  cases this
  exact ⟨Same.refl _, dpM sm _ e2⟩
theorem di_seq {l : Expr} {f : EV} (hl : DE X l f) : DI X tg l (seqI f) := pi_imp (pi_seq (dp_of hl)) fun σ H R ⟨T, ρ, δ, xs, δ', hs, hf, hq⟩ => by
  unfold seqI at hf
  cases ea : f δ with
  | none => rw [ea] at hf; cases hf
  | some z =>
    obtain ⟨s, δ1⟩ := z
    rw [ea] at hf
    simp only [Option.bind_some] at hf
    refine ⟨T, ρ, δ, .v (frz s), δ1, hs, by unfold frzP; rw [ea]; rfl, fun ρ1 v H1 s1 x1 p1 => ?_⟩
    have p1' : SV X.K (hid T ρ1 H1) v (frz s) := p1
    split at hf
    · rename_i ys hy
      cases hf
      rw [hy] at p1'
      cases p1' with
      | lst h1 h2 => exact ⟨_, rfl, .inl ⟨⟨_, SqL.of (hid_same _ _ h1)⟩, hq ρ1 H1 _ s1 x1 (serves_L h1 h2)⟩⟩
    · rename_i ys hy
      cases hf
      rw [hy] at p1'
      cases p1' with
      | tup h1 h2 => exact ⟨_, rfl, .inr ⟨⟨_, SqT.of (hid_same _ _ h1)⟩, hq ρ1 H1 _ s1 x1 (serves_T h1 h2)⟩⟩
    · cases hf
/-- range -/
def rng (a : Int) (n : Nat) : List PyData := (List.range n).map fun k => .int (a + (k : Nat))
def rngI1 (fa : AEV) : IEV := fun δ => (fa δ).bind fun x => match x.1 with
  | [.v (.d (.int n))] => if -(2 ^ 62) ≤ n ∧ n < 2 ^ 62 then some (rng 0 n.toNat, x.2) else none
  | _ => none
def rngI2 (fa : AEV) : IEV := fun δ => (fa δ).bind fun x => match x.1 with
  | [.v (.d (.int m)), .v (.d (.int n))] => if -(2 ^ 62) ≤ m ∧ m < 2 ^ 62 ∧ -(2 ^ 62) ≤ n ∧ n < 2 ^ 62 then some (rng m (n - m).toNat, x.2) else none
  | _ => none
theorem serves_R {K : PySem.W.Frag} {T : List Addr} {ρ : List (Option Addr)} {H : Hp} {lo : Int} {n : Nat} : Serves K T ρ H (Itr lo n) (rng lo n) := fun i T2 ρ2 H2 sm tr => by
  unfold rng
  refine ⟨fun d hi => ?_, fun hi => (show n ≤ i by simpa using hi)⟩
  rw [List.getElem?_map] at hi
  cases e : (List.range n)[i]? with
  | none => rw [e] at hi; cases hi
  | some k =>
    rw [e] at hi
    obtain ⟨h1, h2⟩ := List.getElem?_eq_some_iff.mp e
    rw [List.getElem_range] at h2
    subst h2
    cases hi
    refine ⟨(show i < n by simpa using h1), fun x H3 hy => ?_⟩
    obtain ⟨rfl, rfl⟩ := hy
    exact ⟨Same.refl _, .int _⟩
theorem di_range1 {a : Expr} {fa : AEV} {p pos : Pos} (hg : Gl X "range") (hm : X.mg "range" = none) (ha : DA X [a] fa) (hs : starEach [a] X.env = [(false, eval a X.env)] := by rfl) : DI X tg (.Call (.Name "range" p) [a] [] pos) (rngI1 fa) := pi_imp (pi_range1 hg hm ha hs) fun σ H R ⟨T, ρ, δ, xs, δ', hs, hf, hq⟩ => by
  unfold rngI1 at hf
  cases ea : fa δ with
  | none => rw [ea] at hf; cases hf
  | some z =>
    obtain ⟨ps, δ1⟩ := z
    rw [ea] at hf
    simp only [Option.bind_some] at hf
    refine ⟨T, ρ, δ, ps, δ1, hs, ea, fun ρ1 vs H1 s1 x1 p1 => ?_⟩
    split at hf
    · rename_i n
      split at hf
      · rename_i hn
        cases hf
        cases p1 with
        | cons q1 q2 =>
          cases q2
          have q1' : Dq X.K (hid T ρ1 H1) _ (.int n) := q1
          cases q1'
          exact ⟨n, rfl, hn.1, hn.2, hq ρ1 H1 _ s1 x1 serves_R⟩
      · cases hf
    · cases hf
theorem di_range2 {a b : Expr} {fa : AEV} {p pos : Pos} (hg : Gl X "range") (hm : X.mg "range" = none) (ha : DA X [a, b] fa) (hs : starEach [a, b] X.env = [(false, eval a X.env), (false, eval b X.env)] := by rfl) (hs2 : starEach [b] X.env = [(false, eval b X.env)] := by rfl) : DI X tg (.Call (.Name "range" p) [a, b] [] pos) (rngI2 fa) := pi_imp (pi_range2 hg hm ha hs hs2) fun σ H R ⟨T, ρ, δ, xs, δ', hs, hf, hq⟩ => by
  unfold rngI2 at hf
  cases ea : fa δ with
  | none => rw [ea] at hf; cases hf
  | some z =>
    obtain ⟨ps, δ1⟩ := z
    rw [ea] at hf
    simp only [Option.bind_some] at hf
    refine ⟨T, ρ, δ, ps, δ1, hs, ea, fun ρ1 vs H1 s1 x1 p1 => ?_⟩
    split at hf
    · rename_i m n
      split at hf
      · rename_i hn
        cases hf
        cases p1 with
        | cons q1 q2 =>
          cases q2 with
          | cons q2 q3 =>
            cases q3
            have q1' : Dq X.K (hid T ρ1 H1) _ (.int m) := q1
            have q2' : Dq X.K (hid T ρ1 H1) _ (.int n) := q2
            cases q1'
            cases q2'
            exact ⟨m, n, rfl, hn, hq ρ1 H1 _ s1 x1 serves_R⟩
      · cases hf
    · cases hf
end
/-! ### targets -/
def Only (vs : List Nat) (σ σ' : L2.St) : Prop := σ'.length = σ.length ∧ ∀ j : Nat, j ∉ vs → σ'[j]? = σ[j]?
abbrev GEV := PyData → Ds → Option Ds
def liftG (K : PySem.W.Frag) (vs : List Nat) (g : GEV) : TG := fun v σ H Q => ∃ T ρ δ x δ', Sim K T ρ δ σ H ∧ Dq K (hid T ρ H) v x ∧ g x δ = some δ' ∧ ∀ ρ' σ' H', Sim K T ρ' δ' σ' H' → Ext T ρ H ρ' H' → Only vs σ σ' → Q σ' H'
abbrev DG (X : Cx) (vs : List Nat) (tg : Expr) (g : GEV) : Prop := PG X tg (liftG X.K vs g)
theorem pg_imp {X : Cx} {tg : Expr} {t t' : TG} (p : PG X tg t) (m : ∀ v σ H Q, t' v σ H Q → t v σ H Q) : PG X tg t' := ⟨fun pins s σ H v u Q I r h => p.run pins s σ H v u Q I r (m v σ H Q h)⟩
def nameG (i : Nat) : GEV := fun x δ => some (δ.set i (some (.d x)))
section
variable {X : Cx} {pos : Pos}
theorem only_set {i : Nat} {σ : L2.St} {v : Option V} : Only [i] σ (σ.set i v) := ⟨List.length_set, fun j hj => List.getElem?_set_ne fun z => hj (by rw [z]; exact List.mem_singleton_self _)⟩
theorem dg_name {i : Nat} {x : Str} (hN : X.N.Nodup) (hi : X.N[i]? = some x) (hx : Loc X.env.scope x) (hf : X.fn x = true ∨ X.env.scope.names.lookup x = some .local := by first | exact .inl rfl | exact .inr rfl | assumption) : DG X [i] (.Name x pos) (nameG i) :=
  pg_imp (pg_name hN hi hx hf) fun v σ H Q ⟨T, ρ, δ, d, δ', hs, hd, hg, hq⟩ => by
    cases hg
    obtain ⟨a, b⟩ := hs.setD (i := i) (v := v) (s := .d d) hd
    exact hq _ _ H a b only_set
abbrev GsEV := List PyData → Ds → Option Ds
def liftGs (K : PySem.W.Frag) (vs : List Nat) (g : GsEV) : TGs := fun ws σ H Q => ∃ T ρ δ ds δ', Sim K T ρ δ σ H ∧ DqAll K (hid T ρ H) ws ds ∧ g ds δ = some δ' ∧ ∀ ρ' σ' H', Sim K T ρ' δ' σ' H' → Ext T ρ H ρ' H' → Only vs σ σ' → Q σ' H'
abbrev DGs (X : Cx) (vs : List Nat) (tg : List Expr) (g : GsEV) : Prop := PGs X tg (liftGs X.K vs g)
def nilG : GsEV := fun ds δ => match ds with
  | [] => some δ
  | _ => none
def consG (g : GEV) (gs : GsEV) : GsEV := fun ds δ => match ds with
  | d :: ds => (g d δ).bind (gs ds)
  | [] => none
def tupG (n : Nat) (gs : GsEV) : GEV := fun x δ => match x with
  | .tuple ds => if ds.length = n then gs ds δ else none
  | _ => none
theorem Only.refl {vs : List Nat} {σ : L2.St} : Only vs σ σ := ⟨rfl, fun _ _ => rfl⟩
theorem Only.trans {vs ws : List Nat} {σ σ1 σ2 : L2.St} (a : Only vs σ σ1) (b : Only ws σ1 σ2) : Only (vs ++ ws) σ σ2 := ⟨b.1.trans a.1, fun j hj => (b.2 j fun z => hj (List.mem_append_right _ z)).trans (a.2 j fun z => hj (List.mem_append_left _ z))⟩
theorem pgs_imp {X : Cx} {tg : List Expr} {t t' : TGs} (p : PGs X tg t) (m : ∀ v σ H Q, t' v σ H Q → t v σ H Q) : PGs X tg t' := ⟨fun pins s σ H v u Q I r h => p.run pins s σ H v u Q I r (m v σ H Q h)⟩
theorem dgs_nil : DGs X [] [] nilG := pgs_imp pgs_nil fun ws σ H Q ⟨T, ρ, δ, ds, δ', hs, hd, hg, hq⟩ => by
  unfold nilG at hg
  split at hg
  · cases hg
    cases hd
    exact ⟨rfl, hq ρ σ H hs .refl .refl⟩
  · cases hg
theorem dgs_cons {vs ws : List Nat} {e : Expr} {es : List Expr} {g : GEV} {gs : GsEV} (h1 : DG X vs e g) (h2 : DGs X ws es gs) (h3 : (assignEach (e :: es) X.env).map (·.2) = assign e X.env :: (assignEach es X.env).map (·.2) := by rfl) : DGs X (vs ++ ws) (e :: es) (consG g gs) := pgs_imp (pgs_cons h1 h2 h3) fun us σ H Q ⟨T, ρ, δ, ds, δ', hs, hd, hg, hq⟩ => by
  unfold consG at hg
  split at hg
  · rename_i d ds
    cases e : g d δ with
    | none => rw [e] at hg; cases hg
    | some δ1 =>
      rw [e] at hg
      cases hd with
      | cons q1 q2 =>
        refine ⟨_, _, rfl, T, ρ, δ, d, δ1, hs, q1, e, fun ρ1 σ1 H1 s1 x1 o1 => ?_⟩
        exact ⟨T, ρ1, δ1, ds, δ', s1, dpAllM x1.same _ q2, hg, fun ρ2 σ2 H2 s2 x2 o2 => hq ρ2 σ2 H2 s2 (x1.trans x2) (o1.trans o2)⟩
  · cases hg
theorem dg_tup {vs : List Nat} {es : List Expr} {k : Nat} {gs : GsEV} {n : Nat} (hc : X.calm = true) (h : DGs X vs es gs) (hn : (assignEach es X.env).length = n := by rfl) (hst : (assignEach es X.env).findIdx? (·.1) = none := by rfl) : DG X vs (.Tuple es k pos) (tupG n gs) := pg_imp (pg_tup hc h hn hst) fun v σ H Q ⟨T, ρ, δ, x, δ', hs, hd, hg, hq⟩ => by
  unfold tupG at hg
  split at hg
  · rename_i ds
    split at hg
    · rename_i hl
      cases hd with
      | tup h1 h2 => exact ⟨_, _, rfl, SqT.of (hid_same _ _ h1), by rw [dpAll_len h2]; exact hl, T, ρ, δ, ds, δ', hs, h2, hg, hq⟩
    · cases hg
  · cases hg
end

/-! ### for -/
def forD (tg : GEV) (body : SEV) : List PyData → Ds → Option Out
  | [], δ => some (.nx δ)
  | x :: xs, δ => (tg x δ).bind fun δ1 => (body δ1).bind fun
    | .nx δ2 => forD tg body xs δ2
    | .ct δ2 => forD tg body xs δ2
    | .bk δ2 => some (.nx δ2)
    | .rt s δ2 => some (.rt s δ2)
def forS (fi : IEV) (tg : GEV) (body : SEV) : SEV := fun δ => (fi δ).bind fun x => forD tg body x.1 x.2
theorem serves_step {K : PySem.W.Frag} {T : List Addr} {ρ ρ1 : List (Option Addr)} {H H1 : Hp} {J : It} {xs : List PyData} (h : Serves K T ρ H J xs) (e : Same (hid T ρ H) (hid T ρ1 H1)) : Serves K T ρ1 H1 J xs := fun i T2 ρ2 H2 s t => h i T2 ρ2 H2 (e.trans s) t
section
variable {X : Cx} {P : List Nat} {pos : Pos}
theorem ds_for {tg iter : Expr} {body : List Stmt} {fi : IEV} {vs : List Nat} {g : GEV} {f : SEV} (hp : PassesOwn (model X.prog X.w) X.A X.env X.xe) (hc : X.calm = true) (hP : ∀ i ∈ P, i ∉ vs) (hi : DI X tg iter fi) (hg : DG X vs tg g) (hb : DSs X P body f)
    (hs : ∀ x, foldedSetIterable iter X.env x = pure x := by intro _; rfl) : DS X P (.For tg iter body [] pos) (forS fi g f) := ps_imp (ps_for hp hc hi hg hb hs) fun D σ H ⟨T, ρ, δ, o, hs, hf, hq⟩ => by
  unfold forS at hf
  cases ea : fi δ with
  | none => rw [ea] at hf; cases hf
  | some z =>
    obtain ⟨xs, δ0⟩ := z
    rw [ea] at hf
    simp only [Option.bind_some] at hf
    refine ⟨T, ρ, δ, xs, δ0, hs, ea, fun ρ0 H0 J s0 x0 sv => ?_⟩
    refine ⟨fun i m σ' H' => ∃ ρ' δ', i + m = xs.length ∧ Sim X.K T ρ' δ' σ' H' ∧ Ext T ρ H ρ' H' ∧ Keep P σ σ' ∧ Serves X.K T ρ' H' J xs ∧ forD g f (xs.drop i) δ' = some o, ⟨xs.length, ρ0, δ0, by omega, s0, x0, .refl, sv, hf⟩, ?_⟩
    rintro i m σ1 H1 ⟨ρ1, δ1, him, s1, x1, k1, sv1, hf1⟩
    by_cases hi : i < xs.length
    · have hd : xs.drop i = xs[i] :: xs.drop (i + 1) := by rw [List.drop_eq_getElem_cons hi]
      rw [hd] at hf1
      unfold forD at hf1
      cases eg : g xs[i] δ1 with
      | none => rw [eg] at hf1; cases hf1
      | some δ2 =>
        rw [eg] at hf1
        simp only [Option.bind_some] at hf1
        cases eb : f δ2 with
        | none => rw [eb] at hf1; cases hf1
        | some o2 =>
          rw [eb] at hf1
          simp only [Option.bind_some] at hf1
          obtain ⟨go, yl⟩ := (sv1 i T ρ1 H1 (Same.refl _) s1.trk).1 _ (List.getElem?_eq_getElem hi)
          refine .inr ⟨go, fun σ' H' => ∃ ρ' δ', Sim X.K T ρ' δ' σ' H' ∧ Ext T ρ H ρ' H' ∧ Keep P σ σ' ∧ Serves X.K T ρ' H' J xs ∧ forD g f (xs.drop (i + 1)) δ' = some o, ?_, fun x H2 hy => ?_⟩
          · rintro σ' H' ⟨ρ', δ', a, b, c, d, e⟩
            exact ⟨m - 1, by omega, ρ', δ', by omega, a, b, c, d, e⟩
          · obtain ⟨y1, y2⟩ := yl x H2 hy
            have e2 := s1.trk.extT y1
            refine ⟨T, ρ1, δ1, xs[i], δ2, s1.mono y1, y2, eg, fun ρ3 σ3 H3 s3 x3 o3 => ?_⟩
            have x3' : Ext T ρ H ρ3 H3 := x1.trans (e2.trans x3)
            have sv3 : Serves X.K T ρ3 H3 J xs := serves_step sv1 (e2.trans x3).same
            have k3 : Keep P σ σ3 := k1.trans fun j hj => o3.2 j (hP j hj)
            refine ⟨T, ρ3, δ2, o2, s3, eb, ?_⟩
            cases o2 with
            | nx δ3 => exact fun ρ4 σ4 H4 s4 x4 k4 => ⟨ρ4, δ3, s4, x3'.trans x4, k3.trans k4, serves_step sv3 x4.same, hf1⟩
            | ct δ3 => exact fun ρ4 σ4 H4 s4 x4 k4 => ⟨ρ4, δ3, s4, x3'.trans x4, k3.trans k4, serves_step sv3 x4.same, hf1⟩
            | bk δ3 =>
              cases hf1
              exact fun ρ4 σ4 H4 s4 x4 k4 => hq ρ4 σ4 H4 s4 (x3'.trans x4) (k3.trans k4)
            | rt s δ3 =>
              cases hf1
              exact postR_step x3' k3 hq
    · have hd : xs.drop i = [] := List.drop_eq_nil_of_le (by omega)
      rw [hd] at hf1
      cases hf1
      exact .inl ⟨(sv1 i T ρ1 H1 (Same.refl _) s1.trk).2 (by omega), hq ρ1 σ1 H1 s1 x1 k1⟩
end

/-! ### while -/
def whD (t : TEV) (body : SEV) : Nat → Ds → Option Out
  | 0, _ => none
  | n + 1, δ => (t δ).bind fun r => if r.1 then (body r.2).bind fun
      | .nx δ2 => whD t body n δ2
      | .ct δ2 => whD t body n δ2
      | .bk δ2 => some (.nx δ2)
      | .rt s δ2 => some (.rt s δ2)
    else some (.nx r.2)
section
variable {X : Cx} {P : List Nat} {pos : Pos}
end
end DL

namespace DL
open PySem PySem.Spec PyProof.Rows L2
variable [TB]

/-! ### comprehensions -/
def notOwn : Option S → Bool
  | some (.o _) => false
  | _ => true
def noOwn (vs : List Nat) (δ : Ds) : Bool := vs.all fun v => notOwn (slot δ v)
def wipeD (δ : Ds) : List Nat → Ds
  | [] => δ
  | v :: vs => (wipeD δ vs).set v none
def restD (δ0 δe : Ds) : List Nat → Ds
  | [] => δe
  | v :: vs => (restD δ0 δe vs).set v (slot δ0 v)
def lcD (vs : List Nat) (g : GEV) (tt : TEV) (te : EV) : List PyData → Ds → Option (List PyData × Ds)
  | [], δ => some ([], δ)
  | x :: xs, δ => (g x δ).bind fun δ1 => (tt δ1).bind fun b =>
    if b.1 then (te b.2).bind fun y => match frz y.1 with
      | .d d => if noOwn vs y.2 then (lcD vs g tt te xs (wipeD y.2 vs)).map fun r => (d :: r.1, r.2) else none
      | _ => none
    else if noOwn vs b.2 then lcD vs g tt te xs (wipeD b.2 vs) else none
def lcE (vs : List Nat) (fi : IEV) (g : GEV) (tt : TEV) (te : EV) : EV := fun δ => (fi δ).bind fun x =>
  if noOwn vs x.2 then (lcD vs g tt te x.1 (wipeD x.2 vs)).bind fun r => if r.1.length ≤ sizeLine then some (.o (.l r.1), restD x.2 r.2 vs) else none else none
def rm (H : Hp) (D : Addr) : Hp := fun b => if b = D then none else H b
section
variable {K : PySem.W.Frag} {T : List Addr} {ρ ρ1 : List (Option Addr)} {δ δ1 : Ds} {σ σ1 : L2.St} {H H1 : Hp} {D : Addr}
theorem rm_self : rm H D D = none := if_pos rfl
theorem rm_ne {b : Addr} (h : b ≠ D) : rm H D b = H b := if_neg h
theorem rm_upd {o : HO} (h : H D = some o) : upd (rm H D) D o = H := by
  funext b
  by_cases hb : b = D
  · subst hb
    rw [upd_same, h]
  · rw [upd_ne hb, rm_ne hb]
theorem hid_rm : hid T ρ (rm H D) = hid (D :: T) ρ H := by
  funext b
  unfold hid
  by_cases hb : b = D
  · subst hb
    rw [if_pos (c := b ∈ b :: T ∨ some b ∈ ρ) (.inl List.mem_cons_self)]
    split
    · rfl
    · exact rm_self
  · rw [rm_ne hb]
    by_cases hc : b ∈ T ∨ some b ∈ ρ
    · rw [if_pos hc, if_pos (hc.elim (fun z => .inl (List.mem_cons_of_mem _ z)) .inr)]
    · rw [if_neg hc, if_neg fun z => z.elim (fun z => (List.mem_cons.mp z).elim hb fun y => hc (.inl y)) fun y => hc (.inr y)]
theorem hid_new {o : HO} (h : H D = none) : hid (D :: T) ρ (upd H D o) = hid T ρ H := by
  rw [← hid_rm]
  congr 1
  funext b
  by_cases hb : b = D
  · subst hb
    rw [rm_self, h]
  · rw [rm_ne hb, upd_ne hb]
theorem notOwn_no {i : Nat} {c : C} (h : notOwn (slot δ i) = true) (e : δ[i]? = some (some (.o c))) : False := by
  unfold slot at h
  rw [e] at h
  cases h
/-- a slot is forgotten -/
theorem Sim.unset {i : Nat} {w : Option V} (h : Sim K T ρ δ σ H) (hn : notOwn (DL.slot δ i) = true) : Sim K T ρ (δ.set i none) (σ.set i w) H := by
  have sub : ∀ (j : Nat) (s : S), (δ.set i none)[j]? = some (some s) → i ≠ j ∧ δ[j]? = some (some s) := fun j s hj => by
    by_cases hij : i = j
    · subst hij
      by_cases hl : i < δ.length
      · rw [List.getElem?_set_self hl] at hj
        cases hj
      · rw [List.getElem?_eq_none (by rw [List.length_set]; omega)] at hj
        cases hj
    · rw [List.getElem?_set_ne hij] at hj
      exact ⟨hij, hj⟩
  refine ⟨by rw [List.length_set]; exact h.len, by rw [List.length_set, List.length_set]; exact h.slen, fun j s hj => ?_, fun j c hj => ?_, fun j a hj => ?_, h.inj, h.nt, h.tmp, h.tabT, h.tabs⟩
  · obtain ⟨h1, h2⟩ := sub j s hj
    rw [List.getElem?_set_ne h1]
    exact h.slot j s h2
  · obtain ⟨h1, h2⟩ := sub j _ hj
    rw [List.getElem?_set_ne h1]
    exact h.own j c h2
  · obtain ⟨c, hc⟩ := h.own' j a hj
    have hij : i ≠ j := fun z => by
      subst z
      exact notOwn_no hn hc
    exact ⟨c, by rw [List.getElem?_set_ne hij]; exact hc⟩
theorem slot_set_ne {i j : Nat} {x : Option S} (h : i ≠ j) : slot (δ.set i x) j = slot δ j := by
  unfold slot
  rw [List.getElem?_set_ne h]
theorem notOwn_wipe {i : Nat} (h : notOwn (slot δ i) = true) : ∀ vs : List Nat, notOwn (slot (wipeD δ vs) i) = true
  | [] => h
  | v :: vs => by
    unfold wipeD
    by_cases hv : v = i
    · subst hv
      unfold slot
      by_cases hl : v < (wipeD δ vs).length
      · rw [List.getElem?_set_self hl]
        rfl
      · rw [List.getElem?_eq_none (by rw [List.length_set]; omega)]
        rfl
    · rw [slot_set_ne hv]
      exact notOwn_wipe h vs
theorem Sim.wipe (h : Sim K T ρ δ σ H) : ∀ {vs : List Nat}, noOwn vs δ = true → Sim K T ρ (wipeD δ vs) (L2.wipe σ vs) H
  | [], _ => h
  | v :: vs, hn => by
    unfold noOwn at hn
    rw [List.all_cons, Bool.and_eq_true] at hn
    exact (Sim.wipe h hn.2).unset (notOwn_wipe hn.1 vs)
theorem wipe_ne {j : Nat} : ∀ {vs : List Nat}, j ∉ vs → (L2.wipe σ vs)[j]? = σ[j]?
  | [], _ => rfl
  | v :: vs, h => by
    unfold L2.wipe
    rw [List.getElem?_set_ne (fun z => h (by rw [z]; exact List.mem_cons_self))]
    exact wipe_ne fun z => h (List.mem_cons_of_mem _ z)
theorem wipe_in {j : Nat} : ∀ {vs : List Nat}, j ∈ vs → j < σ.length → (L2.wipe σ vs)[j]? = some none
  | v :: vs, h, hl => by
    unfold L2.wipe
    by_cases hv : v = j
    · subst hv
      rw [List.getElem?_set_self (by rw [wipe_length]; exact hl)]
    · rw [List.getElem?_set_ne hv]
      exact wipe_in ((List.mem_cons.mp h).resolve_left fun z => hv z.symm) hl
theorem wipe_only {vs ws : List Nat} (h : Only ws σ σ1) (hw : ∀ j ∈ ws, j ∈ vs) : L2.wipe σ1 vs = L2.wipe σ vs := by
  apply List.ext_getElem?
  intro j
  by_cases hj : j ∈ vs
  · by_cases hl : j < σ.length
    · rw [wipe_in hj hl, wipe_in hj (by rw [h.1]; exact hl)]
    · rw [List.getElem?_eq_none (by rw [wipe_length, h.1]; omega), List.getElem?_eq_none (by rw [wipe_length]; omega)]
  · rw [wipe_ne hj, wipe_ne hj, h.2 j fun z => hj (hw j z)]
theorem wipe_idem {vs : List Nat} : L2.wipe (L2.wipe σ vs) vs = L2.wipe σ vs := by
  apply List.ext_getElem?
  intro j
  by_cases hj : j ∈ vs
  · by_cases hl : j < σ.length
    · rw [wipe_in hj hl, wipe_in hj (by rw [wipe_length]; exact hl)]
    · rw [List.getElem?_eq_none (by rw [wipe_length, wipe_length]; omega), List.getElem?_eq_none (by rw [wipe_length]; omega)]
  · rw [wipe_ne hj]
theorem restD_len {δ0 δe : Ds} : ∀ vs : List Nat, (restD δ0 δe vs).length = δe.length
  | [] => rfl
  | v :: vs => by unfold restD; rw [List.length_set, restD_len vs]
theorem restD_ne {δ0 δe : Ds} {j : Nat} : ∀ {vs : List Nat}, j ∉ vs → (restD δ0 δe vs)[j]? = δe[j]?
  | [], _ => rfl
  | v :: vs, h => by
    unfold restD
    rw [List.getElem?_set_ne (fun z => h (by rw [z]; exact List.mem_cons_self))]
    exact restD_ne fun z => h (List.mem_cons_of_mem _ z)
theorem restD_in {δ0 δe : Ds} {j : Nat} : ∀ {vs : List Nat}, j ∈ vs → j < δe.length → (restD δ0 δe vs)[j]? = some (slot δ0 j)
  | v :: vs, h, hl => by
    unfold restD
    by_cases hv : v = j
    · subst hv
      rw [List.getElem?_set_self (by rw [restD_len]; exact hl)]
    · rw [List.getElem?_set_ne hv]
      exact restD_in ((List.mem_cons.mp h).resolve_left fun z => hv z.symm) hl
theorem noOwn_mem {vs : List Nat} {j : Nat} (h : noOwn vs δ = true) (hj : j ∈ vs) : notOwn (slot δ j) = true := List.all_eq_true.mp h j hj
theorem Sim.addTmp {o : HO} (h : Sim K T ρ δ σ H) (hD : H D = none) (hn : NT o := by trivial) : Sim K (D :: T) ρ δ σ (upd H D o) := by
  have hh : hid (D :: T) ρ (upd H D o) = hid T ρ H := hid_new hD
  obtain ⟨nT, nρ⟩ := h.trk.fresh hD
  refine ⟨h.len, h.slen, fun j s hj => ?_, h.own, h.own', h.inj, fun j a hj hm => ?_, fun a ha => ?_, fun p hp => List.mem_cons_of_mem _ (h.tabT p hp), tabs_upd h.tabs fun x e => by rw [hD] at e; cases e⟩
  · obtain ⟨v, e1, e2⟩ := h.slot j s hj
    refine ⟨v, e1, ?_⟩
    cases s with
    | o c =>
      obtain ⟨a, x, z1, z2, z3⟩ := e2
      exact ⟨a, x, z1, by rw [upd_ne (ne_of_none z2 hD)]; exact z2, by rw [hh]; exact z3⟩
    | d x => exact (show SV K (hid (D :: T) ρ (upd H D o)) v (.d x) by rw [hh]; exact e2)
    | t x => exact (show SV K (hid (D :: T) ρ (upd H D o)) v (.t x) by rw [hh]; exact e2)
    | z x => exact (show SV K (hid (D :: T) ρ (upd H D o)) v (.z x) by rw [hh]; exact e2)
    | p x => exact (show SV K (hid (D :: T) ρ (upd H D o)) v (.p x) by rw [hh]; exact e2)
  · rcases List.mem_cons.mp hm with e | hm
    · subst e
      exact nρ (ix_mem hj)
    · exact h.nt j a hj hm
  · rcases List.mem_cons.mp ha with e | ha
    · subst e
      exact ⟨o, upd_same, hn⟩
    · obtain ⟨x, hx, hy⟩ := h.tmp a ha
      exact ⟨x, by rw [upd_ne (ne_of_none hx hD)]; exact hx, hy⟩
theorem hid_tmp {o : HO} (hT : D ∈ T) : hid T ρ (upd H D o) = hid T ρ H := by
  funext b
  unfold hid
  by_cases hb : b = D
  · subst hb
    rw [if_pos (.inl hT), if_pos (.inl hT)]
  · rw [upd_ne hb]
/-- what is being made is written -/
theorem Sim.tmpW {o : HO} (h : Sim K T ρ δ σ H) (hT : D ∈ T) (hb : ∀ x, H D = some x → (∀ ps, x ≠ .tbl ps) ∧ NT x) (hn : NT o := by trivial) : Sim K T ρ δ σ (upd H D o) := by
  have hh : hid T ρ (upd H D o) = hid T ρ H := hid_tmp hT
  refine ⟨h.len, h.slen, fun j s hj => ?_, h.own, h.own', h.inj, h.nt, fun a ha => ?_, h.tabT, tabs_upd h.tabs hb⟩
  · obtain ⟨v, e1, e2⟩ := h.slot j s hj
    refine ⟨v, e1, ?_⟩
    cases s with
    | o c =>
      obtain ⟨b, f1, f2⟩ := h.own j c hj
      obtain ⟨a, x, z1, z2, z3⟩ := e2
      subst z1
      rw [e1] at f2
      cases f2
      have ne : b ≠ D := fun z => by
        subst z
        exact h.nt j b f1 hT
      exact ⟨b, x, rfl, by rw [upd_ne ne]; exact z2, by rw [hh]; exact z3⟩
    | d x => exact (show SV K (hid T ρ (upd H D o)) v (.d x) by rw [hh]; exact e2)
    | t x => exact (show SV K (hid T ρ (upd H D o)) v (.t x) by rw [hh]; exact e2)
    | z x => exact (show SV K (hid T ρ (upd H D o)) v (.z x) by rw [hh]; exact e2)
    | p x => exact (show SV K (hid T ρ (upd H D o)) v (.p x) by rw [hh]; exact e2)
  · by_cases hb : a = D
    · exact ⟨o, by rw [hb, upd_same], hn⟩
    · obtain ⟨x, hx, hy⟩ := h.tmp a ha
      exact ⟨x, by rw [upd_ne hb]; exact hx, hy⟩
theorem tabs_rm {T : List (Addr × Str)} {H : Hp} {D : Addr} (h : LamX.Tabs T H) (n : ∀ x, H D = some x → (∀ ps, x ≠ .tbl ps) ∧ NT x) : LamX.Tabs T (rm H D) := fun p hp => by
  obtain ⟨ps, h1, h2, h3⟩ := h p hp
  refine ⟨ps, by rw [rm_ne (fun z => (n _ (by rw [← z]; exact h1)).1 ps rfl)]; exact h1, h2, fun pos cv hc => ?_⟩
  obtain ⟨c, e1, e2⟩ := h3 pos cv hc
  exact ⟨c, e1, by rw [rm_ne (fun z => nt_code _ _ (n (LamX.CodeO c p.2) (by rw [← z]; exact e2)).2)]; exact e2⟩
end
section
variable {X : Cx}
theorem lc_ok {K : PySem.W.Frag} {vs ws : List Nat} {fi : IEV} {g : GEV} {tt : TEV} {te : EV} (hw : ∀ j ∈ ws, j ∈ vs) (σ : L2.St) (H : Hp) (Q : VK) (h : lift K (lcE vs fi g tt te) σ H Q) : tLc (liftI K fi) (liftG K ws g) (liftT K tt) (lift K te) vs σ H Q := by
  obtain ⟨T, ρ, δ, s, δ', hs, hf, hq⟩ := h
  unfold lcE at hf
  cases ea : fi δ with
  | none => rw [ea] at hf; cases hf
  | some z =>
    obtain ⟨xs, δ1⟩ := z
    rw [ea] at hf
    simp only [Option.bind_some] at hf
    split at hf
    case isFalse => cases hf
    rename_i hno
    cases el : lcD vs g tt te xs (wipeD δ1 vs) with
    | none => rw [el] at hf; cases hf
    | some r =>
      obtain ⟨out, δe⟩ := r
      rw [el] at hf
      simp only [Option.bind_some] at hf
      split at hf
      case isFalse => cases hf
      rename_i hsz
      cases hf
      refine ⟨T, ρ, δ, xs, δ1, hs, ea, fun ρ1 H1 J s1 x1 sv => ?_⟩
      intro D hD
      refine ⟨fun i m H' => ∃ ρ' δ2 acc dn rs, i + m = xs.length ∧ Sim K (D :: T) ρ' δ2 (L2.wipe σ vs) H' ∧ Same (hid T ρ1 H1) (hid (D :: T) ρ' H') ∧ (∀ a, a ∈ T → Kp (H1 a) (H' a)) ∧ H' D = some (.lst acc) ∧ DqAll K (hid (D :: T) ρ' H') acc dn ∧
        lcD vs g tt te (xs.drop i) δ2 = some (rs, δe) ∧ dn ++ rs = out, ⟨xs.length, ρ1, wipeD δ1 vs, [], [], out, by omega, (s1.wipe hno).addTmp hD, ?_, ?_, upd_same, .nil, el, rfl⟩, ?_⟩
      · rw [hid_new hD]
        exact Same.refl _
      · intro a ha
        obtain ⟨o, ho, _⟩ := s1.tmp a ha
        rw [upd_ne (ne_of_none ho hD)]
        exact .refl
      rintro i m H2 ⟨ρ2, δ2, acc, dn, rs, him, s2, sm, tm, hacc, hdn, hl, hout⟩
      have alen : acc.length = dn.length := dpAll_len hdn
      by_cases hi : i < xs.length
      · have hd : xs.drop i = xs[i] :: xs.drop (i + 1) := by rw [List.drop_eq_getElem_cons hi]
        rw [hd] at hl
        unfold lcD at hl
        cases eg : g xs[i] δ2 with
        | none => rw [eg] at hl; cases hl
        | some δ3 =>
          rw [eg] at hl
          simp only [Option.bind_some] at hl
          cases et : tt δ3 with
          | none => rw [et] at hl; cases hl
          | some b =>
            obtain ⟨b, δ4⟩ := b
            rw [et] at hl
            simp only [Option.bind_some] at hl
            obtain ⟨go, yl⟩ := (sv i (D :: T) ρ2 H2 sm s2.trk).1 _ (List.getElem?_eq_getElem hi)
            refine .inr ⟨go, fun H' => ∃ ρ' δ2 acc dn rs, Sim K (D :: T) ρ' δ2 (L2.wipe σ vs) H' ∧ Same (hid T ρ1 H1) (hid (D :: T) ρ' H') ∧ (∀ a, a ∈ T → Kp (H1 a) (H' a)) ∧ H' D = some (.lst acc) ∧ DqAll K (hid (D :: T) ρ' H') acc dn ∧
              lcD vs g tt te (xs.drop (i + 1)) δ2 = some (rs, δe) ∧ dn ++ rs = out, ?_, fun x H3 hy => ?_⟩
            · rintro H' ⟨ρ', δ5, acc', dn', rs', q1, q2, q3, q4, q5, q6, q7⟩
              exact ⟨m - 1, by omega, ρ', δ5, acc', dn', rs', by omega, q1, q2, q3, q4, q5, q6, q7⟩
            obtain ⟨y1, y2⟩ := yl x H3 hy
            have e2 := s2.trk.extT y1
            refine ⟨D :: T, ρ2, δ2, xs[i], δ3, s2.mono y1, y2, eg, fun ρ4 σ4 H4 s4 x4 o4 => ?_⟩
            have hwp : L2.wipe σ4 vs = L2.wipe σ vs := by rw [wipe_only o4 hw, wipe_idem]
            refine ⟨hwp, D :: T, ρ4, δ3, b, δ4, s4, et, fun ρ5 H5 s5 x5 => ?_⟩
            have xx : Ext (D :: T) ρ2 H2 ρ5 H5 := e2.trans (x4.trans x5)
            -- a turn's end
            have fin : ∀ (ρ6 : List (Option Addr)) (δ6 : Ds) (H6 : Hp), Sim K (D :: T) ρ6 δ6 σ4 H6 → Ext (D :: T) ρ2 H2 ρ6 H6 → noOwn vs δ6 = true →
                Sim K (D :: T) ρ6 (wipeD δ6 vs) (L2.wipe σ vs) H6 ∧ Same (hid T ρ1 H1) (hid (D :: T) ρ6 H6) ∧ (∀ a, a ∈ T → Kp (H1 a) (H6 a)) ∧ H6 D = some (.lst acc) ∧ DqAll K (hid (D :: T) ρ6 H6) acc dn := by
              intro ρ6 δ6 H6 s6 x6 n6
              have q := s6.wipe n6
              rw [hwp] at q
              exact ⟨q, sm.trans x6.same, fun a ha => (tm a ha).trans (x6.tmp a (List.mem_cons_of_mem _ ha)), x6.at List.mem_cons_self hacc, dpAllM x6.same _ hdn⟩
            cases b with
            | false =>
              refine L2.iteF ?_
              rw [if_neg Bool.false_ne_true] at hl
              split at hl
              case isFalse => cases hl
              rename_i n5
              obtain ⟨q1, q2, q3, q4, q5⟩ := fin ρ5 δ4 H5 s5 xx n5
              exact ⟨ρ5, _, acc, dn, rs, q1, q2, q3, q4, q5, hl, hout⟩
            | true =>
              refine L2.iteT ?_
              rw [if_pos rfl] at hl
              cases ey : te δ4 with
              | none => rw [ey] at hl; cases hl
              | some y =>
                obtain ⟨u, δ6⟩ := y
                rw [ey] at hl
                simp only [Option.bind_some] at hl
                split at hl
                case h_2 => cases hl
                rename_i d hd'
                split at hl
                case isFalse => cases hl
                rename_i n6
                cases er : lcD vs g tt te (xs.drop (i + 1)) (wipeD δ6 vs) with
                | none => rw [er] at hl; cases hl
                | some r =>
                  obtain ⟨rs', δz⟩ := r
                  rw [er] at hl
                  cases hl
                  have hlen : acc.length < sizeLine := by
                    rw [alen]
                    have : dn.length + (rs'.length + 1) ≤ sizeLine := by
                      have := hsz
                      rw [← hout, List.length_append, List.length_cons] at this
                      exact this
                    omega
                  -- the element
                  have each : ∀ (ρ7 : List (Option Addr)) (v : V) (H7 : Hp), Sim K (D :: T) ρ7 δ6 σ4 H7 → Ext (D :: T) ρ5 H5 ρ7 H7 → Dq K (hid (D :: T) ρ7 H7) v d →
                      ∃ acc, H7 D = some (.lst acc) ∧ acc.length < sizeLine ∧ (∃ ρ' δ2 acc' dn rs, Sim K (D :: T) ρ' δ2 (L2.wipe σ vs) (upd H7 D (.lst (acc ++ [v]))) ∧ Same (hid T ρ1 H1) (hid (D :: T) ρ' (upd H7 D (.lst (acc ++ [v])))) ∧ (∀ a, a ∈ T → Kp (H1 a) ((upd H7 D (.lst (acc ++ [v]))) a)) ∧ (upd H7 D (.lst (acc ++ [v]))) D = some (.lst acc') ∧ DqAll K (hid (D :: T) ρ' (upd H7 D (.lst (acc ++ [v])))) acc' dn ∧
                        lcD vs g tt te (xs.drop (i + 1)) δ2 = some (rs, δz) ∧ dn ++ rs = out) := by
                    intro ρ7 v H7 s7 x7 hv
                    obtain ⟨q1, q2, q3, q4, q5⟩ := fin ρ7 δ6 H7 s7 (xx.trans x7) n6
                    refine ⟨acc, q4, hlen, ρ7, _, acc ++ [v], dn ++ [d], rs', q1.tmpW List.mem_cons_self (nb_of q4), ?_, ?_, upd_same, ?_, er, by rw [List.append_assoc]; exact hout⟩
                    · rw [hid_tmp List.mem_cons_self]
                      exact q2
                    · intro a ha
                      have ne : a ≠ D := fun z => by
                        subst z
                        exact (s1.trk.fresh hD).1 ha
                      rw [upd_ne ne]
                      exact q3 a ha
                    · rw [hid_tmp List.mem_cons_self]
                      exact dpAll_app q5 (.cons hv .nil)
                  refine ⟨D :: T, ρ5, δ4, u, δ6, s5, ey, ?_⟩
                  cases u with
                  | o c =>
                    intro ρ7 p H7 o s7 x7 hp hc
                    have hn := frz_new s7.trk hp hc
                    rw [hd'] at hn
                    exact each ρ7 (.ref p) _ (s7.mono (same_new hp)) (x7.trans (s7.trk.extT (same_new hp))) hn
                  | d c =>
                    cases hd'
                    exact fun ρ7 v H7 s7 x7 hv => each ρ7 v H7 s7 x7 hv
                  | t c => cases hd'
                  | z c => cases hd'
                  | p c => cases hd'
      · have hd : xs.drop i = [] := List.drop_eq_nil_of_le (by omega)
        rw [hd] at hl
        cases hl
        rw [List.append_nil] at hout
        subst hout
        refine .inl ⟨(sv i (D :: T) ρ2 H2 sm s2.trk).2 (by omega), ?_⟩
        have hh : hid T ρ2 (rm H2 D) = hid (D :: T) ρ2 H2 := hid_rm
        rw [← rm_upd hacc]
        refine hq ρ2 D (rm H2 D) (.lst acc) ?_ (x1.trans ⟨by rw [hh]; exact sm, fun a ha => ?_, fun _ => tabs_rm s2.tabs (nb_of hacc)⟩) rm_self ⟨acc, rfl, by rw [hh]; exact hdn⟩
        · have lenE : δe.length = σ.length := by
            have := s2.slen
            rw [wipe_length] at this
            exact this.symm
          refine ⟨by rw [restD_len]; exact s2.len, by rw [restD_len]; exact lenE.symm, fun j u hj => ?_, fun j c hj => ?_, fun j a hj => ?_, s2.inj, fun j a hj hm => s2.nt j a hj (List.mem_cons_of_mem _ hm), fun a ha => ?_, s1.tabT, tabs_rm s2.tabs (nb_of hacc)⟩
          · by_cases hjv : j ∈ vs
            · have hjl : j < δe.length := by
                have := (List.getElem?_eq_some_iff.mp hj).1
                rw [restD_len] at this
                exact this
              rw [restD_in hjv hjl] at hj
              have hj' := slot_some (Option.some.inj hj)
              obtain ⟨v, e1, e2⟩ := s1.slot j u hj'
              refine ⟨v, e1, ?_⟩
              cases u with
              | o c => exact (notOwn_no (noOwn_mem hno hjv) hj').elim
              | d x => exact (show SV K (hid T ρ2 (rm H2 D)) v (.d x) by rw [hh]; exact svM (s := .d x) sm e2)
              | t x => exact (show SV K (hid T ρ2 (rm H2 D)) v (.t x) by rw [hh]; exact svM (s := .t x) sm e2)
              | z x => exact (show SV K (hid T ρ2 (rm H2 D)) v (.z x) by rw [hh]; exact svM (s := .z x) sm e2)
              | p x => exact (show SV K (hid T ρ2 (rm H2 D)) v (.p x) by rw [hh]; exact svM (s := .p x) sm e2)
            · rw [restD_ne hjv] at hj
              obtain ⟨v, e1, e2⟩ := s2.slot j u hj
              rw [wipe_ne hjv] at e1
              refine ⟨v, e1, ?_⟩
              cases u with
              | o c =>
                obtain ⟨b, f1, f2⟩ := s2.own j c hj
                rw [wipe_ne hjv, e1] at f2
                cases f2
                obtain ⟨a, x, z1, z2, z3⟩ := e2
                cases z1
                have ne : b ≠ D := fun z => by
                  subst z
                  exact s2.nt j b f1 List.mem_cons_self
                exact ⟨b, x, rfl, by rw [rm_ne ne]; exact z2, by rw [hh]; exact z3⟩
              | d x => exact (show SV K (hid T ρ2 (rm H2 D)) v (.d x) by rw [hh]; exact e2)
              | t x => exact (show SV K (hid T ρ2 (rm H2 D)) v (.t x) by rw [hh]; exact e2)
              | z x => exact (show SV K (hid T ρ2 (rm H2 D)) v (.z x) by rw [hh]; exact e2)
              | p x => exact (show SV K (hid T ρ2 (rm H2 D)) v (.p x) by rw [hh]; exact e2)
          · by_cases hjv : j ∈ vs
            · have hjl : j < δe.length := by
                have := (List.getElem?_eq_some_iff.mp hj).1
                rw [restD_len] at this
                exact this
              rw [restD_in hjv hjl] at hj
              exact (notOwn_no (noOwn_mem hno hjv) (slot_some (Option.some.inj hj))).elim
            · rw [restD_ne hjv] at hj
              obtain ⟨a, f1, f2⟩ := s2.own j c hj
              rw [wipe_ne hjv] at f2
              exact ⟨a, f1, f2⟩
          · obtain ⟨c, hc⟩ := s2.own' j a hj
            by_cases hjv : j ∈ vs
            · obtain ⟨b, f1, f2⟩ := s2.own j c hc
              have hjl : j < σ.length := by
                have := (List.getElem?_eq_some_iff.mp hc).1
                omega
              rw [wipe_in hjv hjl] at f2
              cases f2
            · exact ⟨c, by rw [restD_ne hjv]; exact hc⟩
          · have ne : a ≠ D := fun z => by
              subst z
              exact (s1.trk.fresh hD).1 ha
            rw [rm_ne ne]
            exact (tm a ha).nt (s1.tmp a ha)
        · have ne : a ≠ D := fun z => by
            subst z
            exact (s1.trk.fresh hD).1 ha
          rw [rm_ne ne]
          exact tm a ha
def yesT : TEV := fun δ => some (true, δ)
abbrev DTs (X : Cx) (ifs : List Expr) (f : TEV) : Prop := PTs X ifs (liftT X.K f)
theorem dts_nil : DTs X [] yesT := ⟨fun pins s σ H Q I ⟨T, ρ, δ, b, δ', hs, hf, hq⟩ => by
  cases hf
  exact pts_nil.run pins s σ H Q I (hq ρ H hs .refl)⟩
theorem dts_one {c : Expr} {f : TEV} (h : DT X c f) : DTs X [c] f := pts_one h
theorem de_lc {elt tg iter : Expr} {ifs : List Expr} {scope : Scope} {own : List (Str × Nat)} {pos : Pos} {ws : List Nat} {fi : IEV} {g : GEV} {tt : TEV} {te : EV} (hc : X.calm = true) (hN : X.N.Nodup) (hi : DI X tg iter fi) (ok : BlkOk X.N X.env.scope scope own) (hw : ∀ j ∈ ws, j ∈ own.map (·.2))
    (hg : ∀ (s : Shared) (H : Hp) (C : Addr) (cl : List (Str × Addr)) (fp : List Addr), DG (X.blk s H scope (compEnvC scope cl C X.env) fp) ws tg g)
    (ht : ∀ (s : Shared) (H : Hp) (C : Addr) (cl : List (Str × Addr)) (fp : List Addr), DTs (X.blk s H scope (compEnvC scope cl C X.env) fp) ifs tt)
    (he : ∀ (s : Shared) (H : Hp) (C : Addr) (cl : List (Str × Addr)) (fp : List Addr), DE (X.blk s H scope (compEnvC scope cl C X.env) fp) elt te) (hs : ∀ x, foldedSetIterable iter X.env x = pure x := by intro _; rfl) :
    DE X (.ListComp elt [⟨tg, iter, ifs, 0⟩] scope pos) (lcE (own.map (·.2)) fi g tt te) := pe_imp (pe_lc hc hN hi ok hg ht he hs) (lc_ok hw)
theorem ds_setLc {P : List Nat} {i : Nat} {y : Str} {py : Pos} {elt tg iter : Expr} {ifs : List Expr} {scope : Scope} {own : List (Str × Nat)} {pos spos : Pos} {ws : List Nat} {fi : IEV} {g : GEV} {tt : TEV} {te : EV} (hc : X.calm = true) (hN : X.N.Nodup) (hy : X.N[i]? = some y) (hyl : X.env.scope.names.lookup y = some .local) (hP : i ∉ P)
    (hsw : swapsWith (.ListComp elt [⟨tg, iter, ifs, 0⟩] scope pos) (some (.Name y py)) spos.line X.env = pure true) (hi : DI X tg iter fi) (ok : BlkOk X.N X.env.scope scope own) (hw : ∀ j ∈ ws, j ∈ own.map (·.2))
    (hg : ∀ (s : Shared) (H : Hp) (C : Addr) (cl : List (Str × Addr)) (fp : List Addr), DG (X.blk s H scope (compEnvC scope cl C X.env) fp) ws tg g)
    (ht : ∀ (s : Shared) (H : Hp) (C : Addr) (cl : List (Str × Addr)) (fp : List Addr), DTs (X.blk s H scope (compEnvC scope cl C X.env) fp) ifs tt)
    (he : ∀ (s : Shared) (H : Hp) (C : Addr) (cl : List (Str × Addr)) (fp : List Addr), DE (X.blk s H scope (compEnvC scope cl C X.env) fp) elt te) (hs : ∀ x, foldedSetIterable iter X.env x = pure x := by intro _; rfl) :
    DS X P (.Assign [.Name y py] (.ListComp elt [⟨tg, iter, ifs, 0⟩] scope pos) spos) (setS i (lcE (own.map (·.2)) fi g tt te)) := ps_imp (ps_setLc hc hN hy hyl hsw hi ok hg ht he hs) fun D σ H ⟨T, ρ, δ, o, hs, hf, hq⟩ => lc_ok hw σ H _ (set_ok hP ⟨T, ρ, δ, o, hs, hf, hq⟩)
end
end DL

namespace DL
open PySem PySem.Spec PyProof.Rows L2
variable [TB]

/-! ### the law's end -/
section
variable {P : Program} {w : World} {K : PySem.W.Frag} {mg mb : Str → Option Value} {k : Nat} {fa a : Addr} {fd : FuncData} {x : Str} {sp : Sp} {s₁ : Shared} {vs : List Value} {ns : List Int}
theorem end_core (H : Hp) (KX : K.In s₁.heap) (hns : s₁.heap.Ns mainGlobals mg) (hb : s₁.heap.Ns builtinsNs mb) (hbb : ∀ x : Str, x ≠ "__name__" → mb x = bootBuiltins x) (hlim : s₁.heap.NoLimit) (hg : s₁.gens = #[])
    (ha : s₁.heap.get? a = some { cls := .type "list", data := .seq vs.toArray }) (hr : Room k callerA)
    (F : ∀ base : Heap, K.In base → base.Ns mainGlobals mg → FnG P w K mg base k fa fd [x] sp) (hbind : ∀ (s : Shared) (u : Value), BindsTo s fd ⟨[u], []⟩ [(x, u)])
    (hO : L2.Only H) (hS : sp [.ref a] H (fun v _ => v = .bl true) fun _ _ _ => False) (hok : HOk P w H s₁.heap) (hA : ∀ b, H b ≠ none → b = a) (hK : H a ≠ none → K.lookup a = none) :
    codeAny (model P w) callerA (.call (.ref fa) ⟨[.ref a], []⟩) (fun r s' => r = .ok (.ret (.bool true)) ∧ OldK s₁.heap s'.heap ∧ s'.os = s₁.os ∧ AllBare s'.gens) s₁ := by
  have isA : ∀ {b : Addr} {u : HO}, H b = some u → b = a := fun {b u} q => hA b (by
    rw [q]
    exact Option.some_ne_none u)
  have dic : ∀ {b : Addr} {o : Obj} {es : Array DictEntry} {ep : Nat}, s₁.heap.get? b = some o → o.data = .dict es ep → H b = none := by
    intro b o es ep e d
    cases q : H b with
    | none => rfl
    | some u =>
      have e2 := isA q
      subst e2
      rw [ha] at e
      cases e
      cases (show Data.seq vs.toArray _ = Data.dict es ep from d)
  have nsK : ∀ {b : Addr} {m : Str → Option Value}, s₁.heap.Ns b m → (hidT s₁.heap H).Ns b m := by
    rintro b m ⟨o, es, ep, e, d, r⟩
    exact ⟨o, es, ep, hidT_get e (dic e d), d, r⟩
  have hKb : K.In (hidT s₁.heap H) := by
    intro b o e
    refine hidT_get (KX b o e) ?_
    cases q : H b with
    | none => rfl
    | some u =>
      have e2 := isA q
      subst e2
      rw [hK (by rw [q]; exact Option.some_ne_none u)] at e
      cases e
  obtain ⟨mc, l1, l2⟩ := hlim
  have hM : Mod K mg (hidT s₁.heap H) := ⟨hKb, nsK hns, ⟨mb, nsK hb, hbb⟩, mc, nsK l1, l2⟩
  have none0 : ∀ (b : Addr), b ∉ ([] : List Addr) := fun b => by simp
  have e0 : Env0 P w K mg (hidT s₁.heap H) callerA [] s₁ H :=
    ⟨rfl, hM, fun b o e => of_hidT e, Nat.le_of_eq (hidT_size _ _), trivial,
      fun b z => (none0 b z).elim, hok, .of_eq hg⟩
  have R := (F _ hKb (nsK hns)).run callerA [] s₁ H ⟨[.ref a], []⟩ [.ref a] [.ref a] _ _ rfl hr e0
    (hbind s₁ (.ref a)) (.cons rfl .nil) hS
  refine codeAny_mono R ?_
  intro r s' h
  cases r with
  | error e => exact h.elim
  | ok fl =>
    cases fl with
    | next => exact h.elim
    | brk => exact h.elim
    | cont => exact h.elim
    | ret u =>
      obtain ⟨v, H', os, bare, un, hok', rv, q⟩ := h
      cases (show v = .bl true from q)
      cases (show u = Value.bool true from rv)
      refine ⟨rfl, OldK.of_keep ?_, os, bare⟩
      intro b o e
      cases q : H b with
      | none => exact un.keep b o e q (fun z => none0 b z) (none0 b)
      | some u =>
        rcases hO b with z | ⟨ob, xs, z⟩
        · rw [q] at z
          cases z
        · have e1 := (hok b _ z).1
          have e2 := (hok' b _ (un.frzs b ob _ z)).1
          rw [e] at e1
          cases e1
          exact e2
theorem end_call (KX : K.In s₁.heap) (hns : s₁.heap.Ns mainGlobals mg) (hb : s₁.heap.Ns builtinsNs mb) (hbb : ∀ x : Str, x ≠ "__name__" → mb x = bootBuiltins x) (hlim : s₁.heap.NoLimit) (hg : s₁.gens = #[])
    (ha : s₁.heap.get? a = some { cls := .type "list", data := .seq vs.toArray }) (hi : IntsAre vs ns) (hl : ns.length ≤ sizeLine) (hr : Room k callerA)
    (F : ∀ base : Heap, K.In base → base.Ns mainGlobals mg → FnG P w K mg base k fa fd [x] sp) (hbind : ∀ (s : Shared) (u : Value), BindsTo s fd ⟨[u], []⟩ [(x, u)])
    (hsp : ∀ H : Hp, L2.Only H → SqL K H a (ns.map V.int) → sp [.ref a] H (fun v _ => v = .bl true) fun _ _ _ => False) :
    codeAny (model P w) callerA (.call (.ref fa) ⟨[.ref a], []⟩) (fun r s' => r = .ok (.ret (.bool true)) ∧ OldK s₁.heap s'.heap ∧ s'.os = s₁.os ∧ AllBare s'.gens) s₁ := by
  have rv := vals_ints hi
  have lenV := hi.length
  cases hk : K.lookup a with
  | some o =>
    have e := KX a o hk
    rw [ha] at e
    cases e
    have hO : L2.Only fun _ => none := fun _ => .inl rfl
    have hS : SqL K (fun _ => none) a (ns.map V.int) := .inr ⟨_, vs.toArray, _, hk, rfl, rfl, rfl, by rw [List.size_toArray, lenV]; exact hl, by simpa using rv⟩
    refine end_core (fun _ => none) KX hns hb hbb hlim hg ha hr F hbind hO (hsp _ hO hS) ?_ (fun b z => absurd rfl z) (fun z => absurd rfl z)
    intro b u z
    cases (show (none : Option HO) = some u from z)
  | none =>
    have at1 : ∀ b, b = a → (fun b => if b = a then some (HO.frz { cls := .type "list", data := .seq vs.toArray } (.lst (ns.map V.int))) else none) b = some (HO.frz { cls := .type "list", data := .seq vs.toArray } (.lst (ns.map V.int))) := fun b e => if_pos e
    have at0 : ∀ b, b ≠ a → (fun b => if b = a then some (HO.frz { cls := .type "list", data := .seq vs.toArray } (.lst (ns.map V.int))) else none) b = none := fun b e => if_neg e
    generalize hH : (fun b => if b = a then some (HO.frz { cls := .type "list", data := .seq vs.toArray } (.lst (ns.map V.int))) else none : Hp) = H at at1 at0
    have hO : L2.Only H := fun b => by
      by_cases e : b = a
      · exact .inr ⟨_, _, at1 b e⟩
      · exact .inl (at0 b e)
    refine end_core H KX hns hb hbb hlim hg ha hr F hbind hO (hsp H hO (.inl (.inr ⟨_, at1 a rfl⟩))) ?_ ?_ fun _ => hk
    · intro b u z
      by_cases e : b = a
      · rw [at1 b e] at z
        cases z
        subst e
        refine ⟨ha, ?_, vs, _, rv, ha⟩
        rw [List.length_map]
        exact hl
      · rw [at0 b e] at z
        cases z
    · intro b z
      by_cases e : b = a
      · exact e
      · exact absurd (at0 b e) z
end
omit [TB] in
/-- the goal that the head leaves, from the law's meaning: it is True of every script -/
theorem walkG {l : PySem.W.OpenLaw} {n k : Nat} {q : Program} {loose : List Str} {XP : (Str → Option Value) → Heap → Prop} {YP : World → Heap → Prop} {d : DefRec} {K : Params → PySem.W.Frag} {x : Str} {G : FN}
    (hn : l.most = some n) (hn2 : n ≤ sizeLine) (hdf : d.params.defaults = []) (hr : Room k callerA) (hY : ∀ (w : World) (h : Heap), YP w h → (K w.params).In h)
    (F : ∀ (w : World) (mg : Str → Option Value) (fa : Addr) (h : Heap), (K w.params).In h → h.Ns mainGlobals mg → mg d.name = some (.ref fa) →
      ∃ fd : FuncData, (∀ (s : Shared) (u : Value), BindsTo s fd ⟨[u], []⟩ [(x, u)]) ∧
        ∀ base : Heap, (K w.params).In base → base.Ns mainGlobals mg → FnG l.prog w (K w.params) mg base k fa fd [x] (@spF defTB (K w.params) 1 G))
    (hG : ∀ ns : List Int, ns.length ≤ n → ∃ cs, G [.z ns] = some (.d (.bool true), cs)) :
    PySem.W.WalkO q loose XP YP l.row.toRowW d [] (fun f vs => PySem.call f vs) := by
  refine Att.attach_call hn hdf fun w s₀ s₁ mg mb fa o pm cd doc a vs ns G' Y ho hd hcd hmg hobj hints hlen hg => ?_
  have KX := hY w _ Y
  obtain ⟨fd, hb, hF⟩ := F w mg fa _ KX G'.T.g hmg
  refine end_call KX G'.T.g G'.T.b G'.T.builtins G'.T.nolimit hg hobj hints (Nat.le_trans hlen hn2) hr hF hb ?_
  intro H hO hS
  obtain ⟨cs, hcs⟩ := hG ns hlen
  have he : hid [] [none] H = H := by
    funext b
    unfold hid
    rw [if_neg]
    rintro (z | z)
    · cases z
    · cases List.mem_singleton.mp z
  refine ⟨[], [none], [.z ns], _, cs, ⟨rfl, rfl, ?_, ?_, ?_, ?_, ?_, ?_, (fun p hp => by cases (show p ∈ ([] : List (Addr × Str)) from hp)), (fun p hp => by cases (show p ∈ ([] : List (Addr × Str)) from hp))⟩, rfl, hcs, ?_⟩
  · intro i s hi
    cases i with
    | zero =>
      cases (show some (some (S.z ns)) = some (some s) from hi)
      exact ⟨.ref a, rfl, a, rfl, by rw [he]; exact hS⟩
    | succ i => cases (show (none : Option (Option S)) = some (some s) from hi)
  · intro i c hi
    cases i with
    | zero => cases (show some (some (S.z ns)) = some (some (S.o c)) from hi)
    | succ i => cases (show (none : Option (Option S)) = some (some (S.o c)) from hi)
  · intro i b hi
    cases i with
    | zero => cases (show some (none : Option Addr) = some (some b) from hi)
    | succ i => cases (show (none : Option (Option Addr)) = some (some b) from hi)
  · intro i j b hi
    cases i with
    | zero => cases (show some (none : Option Addr) = some (some b) from hi)
    | succ i => cases (show (none : Option (Option Addr)) = some (some b) from hi)
  · intro i b hi
    cases i with
    | zero => cases (show some (none : Option Addr) = some (some b) from hi)
    | succ i => cases (show (none : Option (Option Addr)) = some (some b) from hi)
  · intro b hb
    cases hb
  · intro v H' _ _ hv
    cases (show Dq _ _ v (.bool true) from hv)
    rfl
end DL

namespace DL
open PySem PySem.Spec PyProof.Rows L2
variable [TB]

/-! ### operations by data -/
def asI : S → Option Int
  | .d (.int i) => some i
  | _ => none
def asL : S → Option (List PyData)
  | .d (.list xs) => some xs
  | .o (.l xs) => some xs
  | _ => none
def asT : S → Option (List PyData)
  | .d (.tuple xs) => some xs
  | _ => none
def asD : S → Option PyData
  | .d x => some x
  | .o (.l xs) => some (.list xs)
  | _ => none
def asB : S → Option Bool
  | .d (.bool b) => some b
  | _ => none
section
variable {K : PySem.W.Frag} {T : List Addr} {ρ : List (Option Addr)} {H : Hp} {v : V} {s : S}
theorem at_I {i : Int} (h : At K T ρ H v s) (e : asI s = some i) : v = .int i := by
  unfold asI at e
  split at e
  · cases e
    cases (show Dq K _ v (.int i) from h)
    rfl
  · cases e
theorem at_B {b : Bool} (h : At K T ρ H v s) (e : asB s = some b) : v = .bl b := by
  unfold asB at e
  split at e
  · cases e
    cases (show Dq K _ v (.bool b) from h)
    rfl
  · cases e
theorem at_L {xs : List PyData} (h : At K T ρ H v s) (e : asL s = some xs) : ∃ a vs, v = .ref a ∧ H a = some (.lst vs) ∧ DqAll K (hid T ρ H) vs xs := by
  unfold asL at e
  split at e
  · cases e
    cases (show Dq K (hid T ρ H) v (.list xs) from h) with
    | lst h1 h2 => exact ⟨_, _, rfl, hid_same _ _ h1, h2⟩
  · cases e
    obtain ⟨a, o, rfl, h1, vs, rfl, h2⟩ := h
    exact ⟨a, vs, rfl, h1, h2⟩
  · cases e
theorem at_T {xs : List PyData} (h : At K T ρ H v s) (e : asT s = some xs) : ∃ a vs, v = .ref a ∧ hid T ρ H a = some (.tup vs) ∧ DqAll K (hid T ρ H) vs xs := by
  unfold asT at e
  split at e
  · cases e
    cases (show Dq K (hid T ρ H) v (.tuple xs) from h) with
    | tup h1 h2 => exact ⟨_, _, rfl, h1, h2⟩
  · cases e
theorem at_D {x : PyData} (h : At K T ρ H v s) (e : asD s = some x) (cl : x.canLay0 = true) : L2.Dp K H v x := by
  unfold asD at e
  split at e
  · cases e
    exact dq_dp x cl (dpM hid_same _ h)
  · cases e
    obtain ⟨a, o, rfl, h1, vs, rfl, h2⟩ := h
    exact .lst (SqL.of h1) (dq_dpA _ cl (dpAllM hid_same _ h2))
  · cases e
end
theorem opr_or {X : Cx} {f : Value → Value → Sem Value} {r r' : R2} (h : OpR X f r) (h' : OpR X f r') : OpR X f (fun x y H Q => r x y H Q ∨ r' x y H Q) := fun pins s σ H x y v u Q I rx ry hh =>
  hh.elim (h pins s σ H x y v u Q I rx ry) (h' pins s σ H x y v u Q I rx ry)
theorem postO_same {K : PySem.W.Frag} {T : List Addr} {ρ : List (Option Addr)} {H : Hp} {Q : VK} {x : PyData} {v : V} (h : PostO K T ρ H Q (.d x)) (hv : Dq K (hid T ρ H) v x) : Q v H := h v H (Same.refl _) hv
theorem postO_tup {K : PySem.W.Frag} {T : List Addr} {ρ : List (Option Addr)} {H : Hp} {Q : VK} {xs : List PyData} {vs : List V} (k : Trk T ρ H) (h : PostO K T ρ H Q (.d (.tuple xs))) (hv : DqAll K (hid T ρ H) vs xs) {p : Addr} (hp : H p = none) : Q (.ref p) (upd H p (.tup vs)) :=
  h _ _ (same_new hp) (Dq.tup (k.hidNew hp) (dpAllM (hid_mono (same_new hp)) _ hv))

/-! ints -/
def opI2 (f : Int → Int → Option Int) (a b : S) : Option S := (asI a).bind fun i => (asI b).bind fun j => (f i j).map fun z => .d (.int z)
theorem od_I {K : PySem.W.Frag} {C : Int → Int → Prop} {g : Int → Int → Int} {f : Int → Int → Option Int} (h : ∀ i j z, f i j = some z → C i j ∧ g i j = z) : OpD K (rI C fun i j => .int (g i j)) (opI2 f) := fun T ρ H x y a b s Q k ha hb hg hq => by
  unfold opI2 at hg
  cases e1 : asI a with
  | none => rw [e1] at hg; cases hg
  | some i =>
    rw [e1] at hg
    simp only [Option.bind_some] at hg
    cases e2 : asI b with
    | none => rw [e2] at hg; cases hg
    | some j =>
      rw [e2] at hg
      simp only [Option.bind_some] at hg
      cases e3 : f i j with
      | none => rw [e3] at hg; cases hg
      | some z =>
        rw [e3] at hg
        cases hg
        obtain ⟨c, ez⟩ := h i j z e3
        subst ez
        exact ⟨i, j, at_I ha e1, at_I hb e2, c, postO_same hq (.int _)⟩
def iSub (i j : Int) : Option Int := some (i - j)
def iMul (i j : Int) : Option Int := if i.natAbs.log2 + j.natAbs.log2 < 1000000 then some (i * j) else none
def iDiv (i j : Int) : Option Int := if 0 < j ∧ j.natAbs.log2 < 9000 then some (i / j) else none
def iMod (i j : Int) : Option Int := if 0 < j then some (i % j) else none
def iPow (i j : Int) : Option Int := if 0 ≤ j ∧ (Builtin.Int.intBits i : Int) * j ≤ 2 ^ 27 then some (i ^ j.toNat) else none
section
variable {X : Cx} {a b : Expr} {pos : Pos} {fa fb : PEV}
theorem or_powW : OpR X (binaryOp .Pow) (rI (fun i j => 0 ≤ j ∧ (Builtin.Int.intBits i : Int) * j ≤ 2 ^ 27) fun i j => .int (i ^ j.toNat)) := opI fun _ _ _ _ _ _ _ hc q => pow_int hc.1 hc.2 q
theorem or_sub : OpR X (binaryOp .Sub) (rI (fun _ _ => True) fun i j => .int (i - j)) := opI fun _ _ _ _ _ _ _ _ q => sub_int q
theorem or_add : OpR X (binaryOp .Add) (rI (fun _ _ => True) fun i j => .int (i + j)) := opI fun _ _ _ _ _ _ _ _ q => add_int q
theorem de_sub (ha : DP X a fa) (hb : DP X b fb) : DE X (.BinOp a .Sub b pos) (bin (opI2 iSub) fa fb) := de_op or_sub (od_I fun i j z h => ⟨trivial, Option.some.inj h⟩) ha hb
theorem de_div (ha : DP X a fa) (hb : DP X b fb) : DE X (.BinOp a .FloorDiv b pos) (bin (opI2 iDiv) fa fb) := de_op op_fdivW (od_I fun i j z h => by
  unfold iDiv at h
  split at h
  · rename_i hc
    exact ⟨hc, Option.some.inj h⟩
  · cases h) ha hb
theorem de_mod (ha : DP X a fa) (hb : DP X b fb) : DE X (.BinOp a .Mod b pos) (bin (opI2 iMod) fa fb) := de_op op_mod (od_I fun i j z h => by
  unfold iMod at h
  split at h
  · rename_i hc
    exact ⟨hc, Option.some.inj h⟩
  · cases h) ha hb
theorem de_pow (ha : DP X a fa) (hb : DP X b fb) : DE X (.BinOp a .Pow b pos) (bin (opI2 iPow) fa fb) := de_op or_powW (od_I fun i j z h => by
  unfold iPow at h
  split at h
  · rename_i hc
    exact ⟨hc, Option.some.inj h⟩
  · cases h) ha hb

/-! + -/
def opAdd (a b : S) : Option S := match asI a, asI b with
  | some i, some j => some (.d (.int (i + j)))
  | _, _ => match asL a, asL b with
    | some xs, some ys => if xs.length + ys.length ≤ sizeLine then some (.o (.l (xs ++ ys))) else none
    | _, _ => match asT a, asT b with
      | some xs, some ys => if xs.length + ys.length ≤ sizeLine then some (.d (.tuple (xs ++ ys))) else none
      | _, _ => none
theorem od_add {K : PySem.W.Frag} : OpD K (fun x y H Q => rI (fun _ _ => True) (fun i j => .int (i + j)) x y H Q ∨ (rCat x y H Q ∨ rCatA K x y H Q)) opAdd := fun T ρ H x y a b s Q k ha hb hg hq => by
  unfold opAdd at hg
  split at hg
  · rename_i i j e1 e2
    cases hg
    exact .inl ⟨i, j, at_I ha e1, at_I hb e2, trivial, postO_same hq (.int _)⟩
  · split at hg
    · rename_i xs ys e1 e2
      split at hg
      · rename_i hl
        cases hg
        obtain ⟨p, vs, rfl, h1, h2⟩ := at_L ha e1
        obtain ⟨r, ws, rfl, h3, h4⟩ := at_L hb e2
        refine .inr (.inl ⟨p, r, vs, ws, rfl, rfl, h1, h3, by rw [dpAll_len h2, dpAll_len h4]; exact hl, fun n hn => ?_⟩)
        exact hq n _ hn ⟨_, rfl, dpAll_app h2 h4⟩
      · cases hg
    · split at hg
      · rename_i xs ys e1 e2
        split at hg
        · rename_i hl
          cases hg
          obtain ⟨p, vs, rfl, h1, h2⟩ := at_T ha e1
          obtain ⟨r, ws, rfl, h3, h4⟩ := at_T hb e2
          have l1 := dpAll_len h2
          have l2 := dpAll_len h4
          refine .inr (.inr ⟨p, r, vs, ws, rfl, rfl, SqT.of (hid_same _ _ h1), SqT.of (hid_same _ _ h3), by rw [l1, l2]; exact hl, fun e => ?_, fun _ e => ?_, fun _ _ n hn => ?_⟩)
          · subst e
            have : xs = [] := List.length_eq_zero_iff.mp l1.symm
            subst this
            exact postO_same hq (.tup h3 h4)
          · subst e
            have : ys = [] := List.length_eq_zero_iff.mp l2.symm
            subst this
            rw [List.append_nil] at hq
            exact postO_same hq (.tup h1 h2)
          · exact postO_tup k hq (dpAll_app h2 h4) hn
        · cases hg
      · cases hg
theorem de_add (ha : DP X a fa) (hb : DP X b fb) : DE X (.BinOp a .Add b pos) (bin opAdd fa fb) := de_op (opr_or or_add (opr_or op_cat op_catA)) od_add ha hb
/-! * -/
def opMul (a b : S) : Option S := match asI b with
  | some j => match asI a with
    | some i => (iMul i j).map fun z => .d (.int z)
    | none => match asL a with
      | some xs => if -(2 ^ 63) ≤ j ∧ j < 2 ^ 63 ∧ xs.length * j.toNat ≤ sizeLine then some (.o (.l (List.replicate j.toNat xs).flatten)) else none
      | none => none
  | none => none
theorem od_mul {K : PySem.W.Frag} : OpD K (fun x y H Q => rI CMulW (fun i j => .int (i * j)) x y H Q ∨ rRep x y H Q) opMul := fun T ρ H x y a b s Q k ha hb hg hq => by
  unfold opMul at hg
  split at hg
  · rename_i j e2
    split at hg
    · rename_i i e1
      unfold iMul at hg
      split at hg
      · rename_i hc
        cases hg
        exact .inl ⟨i, j, at_I ha e1, at_I hb e2, hc, postO_same hq (.int _)⟩
      · cases hg
    · split at hg
      · rename_i xs e1
        split at hg
        · rename_i hc
          cases hg
          obtain ⟨p, vs, rfl, h1, h2⟩ := at_L ha e1
          refine .inr ⟨p, j, vs, rfl, at_I hb e2, h1, hc.1, hc.2.1, by rw [dpAll_len h2]; exact hc.2.2, fun n hn => ?_⟩
          exact hq n _ hn ⟨_, rfl, dpAll_rep h2 _⟩
        · cases hg
      · cases hg
  · cases hg
theorem de_mul (ha : DP X a fa) (hb : DP X b fb) : DE X (.BinOp a .Mult b pos) (bin opMul fa fb) := de_op (opr_or op_mulW op_rep) od_mul ha hb
/-! - a -/
def unI (f : PEV) (g : Int → Int) : EV := fun δ => (f δ).bind fun x => (res x.2 x.1).bind fun s => (asI s).map fun i => (.d (.int (g i)), x.2)
/-! comparisons -/
def cmpI (p : Int → Int → Bool) (a b : S) : Option S := (asI a).bind fun i => (asI b).map fun j => .d (.bool (p i j))
def rCmp (p : Int → Int → Bool) : R2 := fun x y H Q => ∃ i j, x = .int i ∧ y = .int j ∧ Q (.bl (p i j)) H
theorem od_cmp {K : PySem.W.Frag} {p : Int → Int → Bool} : OpD K (rCmp p) (cmpI p) := fun T ρ H x y a b s Q k ha hb hg hq => by
  unfold cmpI at hg
  cases e1 : asI a with
  | none => rw [e1] at hg; cases hg
  | some i =>
    rw [e1] at hg
    simp only [Option.bind_some] at hg
    cases e2 : asI b with
    | none => rw [e2] at hg; cases hg
    | some j =>
      rw [e2] at hg
      cases hg
      exact ⟨i, j, at_I ha e1, at_I hb e2, postO_same hq (.bl _)⟩
theorem or_cmp {op : CmpOp} {p : Int → Int → Bool} (rule : ∀ (i j : Int) (t u : Tok) (Q : Value → Shared → Prop) (s : Shared), Q (.bool (p i j)) s → wpAny (model X.prog X.w) X.A (compareOp op (.int i t) (.int j u)) Q X.xe s) : OpR X (compareOp op) (rCmp p) := fun pins s σ H x y v u Q I rx ry h => by
  obtain ⟨i, j, rfl, rfl, q⟩ := h
  obtain ⟨t, rfl⟩ := rx
  obtain ⟨t', rfl⟩ := ry
  exact rule i j t t' _ s ⟨.bl _, H, I, rfl, q⟩
abbrev pLt (i j : Int) : Bool := decide (i < j)
abbrev pLe (i j : Int) : Bool := decide (i ≤ j)
abbrev pGt (i j : Int) : Bool := decide (j < i)
abbrev pGe (i j : Int) : Bool := decide (j ≤ i)
theorem or_lt : OpR X (compareOp .Lt) (rCmp pLt) := or_cmp fun _ _ _ _ _ _ h => lt_int h
theorem or_le : OpR X (compareOp .LtE) (rCmp pLe) := or_cmp fun _ _ _ _ _ _ h => le_int h
theorem or_gt : OpR X (compareOp .Gt) (rCmp pGt) := or_cmp fun _ _ _ _ _ _ h => gt_int h
theorem or_ge : OpR X (compareOp .GtE) (rCmp pGe) := or_cmp fun _ _ _ _ _ _ h => ge_int h
/-- == at any depth -/
def opEq (a b : S) : Option S := match a, b with
  | .d (.str x), .d (.str y) => some (.d (.bool (decide (x = y))))
  | _, _ => (asD a).bind fun x => (asD b).bind fun y => if SeqAt.shaped x && SeqAt.shaped y then some (.d (.bool (PyData.eqv x y))) else none
def opNe (a b : S) : Option S := match a, b with
  | .d (.str x), .d (.str y) => some (.d (.bool (!decide (x = y))))
  | _, _ => (asD a).bind fun x => (asD b).bind fun y => if SeqAt.shaped x && SeqAt.shaped y then some (.d (.bool (!PyData.eqv x y))) else none
theorem str_dec (x y : Str) : decide (V.str x = V.str y) = decide (x = y) := by
  by_cases h : x = y
  · rw [decide_eq_true h, decide_eq_true (by rw [h])]
  · rw [decide_eq_false h, decide_eq_false fun z => h (V.str.inj z)]
theorem od_eq {K : PySem.W.Frag} : OpD K (fun x y H Q => L2.rEq x y H Q ∨ rEqD K x y H Q) opEq := fun T ρ H x y a b s Q k ha hb hg hq => by
  unfold opEq at hg
  split at hg
  · rename_i u w
    cases hg
    cases (show Dq K _ x (.str u) from ha)
    cases (show Dq K _ y (.str w) from hb)
    refine .inl ⟨rfl, ?_⟩
    rw [str_dec]
    exact postO_same hq (.bl _)
  · cases e1 : asD a with
    | none => rw [e1] at hg; cases hg
    | some d =>
      rw [e1] at hg
      simp only [Option.bind_some] at hg
      cases e2 : asD b with
      | none => rw [e2] at hg; cases hg
      | some e =>
        rw [e2] at hg
        simp only [Option.bind_some] at hg
        split at hg
        · rename_i hc
          cases hg
          rw [Bool.and_eq_true] at hc
          exact .inr ⟨d, e, at_D ha e1 (SeqAt.canLay_of_shaped hc.1), at_D hb e2 (SeqAt.canLay_of_shaped hc.2), hc.1, hc.2, postO_same hq (.bl _)⟩
        · cases hg
/-- in, at any depth -/
def rInS (K : PySem.W.Frag) (neg : Bool) : R2 := fun x y H Q => ∃ d ds, L2.Dp K H x d ∧ (L2.Dp K H y (.list ds) ∨ L2.Dp K H y (.tuple ds)) ∧ SeqAt.shaped d = true ∧ PyData.canLayAll0 ds = true ∧ Q (.bl (neg ^^ ds.any fun z => PyData.eqv z d)) H
def asS (s : S) : Option (List PyData) := match asL s with
  | some xs => some xs
  | none => asT s
def opIn (neg : Bool) (a b : S) : Option S := (asD a).bind fun x => (asS b).bind fun ys => if SeqAt.shaped x && PyData.canLayAll0 ys then some (.d (.bool (neg ^^ ys.any fun z => PyData.eqv z x))) else none
theorem room_in {A : Around} {xs : List PyData} {d : PyData} (h : SeqAt.shaped d = true) (hu : A.units + 65 < cLine) : A.units + 1 + min (PyData.depthAll xs) d.depth < cLine := by
  have h1 := SeqAt.depth_of_shaped h
  have h2 : min (PyData.depthAll xs) d.depth ≤ d.depth := Nat.min_le_right _ _
  omega
theorem or_in (hu : X.A.units + 65 < cLine) : OpR X (compareOp .In) (rInS X.K false) := by
  intro pins s σ H x y v u Q I rx ry h
  obtain ⟨d, ds, hd, he, sd, se, q⟩ := h
  rw [Bool.false_xor] at q
  obtain ⟨as, r1⟩ := L2.Dp.reads I d x v hd rx
  rcases he with he | he
  · obtain ⟨bs, r2⟩ := L2.Dp.reads I _ y u he ry
    exact SeqAt.in_list_reads r2 r1 se (SeqAt.canLay_of_shaped sd) (room_in sd hu) ⟨.bl _, H, I, rfl, q⟩
  · obtain ⟨bs, r2⟩ := L2.Dp.reads I _ y u he ry
    exact SeqAt.in_tuple_reads r2 r1 se (SeqAt.canLay_of_shaped sd) (room_in sd hu) ⟨.bl _, H, I, rfl, q⟩
theorem at_S {K : PySem.W.Frag} {T : List Addr} {ρ : List (Option Addr)} {H : Hp} {v : V} {s : S} {ys : List PyData} (h : At K T ρ H v s) (e : asS s = some ys) (cl : PyData.canLayAll0 ys = true) : L2.Dp K H v (.list ys) ∨ L2.Dp K H v (.tuple ys) := by
  unfold asS at e
  split at e
  · rename_i xs e1
    cases e
    obtain ⟨a, vs, rfl, h1, h2⟩ := at_L h e1
    exact .inl (.lst (SqL.of h1) (dq_dpA _ cl (dpAllM hid_same _ h2)))
  · obtain ⟨a, vs, rfl, h1, h2⟩ := at_T h e
    exact .inr (.tup (SqT.of (hid_same _ _ h1)) (dq_dpA _ cl (dpAllM hid_same _ h2)))
theorem od_in {K : PySem.W.Frag} {neg : Bool} : OpD K (rInS K neg) (opIn neg) := fun T ρ H x y a b s Q k ha hb hg hq => by
  unfold opIn at hg
  cases e1 : asD a with
  | none => rw [e1] at hg; cases hg
  | some d =>
    rw [e1] at hg
    simp only [Option.bind_some] at hg
    cases e2 : asS b with
    | none => rw [e2] at hg; cases hg
    | some e =>
      rw [e2] at hg
      simp only [Option.bind_some] at hg
      split at hg
      · rename_i hc
        cases hg
        rw [Bool.and_eq_true] at hc
        exact ⟨d, e, at_D ha e1 (SeqAt.canLay_of_shaped hc.1), at_S hb e2 hc.2, hc.1, hc.2, postO_same hq (.bl _)⟩
      · cases hg

/-! ### subscripts -/
def opIx (a b : S) : Option S := (asI b).bind fun i => match a with
  | .z ns => (atI ns i).map fun n => .d (.int n)
  | _ => (asS a).bind fun xs => (atI xs i).map fun x => .d x
theorem atI_get {α : Type} {xs : List α} {i : Int} {x : α} (h : atI xs i = some x) : ∃ j, ixN xs.length i = some j ∧ xs[j]? = some x := by
  unfold atI at h
  cases e : ixN xs.length i with
  | none => rw [e] at h; cases h
  | some j => rw [e] at h; exact ⟨j, rfl, h⟩
theorem atI_of {α : Type} {xs : List α} {i : Int} {x : α} {j : Nat} (h : ixN xs.length i = some j) (e : xs[j]? = some x) : atI xs i = some x := by
  unfold atI
  rw [h]
  exact e
theorem od_ix {K : PySem.W.Frag} : OpD K (fun x y H Q => rIxL K x y H Q ∨ rIxT K x y H Q) opIx := fun T ρ H x y a b s Q k ha hb hg hq => by
  unfold opIx at hg
  cases e1 : asI b with
  | none => rw [e1] at hg; cases hg
  | some i =>
    rw [e1] at hg
    simp only [Option.bind_some] at hg
    have hy := at_I hb e1
    split at hg
    · rename_i ns
      obtain ⟨p, rfl, hp⟩ := ha
      cases e2 : atI ns i with
      | none => rw [e2] at hg; cases hg
      | some n =>
        rw [e2] at hg
        cases hg
        obtain ⟨j, g1, g2⟩ := atI_get e2
        refine .inl ⟨p, _, i, .int n, rfl, hy, hid_same.seq hp, atI_of (j := j) (by rw [List.length_map]; exact g1) (by rw [List.getElem?_map, g2]; rfl), postO_same hq (.int n)⟩
    · cases e2 : asS a with
      | none => rw [e2] at hg; cases hg
      | some xs =>
        rw [e2] at hg
        simp only [Option.bind_some] at hg
        cases e3 : atI xs i with
        | none => rw [e3] at hg; cases hg
        | some d =>
          rw [e3] at hg
          cases hg
          obtain ⟨j, g1, g2⟩ := atI_get e3
          unfold asS at e2
          split at e2
          · rename_i ys el
            cases e2
            obtain ⟨p, vs, rfl, h1, h2⟩ := at_L ha el
            obtain ⟨v, f1, f2⟩ := dpAll_get h2 g2
            exact .inl ⟨p, vs, i, v, rfl, hy, SqL.of h1, atI_of (j := j) (by rw [dpAll_len h2]; exact g1) f1, postO_same hq f2⟩
          · obtain ⟨p, vs, rfl, h1, h2⟩ := at_T ha e2
            obtain ⟨v, f1, f2⟩ := dpAll_get h2 g2
            exact .inr ⟨p, vs, i, v, rfl, hy, SqT.of (hid_same _ _ h1), atI_of (j := j) (by rw [dpAll_len h2]; exact g1) f1, postO_same hq f2⟩
theorem de_item (ha : DP X a fa) (hb : DP X b fb) (hs : PlainIx b) : DE X (.Subscript a b pos) (bin opIx fa fb) := de_ix (ix_list.or ix_tup) od_ix ha hb hs
end
end DL

namespace DL
open PySem PySem.Spec PyProof.Rows L2
variable [TB]

section
variable {K : PySem.W.Frag}
/-! ### built-in functions by data -/
def fLen : List S → Option S
  | [.z ns] => some (.d (.int ns.length))
  | [s] => (asS s).map fun xs => .d (.int xs.length)
  | _ => none
theorem paired1 {α β : Type} {R : α → β → Prop} {xs : List α} {y : β} (h : Paired R xs [y]) : ∃ x, xs = [x] ∧ R x y := by
  cases h with
  | cons a b =>
    cases b
    exact ⟨_, rfl, a⟩
theorem paired2 {α β : Type} {R : α → β → Prop} {xs : List α} {y z : β} (h : Paired R xs [y, z]) : ∃ x w, xs = [x, w] ∧ R x y ∧ R w z := by
  cases h with
  | cons a b =>
    cases b with
    | cons b c =>
      cases c
      exact ⟨_, _, rfl, a, b⟩
theorem at_seq {T : List Addr} {ρ : List (Option Addr)} {H : Hp} {v : V} {s : S} {ys : List PyData} (h : At K T ρ H v s) (e : asS s = some ys) : ∃ a vs, v = .ref a ∧ (SqL K H a vs ∨ SqT K H a vs) ∧ DqAll K (hid T ρ H) vs ys := by
  unfold asS at e
  split at e
  · rename_i xs e1
    cases e
    obtain ⟨a, vs, rfl, h1, h2⟩ := at_L h e1
    exact ⟨a, vs, rfl, .inl (SqL.of h1), h2⟩
  · obtain ⟨a, vs, rfl, h1, h2⟩ := at_T h e
    exact ⟨a, vs, rfl, .inr (SqT.of (hid_same _ _ h1)), h2⟩
theorem cd_len : CallD K (fun xs H Q => ∃ p ys, xs = [.ref p] ∧ (SqL K H p ys ∨ SqT K H p ys) ∧ Q (.int ys.length) H) fLen := fun T ρ H vs ss s Q k hp hg hq => by
  unfold fLen at hg
  split at hg
  · rename_i ns
    cases hg
    obtain ⟨v, rfl, a, rfl, h⟩ := paired1 hp
    refine ⟨a, _, rfl, .inl (hid_same.seq h), ?_⟩
    rw [List.length_map]
    exact postO_same hq (.int _)
  · obtain ⟨v, rfl, h⟩ := paired1 hp
    rename_i u _
    cases e : asS u with
    | none => rw [e] at hg; cases hg
    | some xs =>
      rw [e] at hg
      cases hg
      obtain ⟨a, ws, rfl, h1, h2⟩ := at_seq h e
      refine ⟨a, ws, rfl, h1, ?_⟩
      rw [dpAll_len h2]
      exact postO_same hq (.int _)
  · cases hg
def fAbs : List S → Option S
  | [s] => (asI s).map fun i => .d (.int (if i < 0 then -i else i))
  | _ => none
theorem cd_abs : CallD K (fun xs H Q => ∃ i, xs = [.int i] ∧ Q (.int (if i < 0 then -i else i)) H) fAbs := fun T ρ H vs ss s Q k hp hg hq => by
  unfold fAbs at hg
  split at hg
  · rename_i u
    obtain ⟨v, rfl, h⟩ := paired1 hp
    cases e : asI u with
    | none => rw [e] at hg; cases hg
    | some i =>
      rw [e] at hg
      cases hg
      exact ⟨i, by rw [at_I h e], postO_same hq (.int _)⟩
  · cases hg
def fInt : List S → Option S
  | [s] => match asI s with
    | some i => some (.d (.int i))
    | none => (asB s).map fun b => .d (.int (if b then 1 else 0))
  | _ => none
theorem cd_int : CallD K (fun xs H Q => (∃ i, xs = [.int i] ∧ Q (.int i) H) ∨ ∃ k, xs = [.bl k] ∧ Q (.int (if k then 1 else 0)) H) fInt := fun T ρ H vs ss s Q k hp hg hq => by
  unfold fInt at hg
  split at hg
  · rename_i u
    obtain ⟨v, rfl, h⟩ := paired1 hp
    split at hg
    · rename_i i e
      cases hg
      exact .inl ⟨i, by rw [at_I h e], postO_same hq (.int _)⟩
    · cases e : asB u with
      | none => rw [e] at hg; cases hg
      | some b =>
        rw [e] at hg
        cases hg
        exact .inr ⟨b, by rw [at_B h e], postO_same hq (.int _)⟩
  · cases hg
def fMax : List S → Option S
  | [s, u] => (asI s).bind fun i => (asI u).map fun j => .d (.int (if j > i then j else i))
  | _ => none
def fMin : List S → Option S
  | [s, u] => (asI s).bind fun i => (asI u).map fun j => .d (.int (if j < i then j else i))
  | _ => none
theorem cd_max : CallD K (fun xs H Q => ∃ i j, xs = [.int i, .int j] ∧ Q (.int (if j > i then j else i)) H) fMax := fun T ρ H vs ss s Q k hp hg hq => by
  unfold fMax at hg
  split at hg
  · rename_i u w
    obtain ⟨v, v', rfl, h, h'⟩ := paired2 hp
    cases e : asI u with
    | none => rw [e] at hg; cases hg
    | some i =>
      rw [e] at hg
      simp only [Option.bind_some] at hg
      cases e' : asI w with
      | none => rw [e'] at hg; cases hg
      | some j =>
        rw [e'] at hg
        cases hg
        exact ⟨i, j, by rw [at_I h e, at_I h' e'], postO_same hq (.int _)⟩
  · cases hg
theorem cd_min : CallD K (fun xs H Q => ∃ i j, xs = [.int i, .int j] ∧ Q (.int (if j < i then j else i)) H) fMin := fun T ρ H vs ss s Q k hp hg hq => by
  unfold fMin at hg
  split at hg
  · rename_i u w
    obtain ⟨v, v', rfl, h, h'⟩ := paired2 hp
    cases e : asI u with
    | none => rw [e] at hg; cases hg
    | some i =>
      rw [e] at hg
      simp only [Option.bind_some] at hg
      cases e' : asI w with
      | none => rw [e'] at hg; cases hg
      | some j =>
        rw [e'] at hg
        cases hg
        exact ⟨i, j, by rw [at_I h e, at_I h' e'], postO_same hq (.int _)⟩
  · cases hg
def bools : List PyData → Option (List Bool)
  | [] => some []
  | .bool b :: r => (bools r).map (b :: ·)
  | _ => none
theorem bools_V {G : Hp} : ∀ {vs : List V} {xs : List PyData} {bs : List Bool}, DqAll K G vs xs → bools xs = some bs → vs = bs.map V.bl
  | _, [], _, h, e => by cases h; cases e; rfl
  | _, .bool b :: r, bs, h, e => by
    have e' : (bools r).map (b :: ·) = some bs := e
    cases h with
    | cons h1 h2 =>
      cases er : bools r with
      | none => rw [er] at e'; cases e'
      | some cs =>
        rw [er] at e'
        cases e'
        cases h1
        rw [bools_V h2 er]
        rfl
  | _, .none :: r, bs, h, e => by cases e
  | _, .int _ :: r, bs, h, e => by cases e
  | _, .str _ :: r, bs, h, e => by cases e
  | _, .list _ :: r, bs, h, e => by cases e
  | _, .tuple _ :: r, bs, h, e => by cases e
  | _, .dict _ :: r, bs, h, e => by cases e
def fAll : List S → Option S
  | [s] => (asL s).bind fun xs => (bools xs).map fun bs => .d (.bool (bs.all id))
  | _ => none
def fAny : List S → Option S
  | [s] => (asL s).bind fun xs => (bools xs).map fun bs => .d (.bool (bs.any id))
  | _ => none
theorem cd_all : CallD K (rAll K) fAll := fun T ρ H vs ss s Q k hp hg hq => by
  unfold fAll at hg
  split at hg
  · rename_i u
    obtain ⟨v, rfl, h⟩ := paired1 hp
    cases e : asL u with
    | none => rw [e] at hg; cases hg
    | some xs =>
      rw [e] at hg
      simp only [Option.bind_some] at hg
      cases eb : bools xs with
      | none => rw [eb] at hg; cases hg
      | some bs =>
        rw [eb] at hg
        cases hg
        obtain ⟨a, ws, rfl, h1, h2⟩ := at_L h e
        have := bools_V h2 eb
        subst this
        exact ⟨a, bs, rfl, SqL.of h1, postO_same hq (.bl _)⟩
  · cases hg
/-- tuple(x), list(x) -/
def fTuple : List S → Option S
  | [s] => (asS s).map fun xs => .d (.tuple xs)
  | _ => none
theorem cd_tuple : CallD K (fun xs H Q => ∃ p ys, xs = [.ref p] ∧ ((SqL K H p ys ∧ ∀ l, H l = none → Q (.ref l) (upd H l (.tup ys))) ∨ (SqT K H p ys ∧ Q (.ref p) H))) fTuple := fun T ρ H vs ss s Q k hp hg hq => by
  unfold fTuple at hg
  split at hg
  · rename_i u
    obtain ⟨v, rfl, h⟩ := paired1 hp
    cases e : asS u with
    | none => rw [e] at hg; cases hg
    | some xs =>
      rw [e] at hg
      cases hg
      unfold asS at e
      split at e
      · rename_i ys el
        cases e
        obtain ⟨a, ws, rfl, h1, h2⟩ := at_L h el
        exact ⟨a, ws, rfl, .inl ⟨SqL.of h1, fun l hl => postO_tup k hq h2 hl⟩⟩
      · obtain ⟨a, ws, rfl, h1, h2⟩ := at_T h e
        exact ⟨a, ws, rfl, .inr ⟨SqT.of (hid_same _ _ h1), postO_same hq (.tup h1 h2)⟩⟩
  · cases hg
def fList : List S → Option S
  | [s] => (asS s).map fun xs => .o (.l xs)
  | _ => none
theorem cd_list : CallD K (fun xs H Q => ∃ p ys, xs = [.ref p] ∧ (SqL K H p ys ∨ SqT K H p ys) ∧ ∀ l, H l = none → Q (.ref l) (upd H l (.lst ys))) fList := fun T ρ H vs ss s Q k hp hg hq => by
  unfold fList at hg
  split at hg
  · rename_i u
    obtain ⟨v, rfl, h⟩ := paired1 hp
    cases e : asS u with
    | none => rw [e] at hg; cases hg
    | some xs =>
      rw [e] at hg
      cases hg
      obtain ⟨a, ws, rfl, h1, h2⟩ := at_seq h e
      exact ⟨a, ws, rfl, h1, fun l hl => hq l _ hl ⟨_, rfl, h2⟩⟩
  · cases hg
/-! data that is laid out with dicts in it -/
mutual
/-- no list in it -/
def lstFree : PyData → Bool
  | .list _ => false
  | .tuple xs => lstFreeA xs
  | .dict kvs => lstFreeK kvs
  | _ => true
def lstFreeA : List PyData → Bool
  | [] => true
  | x :: xs => lstFree x && lstFreeA xs
def lstFreeK : List (PyData × PyData) → Bool
  | [] => true
  | (_, x) :: xs => lstFree x && lstFreeK xs
end
theorem dict_parts {P : Program} {w : World} {h : Heap} {a : Addr} {ps : List (Key × Value)} (m : h.DictOf (mixKind P w) a ps) : ∃ o es ep, h.get? a = some o ∧ o.cls = .type "dict" ∧ o.data = .dict es ep ∧ Pairs (mixKind P w) es.toList ps := by
  obtain ⟨o, es, ep, h1, x, h2, _, h3, _⟩ := m
  exact ⟨o, es, ep, h1, x.1, h2, h3⟩
theorem konI_hid : PyData.showable (.int konI) = false := by decide +kernel
theorem kon_hid (x : PyData) (y : PyData × PyData) (r : List (PyData × PyData)) : ¬ PyData.showable (.dict ((.int konI, x) :: y :: r)) = true := fun h => by
  have h : ((PyData.showable (.int konI) && x.showable) && PyData.showableKv (y :: r)) = true := h
  rw [konI_hid] at h
  exact Bool.false_ne_true h
mutual
theorem dq_reads {X : Cx} {pins : List (Addr × Obj)} {σ : L2.St} {H : Hp} {s : Shared} (I : Inv X pins σ H s) : ∀ (d : PyData) (v : V) (u : Value), Dq X.K H v d → RelV v u → d.showable = true → ∃ as, Reads s.heap u d as ∧ (lstFree d = true → sysModules ∉ as)
  | .none, _, _, h, r, sh => by
    cases h; cases r
    exact ⟨_, Reads.none, fun _ => by simp⟩
  | .bool b, _, _, h, r, sh => by
    cases h; cases r
    exact ⟨_, Reads.bool b, fun _ => by simp⟩
  | .int i, _, _, h, r, sh => by
    cases h
    obtain ⟨t, rfl⟩ := r
    exact ⟨_, Reads.int i t, fun _ => by simp⟩
  | .str x, _, _, h, r, sh => by
    cases h
    obtain ⟨t, rfl⟩ := r
    exact ⟨_, Reads.str x t, fun _ => by simp⟩
  | .list ds, _, _, h, r, sh => by
    cases h with
    | lst hs ha =>
      cases r
      obtain ⟨its, rv, ⟨o, n, ho, hc, _, hd⟩, _⟩ := I.list (SqL.of hs)
      obtain ⟨as, hr, _⟩ := dq_readsA I ds _ its ha rv sh
      exact ⟨_, Reads.list ho hc hd hr, fun z => by cases z⟩
  | .tuple ds, _, _, h, r, sh => by
    cases h with
    | tup hs ha =>
      cases r
      obtain ⟨its, rv, ⟨o, ho, hc, n, hd⟩, _⟩ := I.tuple (SqT.of hs)
      obtain ⟨as, hr, hn⟩ := dq_readsA I ds _ its ha rv sh
      exact ⟨_, Reads.tuple ho hc hd hr, hn⟩
  | .dict [], _, _, h, r, _ => by
    cases h with
    | @dctE a hs =>
      cases r
      obtain ⟨_, ya, vs, rk, m⟩ := (show ObjOk X.prog X.w H s.heap a (.dK []) from I.hok a _ hs)
      cases rk
      obtain ⟨o, es, ep, h1, h2, h3, h4⟩ := dict_parts m
      cases he : es.toList with
      | cons e r => rw [he] at h4; cases h4
      | nil =>
        refine ⟨_, Reads.dict (as := []) (bs := []) h1 h2 h3 (by rw [he]; exact .nil) (by rw [he]; exact .nil), fun _ z => ?_⟩
        have hz : sysModules = a := by simpa using z
        rw [hz] at ya
        simp at ya
  | .dict [(k, x)], _, _, h, r, sh => by
    cases h with
    | @dct1 a k v _ hs hx =>
      cases r
      obtain ⟨_, ya, vs, rk, m⟩ := (show ObjOk X.prog X.w H s.heap a (.dK [(.inr k, v)]) from I.hok a _ hs)
      cases rk with
      | @cons p q _ _ r0 rt =>
        cases rt
        obtain ⟨o, es, ep, h1, h2, h3, h4⟩ := dict_parts m
        obtain ⟨q1, q2⟩ := q
        obtain ⟨rk1, rv1⟩ := r0
        cases (show Sum.inr k = q1 from rk1)
        have rv2 : RelV v q2 := rv1
        cases he : es.toList with
        | nil => rw [he] at h4; cases h4
        | cons e r =>
          rw [he] at h4
          cases h4 with
          | cons k1 k2 k3 =>
            cases r with
            | cons _ _ => cases k3
            | nil =>
              have k1' : keyIs (.inr k) e.key = true := k1
              rcases keyIs_shape k1' with ⟨i, t, e2, e1⟩ | ⟨z, t, e2, e1⟩
              · cases e2
              · cases e2
                obtain ⟨as, hr, hn⟩ := dq_reads I x v q2 hx rv2 (by
                  have := Bool.and_eq_true_iff.mp (show ((PyData.showable (.str k) && x.showable) && true) = true from sh)
                  exact (Bool.and_eq_true_iff.mp this.1).2)
                refine ⟨_, Reads.dict (as := [] ++ []) (bs := as ++ []) h1 h2 h3 (by rw [he]; show ReadsAll _ [e.key] [PyData.str k] _; rw [e1]; exact .cons (Reads.str k t) .nil) (by rw [he]; show ReadsAll _ [e.val] [x] _; rw [k2]; exact .cons hr .nil), fun l z => ?_⟩
                have hl : lstFree x = true := (Bool.and_eq_true_iff.mp (show (lstFree x && true) = true from l)).1
                have hz : sysModules = a ∨ sysModules ∈ as := by simpa using z
                rcases hz with hz | hz
                · rw [hz] at ya
                  simp at ya
                · exact hn hl hz
  | .dict (_ :: _ :: _), _, _, h, r, sh => by
    cases h with
    | kon h1 h2 h3 h4 h5 => exact absurd sh (kon_hid _ _ _)
    | adr _ _ h1 h2 => exact absurd sh (kon_hid _ _ _)
    | exc _ _ => exact absurd sh (kon_hid _ _ _)
    | exf _ _ _ _ => exact absurd sh (kon_hid _ _ _)
    | fn _ => exact absurd sh (kon_hid _ _ _)
    | idx _ _ => exact absurd sh (kon_hid _ _ _)
    | tab _ _ => exact absurd sh (kon_hid _ _ _)
    | tabT _ _ => exact absurd sh (kon_hid _ _ _)
    | mem _ _ _ _ _ => exact absurd sh (kon_hid _ _ _)
theorem dq_readsA {X : Cx} {pins : List (Addr × Obj)} {σ : L2.St} {H : Hp} {s : Shared} (I : Inv X pins σ H s) : ∀ (ds : List PyData) (vs : List V) (us : List Value), DqAll X.K H vs ds → Vals vs us → PyData.showableAll ds = true → ∃ as, ReadsAll s.heap us ds as ∧ (lstFreeA ds = true → sysModules ∉ as)
  | [], _, _, h, r, _ => by
    cases h; cases r
    exact ⟨_, ReadsAll.nil, fun _ => by simp⟩
  | d :: ds, _, _, h, r, sh => by
    cases h with
    | cons h1 h2 =>
      cases r with
      | cons r1 r2 =>
        have sh := Bool.and_eq_true_iff.mp (show (d.showable && PyData.showableAll ds) = true from sh)
        obtain ⟨as, q1, n1⟩ := dq_reads I d _ _ h1 r1 sh.1
        obtain ⟨bs, q2, n2⟩ := dq_readsA I ds _ _ h2 r2 sh.2
        refine ⟨_, ReadsAll.cons q1 q2, fun l z => ?_⟩
        have l' := Bool.and_eq_true_iff.mp (show (lstFree d && lstFreeA ds) = true from l)
        rcases List.mem_append.mp z with z | z
        · exact n1 l'.1 z
        · exact n2 l'.2 z
end
theorem at_Dq {K : PySem.W.Frag} {T : List Addr} {ρ : List (Option Addr)} {H : Hp} {v : V} {s : S} {x : PyData} (h : At K T ρ H v s) (e : asD s = some x) : Dq K H v x := by
  unfold asD at e
  split at e
  · cases e
    exact dpM hid_same _ h
  · cases e
    obtain ⟨a, o, rfl, h1, vs, rfl, h2⟩ := h
    exact .lst h1 (dpAllM hid_same _ h2)
  · cases e
/-- repr -/
def reprOk (x : PyData) : Bool := x.showable && (!x.hasDict || lstFree x) && decide (x.depth ≤ 60) && decide (x.shown.length ≤ sizeLine)
def fRepr : List S → Option S
  | [s] => (asS s).bind fun _ => (asD s).bind fun x => if reprOk x then some (.d (.str x.shown)) else none
  | _ => none
def rRepr (K : PySem.W.Frag) : List V → Hp → VK → Prop := fun vs H Q => ∃ a x, vs = [.ref a] ∧ Dq K H (.ref a) x ∧ reprOk x = true ∧ Q (.str x.shown) H
end
/-! ### tuple(range(n)), list(range(n)) -/
section
variable {X : Cx} {e : Expr} {p pos rp rpos : Pos}
def rgOk (m n : Int) : Prop := -(2 ^ 62) ≤ m ∧ m < 2 ^ 62 ∧ -(2 ^ 62) ≤ n ∧ n < 2 ^ 62 ∧ (n - m).toNat ≤ 2 ^ 24
instance (m n : Int) : Decidable (rgOk m n) := by unfold rgOk; infer_instance
end
end DL

namespace DL
open PySem PySem.Spec PyProof.Rows L2
variable [TB]

section
variable {X : Cx} {e : Expr} {p pos rp rpos : Pos}
/-! ### tuple(range(..)), list(range(..)) -/
def rgE1 (mk : List PyData → S) (f : PEV) : EV := fun δ => (f δ).bind fun x => (res x.2 x.1).bind fun s => (asI s).bind fun n => if rgOk 0 n then some (mk (rng 0 (n - 0).toNat), x.2) else none
/-! ### slices -/
def cutD (xs : List PyData) (lo hi : Option Int) : List PyData := (xs.drop (HT.sIx xs.length 0 lo)).take (HT.sIx xs.length xs.length hi - HT.sIx xs.length 0 lo)
def noP : Ds → Option (Option Int × Ds) := fun δ => some (none, δ)
def someP (f : PEV) : Ds → Option (Option Int × Ds) := fun δ => (f δ).bind fun x => match x.1 with
  | .v (.d (.int i)) => some (some i, x.2)
  | _ => none
def slE (f : PEV) (fl fh : Ds → Option (Option Int × Ds)) : EV := fun δ => (f δ).bind fun x => (fl x.2).bind fun l => (fh l.2).bind fun h => (res h.2 x.1).bind fun s => match asL s with
  | some xs => some (.o (.l (cutD xs l.1 h.1)), h.2)
  | none => (asT s).map fun xs => (.d (.tuple (cutD xs l.1 h.1)), h.2)
def liftO (K : PySem.W.Frag) (f : Ds → Option (Option Int × Ds)) : TO := fun σ H Q => ∃ T ρ δ i δ', Sim K T ρ δ σ H ∧ f δ = some (i, δ') ∧ ∀ ρ' H', Sim K T ρ' δ' σ H' → Ext T ρ H ρ' H' → Q i H'
theorem cut_all {xs : List PyData} {lo hi : Option Int} (h : HT.sIx xs.length 0 lo = 0 ∧ HT.sIx xs.length xs.length hi = xs.length) : cutD xs lo hi = xs := by
  unfold cutD
  rw [h.1, h.2]
  simp
/-! ### extend -/
theorem md_extend {K : PySem.W.Frag} : MutD K rExtend gExt := fun T ρ H a ys xs ds vs s zs Q h1 h2 h3 h4 h5 => by
  unfold gExt at h4
  split at h4
  · rename_i es
    split at h4
    · rename_i hl
      cases h4
      cases h3 with
      | cons q1 q2 =>
        cases q2
        cases q1 with
        | lst g1 g2 => exact ⟨a, _, ys, _, rfl, rfl, h1, hid_same _ _ g1, by rw [dpAll_len h2, dpAll_len g2]; exact hl, h5 _ _ (dpAll_app h2 g2) .non⟩
    · cases h4
  · cases h4
end

/-! ### several targets at once: what is new may be owned -/
section
variable {K : PySem.W.Frag} {T T' : List Addr} {ρ : List (Option Addr)} {δ : Ds} {σ : L2.St} {H : Hp}
theorem hid_tEq (h : ∀ b, b ∈ T ↔ b ∈ T') : hid T ρ H = hid T' ρ H := by
  funext b
  unfold hid
  simp only [h]
theorem Sim.tEq (s : Sim K T ρ δ σ H) (h : ∀ b, b ∈ T ↔ b ∈ T') : Sim K T' ρ δ σ H :=
  ⟨s.len, s.slen, fun i u hi => let ⟨v, a, b⟩ := s.slot i u hi; ⟨v, a, at_hid (hid_tEq h) b⟩, s.own, s.own', s.inj, fun i a hi hm => s.nt i a hi ((h a).mpr hm), fun a ha => s.tmp a ((h a).mpr ha), fun p hp => (h _).mp (s.tabT p hp), s.tabs⟩
/-- what was being made becomes a slot's -/
theorem Sim.adopt {i : Nat} {a : Addr} {o : HO} {c : C} (s : Sim K (a :: T) ρ δ σ H) (ha : a ∉ T) (ho : H a = some o) (hc : CO K (hid (a :: T) ρ H) o c) : ∃ ρ', Sim K T ρ' (δ.set i (some (.o c))) (σ.set i (some (.ref a))) H ∧ Same (hid (a :: T) ρ H) (hid T ρ' H) := by
  have less : Same (hid (a :: T) ρ H) (hid T ρ H) := hid_less fun b hb => hb.elim (fun z => .inl (List.mem_cons_of_mem _ z)) .inr
  have hr := hid_rm (T := T) (ρ := ρ) (H := H) (D := a)
  have hn : rm H a a = none := rm_self
  have sm : Sim K T ρ δ σ (rm H a) := by
    refine ⟨s.len, s.slen, fun j u hj => ?_, s.own, s.own', s.inj, fun j b hj hm => s.nt j b hj (List.mem_cons_of_mem _ hm), fun b hb => ?_, fun p hp => ?_, tabs_rm s.tabs (nb_of ho (co_nb hc).1 (co_nb hc).2)⟩
    · obtain ⟨v, e1, e2⟩ := s.slot j u hj
      refine ⟨v, e1, ?_⟩
      cases u with
      | o c' =>
        obtain ⟨b, f1, f2⟩ := s.own j c' hj
        rw [e1] at f2
        cases f2
        obtain ⟨b', x, z1, z2, z3⟩ := e2
        cases z1
        have ne : b ≠ a := fun z => by
          subst z
          exact s.nt j b f1 List.mem_cons_self
        exact ⟨b, x, rfl, by rw [rm_ne ne]; exact z2, by rw [hr]; exact z3⟩
      | d x => exact (show SV K (hid T ρ (rm H a)) v (.d x) by rw [hr]; exact e2)
      | t x => exact (show SV K (hid T ρ (rm H a)) v (.t x) by rw [hr]; exact e2)
      | z x => exact (show SV K (hid T ρ (rm H a)) v (.z x) by rw [hr]; exact e2)
      | p x => exact (show SV K (hid T ρ (rm H a)) v (.p x) by rw [hr]; exact e2)
    · obtain ⟨x, hx, hy⟩ := s.tmp b (List.mem_cons_of_mem _ hb)
      have ne : b ≠ a := fun z => by
        subst z
        exact ha hb
      exact ⟨x, by rw [rm_ne ne]; exact hx, hy⟩
    · rcases List.mem_cons.mp (s.tabT p hp) with z | z
      · obtain ⟨ps, h1, _⟩ := s.tabs p hp
        rw [z, ho] at h1
        exact absurd (Option.some.inj h1) ((co_nb hc).1 ps)
      · exact z
  obtain ⟨ρ', q1, q2⟩ := sm.setO (i := i) (o := o) (c := c) hn (by rw [hr]; exact hc)
  rw [rm_upd ho] at q1 q2
  refine ⟨ρ', q1, ?_⟩
  have := q2.same
  rw [hr] at this
  exact this
inductive FrAts (K : PySem.W.Frag) (G : Hp) (H : Hp) : List Addr → List V → List S → Prop
  | nil : FrAts K G H [] [] []
  | dat {F : List Addr} {v : V} {s : S} {vs : List V} {ss : List S} : SV K G v s → FrAts K G H F vs ss → FrAts K G H F (v :: vs) (s :: ss)
  | fr {F : List Addr} {a : Addr} {o : HO} {c : C} {vs : List V} {ss : List S} : H a = some o → CO K G o c → FrAts K G H F vs ss → FrAts K G H (a :: F) (.ref a :: vs) (.o c :: ss)
def setsD : List Nat → List S → Ds → Ds
  | i :: is, s :: ss, δ => setsD is ss (δ.set i (some s))
  | _, _, δ => δ
def setsV : List Nat → List V → L2.St → L2.St
  | i :: is, v :: vs, σ => setsV is vs (σ.set i (some v))
  | _, _, σ => σ
theorem fr_sets {G : Hp} : ∀ {F : List Addr} {vs : List V} {ss : List S}, FrAts K G H F vs ss → ∀ (is : List Nat) (ρ : List (Option Addr)) (δ : Ds) (σ : L2.St), is.length = ss.length → F.Nodup → (∀ a ∈ F, a ∉ T) → Sim K (F ++ T) ρ δ σ H → Same G (hid (F ++ T) ρ H) →
    ∃ ρ', Sim K T ρ' (setsD is ss δ) (setsV is vs σ) H ∧ Same G (hid T ρ' H)
  | _, _, _, .nil, is, ρ, δ, σ, hl, nd, hT, s, sm => by
    cases is with
    | nil => exact ⟨ρ, s, sm⟩
    | cons i is => cases hl
  | F, _, _, .dat (v := v) (s := u) hv r, is, ρ, δ, σ, hl, nd, hT, s, sm => by
    cases is with
    | nil => cases hl
    | cons i is =>
      obtain ⟨a, b⟩ := s.setD (i := i) (svM (s := u) sm hv)
      exact fr_sets r is _ _ _ (by simpa using hl) nd hT a (sm.trans b.same)
  | _, _, _, .fr (F := F) (a := a) ho hc r, is, ρ, δ, σ, hl, nd, hT, s, sm => by
    cases is with
    | nil => cases hl
    | cons i is =>
      obtain ⟨n1, n2⟩ := List.nodup_cons.mp nd
      obtain ⟨ρ', q1, q2⟩ := Sim.adopt (i := i) (T := F ++ T) s (fun z => (List.mem_append.mp z).elim n1 (hT a List.mem_cons_self)) ho (coM sm hc)
      exact fr_sets r is ρ' _ _ (by simpa using hl) n2 (fun b hb => hT b (List.mem_cons_of_mem _ hb)) q1 (sm.trans q2)
end
abbrev FEV := Ds → Option (List S × Ds)
def liftF (K : PySem.W.Frag) (f : FEV) : TA := fun σ H Q => ∃ T ρ δ ss δ', Sim K T ρ δ σ H ∧ f δ = some (ss, δ') ∧ ∀ F ρ' vs H', Sim K (F ++ T) ρ' δ' σ H' → Same (hid T ρ H) (hid (F ++ T) ρ' H') → (∀ a, a ∈ T → Kp (H a) (H' a)) → F.Nodup → (∀ a ∈ F, a ∉ T) → FrAts K (hid (F ++ T) ρ' H') H' F vs ss → Q vs H'
abbrev DF (X : Cx) (es : List Expr) (f : FEV) : Prop := PA X es (liftF X.K f)
def nilF : FEV := fun δ => some ([], δ)
def consF (f : EV) (g : FEV) : FEV := fun δ => (f δ).bind fun x => (g x.2).map fun y => (x.1 :: y.1, y.2)
section
variable {X : Cx} {e : Expr} {pos : Pos} {P : List Nat}
theorem df_nil : DF X [] nilF := pa_imp pa_nil fun σ H Q ⟨T, ρ, δ, ss, δ', hs, hf, hq⟩ => by
  cases hf
  exact hq [] ρ [] H hs (Same.refl _) (fun _ _ => .refl) List.nodup_nil (fun a ha => nomatch ha) .nil
theorem df_cons {es : List Expr} {f : EV} {g : FEV} (h1 : DE X e f) (h2 : DF X es g) (hstar : starEach (e :: es) X.env = (false, eval e X.env) :: starEach es X.env := by rfl) : DF X (e :: es) (consF f g) := pa_imp (pa_cons h1 h2 hstar) fun σ H Q ⟨T, ρ, δ, ss, δ', hs, hf, hq⟩ => by
  unfold consF at hf
  cases ea : f δ with
  | none => rw [ea] at hf; cases hf
  | some x =>
    obtain ⟨s, δ1⟩ := x
    rw [ea] at hf
    simp only [Option.bind_some] at hf
    cases eb : g δ1 with
    | none => rw [eb] at hf; cases hf
    | some y =>
      rw [eb] at hf
      have hf' := Option.some.inj hf
      obtain ⟨us, δ2⟩ := y
      cases hf'
      refine ⟨T, ρ, δ, s, δ1, hs, ea, ?_⟩
      have data : (∀ ρ1 v H1, Sim X.K T ρ1 δ1 σ H1 → Ext T ρ H ρ1 H1 → SV X.K (hid T ρ1 H1) v s → liftF X.K g σ H1 fun xs H2 => Q (v :: xs) H2) := by
        intro ρ1 v H1 s1 x1 hv
        refine ⟨T, ρ1, δ1, us, δ2, s1, eb, fun F ρ2 vs H2 s2 sm tm nd hT fr => ?_⟩
        exact hq F ρ2 (v :: vs) H2 s2 (x1.same.trans sm) (fun a ha => (x1.tmp a ha).trans (tm a ha)) nd hT (.dat (svM (s := s) sm hv) fr)
      cases s with
      | d c => exact data
      | t c => exact data
      | z c => exact data
      | p c => exact data
      | o c =>
        intro ρ1 p H0 o s1 x1 hp hc
        obtain ⟨npT, npρ⟩ := s1.trk.fresh hp
        have h0 : hid (p :: T) ρ1 (upd H0 p o) = hid T ρ1 H0 := hid_new hp
        refine ⟨p :: T, ρ1, δ1, us, δ2, s1.addTmp hp (co_nt hc), eb, fun F ρ2 vs H2 s2 sm tm nd hT fr => ?_⟩
        have mem : ∀ b, b ∈ F ++ p :: T ↔ b ∈ (p :: F) ++ T := fun b => by
          simp only [List.mem_append, List.mem_cons]
          constructor
          · rintro (h | h | h)
            · exact .inl (.inr h)
            · exact .inl (.inl h)
            · exact .inr h
          · rintro ((h | h) | h)
            · exact .inr (.inl h)
            · exact .inl h
            · exact .inr (.inr h)
        have hh := hid_tEq (ρ := ρ2) (H := H2) mem
        have pF : p ∉ F := fun z => hT p z List.mem_cons_self
        have hp2 : H2 p = some o := (tm p List.mem_cons_self).eq upd_same (co_nb hc).1
        refine hq (p :: F) ρ2 (.ref p :: vs) H2 (s2.tEq mem) ?_ ?_ (List.nodup_cons.mpr ⟨pF, nd⟩) ?_ ?_
        · rw [← hh]
          rw [h0] at sm
          exact x1.same.trans sm
        · intro a ha
          have ne : a ≠ p := fun z => npT (z ▸ ha)
          have q := tm a (List.mem_cons_of_mem _ ha)
          rw [upd_ne ne] at q
          exact (x1.tmp a ha).trans q
        · intro a ha
          rcases List.mem_cons.mp ha with z | z
          · rw [z]; exact npT
          · exact fun y => hT a z (List.mem_cons_of_mem _ y)
        · refine .fr hp2 ?_ (hh ▸ fr)
          rw [← hh]
          rw [h0] at sm
          exact coM sm hc
def parS (is : List Nat) (f : FEV) : SEV := fun δ => (f δ).bind fun x => if x.1.length = is.length then some (.nx (setsD is x.1 x.2)) else none
theorem setsV_keep : ∀ {is : List Nat} {vs : List V} {σ : L2.St} {j : Nat}, j ∉ is → (setsV is vs σ)[j]? = σ[j]?
  | [], _, _, _, _ => rfl
  | _ :: _, [], _, _, _ => rfl
  | i :: is, v :: vs, σ, j, h => by
    unfold setsV
    rw [setsV_keep fun z => h (List.mem_cons_of_mem _ z), List.getElem?_set_ne fun z => h (by rw [z]; exact List.mem_cons_self)]
theorem fr_len {K : PySem.W.Frag} {G H : Hp} : ∀ {F : List Addr} {vs : List V} {ss : List S}, FrAts K G H F vs ss → vs.length = ss.length
  | _, _, _, .nil => rfl
  | _, _, _, .dat _ r => by simp [fr_len r]
  | _, _, _, .fr _ _ r => by simp [fr_len r]
theorem par_ok {K : PySem.W.Frag} {is : List Nat} {f : FEV} (hP : ∀ i ∈ P, i ∉ is) {D : Ends} {σ : L2.St} {H : Hp} (h : liftS K P (parS is f) D σ H) : liftF K f σ H fun vs H1 => vs.length = is.length ∧ D.nx (setsV is vs σ) H1 ∧ ∀ p o, H1 p = none → D.nx (setsV is vs σ) (upd H1 p o) := by
  obtain ⟨T, ρ, δ, o, hs, hf, hq⟩ := h
  unfold parS at hf
  cases ea : f δ with
  | none => rw [ea] at hf; cases hf
  | some x =>
    obtain ⟨ss, δ1⟩ := x
    rw [ea] at hf
    simp only [Option.bind_some] at hf
    split at hf
    · rename_i hl
      cases hf
      refine ⟨T, ρ, δ, ss, δ1, hs, ea, fun F ρ1 vs H1 s1 sm tm nd hT fr => ?_⟩
      obtain ⟨ρ2, q1, q2⟩ := fr_sets fr is ρ1 δ1 σ hl.symm nd hT s1 (Same.refl _)
      have kp : Keep P σ (setsV is vs σ) := fun j hj => setsV_keep (hP j hj)
      have ex : Ext T ρ H ρ2 H1 := ⟨sm.trans q2, tm, fun _ => q1.tabs⟩
      refine ⟨by rw [fr_len fr]; exact hl, hq ρ2 _ H1 q1 ex kp, fun p u hp => ?_⟩
      exact hq ρ2 _ _ (q1.mono (same_new hp)) (ex.trans (q1.trk.extT (same_new hp))) kp
    · cases hf
theorem ds_par2 {i j : Nat} {x y : Str} {a b : Expr} {f : FEV} {px py pt : Pos} {kt k2 pt2} (hc : X.calm = true) (hN : X.N.Nodup) (hi : X.N[i]? = some x) (hj : X.N[j]? = some y) (hij : i ≠ j)
    (hx : X.env.scope.names.lookup x = some .local) (hy : X.env.scope.names.lookup y = some .local) (hP : ∀ m ∈ P, m ∉ [i, j]) (ha : DF X [a, b] f)
    (hw : swappedStores [.Tuple [.Name x px, .Name y py] kt pt] (.Tuple [a, b] k2 pt2) X.env = pure (some [x, y]))
    (hs : swapsWithSole [.Tuple [.Name x px, .Name y py] kt pt] (.Tuple [a, b] k2 pt2) pos.line X.env = pure false := by rfl) :
    DS X P (.Assign [.Tuple [.Name x px, .Name y py] kt pt] (.Tuple [a, b] k2 pt2) pos) (parS [i, j] f) := ps_imp (ps_par hc hN hi hj hij hx hy ha hw hs) fun D σ H h => by
  obtain ⟨T, ρ, δ, ss, δ', q1, q2, q3⟩ := par_ok hP h
  refine ⟨T, ρ, δ, ss, δ', q1, q2, fun F ρ' vs H' a1 a2 a3 a4 a5 a6 => ?_⟩
  obtain ⟨l, n, _⟩ := q3 F ρ' vs H' a1 a2 a3 a4 a5 a6
  match vs, l, n with
  | [v, w], _, n => exact ⟨v, w, rfl, n⟩
theorem ds_par3 {i j l : Nat} {x y z : Str} {a b c : Expr} {f : FEV} {px py pz pt : Pos} {kt k2 pt2} (hc : X.calm = true) (hN : X.N.Nodup) (hi : X.N[i]? = some x) (hj : X.N[j]? = some y) (hl : X.N[l]? = some z) (hij : i ≠ j) (hil : i ≠ l) (hjl : j ≠ l)
    (hx : X.env.scope.names.lookup x = some .local) (hy : X.env.scope.names.lookup y = some .local) (hz : X.env.scope.names.lookup z = some .local) (hP : ∀ m ∈ P, m ∉ [i, j, l]) (ha : DF X [a, b, c] f)
    (hw : swappedStores [.Tuple [.Name x px, .Name y py, .Name z pz] kt pt] (.Tuple [a, b, c] k2 pt2) X.env = pure (some [x, y, z]))
    (hs : swapsWithSole [.Tuple [.Name x px, .Name y py, .Name z pz] kt pt] (.Tuple [a, b, c] k2 pt2) pos.line X.env = pure false := by rfl) :
    DS X P (.Assign [.Tuple [.Name x px, .Name y py, .Name z pz] kt pt] (.Tuple [a, b, c] k2 pt2) pos) (parS [i, j, l] f) := ps_imp (ps_par3 hc hN hi hj hl hij hil hjl hx hy hz ha hw hs) fun D σ H h => by
  obtain ⟨T, ρ, δ, ss, δ', q1, q2, q3⟩ := par_ok hP h
  refine ⟨T, ρ, δ, ss, δ', q1, q2, fun F ρ' vs H' a1 a2 a3 a4 a5 a6 => ?_⟩
  obtain ⟨l, n, _⟩ := q3 F ρ' vs H' a1 a2 a3 a4 a5 a6
  match vs, l, n with
  | [v, w, u], _, n => exact ⟨v, w, u, rfl, n⟩
/-- .. by a tuple that is made and taken apart -/
def gNames : List Nat → TGs
  | [] => gNil
  | i :: is => gCons (gName i) (gNames is)
end
end DL

namespace DL
open PySem PySem.Spec PyProof.Rows L2
variable [TB]

/-! ### sorted -/
section
variable {α : Type}
def ins (lt : α → α → Bool) (x : α) : List α → List α
  | [] => [x]
  | y :: r => if lt y x then y :: ins lt x r else x :: y :: r
def isort (lt : α → α → Bool) : List α → List α
  | [] => []
  | x :: r => ins lt x (isort lt r)
variable {lt : α → α → Bool}
theorem ins_perm (x : α) : ∀ l : List α, (ins lt x l).Perm (x :: l)
  | [] => .refl _
  | y :: r => by
    unfold ins
    split
    · exact ((ins_perm x r).cons y).trans (.swap x y r)
    · exact .refl _
theorem isort_perm : ∀ l : List α, (isort lt l).Perm l
  | [] => .refl _
  | x :: r => (ins_perm x _).trans ((isort_perm r).cons x)
theorem ins_sorted (as : ∀ a b, lt a b = true → lt b a = false) (tr : ∀ a b c, lt b a = false → lt c b = false → lt c a = false) (x : α) : ∀ l : List α, l.Pairwise (fun a b => lt b a = false) → (ins lt x l).Pairwise (fun a b => lt b a = false)
  | [], _ => List.pairwise_singleton _ _
  | y :: r, h => by
    obtain ⟨h1, h2⟩ := List.pairwise_cons.mp h
    unfold ins
    split
    · rename_i hy
      refine List.pairwise_cons.mpr ⟨fun z hz => ?_, ins_sorted as tr x r h2⟩
      rcases List.mem_cons.mp ((ins_perm x r).mem_iff.mp hz) with e | e
      · subst e
        exact as _ _ hy
      · exact h1 z e
    · rename_i hy
      have hy' : lt y x = false := by simpa using hy
      refine List.pairwise_cons.mpr ⟨fun z hz => ?_, h⟩
      rcases List.mem_cons.mp hz with e | e
      · subst e
        exact hy'
      · exact tr _ _ _ hy' (h1 z e)
theorem isort_sorted (as : ∀ a b, lt a b = true → lt b a = false) (tr : ∀ a b c, lt b a = false → lt c b = false → lt c a = false) : ∀ l : List α, (isort lt l).Pairwise (fun a b => lt b a = false)
  | [] => .nil
  | x :: r => ins_sorted as tr x _ (isort_sorted as tr r)
theorem perm_uniq {R : α → α → Prop} (an : ∀ a b, R a b → R b a → a = b) : ∀ {l m : List α}, l.Perm m → l.Pairwise R → m.Pairwise R → l = m
  | [], m, p, _, _ => (List.nil_perm.mp p).symm
  | a :: l, [], p, _, _ => by cases List.perm_nil.mp p
  | a :: l, b :: m, p, h, k => by
    obtain ⟨h1, h2⟩ := List.pairwise_cons.mp h
    obtain ⟨k1, k2⟩ := List.pairwise_cons.mp k
    have e : a = b := by
      rcases List.mem_cons.mp (p.mem_iff.mp List.mem_cons_self) with e | e
      · exact e
      · rcases List.mem_cons.mp (p.mem_iff.mpr List.mem_cons_self) with e' | e'
        · exact e'.symm
        · exact an _ _ (h1 b e') (k1 a e)
    subst e
    rw [perm_uniq an p.cons_inv h2 k2]
end
def pr (p : Int × Int) : PyData := .tuple [.int p.1, .int p.2]
def prs : List PyData → Option (List (Int × Int))
  | [] => some []
  | .tuple [.int i, .int j] :: r => (prs r).map ((i, j) :: ·)
  | _ => none
theorem prs_eq : ∀ {xs : List PyData} {ps : List (Int × Int)}, prs xs = some ps → xs = ps.map pr
  | [], _, h => by cases h; rfl
  | x :: r, ps, h => by
    unfold prs at h
    split at h
    · rename_i heq
      cases heq
    · rename_i i j r' heq
      cases heq
      cases e : prs r with
      | none => rw [e] at h; cases h
      | some qs =>
        rw [e] at h
        cases h
        rw [prs_eq e]
        rfl
    · cases h
theorem prs_map : ∀ ps : List (Int × Int), prs (ps.map pr) = some ps
  | [] => rfl
  | p :: ps => by
    show (prs (ps.map pr)).map (p :: ·) = _
    rw [prs_map ps]
    rfl
abbrev sortP : List (Int × Int) → List (Int × Int) := isort SrtO.lexB
theorem lexB_as (a b : Int × Int) (h : SrtO.lexB a b = true) : SrtO.lexB b a = false := by
  have := SrtO.lexB_iff.mp h
  refine SrtO.lexB_no.mpr ?_
  omega
theorem lexB_tr (a b c : Int × Int) (h : SrtO.lexB b a = false) (k : SrtO.lexB c b = false) : SrtO.lexB c a = false := by
  have h := SrtO.lexB_no.mp h
  have k := SrtO.lexB_no.mp k
  refine SrtO.lexB_no.mpr ?_
  omega
theorem lexB_an (a b : Int × Int) (h : SrtO.lexB b a = false) (k : SrtO.lexB a b = false) : a = b := by
  have h := SrtO.lexB_no.mp h
  have k := SrtO.lexB_no.mp k
  apply Prod.ext <;> omega
def fSorted : List S → Option S
  | [s] => (asL s).bind fun xs => (prs xs).map fun ps => .o (.l ((sortP ps).map pr))
  | _ => none
def keyV (H : Hp) : V → Int × Int
  | .ref t => match H t with
    | some (.tup [.int i, .int j]) => (i, j)
    | _ => (0, 0)
  | _ => (0, 0)
theorem dq_pr {K : PySem.W.Frag} {G H : Hp} (e : Same G H) {v : V} {p : Int × Int} (h : Dq K G v (pr p)) : (∃ t, v = .ref t ∧ H t = some (.tup [.int (keyV H v).1, .int (keyV H v).2])) ∧ keyV H v = p := by
  cases h with
  | @tup t vs _ h1 h2 =>
    cases h2 with
    | cons a b =>
      cases b with
      | cons b c =>
        cases c
        cases a
        cases b
        have h3 := e _ _ h1
        have hk : keyV H (.ref t) = p := by
          unfold keyV
          simp only [h3]
        refine ⟨⟨t, rfl, ?_⟩, hk⟩
        rw [hk]
        exact h3
theorem dqAll_mem {K : PySem.W.Frag} {G : Hp} {vs : List V} {xs : List PyData} (h : DqAll K G vs xs) {v : V} (hv : v ∈ vs) : ∃ d, d ∈ xs ∧ Dq K G v d := by
  obtain ⟨i, hi⟩ := mem_ix hv
  obtain ⟨d, e, q⟩ := dpAll_getV h hi
  exact ⟨d, ix_mem e, q⟩
theorem dqAll_of {K : PySem.W.Frag} {G : Hp} {f : V → PyData} : ∀ {vs : List V}, (∀ v ∈ vs, Dq K G v (f v)) → DqAll K G vs (vs.map f)
  | [], _ => .nil
  | v :: vs, h => .cons (h v List.mem_cons_self) (dqAll_of fun w hw => h w (List.mem_cons_of_mem _ hw))
theorem cd_sorted {K : PySem.W.Frag} : CallD K (rSortedPO K) fSorted := fun T ρ H vs ss s Q k hp hg hq => by
  unfold fSorted at hg
  split at hg
  · rename_i u
    obtain ⟨v, rfl, h⟩ := paired1 hp
    cases e : asL u with
    | none => rw [e] at hg; cases hg
    | some xs =>
      rw [e] at hg
      simp only [Option.bind_some] at hg
      cases ep : prs xs with
      | none => rw [ep] at hg; cases hg
      | some ps =>
        rw [ep] at hg
        cases hg
        obtain ⟨a, ws, rfl, h1, h2⟩ := at_L h e
        have ex := prs_eq ep
        subst ex
        have each : ∀ v ∈ ws, (∃ t, v = .ref t ∧ H t = some (.tup [.int (keyV H v).1, .int (keyV H v).2])) ∧ Dq K (hid T ρ H) v (pr (keyV H v)) := fun v hv => by
          obtain ⟨d, hd, q⟩ := dqAll_mem h2 hv
          obtain ⟨p, _, rfl⟩ := List.mem_map.mp hd
          obtain ⟨q1, q2⟩ := dq_pr hid_same q
          exact ⟨q1, by rw [q2]; exact q⟩
        have kws : ws.map (keyV H) = ps := by
          apply List.ext_getElem?
          intro i
          rw [List.getElem?_map]
          cases ei : ws[i]? with
          | none =>
            have : ws.length = (ps.map pr).length := dpAll_len h2
            rw [List.length_map] at this
            have hl := List.getElem?_eq_none_iff.mp ei
            rw [List.getElem?_eq_none (by omega)]
            rfl
          | some v =>
            obtain ⟨d, e1, q⟩ := dpAll_getV h2 ei
            rw [List.getElem?_map] at e1
            cases e2 : ps[i]? with
            | none => rw [e2] at e1; cases e1
            | some p =>
              rw [e2] at e1
              cases e1
              exact congrArg some (dq_pr hid_same q).2
        refine ⟨a, ws, keyV H, rfl, SqL.of h1, fun v hv => (each v hv).1, fun ys n h3 h4 hn => ?_⟩
        have ey : ys.map (keyV H) = sortP ps := by
          refine perm_uniq (R := fun a b => SrtO.lexB b a = false) (fun a b => lexB_an a b) ?_ ?_ (isort_sorted lexB_as lexB_tr _)
          · have := h4.perm.map (keyV H)
            rw [kws] at this
            exact this.trans (isort_perm ps).symm
          · exact List.pairwise_map.mpr h3
        refine hq n _ hn ⟨ys, rfl, ?_⟩
        rw [← ey, List.map_map]
        exact dqAll_of fun v hv => (each v (h4.perm.mem_iff.mp hv)).2
  · cases hg

/-! ### zip of two lists -/
def zipD (xs ys : List PyData) : List PyData := (xs.zip ys).map fun p => .tuple [p.1, p.2]
def zipI (fa : AEV) : IEV := fun δ => (fa δ).bind fun x => match x.1 with
  | [.v (.d (.list xs)), .v (.d (.list ys))] => some (zipD xs ys, x.2)
  | _ => none
section
variable {X : Cx}
end
/-! ### t[::-1] -/
section
open HT
variable {prog : Program} {w : World} {A : Around} {E : Value → Shared → Prop} {s : Shared}
end
section
variable {X : Cx} {e : Expr}
/-- x[::-1] of a list or a tuple -/
def tRevS (K : PySem.W.Frag) (te : TE) : TE := fun σ H Q => te σ H fun x H1 => ∃ a xs, x = .ref a ∧ ((SqL K H1 a xs ∧ ∀ p, H1 p = none → Q (.ref p) (upd H1 p (.lst xs.reverse))) ∨ (SqT K H1 a xs ∧ ∀ p, H1 p = none → Q (.ref p) (upd H1 p (.tup xs.reverse))))
def revE (f : PEV) : EV := fun δ => (f δ).bind fun x => (res x.2 x.1).bind fun s => match asL s with
  | some xs => some (.o (.l xs.reverse), x.2)
  | none => (asT s).map fun xs => (.d (.tuple xs.reverse), x.2)
end
end DL

namespace DL
open PySem PySem.Spec PyProof.Rows L2
variable [TB]

/-- a def of the program that keeps its meaning F -/
def Def (Pr : Program) (w : World) (K : PySem.W.Frag) (mg : Str → Option Value) (base : Heap) (k : Nat) (name : Str) (ps : List Str) (F : FN) : Prop :=
  ∃ a fd, mg name = some (.ref a) ∧ PySem.W.keepIn K (.ref a) = true ∧ Binds K fd ps [] ∧ FnG Pr w K mg base k a fd ps (spF K ps.length F)
theorem def_mk {Pr : Program} {w : World} {K : PySem.W.Frag} {mg : Str → Option Value} {base : Heap} {x : Str} {st : Stmt} {f : Addr} {fd : FuncData} {N ps : List Str} {k : Nat} {P : List Nat} {body : SEV} (F : Fun K x x st f fd) (gm : mg x = some (.ref f)) (b : Binds K fd ps []) (Sc : FnScope N ps (defScope st))
    (hbody : ∀ (cdv : Value) (A : Around) (outer : List Env) (s : Shared) (H : Hp) (E : XK), A.guards = some [] → Room k (A.deeper (envOfC x (defScope st) s.heap.objs.size f cdv)) → DSs (cxOf CX0 Pr w K mg base N x (defScope st) f cdv A outer s H E).nox P (defBody st) body) :
    Def Pr w K mg base (k + 1) x ps (runF P N.length body) := ⟨f, fd, gm, F.kp, b, fn_ok F Sc hbody⟩
section
variable {X : Cx} {pos p : Pos} {e : Expr} {es : List Expr} {x : Str}
theorem de_own {k j m : Nat} {ps : List Str} {F : FN} {fa : AEV} (D : Def X.prog X.w X.K X.mg X.base k x ps F) (hm : ps.length = m) (hG : X.A.guards = some []) (hr : Room j X.A) (hk : k ≤ j) (hg : Gl X x) (ha : DA X (e :: es) fa) (hdb : (x == ("__debug__" : Str)) = false := by decide) (he : starEach (e :: es) X.env = (false, eval e X.env) :: starEach es X.env := by rfl) (hpl : (backTo pos (starEach es X.env)).any (·.1) = false := by rfl) :
    DE X (.Call (.Name x p) (e :: es) [] pos) (callE F m fa) := by
  subst hm
  obtain ⟨a, fd, h1, h2, h3, h4⟩ := D
  exact de_call h4 hG (hr.mono hk) hg h1 h2 h3 ha hdb he hpl
variable {fa : AEV}
theorem de_len (hm : X.mg "len" = none) (hg : Gl X "len") (ha : DA X (e :: es) fa) (he : starEach (e :: es) X.env = (false, eval e X.env) :: starEach es X.env := by rfl) (hpl : (backTo pos (starEach es X.env)).any (·.1) = false := by rfl) : DE X (.Call (.Name "len" p) (e :: es) [] pos) (callB fLen fa) :=
  de_callB call_len_seq cd_len hg hm PySem.boot_len ha (by decide) (by decide) he hpl
theorem de_abs (hm : X.mg "abs" = none) (hg : Gl X "abs") (ha : DA X (e :: es) fa) (he : starEach (e :: es) X.env = (false, eval e X.env) :: starEach es X.env := by rfl) (hpl : (backTo pos (starEach es X.env)).any (·.1) = false := by rfl) : DE X (.Call (.Name "abs" p) (e :: es) [] pos) (callB fAbs fa) :=
  de_callB call_abs cd_abs hg hm (by decide +kernel) ha (by decide) (by decide) he hpl
theorem de_int1 (hm : X.mg "int" = none) (hg : Gl X "int") (ha : DA X (e :: es) fa) (he : starEach (e :: es) X.env = (false, eval e X.env) :: starEach es X.env := by rfl) (hpl : (backTo pos (starEach es X.env)).any (·.1) = false := by rfl) : DE X (.Call (.Name "int" p) (e :: es) [] pos) (callB fInt fa) :=
  de_callTy call_int1 cd_int hg hm (by decide +kernel) ha (by decide) (by decide) he hpl
theorem de_max (hc : X.calm = true) (hm : X.mg "max" = none) (hg : Gl X "max") (ha : DA X (e :: es) fa) (he : starEach (e :: es) X.env = (false, eval e X.env) :: starEach es X.env := by rfl) (hpl : (backTo pos (starEach es X.env)).any (·.1) = false := by rfl) : DE X (.Call (.Name "max" p) (e :: es) [] pos) (callB fMax fa) :=
  de_callB (call_max2 hc) cd_max hg hm (by decide +kernel) ha (by decide) (by decide) he hpl
theorem de_min (hc : X.calm = true) (hm : X.mg "min" = none) (hg : Gl X "min") (ha : DA X (e :: es) fa) (he : starEach (e :: es) X.env = (false, eval e X.env) :: starEach es X.env := by rfl) (hpl : (backTo pos (starEach es X.env)).any (·.1) = false := by rfl) : DE X (.Call (.Name "min" p) (e :: es) [] pos) (callB fMin fa) :=
  de_callB (call_min2 hc) cd_min hg hm (by decide +kernel) ha (by decide) (by decide) he hpl
theorem de_all (hc : X.calm = true) (hm : X.mg "all" = none) (hg : Gl X "all") (ha : DA X (e :: es) fa) (he : starEach (e :: es) X.env = (false, eval e X.env) :: starEach es X.env := by rfl) (hpl : (backTo pos (starEach es X.env)).any (·.1) = false := by rfl) : DE X (.Call (.Name "all" p) (e :: es) [] pos) (callB fAll fa) :=
  de_callB (cr_all hc) cd_all hg hm (by decide +kernel) ha (by decide) (by decide) he hpl
theorem de_tuple (hm : X.mg "tuple" = none) (hg : Gl X "tuple") (ha : DA X (e :: es) fa) (he : starEach (e :: es) X.env = (false, eval e X.env) :: starEach es X.env := by rfl) (hpl : (backTo pos (starEach es X.env)).any (·.1) = false := by rfl) : DE X (.Call (.Name "tuple" p) (e :: es) [] pos) (callB fTuple fa) :=
  de_callTy call_tuple_of cd_tuple hg hm (by decide +kernel) ha (by decide) (by decide) he hpl
theorem de_list (hm : X.mg "list" = none) (hg : Gl X "list") (ha : DA X (e :: es) fa) (he : starEach (e :: es) X.env = (false, eval e X.env) :: starEach es X.env := by rfl) (hpl : (backTo pos (starEach es X.env)).any (·.1) = false := by rfl) : DE X (.Call (.Name "list" p) (e :: es) [] pos) (callB fList fa) :=
  de_callTy call_list_of cd_list hg hm (by decide +kernel) ha (by decide) (by decide) he hpl
theorem de_sorted (hm : X.mg "sorted" = none) (hg : Gl X "sorted") (ha : DA X (e :: es) fa) (he : starEach (e :: es) X.env = (false, eval e X.env) :: starEach es X.env := by rfl) (hpl : (backTo pos (starEach es X.env)).any (·.1) = false := by rfl) : DE X (.Call (.Name "sorted" p) (e :: es) [] pos) (callB fSorted fa) :=
  de_callB cr_sortedPO cd_sorted hg hm (by decide +kernel) ha (by decide) (by decide) he hpl
variable {a b : Expr} {fp fq : PEV} {k : Nat}
theorem de_ge (ha : DP X a fp) (hb : DP X b fq) : DE X (.Compare a [.GtE] [b] pos) (bin (cmpI pGe) fp fq) := de_cmp or_ge od_cmp ha hb (nomark _)
theorem de_eq (hr : Room k X.A) (ha : DP X a fp) (hb : DP X b fq) : DE X (.Compare a [.Eq] [b] pos) (bin opEq fp fq) := de_cmp (opr_or op_eq (op_eqD hr.units)) od_eq ha hb (nomark _)
theorem de_in (hr : Room k X.A) (ha : DP X a fp) (hb : DP X b fq) (hm : behindInMarks .In b = false := by rfl) : DE X (.Compare a [.In] [b] pos) (bin (opIn false) fp fq) := de_cmp (or_in (by have := hr.un; omega)) od_in ha hb hm
theorem dt_lt (ha : DP X a fp) (hb : DP X b fq) : DT X (.Compare a [.Lt] [b] pos) (bl (bin (cmpI pLt) fp fq)) := dt_cmp or_lt od_cmp ha hb (nomark _)
theorem dt_le (ha : DP X a fp) (hb : DP X b fq) : DT X (.Compare a [.LtE] [b] pos) (bl (bin (cmpI pLe) fp fq)) := dt_cmp or_le od_cmp ha hb (nomark _)
theorem dt_gt (ha : DP X a fp) (hb : DP X b fq) : DT X (.Compare a [.Gt] [b] pos) (bl (bin (cmpI pGt) fp fq)) := dt_cmp or_gt od_cmp ha hb (nomark _)
theorem dt_ge (ha : DP X a fp) (hb : DP X b fq) : DT X (.Compare a [.GtE] [b] pos) (bl (bin (cmpI pGe) fp fq)) := dt_cmp or_ge od_cmp ha hb (nomark _)
theorem dt_eq (hr : Room k X.A) (ha : DP X a fp) (hb : DP X b fq) : DT X (.Compare a [.Eq] [b] pos) (bl (bin opEq fp fq)) := dt_cmp (opr_or op_eq (op_eqD hr.units)) od_eq ha hb (nomark _)
theorem dt_in (hr : Room k X.A) (ha : DP X a fp) (hb : DP X b fq) (hm : behindInMarks .In b = false := by rfl) : DT X (.Compare a [.In] [b] pos) (bl (bin (opIn false) fp fq)) := dt_cmp (or_in (by have := hr.un; omega)) od_in ha hb hm
theorem de_append {x : Str} {opos apos cpos : Pos} {i : Nat} (q : PE X (.Name x opos) (tVar i)) (ha : DA X (e :: es) fa)
    (hbase : attributeBase (.Name x opos) "append" X.env (eval (.Name x opos) X.env) = eval (.Name x opos) X.env := by rfl)
    (hfew : ((backTo cpos (starEach (e :: es) X.env)).all (fun x => !x.1) && (backToKw cpos (keywordEach [] X.env)).all (fun x => x.1.isSome)
      && decide ((e :: es).length + ([] : List Keyword).length + (if ([] : List Keyword).isEmpty then 0 else 1) < 30)) = true := by rfl)
    (hline : (apos.endLine == cpos.line) = true := by rfl) (hs : starEach (e :: es) X.env = (false, eval e X.env) :: starEach es X.env := by rfl) (hplain : (backTo cpos (starEach es X.env)).any (·.1) = false := by rfl) :
    DE X (.Call (.Attribute (.Name x opos) "append" apos) (e :: es) [] cpos) (mutL i gApp fa) := de_mut PySem.F.plainAttrs_list PySem.F.slot_list_append PySem.F.type_list_append mt_append md_append q ha hbase hfew hline hs hplain
theorem de_extend {x : Str} {opos apos cpos : Pos} {i : Nat} (q : PE X (.Name x opos) (tVar i)) (ha : DA X (e :: es) fa)
    (hbase : attributeBase (.Name x opos) "extend" X.env (eval (.Name x opos) X.env) = eval (.Name x opos) X.env := by rfl)
    (hfew : ((backTo cpos (starEach (e :: es) X.env)).all (fun x => !x.1) && (backToKw cpos (keywordEach [] X.env)).all (fun x => x.1.isSome)
      && decide ((e :: es).length + ([] : List Keyword).length + (if ([] : List Keyword).isEmpty then 0 else 1) < 30)) = true := by rfl)
    (hline : (apos.endLine == cpos.line) = true := by rfl) (hs : starEach (e :: es) X.env = (false, eval e X.env) :: starEach es X.env := by rfl) (hplain : (backTo cpos (starEach es X.env)).any (·.1) = false := by rfl) :
    DE X (.Call (.Attribute (.Name x opos) "extend" apos) (e :: es) [] cpos) (mutL i gExt fa) := de_mut PySem.F.plainAttrs_list PySem.F.slot_list_extend PySem.F.type_list_extend mt_extend md_extend q ha hbase hfew hline hs hplain
end
end DL

namespace DL
open PySem PySem.Spec PyProof.Rows L2
variable [TB]

/-! ### comprehensions and loops, seen from the data -/
theorem set_none_self {δ : Ds} {i : Nat} (h : δ[i]? = some none) : δ.set i none = δ := by
  apply List.ext_getElem?
  intro j
  by_cases hj : i = j
  · subst hj
    rw [List.getElem?_set_self (List.getElem?_eq_some_iff.mp h).1, h]
  · rw [List.getElem?_set_ne hj]
theorem slot_none {δ : Ds} {i : Nat} (h : δ[i]? = some none) : slot δ i = none := by
  unfold slot
  rw [h]
  rfl
theorem lcD_pure {i : Nat} {tt : TEV} {te : EV} {δ : Ds} {p : PyData → Bool} {h : PyData → PyData} (hi : δ[i]? = some none) : ∀ {xs : List PyData}, (∀ x ∈ xs, tt (δ.set i (some (.d x))) = some (p x, δ.set i (some (.d x)))) → (∀ x ∈ xs, p x = true → te (δ.set i (some (.d x))) = some (.d (h x), δ.set i (some (.d x)))) →
    lcD [i] (nameG i) tt te xs δ = some ((xs.filter p).map h, δ)
  | [], _, _ => rfl
  | x :: xs, h1, h2 => by
    have hil : i < δ.length := (List.getElem?_eq_some_iff.mp hi).1
    have w : wipeD (δ.set i (some (.d x))) [i] = δ := by
      show (δ.set i (some (.d x))).set i none = δ
      rw [List.set_set, set_none_self hi]
    have no : noOwn [i] (δ.set i (some (.d x))) = true := by
      show (notOwn (slot (δ.set i (some (S.d x))) i) && true) = true
      unfold slot
      rw [List.getElem?_set_self hil]
      rfl
    have ih := lcD_pure (tt := tt) (te := te) (p := p) (h := h) hi (xs := xs) (fun y hy => h1 y (List.mem_cons_of_mem _ hy)) (fun y hy => h2 y (List.mem_cons_of_mem _ hy))
    unfold lcD
    show ((tt (δ.set i (some (.d x)))).bind _) = _
    rw [h1 x List.mem_cons_self]
    simp only [Option.bind_some]
    cases hp : p x with
    | true =>
      rw [if_pos rfl, h2 x List.mem_cons_self hp]
      simp only [Option.bind_some, frz]
      rw [if_pos no, w, ih, List.filter_cons_of_pos hp]
      rfl
    | false =>
      rw [if_neg Bool.false_ne_true, if_pos no, w, ih, List.filter_cons_of_neg (by rw [hp]; exact Bool.false_ne_true)]
theorem lcE_pure {i : Nat} {fi : IEV} {tt : TEV} {te : EV} {δ : Ds} {xs : List PyData} (p : PyData → Bool) (h : PyData → PyData) (hi : δ[i]? = some none) (hf : fi δ = some (xs, δ)) (h1 : ∀ x ∈ xs, tt (δ.set i (some (.d x))) = some (p x, δ.set i (some (.d x)))) (h2 : ∀ x ∈ xs, p x = true → te (δ.set i (some (.d x))) = some (.d (h x), δ.set i (some (.d x)))) (hl : xs.length ≤ sizeLine) :
    lcE [i] fi (nameG i) tt te δ = some (.o (.l ((xs.filter p).map h)), δ) := by
  unfold lcE
  rw [hf]
  simp only [Option.bind_some]
  have no : noOwn [i] δ = true := by
    show (notOwn (slot δ i) && true) = true
    rw [slot_none hi]
    rfl
  have w : wipeD δ [i] = δ := set_none_self hi
  rw [if_pos no, w, lcD_pure hi h1 h2]
  simp only [Option.bind_some]
  have hl2 : ((xs.filter p).map h).length ≤ sizeLine := by
    rw [List.length_map]
    exact Nat.le_trans (List.length_filter_le _ _) hl
  rw [if_pos hl2]
  show some (_, δ.set i (slot δ i)) = _
  rw [slot_none hi, set_none_self hi]
theorem lcE_map {i : Nat} {fi : IEV} {te : EV} {δ : Ds} {xs : List PyData} (h : PyData → PyData) (hi : δ[i]? = some none) (hf : fi δ = some (xs, δ)) (h2 : ∀ x ∈ xs, te (δ.set i (some (.d x))) = some (.d (h x), δ.set i (some (.d x)))) (hl : xs.length ≤ sizeLine) :
    lcE [i] fi (nameG i) yesT te δ = some (.o (.l (xs.map h)), δ) := by
  have := lcE_pure (tt := yesT) (fun _ => true) h hi hf (fun _ _ => rfl) (fun x hx _ => h2 x hx) hl
  rw [this, List.filter_eq_self.mpr (fun _ _ => rfl)]
theorem forD_inv {tg : GEV} {body : SEV} {I : Nat → Ds → Prop} : ∀ {xs : List PyData} {δ : Ds} (n : Nat), I n δ →
    (∀ (k : Nat) (x : PyData) (δ : Ds), xs[k]? = some x → I (n + k) δ → ∃ δ1 δ2, tg x δ = some δ1 ∧ body δ1 = some (.nx δ2) ∧ I (n + k + 1) δ2) → ∃ δ', forD tg body xs δ = some (.nx δ') ∧ I (n + xs.length) δ'
  | [], δ, n, h, _ => ⟨δ, rfl, h⟩
  | x :: xs, δ, n, h, st => by
    obtain ⟨δ1, δ2, e1, e2, h2⟩ := st 0 x δ rfl h
    obtain ⟨δ', e3, h3⟩ := forD_inv (tg := tg) (body := body) (I := I) (xs := xs) (δ := δ2) (n + 1) h2 (fun k y δ hy hI => by
      have := st (k + 1) y δ (by simpa using hy) (by rw [show n + (k + 1) = n + 1 + k by omega]; exact hI)
      rw [show n + (k + 1) + 1 = n + 1 + k + 1 by omega] at this
      exact this)
    refine ⟨δ', ?_, ?_⟩
    · unfold forD
      rw [e1]
      simp only [Option.bind_some]
      rw [e2]
      exact e3
    · rw [List.length_cons, show n + (xs.length + 1) = n + 1 + xs.length by omega]
      exact h3
/-! numbers of known size -/
theorem log_lt {x : Int} {a b : Nat} (h : x.natAbs < 2 ^ a) (h0 : 0 < a) (hab : a ≤ b) : x.natAbs.log2 < b := Nat.lt_of_lt_of_le (PySem.Flt.log2_lt_of h0 h) hab
theorem bits_le {x : Int} {a : Nat} (h : x.natAbs < 2 ^ a) (h0 : 0 < a) : Builtin.Int.intBits x ≤ a := by
  have := PySem.Flt.log2_lt_of h0 h
  unfold Builtin.Int.intBits
  split <;> omega
theorem iMul_ok {i j : Int} {a b : Nat} (ha : i.natAbs < 2 ^ a) (hb : j.natAbs < 2 ^ b) (h0 : 0 < a) (h1 : 0 < b) (h : a + b ≤ 100000) : iMul i j = some (i * j) := by
  unfold iMul
  have x := log_lt ha h0 (Nat.le_refl _)
  have y := log_lt hb h1 (Nat.le_refl _)
  rw [if_pos (by omega)]
theorem iDiv_ok {i j : Int} {b : Nat} (h : 0 < j) (hb : j.natAbs < 2 ^ b) (h1 : 0 < b) (h9 : b ≤ 9000) : iDiv i j = some (i / j) := by
  unfold iDiv
  rw [if_pos ⟨h, log_lt hb h1 h9⟩]
theorem iMod_ok {i j : Int} (h : 0 < j) : iMod i j = some (i % j) := by
  unfold iMod
  rw [if_pos h]
theorem iPow_ok {i j : Int} {a : Nat} (ha : i.natAbs < 2 ^ a) (h0 : 0 < a) (hj : 0 ≤ j) (hs : (a : Int) * j ≤ 2 ^ 27) : iPow i j = some (i ^ j.toNat) := by
  unfold iPow
  refine if_pos ⟨hj, ?_⟩
  have h1 : ((Builtin.Int.intBits i : Nat) : Int) ≤ (a : Int) := by
    have := bits_le ha h0
    omega
  have h2 := Int.mul_le_mul_of_nonneg_right h1 hj
  omega
theorem lt_pow_of {x : Int} {n : Nat} (h0 : 0 ≤ x) (h : x < (2 : Int) ^ n) : x.natAbs < 2 ^ n := by
  have e : ((2 ^ n : Nat) : Int) = (2 : Int) ^ n := by simp
  omega
/-! calls, seen from the data -/
theorem resA_v (δ : Ds) : ∀ ss : List S, resA δ (ss.map PV.v) = some ss
  | [] => rfl
  | s :: ss => by
    show ((some s).bind fun s => (resA δ (ss.map PV.v)).map (s :: ·)) = _
    rw [resA_v δ ss]
    rfl
theorem ix_v : ∀ ss : List S, (ss.map PV.v).filterMap PV.ix = []
  | [] => rfl
  | s :: ss => ix_v ss
theorem wb_v (δ : Ds) : ∀ (ss : List S) (cs : List (Option C)), ss.length ≤ cs.length → wb δ (ss.map PV.v) cs = some δ
  | [], cs, _ => by cases cs <;> rfl
  | s :: ss, [], h => by simp at h
  | s :: ss, c :: cs, h => by
    have := wb_v δ ss cs (by simpa using h)
    cases c <;> exact this
theorem callE_data {F : FN} {m : Nat} {fa : AEV} {δ δ' : Ds} {r : S} {cs : List (Option C)} (ss : List S) (ha : fa δ = some (ss.map PV.v, δ')) (hl : ss.length = m) (hF : F ss = some (r, cs)) (hc : ss.length ≤ cs.length) : callE F m fa δ = some (r, δ') := by
  unfold callE
  rw [ha]
  simp only [Option.bind_some]
  rw [resA_v]
  simp only [Option.bind_some]
  rw [if_pos ⟨by rw [ix_v]; exact List.nodup_nil, hl⟩, hF]
  simp only [Option.bind_some]
  rw [wb_v δ' ss cs hc]
  rfl
theorem callE_own {F : FN} {m i : Nat} {fa : AEV} {δ δ' : Ds} {r : S} {c c' : C} {cs : List (Option C)} (ss : List S) (ha : fa δ = some (.own i :: ss.map PV.v, δ')) (hi : slot δ' i = some (.o c)) (hl : ss.length + 1 = m) (hF : F (.o c :: ss) = some (r, some c' :: cs)) (hc : ss.length ≤ cs.length) : callE F m fa δ = some (r, δ'.set i (some (.o c'))) := by
  unfold callE
  rw [ha]
  simp only [Option.bind_some]
  have hr : resA δ' (.own i :: ss.map PV.v) = some (.o c :: ss) := by
    show ((slot δ' i).bind fun s => (resA δ' (ss.map PV.v)).map (s :: ·)) = _
    rw [hi, resA_v]
    rfl
  rw [hr]
  simp only [Option.bind_some]
  have hn : ((PV.own i :: ss.map PV.v).filterMap PV.ix).Nodup := by
    show (i :: (ss.map PV.v).filterMap PV.ix).Nodup
    rw [ix_v]
    exact List.nodup_cons.mpr ⟨List.not_mem_nil, List.nodup_nil⟩
  rw [if_pos ⟨hn, by rw [List.length_cons]; exact hl⟩, hF]
  simp only [Option.bind_some]
  have hw : wb δ' (.own i :: ss.map PV.v) (some c' :: cs) = some (δ'.set i (some (.o c'))) := by
    unfold wb
    rw [hi]
    exact wb_v _ ss cs hc
  rw [hw]
  rfl
theorem bools_map {α : Type} (f : α → Bool) : ∀ xs : List α, bools (xs.map fun x => .bool (f x)) = some (xs.map f)
  | [] => rfl
  | x :: xs => by
    show (bools (xs.map fun x => .bool (f x))).map (f x :: ·) = _
    rw [bools_map f xs]
    rfl
/-! one step at a time -/
section
variable {δ δ1 δ2 δ3 : Ds}
theorem retS_of {f : EV} {s : S} (h : f δ = some (s, δ1)) : retS f δ = some (.rt s δ1) := by unfold retS; rw [h]; rfl
theorem setS_of {i : Nat} {f : EV} {s : S} (h : f δ = some (s, δ1)) : setS i f δ = some (.nx (δ1.set i (some s))) := by unfold setS; rw [h]; rfl
theorem exprS_of {f : EV} {s : S} (h : f δ = some (s, δ1)) : exprS f δ = some (.nx δ1) := by unfold exprS; rw [h]; rfl
theorem seqS_of {f g : SEV} {o : Out} (h : f δ = some (.nx δ1)) (k : g δ1 = some o) : seqS f g δ = some o := by unfold seqS; rw [h]; exact k
theorem seqS_rt {f g : SEV} {s : S} (h : f δ = some (.rt s δ1)) : seqS f g δ = some (.rt s δ1) := by unfold seqS; rw [h]; rfl
theorem ifS_t {t : TEV} {f g : SEV} {o : Out} (h : t δ = some (true, δ1)) (k : f δ1 = some o) : ifS t f g δ = some o := by unfold ifS; rw [h]; exact k
theorem ifS_f {t : TEV} {f g : SEV} {o : Out} (h : t δ = some (false, δ1)) (k : g δ1 = some o) : ifS t f g δ = some o := by unfold ifS; rw [h]; exact k
theorem ifE_t {t : TEV} {f g : EV} {o : S × Ds} (h : t δ = some (true, δ1)) (k : f δ1 = some o) : ifE t f g δ = some o := by unfold ifE; rw [h]; exact k
theorem ifE_f {t : TEV} {f g : EV} {o : S × Ds} (h : t δ = some (false, δ1)) (k : g δ1 = some o) : ifE t f g δ = some o := by unfold ifE; rw [h]; exact k
theorem bl_of {f : EV} {b : Bool} (h : f δ = some (.d (.bool b), δ1)) : bl f δ = some (b, δ1) := by unfold bl; rw [h]; rfl
theorem notT_of {f : TEV} {b : Bool} (h : f δ = some (b, δ1)) : notT f δ = some (!b, δ1) := by unfold notT; rw [h]; rfl
theorem andT_t {f g : TEV} {o : Bool × Ds} (h : f δ = some (true, δ1)) (k : g δ1 = some o) : andT f g δ = some o := by unfold andT; rw [h]; exact k
theorem orT_f {f g : TEV} {o : Bool × Ds} (h : f δ = some (false, δ1)) (k : g δ1 = some o) : orT f g δ = some o := by unfold orT; rw [h]; exact k
theorem andV_t {f g : EV} {o : S × Ds} (h : f δ = some (.d (.bool true), δ1)) (k : g δ1 = some o) : andV f g δ = some o := by unfold andV; rw [h]; exact k
theorem frzP_of {f : EV} {s : S} (h : f δ = some (s, δ1)) : frzP f δ = some (.v (frz s), δ1) := by unfold frzP; rw [h]; rfl
theorem frzP_d {f : EV} {x : PyData} (h : f δ = some (.d x, δ1)) : frzP f δ = some (.v (.d x), δ1) := by unfold frzP; rw [h]; rfl
theorem frzP_l {f : EV} {xs : List PyData} (h : f δ = some (.o (.l xs), δ1)) : frzP f δ = some (.v (.d (.list xs)), δ1) := by unfold frzP; rw [h]; rfl
theorem consA_of {f : PEV} {g : AEV} {p : PV} {ps : List PV} (h : f δ = some (p, δ1)) (k : g δ1 = some (ps, δ2)) : consA f g δ = some (p :: ps, δ2) := by unfold consA; rw [h]; simp only [Option.bind_some]; rw [k]; rfl
theorem consF_of {f : EV} {g : FEV} {s : S} {ss : List S} (h : f δ = some (s, δ1)) (k : g δ1 = some (ss, δ2)) : consF f g δ = some (s :: ss, δ2) := by unfold consF; rw [h]; simp only [Option.bind_some]; rw [k]; rfl
theorem callB_of {g : List S → Option S} {fa : AEV} {ps : List PV} {ss : List S} {r : S} (h : fa δ = some (ps, δ1)) (k : resA δ1 ps = some ss) (l : g ss = some r) : callB g fa δ = some (r, δ1) := by unfold callB; rw [h]; simp only [Option.bind_some]; rw [k]; simp only [Option.bind_some]; rw [l]; rfl
theorem bin_of {g : S → S → Option S} {fa fb : PEV} {p q : PV} {a b r : S} (h : fa δ = some (p, δ1)) (k : fb δ1 = some (q, δ2)) (ha : res δ2 p = some a) (hb : res δ2 q = some b) (l : g a b = some r) : bin g fa fb δ = some (r, δ2) := by
  unfold bin; rw [h]; simp only [Option.bind_some]; rw [k]; simp only [Option.bind_some]; rw [ha]; simp only [Option.bind_some]; rw [hb]; simp only [Option.bind_some]; rw [l]; rfl
theorem bin_I {f : Int → Int → Option Int} {fa fb : PEV} {i j z : Int} (h : fa δ = some (.v (.d (.int i)), δ1)) (k : fb δ1 = some (.v (.d (.int j)), δ2)) (l : f i j = some z) : bin (opI2 f) fa fb δ = some (.d (.int z), δ2) :=
  bin_of h k rfl rfl (by show (f i j).map _ = _; rw [l]; rfl)
theorem bin_mul {fa fb : PEV} {i j z : Int} (h : fa δ = some (.v (.d (.int i)), δ1)) (k : fb δ1 = some (.v (.d (.int j)), δ2)) (l : iMul i j = some z) : bin opMul fa fb δ = some (.d (.int z), δ2) :=
  bin_of h k rfl rfl (by show (iMul i j).map _ = _; rw [l]; rfl)
theorem bin_ix {fa fb : PEV} {a : S} {j : Int} {r : S} (h : fa δ = some (.v a, δ1)) (k : fb δ1 = some (.v (.d (.int j)), δ2)) (l : opIx a (.d (.int j)) = some r) : bin opIx fa fb δ = some (r, δ2) := bin_of h k rfl rfl l
theorem bin_add {fa fb : PEV} {i j : Int} (h : fa δ = some (.v (.d (.int i)), δ1)) (k : fb δ1 = some (.v (.d (.int j)), δ2)) : bin opAdd fa fb δ = some (.d (.int (i + j)), δ2) := bin_of h k rfl rfl rfl
theorem bin_cmp {p : Int → Int → Bool} {fa fb : PEV} {i j : Int} (h : fa δ = some (.v (.d (.int i)), δ1)) (k : fb δ1 = some (.v (.d (.int j)), δ2)) : bin (cmpI p) fa fb δ = some (.d (.bool (p i j)), δ2) := bin_of h k rfl rfl rfl
theorem tupE_of {fa : AEV} {ps : List PV} {ds : List PyData} (h : fa δ = some (ps, δ1)) (k : dataA ps = some ds) (l : ds.length ≤ sizeLine) : tupE fa δ = some (.d (.tuple ds), δ1) := by unfold tupE; rw [h]; simp only [Option.bind_some]; rw [k]; simp only [Option.bind_some]; rw [if_pos l]
theorem lstE_of {fa : AEV} {ps : List PV} {ds : List PyData} (h : fa δ = some (ps, δ1)) (k : dataA ps = some ds) (l : ds.length ≤ sizeLine) : lstE fa δ = some (.o (.l ds), δ1) := by unfold lstE; rw [h]; simp only [Option.bind_some]; rw [k]; simp only [Option.bind_some]; rw [if_pos l]
theorem parS_of {is : List Nat} {f : FEV} {ss : List S} (h : f δ = some (ss, δ1)) (l : ss.length = is.length) : parS is f δ = some (.nx (setsD is ss δ1)) := by unfold parS; rw [h]; simp only [Option.bind_some]; rw [if_pos l]
theorem forS_of {fi : IEV} {g : GEV} {f : SEV} {xs : List PyData} {o : Out} (h : fi δ = some (xs, δ1)) (k : forD g f xs δ1 = some o) : forS fi g f δ = some o := by unfold forS; rw [h]; exact k
theorem seqI_of {f : EV} {s : S} {xs : List PyData} (h : f δ = some (s, δ1)) (k : frz s = .d (.list xs) ∨ frz s = .d (.tuple xs)) : seqI f δ = some (xs, δ1) := by
  unfold seqI; rw [h]; simp only [Option.bind_some]
  rcases k with k | k <;> rw [k]
theorem rngI1_of {fa : AEV} {n : Int} (h : fa δ = some ([.v (.d (.int n))], δ1)) (l : -(2 ^ 62) ≤ n ∧ n < 2 ^ 62) : rngI1 fa δ = some (rng 0 n.toNat, δ1) := by unfold rngI1; rw [h]; simp only [Option.bind_some]; rw [if_pos l]
theorem mutL_of {i : Nat} {g : List PyData → List PyData → Option (S × List PyData)} {fa : AEV} {ps : List PV} {ds ys0 ys zs : List PyData} {s : S} (h0 : slot δ i = some (.o (.l ys0))) (h : fa δ = some (ps, δ1)) (k : dataA ps = some ds) (h1 : slot δ1 i = some (.o (.l ys))) (l : g ys ds = some (s, zs)) : mutL i g fa δ = some (s, δ1.set i (some (.o (.l zs)))) := by
  unfold mutL; rw [h0]; simp only; rw [h]; simp only [Option.bind_some]; rw [k]; simp only [Option.bind_some]; rw [h1]; simp only; rw [l]; rfl
theorem setI_of {i : Nat} {fe fi : PEV} {d : PyData} {c0 : C} {k : Int} {xs : List PyData} {j : Nat} (h : fe δ = some (.v (.d d), δ1)) (h0 : slot δ1 i = some (.o c0)) (h1 : fi δ1 = some (.v (.d (.int k)), δ2)) (h2 : slot δ2 i = some (.o (.l xs))) (h3 : ixN xs.length k = some j) : setI i fe fi δ = some (.nx (δ2.set i (some (.o (.l (xs.set j d)))))) := by
  unfold setI; rw [h]; simp only [Option.bind_some]; rw [h0]; simp only; rw [h1]; simp only [Option.bind_some]; rw [h2]; simp only; rw [h3]; rfl
theorem runF_rt {P : List Nat} {n : Nat} {body : SEV} {ss : List S} {s : S} {cs : List (Option C)} (h : body (ss.map some ++ List.replicate (n - ss.length) none) = some (.rt s δ)) (k : ownC P 0 ss δ = some cs) : runF P n body ss = some (s, cs) := by
  unfold runF; rw [h]; show (ownC P 0 ss δ).map _ = _; rw [k]; rfl
end
section
variable {δ δ1 : Ds}
theorem lcE_pure1 {i : Nat} {fi : IEV} {tt : TEV} {te : EV} {xs : List PyData} (p : PyData → Bool) (h : PyData → PyData) (hf : fi δ = some (xs, δ1)) (hi : δ1[i]? = some none) (h1 : ∀ x ∈ xs, tt (δ1.set i (some (.d x))) = some (p x, δ1.set i (some (.d x)))) (h2 : ∀ x ∈ xs, p x = true → te (δ1.set i (some (.d x))) = some (.d (h x), δ1.set i (some (.d x)))) (hl : xs.length ≤ sizeLine) :
    lcE [i] fi (nameG i) tt te δ = some (.o (.l ((xs.filter p).map h)), δ1) := by
  have := lcE_pure (fi := fun _ => some (xs, δ1)) (tt := tt) (te := te) p h hi rfl h1 h2 hl
  unfold lcE at this ⊢
  rw [hf]
  exact this
end
end DL

namespace DL
open PySem PySem.Spec PyProof.Rows L2
variable [TB]

/-! ### two comparisons in one -/
def chn (g g' : S → S → Option S) (fa fb fc : PEV) : EV := fun δ => (fa δ).bind fun x => (fb x.2).bind fun y => (res y.2 x.1).bind fun s => (res y.2 y.1).bind fun u => (g s u).bind fun z => match z with
  | .d (.bool true) => (fc y.2).bind fun w => (res w.2 y.1).bind fun s' => (res w.2 w.1).bind fun u' => (g' s' u').map fun z' => (z', w.2)
  | .d (.bool false) => some (.d (.bool false), y.2)
  | _ => none
section
variable {X : Cx} {a b c : Expr} {pos : Pos} {fa fb fc : PEV}
/-! ### isinstance with a class of the language -/
def kdD : PyData → Option String
  | .none => some "NoneType"
  | .bool _ => some "bool"
  | .int _ => some "int"
  | .str _ => some "str"
  | .list _ => some "list"
  | .tuple _ => some "tuple"
  | .dict [] => some "dict"
  | .dict [_] => some "dict"
  | .dict _ => none
def kdS : S → Option String
  | .d x => kdD x
  | .o (.l _) => some "list"
  | _ => none
def isiK (t c : String) : Bool := t == c || (t == "bool" && c == "int")
def isiE (c : String) (f : PEV) : EV := fun δ => (f δ).bind fun x => (res x.2 x.1).bind fun s => (kdS s).map fun t => (.d (.bool (isiK t c)), x.2)
end
end DL

namespace DL
open PySem PySem.Spec PyProof.Rows L2
variable [TB]

/-! ### is None, is a truth -/
def isNon : S → Bool
  | .d .none => true
  | _ => false
def opIs (neg : Bool) (a b : S) : Option S := match b with
  | .d .none => some (.d (.bool (xor neg (isNon a))))
  | .d (.bool y) => match a with
    | .d (.bool x) => some (.d (.bool (xor neg (decide (x = y)))))
    | _ => none
  | _ => none
theorem at_non {K : PySem.W.Frag} {T : List Addr} {ρ : List (Option Addr)} {H : Hp} {v : V} {s : S} (h : At K T ρ H v s) : decide (v = V.non) = isNon s := by
  cases s with
  | d x =>
    have hv : Dq K (hid T ρ H) v x := h
    cases hv <;> rfl
  | o c =>
    obtain ⟨a, o, rfl, h1, h2⟩ := h
    rfl
  | t kvs =>
    obtain ⟨a, o, rfl, h1, h2⟩ := h
    rfl
  | z ns =>
    obtain ⟨a, rfl, h1⟩ := h
    rfl
  | p ns =>
    obtain ⟨a, rfl, h1⟩ := h
    rfl
theorem od_is {K : PySem.W.Frag} : OpD K (fun x y H Q => (y = V.non ∧ Q (V.bl (decide (x = V.non))) H) ∨ rIsB x y H Q) (opIs false) := fun T ρ H x y a b s Q k ha hb hg hq => by
  unfold opIs at hg
  split at hg
  · cases hg
    cases (show Dq K _ y .none from hb)
    refine .inl ⟨rfl, ?_⟩
    rw [at_non ha]
    rw [Bool.false_xor] at hq
    exact postO_same hq (.bl _)
  · split at hg
    · cases hg
      cases (show Dq K _ x (.bool _) from ha)
      cases (show Dq K _ y (.bool _) from hb)
      refine .inr ⟨_, _, rfl, rfl, ?_⟩
      rw [Bool.false_xor] at hq
      exact postO_same hq (.bl _)
    · cases hg
  · cases hg
section
variable {X : Cx} {a b : Expr} {pos : Pos} {fa fb : PEV}
theorem dt_is (ha : DP X a fa) (hb : DP X b fb) : DT X (.Compare a [.Is] [b] pos) (bl (bin (opIs false) fa fb)) := dt_cmp (opr_or op_isN op_isBl) od_is ha hb (nomark _)
end
end DL

namespace DL
open PySem PySem.Spec PyProof.Rows L2
variable [TB]

/-! ### insert, pop -/
def gIns (xs ds : List PyData) : Option (S × List PyData) := match ds with
  | [.int i, d] => if xs.length < sizeLine ∧ 0 ≤ i ∧ i < 2 ^ 63 then some (.d .none, xs.take i.toNat ++ [d] ++ xs.drop i.toNat) else none
  | _ => none
def gPopAt (xs ds : List PyData) : Option (S × List PyData) := match ds with
  | [.int i] => if -(2 ^ 63) ≤ i ∧ i < 2 ^ 63 then (seqIndex? i xs.length).bind fun k => (xs[k]?).map fun y => (.d y, xs.eraseIdx k) else none
  | _ => none
section
variable {X : Cx} {pos p : Pos} {e : Expr} {es : List Expr} {fa : AEV}
end
end DL

namespace DL
open PySem PySem.Spec PyProof.Rows L2
variable [TB]

/-! ### a comprehension with two for -/
def lcD2 (vs vs1 : List Nat) (g : GEV) (tt : TEV) (fi1 : IEV) (g1 : GEV) (tt1 : TEV) (te : EV) : List PyData → Ds → Option (List PyData × Ds)
  | [], δ => some ([], δ)
  | x :: xs, δ => (g x δ).bind fun δ1 => (tt δ1).bind fun b =>
    if b.1 then (fi1 b.2).bind fun z => if noOwn vs1 z.2 then (lcD vs1 g1 tt1 te z.1 (wipeD z.2 vs1)).bind fun r =>
      if noOwn vs r.2 then (lcD2 vs vs1 g tt fi1 g1 tt1 te xs (wipeD r.2 vs)).map fun q => (r.1 ++ q.1, q.2) else none else none
    else if noOwn vs b.2 then lcD2 vs vs1 g tt fi1 g1 tt1 te xs (wipeD b.2 vs) else none
def lc2E (vs vs1 : List Nat) (fi : IEV) (g : GEV) (tt : TEV) (fi1 : IEV) (g1 : GEV) (tt1 : TEV) (te : EV) : EV := fun δ => (fi δ).bind fun x =>
  if noOwn vs x.2 then (lcD2 vs vs1 g tt fi1 g1 tt1 te x.1 (wipeD x.2 vs)).bind fun r => if r.1.length ≤ sizeLine then some (.o (.l r.1), restD x.2 r.2 vs) else none else none
theorem wipe_sub {σ : L2.St} {vs vs1 : List Nat} (h : ∀ j ∈ vs1, j ∈ vs) : L2.wipe (L2.wipe σ vs1) vs = L2.wipe σ vs := wipe_only (ws := vs1) ⟨wipe_length _ _, fun j hj => wipe_ne hj⟩ h
section
variable {K : PySem.W.Frag}
theorem lc_in {vs1 ws1 : List Nat} {fi1 : IEV} {g1 : GEV} {tt1 : TEV} {te : EV} (hw1 : ∀ j ∈ ws1, j ∈ vs1) {T : List Addr} {ρ : List (Option Addr)} {δ δ1 δe : Ds} {σ : L2.St} {H : Hp} {D : Addr} {acc : List V} {dn ys out : List PyData} (hD : D ∈ T) (s : Sim K T ρ δ σ H) (hacc : H D = some (.lst acc)) (hdn : DqAll K (hid T ρ H) acc dn)
    (ei : fi1 δ = some (ys, δ1)) (hno : noOwn vs1 δ1 = true) (el : lcD vs1 g1 tt1 te ys (wipeD δ1 vs1) = some (out, δe)) (hsz : dn.length + out.length ≤ sizeLine) {Nx : Hp → Prop}
    (fin : ∀ ρ' H' acc', Sim K T ρ' δe (L2.wipe σ vs1) H' → Same (hid T ρ H) (hid T ρ' H') → (∀ a ∈ T, a ≠ D → Kp (H a) (H' a)) → H' D = some (.lst acc') → DqAll K (hid T ρ' H') acc' (dn ++ out) → Nx H') :
    liftI K fi1 σ H fun J1 H4 => ∃ W1 : Nat → Nat → Hp → Prop, (∃ m, W1 0 m H4) ∧ ∀ (j k : Nat) (H : Hp), W1 j k H → J1.stop j H ∧ Nx H ∨ J1.go j H ∧ ∃ Nx1 : Hp → Prop, (∀ H', Nx1 H' → ∃ k', k' < k ∧ W1 (j + 1) k' H') ∧ ∀ x H', J1.yld j H x H' → liftG K ws1 g1 x (L2.wipe σ vs1) H' fun σ3 H5 => L2.wipe σ3 vs1 = L2.wipe σ vs1 ∧ liftT K tt1 σ3 H5 fun b H6 => if b = true then lift K te σ3 H6 fun y H7 => ∃ acc, H7 D = some (.lst acc) ∧ acc.length < sizeLine ∧ Nx1 (upd H7 D (.lst (acc ++ [y]))) else Nx1 H6 := by
  refine ⟨T, ρ, δ, ys, δ1, s, ei, fun ρ1 H1 J s1 x1 sv => ?_⟩
  refine ⟨fun i m H' => ∃ ρ' δ2 acc' dn' rs, i + m = ys.length ∧ Sim K T ρ' δ2 (L2.wipe σ vs1) H' ∧ Same (hid T ρ1 H1) (hid T ρ' H') ∧ (∀ a ∈ T, a ≠ D → Kp (H1 a) (H' a)) ∧ H' D = some (.lst acc') ∧ DqAll K (hid T ρ' H') acc' (dn ++ dn') ∧
    lcD vs1 g1 tt1 te (ys.drop i) δ2 = some (rs, δe) ∧ dn' ++ rs = out, ⟨ys.length, ρ1, wipeD δ1 vs1, acc, [], out, by omega, s1.wipe hno, Same.refl _, fun _ _ _ => .refl, x1.at hD hacc, by rw [List.append_nil]; exact dpAllM x1.same _ hdn, el, rfl⟩, ?_⟩
  rintro i m H2 ⟨ρ2, δ2, acc2, dn2, rs, him, s2, sm, tm, hacc2, hdn2, hl, hout⟩
  have alen : acc2.length = dn.length + dn2.length := by rw [dpAll_len hdn2, List.length_append]
  by_cases hi : i < ys.length
  · have hd : ys.drop i = ys[i] :: ys.drop (i + 1) := by rw [List.drop_eq_getElem_cons hi]
    rw [hd] at hl
    unfold lcD at hl
    cases eg : g1 ys[i] δ2 with
    | none => rw [eg] at hl; cases hl
    | some δ3 =>
      rw [eg] at hl
      simp only [Option.bind_some] at hl
      cases et : tt1 δ3 with
      | none => rw [et] at hl; cases hl
      | some b =>
        obtain ⟨b, δ4⟩ := b
        rw [et] at hl
        simp only [Option.bind_some] at hl
        obtain ⟨go, yl⟩ := (sv i T ρ2 H2 sm s2.trk).1 _ (List.getElem?_eq_getElem hi)
        refine .inr ⟨go, fun H' => ∃ ρ' δ2 acc' dn' rs, Sim K T ρ' δ2 (L2.wipe σ vs1) H' ∧ Same (hid T ρ1 H1) (hid T ρ' H') ∧ (∀ a ∈ T, a ≠ D → Kp (H1 a) (H' a)) ∧ H' D = some (.lst acc') ∧ DqAll K (hid T ρ' H') acc' (dn ++ dn') ∧
          lcD vs1 g1 tt1 te (ys.drop (i + 1)) δ2 = some (rs, δe) ∧ dn' ++ rs = out, ?_, fun x H3 hy => ?_⟩
        · rintro H' ⟨ρ', δ5, acc', dn', rs', q1, q2, q3, q4, q5, q6, q7⟩
          exact ⟨m - 1, by omega, ρ', δ5, acc', dn', rs', by omega, q1, q2, q3, q4, q5, q6, q7⟩
        obtain ⟨y1, y2⟩ := yl x H3 hy
        have e2 := s2.trk.extT y1
        refine ⟨T, ρ2, δ2, ys[i], δ3, s2.mono y1, y2, eg, fun ρ4 σ4 H4 s4 x4 o4 => ?_⟩
        have hwp : L2.wipe σ4 vs1 = L2.wipe σ vs1 := by rw [wipe_only o4 hw1, wipe_idem]
        refine ⟨hwp, T, ρ4, δ3, b, δ4, s4, et, fun ρ5 H5 s5 x5 => ?_⟩
        have xx : Ext T ρ2 H2 ρ5 H5 := e2.trans (x4.trans x5)
        have fn : ∀ (ρ6 : List (Option Addr)) (δ6 : Ds) (H6 : Hp), Sim K T ρ6 δ6 σ4 H6 → Ext T ρ2 H2 ρ6 H6 → noOwn vs1 δ6 = true →
            Sim K T ρ6 (wipeD δ6 vs1) (L2.wipe σ vs1) H6 ∧ Same (hid T ρ1 H1) (hid T ρ6 H6) ∧ (∀ a ∈ T, a ≠ D → Kp (H1 a) (H6 a)) ∧ H6 D = some (.lst acc2) ∧ DqAll K (hid T ρ6 H6) acc2 (dn ++ dn2) := by
          intro ρ6 δ6 H6 s6 x6 n6
          have q := s6.wipe n6
          rw [hwp] at q
          exact ⟨q, sm.trans x6.same, fun a ha ne => (tm a ha ne).trans (x6.tmp a ha), x6.at hD hacc2, dpAllM x6.same _ hdn2⟩
        cases b with
        | false =>
          refine L2.iteF ?_
          rw [if_neg Bool.false_ne_true] at hl
          split at hl
          case isFalse => cases hl
          rename_i n5
          obtain ⟨q1, q2, q3, q4, q5⟩ := fn ρ5 δ4 H5 s5 xx n5
          exact ⟨ρ5, _, acc2, dn2, rs, q1, q2, q3, q4, q5, hl, hout⟩
        | true =>
          refine L2.iteT ?_
          rw [if_pos rfl] at hl
          cases ey : te δ4 with
          | none => rw [ey] at hl; cases hl
          | some y =>
            obtain ⟨u, δ6⟩ := y
            rw [ey] at hl
            simp only [Option.bind_some] at hl
            split at hl
            case h_2 => cases hl
            rename_i d hd'
            split at hl
            case isFalse => cases hl
            rename_i n6
            cases er : lcD vs1 g1 tt1 te (ys.drop (i + 1)) (wipeD δ6 vs1) with
            | none => rw [er] at hl; cases hl
            | some r =>
              obtain ⟨rs', δz⟩ := r
              rw [er] at hl
              cases hl
              have hlen : acc2.length < sizeLine := by
                have := hsz
                rw [← hout, List.length_append, List.length_cons] at this
                omega
              have each : ∀ (ρ7 : List (Option Addr)) (v : V) (H7 : Hp), Sim K T ρ7 δ6 σ4 H7 → Ext T ρ5 H5 ρ7 H7 → Dq K (hid T ρ7 H7) v d →
                  ∃ acc, H7 D = some (.lst acc) ∧ acc.length < sizeLine ∧ (∃ ρ' δ2 acc' dn' rs, Sim K T ρ' δ2 (L2.wipe σ vs1) (upd H7 D (.lst (acc ++ [v]))) ∧ Same (hid T ρ1 H1) (hid T ρ' (upd H7 D (.lst (acc ++ [v])))) ∧ (∀ a ∈ T, a ≠ D → Kp (H1 a) ((upd H7 D (.lst (acc ++ [v]))) a)) ∧ (upd H7 D (.lst (acc ++ [v]))) D = some (.lst acc') ∧ DqAll K (hid T ρ' (upd H7 D (.lst (acc ++ [v])))) acc' (dn ++ dn') ∧
                    lcD vs1 g1 tt1 te (ys.drop (i + 1)) δ2 = some (rs, δz) ∧ dn' ++ rs = out) := by
                intro ρ7 v H7 s7 x7 hv
                obtain ⟨q1, q2, q3, q4, q5⟩ := fn ρ7 δ6 H7 s7 (xx.trans x7) n6
                refine ⟨acc2, q4, hlen, ρ7, _, acc2 ++ [v], dn2 ++ [d], rs', q1.tmpW hD (nb_of q4), ?_, ?_, upd_same, ?_, er, by rw [List.append_assoc]; exact hout⟩
                · rw [hid_tmp hD]
                  exact q2
                · intro a ha ne
                  rw [upd_ne ne]
                  exact q3 a ha ne
                · rw [hid_tmp hD, ← List.append_assoc]
                  exact dpAll_app q5 (.cons hv .nil)
              refine ⟨T, ρ5, δ4, u, δ6, s5, ey, ?_⟩
              cases u with
              | o c =>
                intro ρ7 p H7 o s7 x7 hp hc
                have hn := frz_new s7.trk hp hc
                rw [hd'] at hn
                exact each ρ7 (.ref p) _ (s7.mono (same_new hp)) (x7.trans (s7.trk.extT (same_new hp))) hn
              | d c =>
                cases hd'
                exact fun ρ7 v H7 s7 x7 hv => each ρ7 v H7 s7 x7 hv
              | t c => cases hd'
              | z c => cases hd'
              | p c => cases hd'
  · have hd : ys.drop i = [] := List.drop_eq_nil_of_le (by omega)
    rw [hd] at hl
    cases hl
    rw [List.append_nil] at hout
    subst hout
    exact .inl ⟨(sv i T ρ2 H2 sm s2.trk).2 (by omega), fin ρ2 H2 acc2 s2 (x1.same.trans sm) (fun a ha ne => (x1.tmp a ha).trans (tm a ha ne)) hacc2 hdn2⟩
end
theorem lc2_ok {K : PySem.W.Frag} {vs ws vs1 ws1 : List Nat} {fi fi1 : IEV} {g g1 : GEV} {tt tt1 : TEV} {te : EV} (hw : ∀ j ∈ ws, j ∈ vs) (hw1 : ∀ j ∈ ws1, j ∈ vs1) (hv1 : ∀ j ∈ vs1, j ∈ vs) (σ : L2.St) (H : Hp) (Q : VK) (h : lift K (lc2E vs vs1 fi g tt fi1 g1 tt1 te) σ H Q) : tLc2 (liftI K fi) (liftG K ws g) (liftT K tt) (liftI K fi1) (liftG K ws1 g1) (liftT K tt1) (lift K te) vs vs1 σ H Q := by
  obtain ⟨T, ρ, δ, s, δ', hs, hf, hq⟩ := h
  unfold lc2E at hf
  cases ea : fi δ with
  | none => rw [ea] at hf; cases hf
  | some z =>
    obtain ⟨xs, δ1⟩ := z
    rw [ea] at hf
    simp only [Option.bind_some] at hf
    split at hf
    case isFalse => cases hf
    rename_i hno
    cases el : lcD2 vs vs1 g tt fi1 g1 tt1 te xs (wipeD δ1 vs) with
    | none => rw [el] at hf; cases hf
    | some r =>
      obtain ⟨out, δe⟩ := r
      rw [el] at hf
      simp only [Option.bind_some] at hf
      split at hf
      case isFalse => cases hf
      rename_i hsz
      cases hf
      refine ⟨T, ρ, δ, xs, δ1, hs, ea, fun ρ1 H1 J s1 x1 sv => ?_⟩
      intro D hD
      refine ⟨fun i m H' => ∃ ρ' δ2 acc dn rs, i + m = xs.length ∧ Sim K (D :: T) ρ' δ2 (L2.wipe σ vs) H' ∧ Same (hid T ρ1 H1) (hid (D :: T) ρ' H') ∧ (∀ a, a ∈ T → Kp (H1 a) (H' a)) ∧ H' D = some (.lst acc) ∧ DqAll K (hid (D :: T) ρ' H') acc dn ∧
        lcD2 vs vs1 g tt fi1 g1 tt1 te (xs.drop i) δ2 = some (rs, δe) ∧ dn ++ rs = out, ⟨xs.length, ρ1, wipeD δ1 vs, [], [], out, by omega, (s1.wipe hno).addTmp hD, ?_, ?_, upd_same, .nil, el, rfl⟩, ?_⟩
      · rw [hid_new hD]
        exact Same.refl _
      · intro a ha
        obtain ⟨o, ho, _⟩ := s1.tmp a ha
        rw [upd_ne (ne_of_none ho hD)]
        exact .refl
      rintro i m H2 ⟨ρ2, δ2, acc, dn, rs, him, s2, sm, tm, hacc, hdn, hl, hout⟩
      have alen : acc.length = dn.length := dpAll_len hdn
      by_cases hi : i < xs.length
      · have hd : xs.drop i = xs[i] :: xs.drop (i + 1) := by rw [List.drop_eq_getElem_cons hi]
        rw [hd] at hl
        unfold lcD2 at hl
        cases eg : g xs[i] δ2 with
        | none => rw [eg] at hl; cases hl
        | some δ3 =>
          rw [eg] at hl
          simp only [Option.bind_some] at hl
          cases et : tt δ3 with
          | none => rw [et] at hl; cases hl
          | some b =>
            obtain ⟨b, δ4⟩ := b
            rw [et] at hl
            simp only [Option.bind_some] at hl
            obtain ⟨go, yl⟩ := (sv i (D :: T) ρ2 H2 sm s2.trk).1 _ (List.getElem?_eq_getElem hi)
            refine .inr ⟨go, fun H' => ∃ ρ' δ2 acc dn rs, Sim K (D :: T) ρ' δ2 (L2.wipe σ vs) H' ∧ Same (hid T ρ1 H1) (hid (D :: T) ρ' H') ∧ (∀ a, a ∈ T → Kp (H1 a) (H' a)) ∧ H' D = some (.lst acc) ∧ DqAll K (hid (D :: T) ρ' H') acc dn ∧
              lcD2 vs vs1 g tt fi1 g1 tt1 te (xs.drop (i + 1)) δ2 = some (rs, δe) ∧ dn ++ rs = out, ?_, fun x H3 hy => ?_⟩
            · rintro H' ⟨ρ', δ5, acc', dn', rs', q1, q2, q3, q4, q5, q6, q7⟩
              exact ⟨m - 1, by omega, ρ', δ5, acc', dn', rs', by omega, q1, q2, q3, q4, q5, q6, q7⟩
            obtain ⟨y1, y2⟩ := yl x H3 hy
            have e2 := s2.trk.extT y1
            refine ⟨D :: T, ρ2, δ2, xs[i], δ3, s2.mono y1, y2, eg, fun ρ4 σ4 H4 s4 x4 o4 => ?_⟩
            have hwp : L2.wipe σ4 vs = L2.wipe σ vs := by rw [wipe_only o4 hw, wipe_idem]
            refine ⟨hwp, D :: T, ρ4, δ3, b, δ4, s4, et, fun ρ5 H5 s5 x5 => ?_⟩
            have xx : Ext (D :: T) ρ2 H2 ρ5 H5 := e2.trans (x4.trans x5)
            -- a turn's end
            have fin : ∀ (ρ6 : List (Option Addr)) (δ6 : Ds) (H6 : Hp), Sim K (D :: T) ρ6 δ6 σ4 H6 → Ext (D :: T) ρ2 H2 ρ6 H6 → noOwn vs δ6 = true →
                Sim K (D :: T) ρ6 (wipeD δ6 vs) (L2.wipe σ vs) H6 ∧ Same (hid T ρ1 H1) (hid (D :: T) ρ6 H6) ∧ (∀ a, a ∈ T → Kp (H1 a) (H6 a)) ∧ H6 D = some (.lst acc) ∧ DqAll K (hid (D :: T) ρ6 H6) acc dn := by
              intro ρ6 δ6 H6 s6 x6 n6
              have q := s6.wipe n6
              rw [hwp] at q
              exact ⟨q, sm.trans x6.same, fun a ha => (tm a ha).trans (x6.tmp a (List.mem_cons_of_mem _ ha)), x6.at List.mem_cons_self hacc, dpAllM x6.same _ hdn⟩
            cases b with
            | false =>
              refine L2.iteF ?_
              rw [if_neg Bool.false_ne_true] at hl
              split at hl
              case isFalse => cases hl
              rename_i n5
              obtain ⟨q1, q2, q3, q4, q5⟩ := fin ρ5 δ4 H5 s5 xx n5
              exact ⟨ρ5, _, acc, dn, rs, q1, q2, q3, q4, q5, hl, hout⟩
            | true =>
              refine L2.iteT ?_
              rw [if_pos rfl] at hl
              cases ei : fi1 δ4 with
              | none => rw [ei] at hl; cases hl
              | some y =>
                obtain ⟨ys, δ5⟩ := y
                rw [ei] at hl
                simp only [Option.bind_some] at hl
                split at hl
                case isFalse => cases hl
                rename_i n5
                cases er : lcD vs1 g1 tt1 te ys (wipeD δ5 vs1) with
                | none => rw [er] at hl; cases hl
                | some r =>
                  obtain ⟨o1, δ6⟩ := r
                  rw [er] at hl
                  simp only [Option.bind_some] at hl
                  split at hl
                  case isFalse => cases hl
                  rename_i n6
                  cases et2 : lcD2 vs vs1 g tt fi1 g1 tt1 te (xs.drop (i + 1)) (wipeD δ6 vs) with
                  | none => rw [et2] at hl; cases hl
                  | some q =>
                    obtain ⟨rs', δz⟩ := q
                    rw [et2] at hl
                    cases hl
                    have hlen : dn.length + o1.length ≤ sizeLine := by
                      have := hsz
                      rw [← hout, List.length_append, List.length_append] at this
                      omega
                    refine lc_in hw1 List.mem_cons_self s5 (xx.at List.mem_cons_self hacc) (dpAllM xx.same _ hdn) ei n5 er hlen fun ρ7 H7 acc7 s7 m7 t7 a7 d7 => ?_
                    have q := s7.wipe n6
                    rw [wipe_sub hv1, hwp] at q
                    exact ⟨ρ7, _, acc7, dn ++ o1, rs', q, sm.trans (xx.same.trans m7), fun a ha => by
                      have ne : a ≠ D := fun z => by
                        subst z
                        exact (s1.trk.fresh hD).1 ha
                      exact ((tm a ha).trans (xx.tmp a (List.mem_cons_of_mem _ ha))).trans (t7 a (List.mem_cons_of_mem _ ha) ne), a7, d7, et2, by rw [List.append_assoc]; exact hout⟩
      · have hd : xs.drop i = [] := List.drop_eq_nil_of_le (by omega)
        rw [hd] at hl
        cases hl
        rw [List.append_nil] at hout
        subst hout
        refine .inl ⟨(sv i (D :: T) ρ2 H2 sm s2.trk).2 (by omega), ?_⟩
        have hh : hid T ρ2 (rm H2 D) = hid (D :: T) ρ2 H2 := hid_rm
        rw [← rm_upd hacc]
        refine hq ρ2 D (rm H2 D) (.lst acc) ?_ (x1.trans ⟨by rw [hh]; exact sm, fun a ha => ?_, fun _ => tabs_rm s2.tabs (nb_of hacc)⟩) rm_self ⟨acc, rfl, by rw [hh]; exact hdn⟩
        · have lenE : δe.length = σ.length := by
            have := s2.slen
            rw [wipe_length] at this
            exact this.symm
          refine ⟨by rw [restD_len]; exact s2.len, by rw [restD_len]; exact lenE.symm, fun j u hj => ?_, fun j c hj => ?_, fun j a hj => ?_, s2.inj, fun j a hj hm => s2.nt j a hj (List.mem_cons_of_mem _ hm), fun a ha => ?_, s1.tabT, tabs_rm s2.tabs (nb_of hacc)⟩
          · by_cases hjv : j ∈ vs
            · have hjl : j < δe.length := by
                have := (List.getElem?_eq_some_iff.mp hj).1
                rw [restD_len] at this
                exact this
              rw [restD_in hjv hjl] at hj
              have hj' := slot_some (Option.some.inj hj)
              obtain ⟨v, e1, e2⟩ := s1.slot j u hj'
              refine ⟨v, e1, ?_⟩
              cases u with
              | o c => exact (notOwn_no (noOwn_mem hno hjv) hj').elim
              | d x => exact (show SV K (hid T ρ2 (rm H2 D)) v (.d x) by rw [hh]; exact svM (s := .d x) sm e2)
              | t x => exact (show SV K (hid T ρ2 (rm H2 D)) v (.t x) by rw [hh]; exact svM (s := .t x) sm e2)
              | z x => exact (show SV K (hid T ρ2 (rm H2 D)) v (.z x) by rw [hh]; exact svM (s := .z x) sm e2)
              | p x => exact (show SV K (hid T ρ2 (rm H2 D)) v (.p x) by rw [hh]; exact svM (s := .p x) sm e2)
            · rw [restD_ne hjv] at hj
              obtain ⟨v, e1, e2⟩ := s2.slot j u hj
              rw [wipe_ne hjv] at e1
              refine ⟨v, e1, ?_⟩
              cases u with
              | o c =>
                obtain ⟨b, f1, f2⟩ := s2.own j c hj
                rw [wipe_ne hjv, e1] at f2
                cases f2
                obtain ⟨a, x, z1, z2, z3⟩ := e2
                cases z1
                have ne : b ≠ D := fun z => by
                  subst z
                  exact s2.nt j b f1 List.mem_cons_self
                exact ⟨b, x, rfl, by rw [rm_ne ne]; exact z2, by rw [hh]; exact z3⟩
              | d x => exact (show SV K (hid T ρ2 (rm H2 D)) v (.d x) by rw [hh]; exact e2)
              | t x => exact (show SV K (hid T ρ2 (rm H2 D)) v (.t x) by rw [hh]; exact e2)
              | z x => exact (show SV K (hid T ρ2 (rm H2 D)) v (.z x) by rw [hh]; exact e2)
              | p x => exact (show SV K (hid T ρ2 (rm H2 D)) v (.p x) by rw [hh]; exact e2)
          · by_cases hjv : j ∈ vs
            · have hjl : j < δe.length := by
                have := (List.getElem?_eq_some_iff.mp hj).1
                rw [restD_len] at this
                exact this
              rw [restD_in hjv hjl] at hj
              exact (notOwn_no (noOwn_mem hno hjv) (slot_some (Option.some.inj hj))).elim
            · rw [restD_ne hjv] at hj
              obtain ⟨a, f1, f2⟩ := s2.own j c hj
              rw [wipe_ne hjv] at f2
              exact ⟨a, f1, f2⟩
          · obtain ⟨c, hc⟩ := s2.own' j a hj
            by_cases hjv : j ∈ vs
            · obtain ⟨b, f1, f2⟩ := s2.own j c hc
              have hjl : j < σ.length := by
                have := (List.getElem?_eq_some_iff.mp hc).1
                omega
              rw [wipe_in hjv hjl] at f2
              cases f2
            · exact ⟨c, by rw [restD_ne hjv]; exact hc⟩
          · have ne : a ≠ D := fun z => by
              subst z
              exact (s1.trk.fresh hD).1 ha
            rw [rm_ne ne]
            exact (tm a ha).nt (s1.tmp a ha)
        · have ne : a ≠ D := fun z => by
            subst z
            exact (s1.trk.fresh hD).1 ha
          rw [rm_ne ne]
          exact tm a ha

section
variable {X : Cx}
theorem de_lc2 {elt tg iter tg1 iter1 : Expr} {ifs ifs1 : List Expr} {scope : Scope} {own : List (Str × Nat)} {pos : Pos} {ws vs1 ws1 : List Nat} {fi fi1 : IEV} {g g1 : GEV} {tt tt1 : TEV} {te : EV} (hc : X.calm = true) (hN : X.N.Nodup) (hi : DI X tg iter fi) (ok : BlkOk X.N X.env.scope scope own) (hw : ∀ j ∈ ws, j ∈ own.map (·.2)) (hw1 : ∀ j ∈ ws1, j ∈ vs1) (hv1 : ∀ j ∈ vs1, j ∈ own.map (·.2))
    (hg : ∀ (s : Shared) (H : Hp) (C : Addr) (cl : List (Str × Addr)) (fp : List Addr), DG (X.blk s H scope (compEnvC scope cl C X.env) fp) ws tg g)
    (ht : ∀ (s : Shared) (H : Hp) (C : Addr) (cl : List (Str × Addr)) (fp : List Addr), DTs (X.blk s H scope (compEnvC scope cl C X.env) fp) ifs tt)
    (hi1 : ∀ (s : Shared) (H : Hp) (C : Addr) (cl : List (Str × Addr)) (fp : List Addr), DI (X.blk s H scope (compEnvC scope cl C X.env) fp) tg1 iter1 fi1)
    (hg1 : ∀ (s : Shared) (H : Hp) (C : Addr) (cl : List (Str × Addr)) (fp : List Addr), DG (X.blk s H scope (compEnvC scope cl C X.env) fp) ws1 tg1 g1)
    (ht1 : ∀ (s : Shared) (H : Hp) (C : Addr) (cl : List (Str × Addr)) (fp : List Addr), DTs (X.blk s H scope (compEnvC scope cl C X.env) fp) ifs1 tt1)
    (he : ∀ (s : Shared) (H : Hp) (C : Addr) (cl : List (Str × Addr)) (fp : List Addr), DE (X.blk s H scope (compEnvC scope cl C X.env) fp) elt te) (hs : ∀ x, foldedSetIterable iter X.env x = pure x := by intro _; rfl) (hs1 : ∀ (env : Env) x, foldedSetIterable iter1 env x = pure x := by intro _ _; rfl) :
    DE X (.ListComp elt [⟨tg, iter, ifs, 0⟩, ⟨tg1, iter1, ifs1, 0⟩] scope pos) (lc2E (own.map (·.2)) vs1 fi g tt fi1 g1 tt1 te) := pe_imp (pe_lc2 hc hN hi ok hv1 hg ht hi1 hg1 ht1 he hs hs1) (lc2_ok hw hw1 hv1)
end
end DL

namespace DL
open PySem PySem.Spec PyProof.Rows L2
variable [TB]

/-! ### tables -/
def key1 : PyData → Option Key
  | .int i => some (.inl i)
  | .str x => some (.inr x)
  | _ => none
def keyL : List PyData → Option (List Key)
  | [] => some []
  | d :: ds => (key1 d).bind fun k => (keyL ds).map fun ks => k :: ks
/-- whether it is flat, and the key -/
def keyS : S → Option (Bool × List Key)
  | .d (.tuple ds) => (keyL ds).map fun ks => (false, ks)
  | .d x => (key1 x).map fun k => (true, [k])
  | _ => none
def asTb : S → Option Tab
  | .t kvs => some kvs
  | .o (.t kvs) => some kvs
  | _ => none
theorem key1_v {K : PySem.W.Frag} {G : Hp} {v : V} {d : PyData} {k : Key} (h : Dq K G v d) (e : key1 d = some k) : v = kV k := by
  cases h with
  | int i => cases e; rfl
  | str x => cases e; rfl
  | non => cases e
  | bl b => cases e
  | lst a b => cases e
  | tup a b => cases e
  | dctE a => cases e
  | dct1 a b => cases e
  | kon _ _ _ _ _ => cases e
  | adr _ _ _ _ => cases e
  | exc _ _ => cases e
  | exf _ _ _ _ => cases e
  | fn _ => cases e
  | idx _ _ => cases e
  | tab _ _ => cases e
  | tabT _ _ => cases e
  | mem _ _ _ _ _ => cases e
theorem keyL_v {K : PySem.W.Frag} {G : Hp} : ∀ {vs : List V} {ds : List PyData} {ks : List Key}, DqAll K G vs ds → keyL ds = some ks → vs = ks.map kV
  | _, _, _, .nil, e => by cases e; rfl
  | _, _, _, .cons (d := d) (ds := ds) h t, e => by
    unfold keyL at e
    cases e1 : key1 d with
    | none => rw [e1] at e; cases e
    | some k =>
      rw [e1] at e
      simp only [Option.bind_some] at e
      cases e2 : keyL ds with
      | none => rw [e2] at e; cases e
      | some ks' =>
        rw [e2] at e
        cases e
        rw [key1_v h e1, keyL_v t e2]
        rfl
theorem at_key {K : PySem.W.Frag} {T : List Addr} {ρ : List (Option Addr)} {H : Hp} {v : V} {s : S} {f : Bool} {k : List Key} (h : At K T ρ H v s) (e : keyS s = some (f, k)) : (f = false ∧ ∃ b, v = .ref b ∧ hid T ρ H b = some (.tup (k.map kV))) ∨ (f = true ∧ ∃ x, k = [x] ∧ v = kV x) := by
  unfold keyS at e
  split at e
  · rename_i ds
    cases e1 : keyL ds with
    | none => rw [e1] at e; cases e
    | some ks =>
      rw [e1] at e
      cases e
      cases (show Dq K (hid T ρ H) v (.tuple _) from h) with
      | tup h1 h2 => exact .inl ⟨rfl, _, rfl, by rw [h1, keyL_v h2 e1]⟩
  · rename_i x _
    cases e1 : key1 x with
    | none => rw [e1] at e; cases e
    | some k1 =>
      rw [e1] at e
      cases e
      exact .inr ⟨rfl, k1, rfl, key1_v (show Dq K (hid T ρ H) v x from h) e1⟩
  · cases e
theorem at_tb {K : PySem.W.Frag} {T : List Addr} {ρ : List (Option Addr)} {H : Hp} {v : V} {s : S} {t : Tab} (h : At K T ρ H v s) (e : asTb s = some t) : ∃ a o, v = .ref a ∧ Rd H a o ∧ TbO K (hid T ρ H) o t := by
  unfold asTb at e
  split at e
  · cases e
    obtain ⟨a, o, h1, h2, h3⟩ := h
    exact ⟨a, o, h1, rdM hid_same h2, h3⟩
  · cases e
    obtain ⟨a, o, h1, h2, h3⟩ := h
    exact ⟨a, o, h1, .inl h2, h3⟩
  · cases e
def valK (kvs : List (List Key × PyData)) (k : List Key) : Option PyData := (kvs.find? fun p => decide (p.1 = k)).map (·.2)
theorem tv_val {K : PySem.W.Frag} {G : Hp} : ∀ {ws : List (List Key × V)} {kvs : List (List Key × PyData)} {k : List Key}, TV K G ws kvs → (valV ws k = none ∧ valK kvs k = none) ∨ ∃ v d, valV ws k = some v ∧ valK kvs k = some d ∧ Dq K G v d
  | _, _, _, .nil => .inl ⟨rfl, rfl⟩
  | _, _, k, .cons (a := p) (b := q) h t => by
    have ih := tv_val (k := k) t
    unfold valV valK at *
    rw [List.find?_cons, List.find?_cons, h.1]
    cases decide (q.1 = k) with
    | true => exact .inr ⟨_, _, rfl, rfl, h.2⟩
    | false => exact ih
theorem valV_one : ∀ (ws : List (Key × V)) (k : Key), valV (ws.map fun p => ([p.1], p.2)) [k] = valV ws k
  | [], _ => rfl
  | p :: ws, k => by
    have ih := valV_one ws k
    unfold valV at *
    rw [List.map_cons, List.find?_cons, List.find?_cons]
    have e : decide ([p.1] = [k]) = decide (p.1 = k) := by
      by_cases h : p.1 = k
      · rw [h, decide_eq_true rfl, decide_eq_true rfl]
      · rw [decide_eq_false h, decide_eq_false (fun z => h (List.cons.inj z).1)]
    rw [e]
    cases decide (p.1 = k) with
    | true => rfl
    | false => exact ih
/-- what a table holds at a key -/
theorem tb_get {K : PySem.W.Frag} {T : List Addr} {ρ : List (Option Addr)} {H : Hp} {x y : V} {a b : S} {k : List Key} {t : Tab} (ha : At K T ρ H x a) (hb : At K T ρ H y b) (e1 : keyS a = some (t.fl, k)) (e2 : asTb b = some t) :
    ∃ c r, y = .ref c ∧ DGet H c x r ∧ ((r = none ∧ valK t.kvs k = none) ∨ ∃ v d, r = some v ∧ valK t.kvs k = some d ∧ Dq K (hid T ρ H) v d) := by
  obtain ⟨c, o, rfl, hc, to⟩ := at_tb hb e2
  rcases to with ⟨f, ws, rfl, tv⟩ | ⟨f, ws, rfl, tv⟩
  · rcases at_key ha e1 with ⟨_, p, rfl, hp⟩ | ⟨f', _⟩
    · exact ⟨c, valV ws k, rfl, .inr ⟨ws, k, p, hc, rfl, hid_same _ _ hp, rfl⟩, tv_val tv⟩
    · rw [f] at f'; cases f'
  · rcases at_key ha e1 with ⟨f', _⟩ | ⟨_, k1, rfl, rfl⟩
    · rw [f] at f'; cases f'
    · refine ⟨c, valV ws k1, rfl, .inl ⟨ws, k1, hc, rfl, rfl⟩, ?_⟩
      rw [← valV_one ws k1]
      exact tv_val tv
def opInT (neg : Bool) (a b : S) : Option S := (keyS a).bind fun k => (asTb b).bind fun t => if k.1 = t.fl then some (.d (.bool (xor neg (valK t.kvs k.2).isSome))) else none
def rDIn (neg : Bool) : R2 := fun y x H Q => ∃ a o, x = .ref a ∧ DGet H a y o ∧ Q (.bl (xor neg o.isSome)) H
theorem od_inT {K : PySem.W.Frag} {neg : Bool} : OpD K (rDIn neg) (opInT neg) := fun T ρ H x y a b s Q k ha hb hg hq => by
  unfold opInT at hg
  cases e1 : keyS a with
  | none => rw [e1] at hg; cases hg
  | some ks =>
    rw [e1] at hg
    simp only [Option.bind_some] at hg
    cases e2 : asTb b with
    | none => rw [e2] at hg; cases hg
    | some t =>
      rw [e2] at hg
      simp only [Option.bind_some] at hg
      split at hg
      case isFalse => cases hg
      rename_i hf
      cases hg
      obtain ⟨c, r, rfl, g, hr⟩ := tb_get ha hb (k := ks.2) (by rw [← hf]; exact e1) e2
      refine ⟨c, r, rfl, g, ?_⟩
      rcases hr with ⟨rfl, hk⟩ | ⟨v, d, rfl, hk, _⟩ <;> rw [hk] at hq <;> exact postO_same hq (.bl _)
/-! either rule of two -/
theorem pe_or2 {X : Cx} {e : Expr} {t t' : TE} (p : PE X e t) (p' : PE X e t') : PE X e (fun σ H Q => t σ H Q ∨ t' σ H Q) := ⟨fun pins s σ H Q I h => h.elim (p.run pins s σ H Q I) (p'.run pins s σ H Q I)⟩
def opInX (neg : Bool) (a b : S) : Option S := match opInT neg a b with
  | some z => some z
  | none => opIn neg a b
theorem bin_x {g g' : S → S → Option S} {fa fb : PEV} {δ : Ds} {r : S × Ds} (h : bin (fun a b => match g a b with | some z => some z | none => g' a b) fa fb δ = some r) : bin g fa fb δ = some r ∨ bin g' fa fb δ = some r := by
  unfold bin at *
  cases ea : fa δ with
  | none => rw [ea] at h; cases h
  | some x =>
    rw [ea] at h
    simp only [Option.bind_some] at *
    cases eb : fb x.2 with
    | none => rw [eb] at h; cases h
    | some y =>
      rw [eb] at h
      simp only [Option.bind_some] at *
      cases e1 : res y.2 x.1 with
      | none => rw [e1] at h; cases h
      | some u =>
        rw [e1] at h
        simp only [Option.bind_some] at *
        cases e2 : res y.2 y.1 with
        | none => rw [e2] at h; cases h
        | some w =>
          rw [e2] at h
          simp only [Option.bind_some] at *
          cases e3 : g u w with
          | none => rw [e3] at h; exact .inr h
          | some z => rw [e3] at h; exact .inl h
theorem lift_x {K : PySem.W.Frag} {g g' : S → S → Option S} {fa fb : PEV} {σ : L2.St} {H : Hp} {Q : VK} (h : lift K (bin (fun a b => match g a b with | some z => some z | none => g' a b) fa fb) σ H Q) : lift K (bin g fa fb) σ H Q ∨ lift K (bin g' fa fb) σ H Q := by
  obtain ⟨T, ρ, δ, s, δ', hs, hf, hq⟩ := h
  exact (bin_x hf).elim (fun e => .inl ⟨T, ρ, δ, s, δ', hs, e, hq⟩) fun e => .inr ⟨T, ρ, δ, s, δ', hs, e, hq⟩
section
variable {X : Cx} {a b : Expr} {pos : Pos} {fp fq : PEV} {k : Nat}
theorem de_inT (hr : Room k X.A) (ha : DP X a fp) (hb : DP X b fq) (hm : behindInMarks .In b = false := by rfl) : DE X (.Compare a [.In] [b] pos) (bin (opInT false) fp fq) :=
  pe_imp (pe_cmp (pc_din (by have := hr.un; omega) ha hb) hm) fun σ H Q h => by
    have q := bin_ok (r := rDIn false) (X := X) od_inT σ H Q h
    simp only [tOp, rDIn, Bool.false_xor] at q
    exact q
theorem de_inX (hr : Room k X.A) (ha : DP X a fp) (hb : DP X b fq) (hm : behindInMarks .In b = false := by rfl) : DE X (.Compare a [.In] [b] pos) (bin (opInX false) fp fq) :=
  pe_imp (pe_or2 (de_inT hr ha hb hm) (de_in hr ha hb hm)) fun σ H Q h => lift_x h
end
end DL

namespace DL
open PySem PySem.Spec PyProof.Rows L2
variable [TB]

section
variable {X : Cx} {a b e : Expr} {es : List Expr} {pos p : Pos} {fa fb : PEV} {fs : AEV}
/-! x.bit_length() -/
/-! << -/
def iShl (i j : Int) : Option Int := if 0 ≤ j ∧ (Builtin.Int.intBits i : Int) + j ≤ 2 ^ 27 then some (i * 2 ^ j.toNat) else none
/-! repr, of numbers too -/
def fReprX : List S → Option S
  | [.d (.int i)] => if i.natAbs.log2 < 1920 then some (.d (.str (toString i))) else none
  | ss => fRepr ss
end
/-! a while, seen from the data -/
end DL

namespace DL
open PySem PySem.Spec PyProof.Rows L2
variable [TB]

/-! ### {k: v for ..}, a table of whichever kind of key -/
theorem dset_put {X : Cx} {pins : List (Addr × Obj)} {σ : L2.St} {G G' : Hp} {s : Shared} {E : Value → Shared → Prop} {D : Addr} {y v : V} {u r : Value} {Q : Unit → Shared → Prop} (hu : X.A.units + 1 < cLine) (I : Inv X pins σ G s) (p : DPut G D y v G') (ry : RelV y u) (rv : RelV v r)
    (h : ∀ s', Inv X pins σ G' s' → Q () s') : wpAny (model X.prog X.w) X.A (dictSet D u r) Q E s := by
  rcases p with ⟨kvs, k, e, rfl, l, rfl⟩ | ⟨kvs, k, b, e, rfl, eb, l, rfl⟩
  · exact d_dictSet I e l ry rv h
  · cases (show u = Value.ref b from ry)
    obtain ⟨lz, nm, xs, kt, dd⟩ := dt_of I.hok e
    have lx : xs.length ≤ sizeLine := Paired.length kt ▸ lz
    refine wpAny_dictSet_heap (hsz := lx) (show X.A.units < cLine by omega) (key_of I.hok eb) dd fun g' d' sb => h _ ?_
    obtain ⟨ob, es, ep, g1, g2, g3, g4, _, g5⟩ := d'
    have lp : (putK kvs k v).length ≤ sizeLine := Nat.le_trans (length_putK kvs k v) l
    have same : ∀ c ys, G c = some (.tup ys) → upd G D (.dT (putK kvs k v)) c = some (.tup ys) := fun c ys ec => (upd_ne (ne_of ec e (fun z => nomatch z))).trans ec
    exact d_write I (by rw [e]; trivial) sb ⟨ob, g1⟩ ⟨lp, nm, _, (kt.put k eb rv).keeps same, ob, es, ep, g1, g2, g3, g4, g5⟩
/-- how a turn stores -/
abbrev PutR := Hp → Addr → V → V → Hp → Prop
def PutOk (X : Cx) (Pu : PutR) : Prop := ∀ {pins : List (Addr × Obj)} {σ : L2.St} {G G' : Hp} {s : Shared} {E : Value → Shared → Prop} {D : Addr} {y v : V} {u r : Value} {Q : Unit → Shared → Prop}, Inv X pins σ G s → Pu G D y v G' → RelV y u → RelV v r → (∀ s', Inv X pins σ G' s' → Q () s') → wpAny (model X.prog X.w) X.A (dictSet D u r) Q E s
def tGdP (Pu : PutR) (o0 : HO) (wi : TI) (g : TG) (tt : TT) (tk tv : TE) (vs : List Nat) : TE := fun σ H Q => wi σ H fun J H1 => ∀ D, H1 D = none →
  ∃ W : Nat → Nat → Hp → Prop, (∃ m, W 0 m (upd H1 D o0)) ∧ ∀ i m G, W i m G → (J.stop i G ∧ Q (.ref D) G) ∨
    (J.go i G ∧ ∃ N : Hp → Prop, (∀ G', N G' → ∃ m', m' < m ∧ W (i + 1) m' G') ∧ ∀ x G', J.yld i G x G' → g x (L2.wipe σ vs) G' fun σ2 G2 => L2.wipe σ2 vs = L2.wipe σ vs ∧
      tt σ2 G2 fun b G3 => if b = true then tk σ2 G3 fun y G4 => tv σ2 G4 fun z G5 => ∃ G6, Pu G5 D y z G6 ∧ N G6 else N G3)
abbrev tGd (o0 : HO) (wi : TI) (g : TG) (tt : TT) (tk tv : TE) (vs : List Nat) : TE := tGdP DPut o0 wi g tt tk tv vs
def NewOk (X : Cx) (o0 : HO) : Prop := ∀ (h : Heap) (G : Hp), sysModules < h.objs.size → ObjOk X.prog X.w G (h.push { cls := .type "dict", data := .dict #[] }) h.objs.size o0
theorem newT {X : Cx} : NewOk X (.dT []) := fun h _ hb => dt_empty h hb
theorem newK {X : Cx} : NewOk X (.dK []) := fun h _ hb => dk_empty h hb
section
variable {X : Cx} {kx vx tg iter : Expr} {ifs : List Expr} {scope : Scope} {own : List (Str × Nat)} {pos : Pos} {wi : TI} {g : TG} {tt : TT} {tk tv : TE} {o0 : HO}
/-- all turns of the block -/
theorem gd_turns {Pu : PutR} (hpu : ∀ s0 H0 ce fp, PutOk (X.blk s0 H0 scope ce fp) Pu) {s0 : Shared} {H0 : Hp} {ce : Env} {fp : List Addr} {it D : Addr} {tn : Nat → Heap → Prop} {J : It} {W : Nat → Nat → Hp → Prop} {σ : L2.St} {vs : List Nat} {Q : Hp → Prop} {R : Result → Shared → Prop} (hu : X.A.units + 1 < cLine) (hc : X.calm = true) (T : Turn X.prog X.w X.K tg J fp it tn)
    (pg : PG (X.blk s0 H0 scope ce fp) tg g) (pt : PTs (X.blk s0 H0 scope ce fp) ifs tt) (pk : PE (X.blk s0 H0 scope ce fp) kx tk) (pe : PE (X.blk s0 H0 scope ce fp) vx tv)
    (turn : ∀ i m G, W i m G → (J.stop i G ∧ Q G) ∨ (J.go i G ∧ ∃ N : Hp → Prop, (∀ G', N G' → ∃ m', m' < m ∧ W (i + 1) m' G') ∧ ∀ x G', J.yld i G x G' → g x (L2.wipe σ vs) G' fun σ2 G2 => L2.wipe σ2 vs = L2.wipe σ vs ∧
      tt σ2 G2 fun b G3 => if b = true then tk σ2 G3 fun y G4 => tv σ2 G4 fun z G5 => ∃ G6, Pu G5 D y z G6 ∧ N G6 else N G3))
    (fin : ∀ G s', Inv (X.blk s0 H0 scope ce fp) [] (L2.wipe σ vs) G s' → Q G → R (.ok .next) s') {s : Shared} {m0 : Nat} {G0 : Hp} (I0 : Inv (X.blk s0 H0 scope ce fp) [] (L2.wipe σ vs) G0 s) (t0 : tn 0 s.heap) (n0 : ∀ b ∈ fp, G0 b = none) (w0 : W 0 m0 G0) :
    codeAny (model X.prog X.w) X.A (.compLoop (.DictComp kx vx [⟨tg, iter, ifs, 0⟩] scope pos) 0 (.ref it) (.ref D) ce) R s := by
  have hst : ∀ {σ' : L2.St} {G : Hp} {s' : Shared}, Inv (X.blk s0 H0 scope ce fp) [] σ' G s' → (∀ b ∈ fp, G b = none) → ∀ b ∈ fp, FpOk (X.blk s0 H0 scope ce fp) [] G b := fun {σ' G s'} I' hn b hb =>
    ⟨hn b hb, (I'.ok.exf b hb).1, I'.ok.exfs b hb, .inl hb, fun x c e => (I'.ok.exf b hb).2 x c e, fun p hp => by
      have hp' : p ∈ ([] : List (Addr × Obj)) ++ [] := hp
      simp at hp'⟩
  let L : Nat → Shared → Prop := fun n s' => ∃ i G, Inv (X.blk s0 H0 scope ce fp) [] (L2.wipe σ vs) G s' ∧ tn i s'.heap ∧ (∀ b ∈ fp, G b = none) ∧ W i n G
  refine compLoop_anyD L (fun n s1 hL => ?_) m0 ⟨0, G0, I0, t0, n0, w0⟩
  obtain ⟨i, G1, I1, t1, n1, w1⟩ := hL
  rcases turn i n G1 w1 with ⟨hs, q⟩ | ⟨hg, N, down, each⟩
  · refine thnF (T.done (X.blk s0 H0 scope ce fp) rfl rfl rfl hc i [] s1 _ G1 (fun _ _ => False) I1 (hst I1 n1) t1 hs) fun r s2 ⟨er, I2⟩ => ?_
    subst er
    exact fin G1 s2 I2 q
  · refine thnF (T.item (X.blk s0 H0 scope ce fp) rfl rfl rfl hc i [] s1 _ G1 (fun _ _ => False) I1 (hst I1 n1) t1 hg) fun r s2 ⟨u, er, h2⟩ => ?_
    subst er
    refine thnF h2 fun _ s3 ⟨x, G3, I3, r3, y3, t3, n3⟩ => ?_
    -- what a turn leaves
    have leave : ∀ {σ4 : L2.St} {s' : Shared} {G' : Hp}, L2.wipe σ4 vs = L2.wipe σ vs → Inv (X.blk s0 H0 scope ce fp) ([] ++ pinsAt fp s3.heap) σ4 G' s' → N G' → ∃ m, m < n ∧ L m s' := fun {σ4 s' G'} ew I' hN => by
      obtain ⟨m', lt, w'⟩ := down G' hN
      have held : ∀ b ∈ fp, ∀ o, s3.heap.get? b = some o → s'.heap.get? b = some o ∧ G' b = none := fun b hb o e => by
        have z := I'.pin (b, o) (List.mem_append_right _ (List.mem_append_right _ (mem_pinsAt hb e)))
        exact ⟨z.1, z.2.1⟩
      have len : (L2.wipe σ vs).length = σ4.length := by rw [← ew, wipe_length]
      have I5 : Inv (X.blk s0 H0 scope ce fp) [] (L2.wipe σ vs) G' s' := (I'.unpinned (pins := [])).weak len fun j v e => (wipe_some (by rw [ew]; exact e)).1
      refine ⟨m', lt, i + 1, G', I5, T.keep _ _ _ t3 fun b hb o e => (held b hb o e).1, fun b hb => ?_, w'⟩
      obtain ⟨o, e, _⟩ := T.obj _ _ t3 b hb
      exact (held b hb o e).2
    refine thnF (pg.run _ s3 _ G3 x u _ (I3.pinned (hst I3 n3) (T.obj _ _ t3)) r3 (each x G3 y3)) fun _ s4 ⟨σ4, G4, I4, ew, q4⟩ => ?_
    refine thnF (pt.run _ s4 σ4 G4 _ I4 q4) fun b s5 ⟨G5, I5, q5⟩ => ?_
    cases b with
    | false => exact leave ew I5 q5
    | true =>
      refine thnF (pk.run _ s5 σ4 G5 _ I5 q5) fun kv s6 ⟨yk, G6, I6, r6, q6⟩ => ?_
      refine thnF (pe.run _ s6 σ4 G6 _ I6 q6) fun vv s7 ⟨yv, G7, I7, r7, G8, hp, hN⟩ => ?_
      exact hpu s0 H0 ce fp I7 hp r6 r7 fun s8 I8 => leave ew I8 hN
theorem pe_gdP {Pu : PutR} (hpu : ∀ s0 H0 ce fp, PutOk (X.blk s0 H0 scope ce fp) Pu) (hnew : NewOk X o0) (hu : X.A.units + 1 < cLine) (hc : X.calm = true) (hN : X.N.Nodup) (hi : PI X tg iter wi) (ok : BlkOk X.N X.env.scope scope own)
    (hg : ∀ (s : Shared) (G : Hp) (C : Addr) (cl : List (Str × Addr)) (fp : List Addr), PG (X.blk s G scope (compEnvC scope cl C X.env) fp) tg g) (ht : ∀ (s : Shared) (G : Hp) (C : Addr) (cl : List (Str × Addr)) (fp : List Addr), PTs (X.blk s G scope (compEnvC scope cl C X.env) fp) ifs tt)
    (hk : ∀ (s : Shared) (G : Hp) (C : Addr) (cl : List (Str × Addr)) (fp : List Addr), PE (X.blk s G scope (compEnvC scope cl C X.env) fp) kx tk)
    (he : ∀ (s : Shared) (G : Hp) (C : Addr) (cl : List (Str × Addr)) (fp : List Addr), PE (X.blk s G scope (compEnvC scope cl C X.env) fp) vx tv) (hs : ∀ x, foldedSetIterable iter X.env x = pure x := by intro _; rfl) :
    PE X (.DictComp kx vx [⟨tg, iter, ifs, 0⟩] scope pos) (tGdP Pu o0 wi g tt tk tv (own.map (·.2))) := ⟨fun pins s σ H Q I h => by
  rw [arm_eval_DictComp]
  have cells : ∀ y ∈ scope.names, y.2 = .free → ∃ c, X.env.cells.lookup y.1 = some c := fun y hy e => (ok.free y hy e).elim (fun k => I.ok.has _ (.inl k)) fun k => I.ok.has _ (.inr k)
  refine wpAny_comprehension_free (use := none) rfl hs (closure_ok cells) ok.kind (fun y hy e => (ok.uniq y hy).trans (congrArg some e)) (thn (hi.run pins s σ H _ I h) fun xv s1 hx => thn hx fun itv s2 hy => ?_)
  obtain ⟨it, fp, tn, J, G2, rfl, I2, T, t2, f2, q⟩ := hy
  obtain ⟨W, ⟨m0, w0⟩, turn⟩ := q s2.heap.objs.size (I2.hok.fresh (Nat.le_refl _))
  have I3 : Inv X pins σ (upd G2 s2.heap.objs.size o0) { s2 with heap := s2.heap.push { cls := .type "dict", data := .dict #[] } } :=
    I2.laid (t' := s2.toks) (fun b o e => Heap.get?_push_of_some _ e) (Nat.le_refl _) (hnew s2.heap _ I2.big)
  have f3 : ∀ b ∈ fp, FpOk X pins (upd G2 s2.heap.objs.size o0) b ∧ b < (s2.heap.push { cls := .type "dict", data := .dict #[] }).objs.size := fun b hb => by
    obtain ⟨o, e, _⟩ := T.obj _ _ t2 b hb
    have lt : b < s2.heap.objs.size := Heap.lt_size e
    refine ⟨⟨(upd_ne (Nat.ne_of_lt lt)).trans (f2 b hb).1, (f2 b hb).2⟩, ?_⟩
    rw [Heap.size_push]
    exact Nat.lt_succ_of_lt lt
  have t3 : tn 0 (s2.heap.push { cls := .type "dict", data := .dict #[] }) := T.keep _ _ _ t2 fun b _ o e => Heap.get?_push_of_some _ e
  have I4 := block_start I3 ok hN f3
  have t4 := T.keep _ _ (pushCells ((s2.heap.push { cls := .type "dict", data := .dict #[] }).push { cls := .type "dict", data := .dict #[] }) scope.names) t3 fun b _ o e => pushCells_keeps _ _ _ _ (Heap.get?_push_of_some _ e)
  refine wpAny_newObj_type (newEnv_comp ?_)
  have all := gd_turns hpu (X := X) (pos := pos) (iter := iter) (R := compPost (model X.prog X.w) X.A X.xe none (fun v s' => ∃ x G', Inv X pins σ G' s' ∧ RelV x v ∧ Q x G') (.ref s2.heap.objs.size) (s2.heap.push { cls := .type "dict", data := .dict #[] }).objs.size) (Q := fun G => Q (.ref s2.heap.objs.size) G) hu hc T (hg _ _ _ _ _) (ht _ _ _ _ _) (hk _ _ _ _ _) (he _ _ _ _ _) turn (fun G s' J' hq => by
    have J1 : Inv X pins σ G s' := I3.call' (ch := fp) J'.os J'.base J'.hok J'.bare fun b hb => ⟨(f3 b hb).1.2.2.2.1, (f3 b hb).1.2.1, (f3 b hb).1.2.2.2.2.1, (f3 b hb).1.2.2.2.2.2⟩
    have free : G (s2.heap.push { cls := .type "dict", data := .dict #[] }).objs.size = none := J'.free
    obtain ⟨m, ns, _⟩ := J'.loc
    obtain ⟨a0, a1, a2, a3, a4, a5⟩ := I3.fpOk (Nat.le_refl _) free
    exact ⟨m, ns, fun h'' sb => ⟨.ref s2.heap.objs.size, G, J1.turned (t' := s'.toks) (fun b o hb e => (sb.2 b hb).trans e) a0 a1 a3 a4 a5, rfl, hq⟩⟩) I4 t4 (fun b hb => (f3 b hb).1.1) w0
  exact codeAny_compStart_dict all (T.self X.A 0 _ _ _ t4 all)⟩
theorem pe_gd (hnew : NewOk X o0) (hu : X.A.units + 1 < cLine) (hc : X.calm = true) (hN : X.N.Nodup) (hi : PI X tg iter wi) (ok : BlkOk X.N X.env.scope scope own)
    (hg : ∀ (s : Shared) (G : Hp) (C : Addr) (cl : List (Str × Addr)) (fp : List Addr), PG (X.blk s G scope (compEnvC scope cl C X.env) fp) tg g) (ht : ∀ (s : Shared) (G : Hp) (C : Addr) (cl : List (Str × Addr)) (fp : List Addr), PTs (X.blk s G scope (compEnvC scope cl C X.env) fp) ifs tt)
    (hk : ∀ (s : Shared) (G : Hp) (C : Addr) (cl : List (Str × Addr)) (fp : List Addr), PE (X.blk s G scope (compEnvC scope cl C X.env) fp) kx tk)
    (he : ∀ (s : Shared) (G : Hp) (C : Addr) (cl : List (Str × Addr)) (fp : List Addr), PE (X.blk s G scope (compEnvC scope cl C X.env) fp) vx tv) (hs : ∀ x, foldedSetIterable iter X.env x = pure x := by intro _; rfl) :
    PE X (.DictComp kx vx [⟨tg, iter, ifs, 0⟩] scope pos) (tGd o0 wi g tt tk tv (own.map (·.2))) := pe_gdP (fun s0 H0 ce fp => fun I p ry rv h => dset_put (X := X.blk s0 H0 scope ce fp) hu I p ry rv h) hnew hu hc hN hi ok hg ht hk he hs
end
end DL

namespace DL
open PySem PySem.Spec PyProof.Rows L2
variable [TB]

/-! ### {k: v for ..}, seen from the data -/
def putD (kvs : List (List Key × PyData)) (k : List Key) (d : PyData) : List (List Key × PyData) :=
  if (kvs.any fun p => decide (p.1 = k)) = true then kvs.map (fun p => if p.1 = k then (p.1, d) else p) else kvs ++ [(k, d)]
theorem putD_len (kvs : List (List Key × PyData)) (k : List Key) (d : PyData) : (putD kvs k d).length ≤ kvs.length + 1 := by
  unfold putD
  split
  · rw [List.length_map]; omega
  · rw [List.length_append]; exact Nat.le_refl _
section
variable {K : PySem.W.Frag} {G : Hp}
theorem tv_any : ∀ {ws : List (List Key × V)} {kvs : List (List Key × PyData)} {k : List Key}, TV K G ws kvs → (ws.any fun p => decide (p.1 = k)) = (kvs.any fun p => decide (p.1 = k))
  | _, _, _, .nil => rfl
  | _, _, k, .cons (a := p) (b := q) h t => by
    rw [List.any_cons, List.any_cons, h.1, tv_any t]
theorem tv_map {k : List Key} {v : V} {d : PyData} (hv : Dq K G v d) : ∀ {ws : List (List Key × V)} {kvs : List (List Key × PyData)}, TV K G ws kvs → TV K G (ws.map fun p => if p.1 = k then (p.1, v) else p) (kvs.map fun p => if p.1 = k then (p.1, d) else p)
  | _, _, .nil => .nil
  | _, _, .cons (a := p) (b := q) h t => by
    refine .cons ?_ (tv_map hv t)
    show (if p.1 = k then (p.1, v) else p).1 = (if q.1 = k then (q.1, d) else q).1 ∧ Dq K G (if p.1 = k then (p.1, v) else p).2 (if q.1 = k then (q.1, d) else q).2
    by_cases e : q.1 = k
    · rw [if_pos e, if_pos (h.1.trans e)]
      exact ⟨h.1, hv⟩
    · rw [if_neg e, if_neg (fun z => e (h.1.symm.trans z))]
      exact h
theorem tv_put {ws : List (List Key × V)} {kvs : List (List Key × PyData)} {k : List Key} {v : V} {d : PyData} (h : TV K G ws kvs) (hv : Dq K G v d) : TV K G (putK ws k v) (putD kvs k d) := by
  unfold putK putD
  rw [tv_any h]
  split
  · exact tv_map hv h
  · exact Paired.snoc h ⟨rfl, hv⟩
theorem put_one (ws : List (Key × V)) (k : Key) (v : V) : (putK ws k v).map (fun p => ([p.1], p.2)) = putK (ws.map fun p => ([p.1], p.2)) [k] v := by
  have e : ∀ p : Key × V, decide ([p.1] = [k]) = decide (p.1 = k) := fun p => by
    by_cases h : p.1 = k
    · rw [h, decide_eq_true rfl, decide_eq_true rfl]
    · rw [decide_eq_false h, decide_eq_false (fun z => h (List.cons.inj z).1)]
  unfold putK
  rw [List.any_map]
  have ea : (ws.any fun kv => decide (kv.1 = k)) = ws.any ((fun kv => decide (kv.1 = [k])) ∘ fun p : Key × V => ([p.1], p.2)) := by
    congr 1
    funext p
    exact (e p).symm
  rw [ea]
  split
  · rw [List.map_map, List.map_map]
    congr 1
    funext p
    show _ = if [p.1] = [k] then _ else _
    by_cases h : p.1 = k
    · rw [if_pos (show [p.1] = [k] by rw [h])]
      show ((fun q : Key × V => ([q.1], q.2)) (if p.1 = k then (p.1, v) else p)) = _
      rw [if_pos h]
    · rw [if_neg (fun z => h (List.cons.inj z).1)]
      show ((fun q : Key × V => ([q.1], q.2)) (if p.1 = k then (p.1, v) else p)) = _
      rw [if_neg h]
  · rw [List.map_append]
    rfl
end
section
variable {K : PySem.W.Frag} {T : List Addr} {ρ : List (Option Addr)} {H : Hp}
/-- a table is written at a key: the new object -/
theorem tb_put {D : Addr} {o : HO} {t : Tab} {x v : V} {a : S} {k : List Key} {d : PyData} (hx : At K T ρ H x a) (e1 : keyS a = some (t.fl, k)) (hD : H D = some o) (ht : TbO K (hid T ρ H) o t) (hv : Dq K (hid T ρ H) v d) (hl : t.kvs.length < sizeLine) :
    ∃ o', DPut H D x v (upd H D o') ∧ TbO K (hid T ρ H) o' ⟨t.fl, putD t.kvs k d⟩ := by
  rcases ht with ⟨f, ws, rfl, tv⟩ | ⟨f, ws, rfl, tv⟩
  · rcases at_key hx e1 with ⟨_, p, rfl, hp⟩ | ⟨f', _⟩
    · exact ⟨.dT (putK ws k v), DPut.t hD (hid_same _ _ hp) (by rw [Paired.length tv]; exact hl), .inl ⟨f, _, rfl, tv_put tv hv⟩⟩
    · rw [f] at f'; cases f'
  · rcases at_key hx e1 with ⟨f', _⟩ | ⟨_, k1, rfl, rfl⟩
    · rw [f] at f'; cases f'
    · refine ⟨.dK (putK ws k1 v), DPut.k hD ?_, .inr ⟨f, _, rfl, ?_⟩⟩
      · have := Paired.length tv
        rw [List.length_map] at this
        omega
      · rw [put_one]
        exact tv_put tv hv
end
def oNew (fl : Bool) : HO := if fl then .dK [] else .dT []
theorem newOk {X : Cx} (fl : Bool) : NewOk X (oNew fl) := by
  cases fl
  · exact newT
  · exact newK
theorem tbo_new {K : PySem.W.Frag} {G : Hp} (fl : Bool) : TbO K G (oNew fl) ⟨fl, []⟩ := by
  cases fl
  · exact .inl ⟨rfl, [], rfl, .nil⟩
  · exact .inr ⟨rfl, [], rfl, .nil⟩
def dcD (fl : Bool) (vs : List Nat) (g : GEV) (tt : TEV) (tk tv : EV) : List PyData → List (List Key × PyData) → Ds → Option (List (List Key × PyData) × Ds)
  | [], acc, δ => some (acc, δ)
  | x :: xs, acc, δ => (g x δ).bind fun δ1 => (tt δ1).bind fun b =>
    if b.1 then (tk b.2).bind fun y => match y.1 with
      | .d yk => (tv y.2).bind fun z => match frz z.1, keyS (.d yk) with
        | .d d, some (f, k) => if f = fl ∧ noOwn vs z.2 = true ∧ acc.length < sizeLine then dcD fl vs g tt tk tv xs (putD acc k d) (wipeD z.2 vs) else none
        | _, _ => none
      | _ => none
    else if noOwn vs b.2 then dcD fl vs g tt tk tv xs acc (wipeD b.2 vs) else none
def dcE (fl : Bool) (vs : List Nat) (fi : IEV) (g : GEV) (tt : TEV) (tk tv : EV) : EV := fun δ => (fi δ).bind fun x =>
  if noOwn vs x.2 then (dcD fl vs g tt tk tv x.1 [] (wipeD x.2 vs)).map fun r => (.o (.t ⟨fl, r.1⟩), restD x.2 r.2 vs) else none
section
variable {K : PySem.W.Frag}
theorem comp_end {T : List Addr} {ρ1 ρ2 : List (Option Addr)} {δ1 δe : Ds} {σ : L2.St} {vs : List Nat} {H1 H2 : Hp} {D : Addr} (s1 : Sim K T ρ1 δ1 σ H1) (hno : noOwn vs δ1 = true) (s2 : Sim K (D :: T) ρ2 δe (L2.wipe σ vs) H2) (sm : Same (hid T ρ1 H1) (hid (D :: T) ρ2 H2)) (tm : ∀ a, a ∈ T → Kp (H1 a) (H2 a)) (hD : H1 D = none) (hb : ∀ x, H2 D = some x → (∀ ps, x ≠ .tbl ps) ∧ NT x) :
    Sim K T ρ2 (restD δ1 δe vs) σ (rm H2 D) ∧ Ext T ρ1 H1 ρ2 (rm H2 D) := by
  have hh : hid T ρ2 (rm H2 D) = hid (D :: T) ρ2 H2 := hid_rm
  have neT : ∀ a, a ∈ T → a ≠ D := fun a ha z => by
    subst z
    exact (s1.trk.fresh hD).1 ha
  have lenE : δe.length = σ.length := by
    have := s2.slen
    rw [wipe_length] at this
    exact this.symm
  refine ⟨⟨by rw [restD_len]; exact s2.len, by rw [restD_len]; exact lenE.symm, fun j u hj => ?_, fun j c hj => ?_, fun j a hj => ?_, s2.inj, fun j a hj hm => s2.nt j a hj (List.mem_cons_of_mem _ hm), fun a ha => ?_, s1.tabT, tabs_rm s2.tabs hb⟩, by rw [hh]; exact sm, fun a ha => ?_, fun _ => tabs_rm s2.tabs hb⟩
  · by_cases hjv : j ∈ vs
    · have hjl : j < δe.length := by
        have := (List.getElem?_eq_some_iff.mp hj).1
        rw [restD_len] at this
        exact this
      rw [restD_in hjv hjl] at hj
      have hj' := slot_some (Option.some.inj hj)
      obtain ⟨v, e1, e2⟩ := s1.slot j u hj'
      refine ⟨v, e1, ?_⟩
      cases u with
      | o c => exact (notOwn_no (noOwn_mem hno hjv) hj').elim
      | d x => exact (show SV K (hid T ρ2 (rm H2 D)) v (.d x) by rw [hh]; exact svM (s := .d x) sm e2)
      | t x => exact (show SV K (hid T ρ2 (rm H2 D)) v (.t x) by rw [hh]; exact svM (s := .t x) sm e2)
      | z x => exact (show SV K (hid T ρ2 (rm H2 D)) v (.z x) by rw [hh]; exact svM (s := .z x) sm e2)
      | p x => exact (show SV K (hid T ρ2 (rm H2 D)) v (.p x) by rw [hh]; exact svM (s := .p x) sm e2)
    · rw [restD_ne hjv] at hj
      obtain ⟨v, e1, e2⟩ := s2.slot j u hj
      rw [wipe_ne hjv] at e1
      refine ⟨v, e1, ?_⟩
      cases u with
      | o c =>
        obtain ⟨b, f1, f2⟩ := s2.own j c hj
        rw [wipe_ne hjv, e1] at f2
        cases f2
        obtain ⟨a, x, z1, z2, z3⟩ := e2
        cases z1
        have ne : b ≠ D := fun z => by
          subst z
          exact s2.nt j b f1 List.mem_cons_self
        exact ⟨b, x, rfl, by rw [rm_ne ne]; exact z2, by rw [hh]; exact z3⟩
      | d x => exact (show SV K (hid T ρ2 (rm H2 D)) v (.d x) by rw [hh]; exact e2)
      | t x => exact (show SV K (hid T ρ2 (rm H2 D)) v (.t x) by rw [hh]; exact e2)
      | z x => exact (show SV K (hid T ρ2 (rm H2 D)) v (.z x) by rw [hh]; exact e2)
      | p x => exact (show SV K (hid T ρ2 (rm H2 D)) v (.p x) by rw [hh]; exact e2)
  · by_cases hjv : j ∈ vs
    · have hjl : j < δe.length := by
        have := (List.getElem?_eq_some_iff.mp hj).1
        rw [restD_len] at this
        exact this
      rw [restD_in hjv hjl] at hj
      exact (notOwn_no (noOwn_mem hno hjv) (slot_some (Option.some.inj hj))).elim
    · rw [restD_ne hjv] at hj
      obtain ⟨a, f1, f2⟩ := s2.own j c hj
      rw [wipe_ne hjv] at f2
      exact ⟨a, f1, f2⟩
  · obtain ⟨c, hc⟩ := s2.own' j a hj
    by_cases hjv : j ∈ vs
    · obtain ⟨b, f1, f2⟩ := s2.own j c hc
      have hjl : j < σ.length := by
        have := (List.getElem?_eq_some_iff.mp hc).1
        omega
      rw [wipe_in hjv hjl] at f2
      cases f2
    · exact ⟨c, by rw [restD_ne hjv]; exact hc⟩
  · rw [rm_ne (neT a ha)]
    exact (tm a ha).nt (s1.tmp a ha)
  · rw [rm_ne (neT a ha)]
    exact tm a ha
theorem dc_ok {fl : Bool} {vs ws : List Nat} {fi : IEV} {g : GEV} {tt : TEV} {tk tv : EV} (hw : ∀ j ∈ ws, j ∈ vs) (σ : L2.St) (H : Hp) (Q : VK) (h : lift K (dcE fl vs fi g tt tk tv) σ H Q) : tGd (oNew fl) (liftI K fi) (liftG K ws g) (liftT K tt) (lift K tk) (lift K tv) vs σ H Q := by
  obtain ⟨T, ρ, δ, s, δ', hs, hf, hq⟩ := h
  unfold dcE at hf
  cases ea : fi δ with
  | none => rw [ea] at hf; cases hf
  | some z =>
    obtain ⟨xs, δ1⟩ := z
    rw [ea] at hf
    simp only [Option.bind_some] at hf
    split at hf
    case isFalse => cases hf
    rename_i hno
    cases el : dcD fl vs g tt tk tv xs [] (wipeD δ1 vs) with
    | none => rw [el] at hf; cases hf
    | some r =>
      obtain ⟨out, δe⟩ := r
      rw [el] at hf
      cases hf
      refine ⟨T, ρ, δ, xs, δ1, hs, ea, fun ρ1 H1 J s1 x1 sv => ?_⟩
      intro D hD
      let Wn : Nat → Hp → Prop := fun i H' => ∃ ρ' δ2 o kvs, Sim K (D :: T) ρ' δ2 (L2.wipe σ vs) H' ∧ Same (hid T ρ1 H1) (hid (D :: T) ρ' H') ∧ (∀ a, a ∈ T → Kp (H1 a) (H' a)) ∧ H' D = some o ∧ TbO K (hid (D :: T) ρ' H') o ⟨fl, kvs⟩ ∧ dcD fl vs g tt tk tv (xs.drop i) kvs δ2 = some (out, δe)
      refine ⟨fun i m H' => i + m = xs.length ∧ Wn i H', ⟨xs.length, by omega, ρ1, wipeD δ1 vs, oNew fl, [], (s1.wipe hno).addTmp hD (tb_nt (tbo_new (K := K) (G := H1) fl)), ?_, ?_, upd_same, tbo_new fl, el⟩, ?_⟩
      · rw [hid_new hD]
        exact Same.refl _
      · intro a ha
        obtain ⟨o, ho, _⟩ := s1.tmp a ha
        rw [upd_ne (ne_of_none ho hD)]
        exact .refl
      rintro i m H2 ⟨him, ρ2, δ2, o, kvs, s2, sm, tm, hacc, hto, hl⟩
      by_cases hi : i < xs.length
      · have hd : xs.drop i = xs[i] :: xs.drop (i + 1) := by rw [List.drop_eq_getElem_cons hi]
        rw [hd] at hl
        unfold dcD at hl
        cases eg : g xs[i] δ2 with
        | none => rw [eg] at hl; cases hl
        | some δ3 =>
          rw [eg] at hl
          simp only [Option.bind_some] at hl
          cases et : tt δ3 with
          | none => rw [et] at hl; cases hl
          | some b =>
            obtain ⟨b, δ4⟩ := b
            rw [et] at hl
            simp only [Option.bind_some] at hl
            obtain ⟨go, yl⟩ := (sv i (D :: T) ρ2 H2 sm s2.trk).1 _ (List.getElem?_eq_getElem hi)
            refine .inr ⟨go, Wn (i + 1), fun H' hW => ⟨m - 1, by omega, by omega, hW⟩, fun x H3 hy => ?_⟩
            obtain ⟨y1, y2⟩ := yl x H3 hy
            have e2 := s2.trk.extT y1
            refine ⟨D :: T, ρ2, δ2, xs[i], δ3, s2.mono y1, y2, eg, fun ρ4 σ4 H4 s4 x4 o4 => ?_⟩
            have hwp : L2.wipe σ4 vs = L2.wipe σ vs := by rw [wipe_only o4 hw, wipe_idem]
            refine ⟨hwp, D :: T, ρ4, δ3, b, δ4, s4, et, fun ρ5 H5 s5 x5 => ?_⟩
            have xx : Ext (D :: T) ρ2 H2 ρ5 H5 := e2.trans (x4.trans x5)
            -- a turn's end
            have fin : ∀ (ρ6 : List (Option Addr)) (δ6 : Ds) (H6 : Hp), Sim K (D :: T) ρ6 δ6 σ4 H6 → Ext (D :: T) ρ2 H2 ρ6 H6 → noOwn vs δ6 = true →
                Sim K (D :: T) ρ6 (wipeD δ6 vs) (L2.wipe σ vs) H6 ∧ Same (hid T ρ1 H1) (hid (D :: T) ρ6 H6) ∧ (∀ a, a ∈ T → Kp (H1 a) (H6 a)) ∧ H6 D = some o ∧ TbO K (hid (D :: T) ρ6 H6) o ⟨fl, kvs⟩ := by
              intro ρ6 δ6 H6 s6 x6 n6
              have q := s6.wipe n6
              rw [hwp] at q
              exact ⟨q, sm.trans x6.same, fun a ha => (tm a ha).trans (x6.tmp a (List.mem_cons_of_mem _ ha)), x6.at List.mem_cons_self hacc (tb_nb hto).1, tbM x6.same hto⟩
            cases b with
            | false =>
              refine L2.iteF ?_
              rw [if_neg Bool.false_ne_true] at hl
              split at hl
              case isFalse => cases hl
              rename_i n5
              obtain ⟨q1, q2, q3, q4, q5⟩ := fin ρ5 δ4 H5 s5 xx n5
              exact ⟨ρ5, _, o, kvs, q1, q2, q3, q4, q5, hl⟩
            | true =>
              refine L2.iteT ?_
              rw [if_pos rfl] at hl
              cases ey : tk δ4 with
              | none => rw [ey] at hl; cases hl
              | some y =>
                obtain ⟨u, δ6⟩ := y
                rw [ey] at hl
                simp only [Option.bind_some] at hl
                split at hl
                case h_2 => cases hl
                rename_i yk
                cases ez : tv δ6 with
                | none => rw [ez] at hl; cases hl
                | some z =>
                  obtain ⟨w, δ7⟩ := z
                  rw [ez] at hl
                  simp only [Option.bind_some] at hl
                  split at hl
                  case h_2 => cases hl
                  rename_i d f k hd' hk'
                  split at hl
                  case isFalse => cases hl
                  rename_i hc
                  obtain ⟨hf, n7, hlen⟩ := hc
                  refine ⟨D :: T, ρ5, δ4, .d yk, δ6, s5, ey, fun ρ6 v6 H6 s6 x6 hv6 => ?_⟩
                  -- the value
                  have each : ∀ (ρ7 : List (Option Addr)) (v : V) (H7 : Hp), Sim K (D :: T) ρ7 δ7 σ4 H7 → Ext (D :: T) ρ6 H6 ρ7 H7 → Dq K (hid (D :: T) ρ7 H7) v d → ∃ H8, DPut H7 D v6 v H8 ∧ Wn (i + 1) H8 := by
                    intro ρ7 v H7 s7 x7 hv
                    obtain ⟨q1, q2, q3, q4, q5⟩ := fin ρ7 δ7 H7 s7 (xx.trans (x6.trans x7)) n7
                    have hkey : At K (D :: T) ρ7 H7 v6 (.d yk) := svM (s := .d yk) x7.same hv6
                    obtain ⟨o', hp, ht'⟩ := tb_put hkey (t := ⟨fl, kvs⟩) (k := k) (by rw [hk', hf]) q4 q5 hv hlen
                    refine ⟨_, hp, ρ7, _, o', putD kvs k d, q1.tmpW List.mem_cons_self (nb_of q4 (tb_nb q5).1 (tb_nb q5).2) (tb_nt ht'), ?_, ?_, upd_same, ?_, hl⟩
                    · rw [hid_tmp List.mem_cons_self]
                      exact q2
                    · intro a ha
                      have ne : a ≠ D := fun z => by
                        subst z
                        exact (s1.trk.fresh hD).1 ha
                      rw [upd_ne ne]
                      exact q3 a ha
                    · rw [hid_tmp List.mem_cons_self]
                      exact ht'
                  refine ⟨D :: T, ρ6, δ6, w, δ7, s6, ez, ?_⟩
                  cases w with
                  | o c =>
                    intro ρ7 p H7 o s7 x7 hp hc
                    have hn := frz_new s7.trk hp hc
                    rw [hd'] at hn
                    exact each ρ7 (.ref p) _ (s7.mono (same_new hp)) (x7.trans (s7.trk.extT (same_new hp))) hn
                  | d c =>
                    cases hd'
                    exact fun ρ7 v H7 s7 x7 hv => each ρ7 v H7 s7 x7 hv
                  | t c => cases hd'
                  | z c => cases hd'
                  | p c => cases hd'
      · have hd : xs.drop i = [] := List.drop_eq_nil_of_le (by omega)
        rw [hd] at hl
        cases hl
        refine .inl ⟨(sv i (D :: T) ρ2 H2 sm s2.trk).2 (by omega), ?_⟩
        have hh : hid T ρ2 (rm H2 D) = hid (D :: T) ρ2 H2 := hid_rm
        obtain ⟨a, b⟩ := comp_end s1 hno s2 sm tm hD (nb_of hacc (tb_nb hto).1 (tb_nb hto).2)
        rw [← rm_upd hacc]
        exact hq ρ2 D (rm H2 D) o a (x1.trans b) rm_self (show TbO K (hid T ρ2 (rm H2 D)) o _ by rw [hh]; exact hto)
end
section
variable {X : Cx}
theorem de_dc (fl : Bool) {k : Nat} {kx vx tg iter : Expr} {ifs : List Expr} {scope : Scope} {own : List (Str × Nat)} {pos : Pos} {ws : List Nat} {fi : IEV} {g : GEV} {tt : TEV} {tk tv : EV} (hr : Room k X.A) (hc : X.calm = true) (hN : X.N.Nodup) (hi : DI X tg iter fi) (ok : BlkOk X.N X.env.scope scope own) (hw : ∀ j ∈ ws, j ∈ own.map (·.2))
    (hg : ∀ (s : Shared) (H : Hp) (C : Addr) (cl : List (Str × Addr)) (fp : List Addr), DG (X.blk s H scope (compEnvC scope cl C X.env) fp) ws tg g)
    (ht : ∀ (s : Shared) (H : Hp) (C : Addr) (cl : List (Str × Addr)) (fp : List Addr), DTs (X.blk s H scope (compEnvC scope cl C X.env) fp) ifs tt)
    (hk : ∀ (s : Shared) (H : Hp) (C : Addr) (cl : List (Str × Addr)) (fp : List Addr), DE (X.blk s H scope (compEnvC scope cl C X.env) fp) kx tk)
    (he : ∀ (s : Shared) (H : Hp) (C : Addr) (cl : List (Str × Addr)) (fp : List Addr), DE (X.blk s H scope (compEnvC scope cl C X.env) fp) vx tv) (hs : ∀ x, foldedSetIterable iter X.env x = pure x := by intro _; rfl) :
    DE X (.DictComp kx vx [⟨tg, iter, ifs, 0⟩] scope pos) (dcE fl (own.map (·.2)) fi g tt tk tv) := pe_imp (pe_gd (newOk fl) (by have := hr.un; omega) hc hN hi ok hg ht hk he hs) (dc_ok hw)
end
end DL

namespace DL
open PySem PySem.Spec PyProof.Rows L2
variable [TB]

section
variable {X : Cx} {P : List Nat} {a b e : Expr} {es : List Expr} {pos p : Pos} {fp fq : PEV} {k : Nat}
/-! ### table[key] -/
def opIxT (a b : S) : Option S := (asTb a).bind fun t => (keyS b).bind fun q => if q.1 = t.fl then (valK t.kvs q.2).map fun d => .d d else none
def rDGet : R2 := fun x y H Q => ∃ a v, x = .ref a ∧ DGet H a y (some v) ∧ Q v H
def opIxX (a b : S) : Option S := match opIxT a b with
  | some z => some z
  | none => opIx a b
/-! ### {} -/
def tabE (fl : Bool) : EV := fun δ => some (.o (.t ⟨fl, []⟩), δ)
/-! ### table[key] = value, the table owned -/
def setT (i : Nat) (fe fi : PEV) : SEV := fun δ => (fe δ).bind fun x => match x.1, slot x.2 i with
  | .v (.d d), some (.o _) => (fi x.2).bind fun y => (res y.2 y.1).bind fun ks => match slot y.2 i, keyS ks with
    | some (.o (.t t)), some (f, k) => if f = t.fl ∧ t.kvs.length < sizeLine then some (.nx (y.2.set i (some (.o (.t ⟨t.fl, putD t.kvs k d⟩))))) else none
    | _, _ => none
  | _, _ => none
/-! ### the truth of a list or tuple -/
def truT (f : PEV) : TEV := fun δ => (f δ).bind fun x => (res x.2 x.1).bind fun s => (asS s).map fun xs => (!xs.isEmpty, x.2)
/-! ### a, b = what -/
def unpS (f : PEV) (g : GEV) : SEV := fun δ => (f δ).bind fun x => match x.1 with
  | .v (.d d) => (g d x.2).map fun δ' => .nx δ'
  | _ => none
theorem ds_unp {vs : List Nat} {tg : Expr} {g : GEV} (hP : ∀ i ∈ P, i ∉ vs) (he : DP X e fp) (hg : DG X vs tg g) (hs : swapsWithSole [tg] e pos.line X.env = pure false := by rfl) (hw : swappedStores [tg] e X.env = pure none := by rfl)
    (h1 : (assignEach [tg] X.env).map (·.2) = [assign tg X.env] := by rfl) : DS X P (.Assign [tg] e pos) (unpS fp g) := ps_imp (ps_asg he hg hs hw h1) fun D σ H ⟨T, ρ, δ, o, hs, hf, hq⟩ => by
  unfold unpS at hf
  cases ea : fp δ with
  | none => rw [ea] at hf; cases hf
  | some x =>
    obtain ⟨pv, δ1⟩ := x
    rw [ea] at hf
    simp only [Option.bind_some] at hf
    split at hf
    case h_2 => cases hf
    rename_i d
    cases eg : g d δ1 with
    | none => rw [eg] at hf; cases hf
    | some δ2 =>
      rw [eg] at hf
      cases hf
      refine ⟨T, ρ, δ, _, δ1, hs, ea, fun ρ1 v H1 s1 x1 p1 => ?_⟩
      refine ⟨T, ρ1, δ1, d, δ2, s1, p1, eg, fun ρ2 σ2 H2 s2 x2 o2 => ?_⟩
      exact hq ρ2 σ2 H2 s2 (x1.trans x2) fun i hi => o2.2 i (hP i hi)
/-! ### n += e -/
def augS (i : Nat) (f : PEV) : SEV := fun δ => match slot δ i with
  | some (.d (.int m)) => (f δ).bind fun x => match x.1 with
    | .v (.d (.int n)) => some (.nx (x.2.set i (some (.d (.int (m + n))))))
    | _ => none
  | _ => none
/-! ### >>, & -/
def iShr (i j : Int) : Option Int := if 0 ≤ j then some (i / 2 ^ j.toNat) else none
end
end DL

namespace DL
open PySem PySem.Spec PyProof.Rows L2
variable [TB]

/-! ### list(table), list of others -/
def keyD1 : Key → PyData
  | .inl i => .int i
  | .inr x => .str x
def keyD (k : List Key) : PyData := .tuple (k.map keyD1)
def fListX : List S → Option S
  | [s] => match asTb s with
    | some t => if t.fl = false then some (.o (.l (t.kvs.map fun p => keyD p.1))) else none
    | none => fList [s]
  | _ => none
section
variable {X : Cx} {e : Expr} {es : List Expr} {pos p : Pos} {fa : AEV} {tg : Expr}
/-! ### range(i, j, c) -/
def rngC (i c : Int) (n : Nat) : List PyData := (List.range n).map fun k => .int (i + (k : Nat) * c)
def rgSmall (i j c : Int) : Bool := decide (c ≠ 0) && decide (c.natAbs < 1073741824) && Builtin.Range.small i j c
def rngI3 (fa : AEV) : IEV := fun δ => (fa δ).bind fun x => match x.1 with
  | [.v (.d (.int i)), .v (.d (.int j)), .v (.d (.int c))] => if rgSmall i j c = true ∧ 0 ≤ Builtin.Range.rangeSize i j c then some (rngC i c (Builtin.Range.rangeSize i j c).toNat, x.2) else none
  | _ => none
/-! ### f() -/
end
end DL

namespace DL
open PySem PySem.Spec PyProof.Rows L2
variable [TB]

/-! ### comprehensions that change nothing, seen from the data -/
theorem lcD_gen {vs : List Nat} {g : GEV} {tt : TEV} {te : EV} {δ : Ds} {p : PyData → Bool} {h : PyData → PyData} : ∀ {xs : List PyData}, (∀ x ∈ xs, ∃ δ1, g x δ = some δ1 ∧ tt δ1 = some (p x, δ1) ∧ noOwn vs δ1 = true ∧ wipeD δ1 vs = δ ∧ (p x = true → ∃ s, te δ1 = some (s, δ1) ∧ frz s = .d (h x))) →
    lcD vs g tt te xs δ = some ((xs.filter p).map h, δ)
  | [], _ => rfl
  | x :: xs, H => by
    obtain ⟨δ1, e1, e2, e3, e4, e5⟩ := H x List.mem_cons_self
    have ih := lcD_gen (xs := xs) fun y hy => H y (List.mem_cons_of_mem _ hy)
    unfold lcD
    rw [e1]
    simp only [Option.bind_some]
    rw [e2]
    simp only [Option.bind_some]
    cases ep : p x with
    | false =>
      rw [if_neg Bool.false_ne_true, if_pos e3, e4, ih, List.filter_cons, if_neg (by rw [ep]; exact Bool.false_ne_true)]
    | true =>
      obtain ⟨s, e6, e7⟩ := e5 ep
      rw [if_pos rfl, e6]
      simp only [Option.bind_some]
      rw [e7]
      simp only
      rw [if_pos e3, e4, ih, List.filter_cons, if_pos ep]
      rfl
theorem lcE_gen {vs : List Nat} {fi : IEV} {g : GEV} {tt : TEV} {te : EV} {δ δ1 : Ds} {xs : List PyData} (p : PyData → Bool) (h : PyData → PyData) (hf : fi δ = some (xs, δ1)) (hn : noOwn vs δ1 = true) (hr : restD δ1 (wipeD δ1 vs) vs = δ1)
    (H : ∀ x ∈ xs, ∃ δ2, g x (wipeD δ1 vs) = some δ2 ∧ tt δ2 = some (p x, δ2) ∧ noOwn vs δ2 = true ∧ wipeD δ2 vs = wipeD δ1 vs ∧ (p x = true → ∃ s, te δ2 = some (s, δ2) ∧ frz s = .d (h x))) (hl : ((xs.filter p).map h).length ≤ sizeLine) :
    lcE vs fi g tt te δ = some (.o (.l ((xs.filter p).map h)), δ1) := by
  unfold lcE
  rw [hf]
  simp only [Option.bind_some]
  rw [if_pos hn, lcD_gen H]
  simp only [Option.bind_some]
  rw [if_pos hl, hr]
theorem lcE_all {vs : List Nat} {fi : IEV} {g : GEV} {te : EV} {δ δ1 : Ds} {xs : List PyData} (h : PyData → PyData) (hf : fi δ = some (xs, δ1)) (hn : noOwn vs δ1 = true) (hr : restD δ1 (wipeD δ1 vs) vs = δ1)
    (H : ∀ x ∈ xs, ∃ δ2, g x (wipeD δ1 vs) = some δ2 ∧ noOwn vs δ2 = true ∧ wipeD δ2 vs = wipeD δ1 vs ∧ ∃ s, te δ2 = some (s, δ2) ∧ frz s = .d (h x)) (hl : xs.length ≤ sizeLine) :
    lcE vs fi g yesT te δ = some (.o (.l (xs.map h)), δ1) := by
  have e : xs.filter (fun _ => true) = xs := List.filter_eq_self.mpr fun _ _ => rfl
  have := lcE_gen (tt := yesT) (fun _ => true) h hf hn hr (fun x hx => let ⟨δ2, a, b, c, d⟩ := H x hx; ⟨δ2, a, rfl, b, c, fun _ => d⟩) (by rw [e, List.length_map]; exact hl)
  rw [this, e]
theorem lcD2_gen {vs vs1 : List Nat} {g : GEV} {fi1 : IEV} {g1 : GEV} {tt1 : TEV} {te : EV} {δ : Ds} {h : PyData → List PyData} : ∀ {xs : List PyData}, (∀ x ∈ xs, ∃ δ1 ys δ2, g x δ = some δ1 ∧ fi1 δ1 = some (ys, δ1) ∧ noOwn vs1 δ1 = true ∧ lcD vs1 g1 tt1 te ys (wipeD δ1 vs1) = some (h x, δ2) ∧ noOwn vs δ2 = true ∧ wipeD δ2 vs = δ) →
    lcD2 vs vs1 g yesT fi1 g1 tt1 te xs δ = some (xs.flatMap h, δ)
  | [], _ => rfl
  | x :: xs, H => by
    obtain ⟨δ1, ys, δ2, e1, e2, e3, e4, e5, e6⟩ := H x List.mem_cons_self
    have ih := lcD2_gen (xs := xs) fun y hy => H y (List.mem_cons_of_mem _ hy)
    unfold lcD2
    rw [e1]
    simp only [Option.bind_some, yesT, if_true]
    rw [e2]
    simp only [Option.bind_some]
    rw [if_pos e3, e4]
    simp only [Option.bind_some]
    rw [if_pos e5, e6, ih]
    rfl
theorem lc2E_gen {vs vs1 : List Nat} {fi : IEV} {g : GEV} {fi1 : IEV} {g1 : GEV} {tt1 : TEV} {te : EV} {δ δ1 : Ds} {xs : List PyData} (h : PyData → List PyData) (hf : fi δ = some (xs, δ1)) (hn : noOwn vs δ1 = true) (hr : restD δ1 (wipeD δ1 vs) vs = δ1)
    (H : ∀ x ∈ xs, ∃ δ2 ys δ3, g x (wipeD δ1 vs) = some δ2 ∧ fi1 δ2 = some (ys, δ2) ∧ noOwn vs1 δ2 = true ∧ lcD vs1 g1 tt1 te ys (wipeD δ2 vs1) = some (h x, δ3) ∧ noOwn vs δ3 = true ∧ wipeD δ3 vs = wipeD δ1 vs) (hl : (xs.flatMap h).length ≤ sizeLine) :
    lc2E vs vs1 fi g yesT fi1 g1 tt1 te δ = some (.o (.l (xs.flatMap h)), δ1) := by
  unfold lc2E
  rw [hf]
  simp only [Option.bind_some]
  rw [if_pos hn, lcD2_gen H]
  simp only [Option.bind_some]
  rw [if_pos hl, hr]
/-! ### tables -/
abbrev Tb := List (List Key × PyData)
def hasK (kvs : Tb) (k : List Key) : Bool := kvs.any fun p => decide (p.1 = k)
theorem valK_some (kvs : Tb) (k : List Key) : (valK kvs k).isSome = hasK kvs k := by
  unfold valK hasK
  rw [Option.isSome_map]
  induction kvs with
  | nil => rfl
  | cons p kvs ih =>
    rw [List.find?_cons, List.any_cons]
    cases decide (p.1 = k) with
    | true => rfl
    | false => exact ih
theorem hasK_put (kvs : Tb) (k k' : List Key) (d : PyData) : hasK (putD kvs k d) k' = (decide (k = k') || hasK kvs k') := by
  unfold putD
  split
  · rename_i h
    unfold hasK
    rw [List.any_map]
    have e : (fun p : List Key × PyData => decide (p.1 = k')) ∘ (fun p => if p.1 = k then (p.1, d) else p) = fun p => decide (p.1 = k') := by
      funext p
      show decide ((if p.1 = k then (p.1, d) else p).1 = k') = _
      split <;> rfl
    rw [e]
    by_cases hk : k = k'
    · subst hk
      rw [decide_eq_true rfl, Bool.true_or]
      exact h
    · rw [decide_eq_false hk, Bool.false_or]
  · unfold hasK
    rw [List.any_append, Bool.or_comm]
    simp
theorem put_vals {W : List Key → PyData} {kvs : Tb} {k : List Key} {d : PyData} (h : ∀ p ∈ kvs, p.2 = W p.1) (hd : d = W k) : ∀ p ∈ putD kvs k d, p.2 = W p.1 := by
  unfold putD
  split
  · intro p hp
    obtain ⟨q, hq, rfl⟩ := List.mem_map.mp hp
    split
    · rename_i e
      rw [e]
      exact hd
    · exact h q hq
  · intro p hp
    rcases List.mem_append.mp hp with hp | hp
    · exact h p hp
    · rw [List.mem_singleton.mp hp]
      exact hd
def putAll (Kf : PyData → List Key) (Vf : PyData → PyData) (xs : List PyData) (acc : Tb) : Tb := xs.foldl (fun a x => putD a (Kf x) (Vf x)) acc
theorem putAll_has {Kf : PyData → List Key} {Vf : PyData → PyData} {k : List Key} : ∀ (xs : List PyData) (acc : Tb), hasK (putAll Kf Vf xs acc) k = (hasK acc k || xs.any fun x => decide (Kf x = k))
  | [], acc => by simp [putAll]
  | x :: xs, acc => by
    show hasK (putAll Kf Vf xs (putD acc (Kf x) (Vf x))) k = _
    rw [putAll_has xs, hasK_put, List.any_cons]
    cases decide (Kf x = k) <;> cases hasK acc k <;> rfl
theorem putAll_vals {W : List Key → PyData} {Kf : PyData → List Key} {Vf : PyData → PyData} : ∀ (xs : List PyData) (acc : Tb), (∀ p ∈ acc, p.2 = W p.1) → (∀ x ∈ xs, Vf x = W (Kf x)) → ∀ p ∈ putAll Kf Vf xs acc, p.2 = W p.1
  | [], acc, h, _ => h
  | x :: xs, acc, h, hx => putAll_vals xs (putD acc (Kf x) (Vf x)) (put_vals h (hx x List.mem_cons_self)) fun y hy => hx y (List.mem_cons_of_mem _ hy)
theorem dcD_gen {fl : Bool} {vs : List Nat} {g : GEV} {tk tv : EV} {δ : Ds} (Kf : PyData → List Key) (Vf : PyData → PyData) : ∀ {xs : List PyData} {acc : Tb}, (∀ x ∈ xs, ∃ δ1 yk s, g x δ = some δ1 ∧ tk δ1 = some (.d yk, δ1) ∧ tv δ1 = some (s, δ1) ∧ frz s = .d (Vf x) ∧ keyS (.d yk) = some (fl, Kf x) ∧ noOwn vs δ1 = true ∧ wipeD δ1 vs = δ) → acc.length + xs.length ≤ sizeLine →
    dcD fl vs g yesT tk tv xs acc δ = some (putAll Kf Vf xs acc, δ)
  | [], acc, _, _ => rfl
  | x :: xs, acc, H, hl => by
    obtain ⟨δ1, yk, s, e1, e2, e3, e4, e5, e6, e7⟩ := H x List.mem_cons_self
    have hl2 := putD_len acc (Kf x) (Vf x)
    rw [List.length_cons] at hl
    have ih := dcD_gen Kf Vf (xs := xs) (acc := putD acc (Kf x) (Vf x)) (fun y hy => H y (List.mem_cons_of_mem _ hy)) (by omega)
    unfold dcD
    rw [e1]
    simp only [Option.bind_some, yesT, if_true]
    rw [e2]
    simp only [Option.bind_some]
    rw [e3]
    simp only [Option.bind_some]
    rw [e4, e5]
    simp only
    rw [if_pos ⟨trivial, e6, by omega⟩, e7]
    exact ih
theorem dcE_gen {fl : Bool} {vs : List Nat} {fi : IEV} {g : GEV} {tk tv : EV} {δ δ1 : Ds} {xs : List PyData} (Kf : PyData → List Key) (Vf : PyData → PyData) (hf : fi δ = some (xs, δ1)) (hn : noOwn vs δ1 = true) (hr : restD δ1 (wipeD δ1 vs) vs = δ1)
    (H : ∀ x ∈ xs, ∃ δ2 yk s, g x (wipeD δ1 vs) = some δ2 ∧ tk δ2 = some (.d yk, δ2) ∧ tv δ2 = some (s, δ2) ∧ frz s = .d (Vf x) ∧ keyS (.d yk) = some (fl, Kf x) ∧ noOwn vs δ2 = true ∧ wipeD δ2 vs = wipeD δ1 vs) (hl : xs.length ≤ sizeLine) :
    dcE fl vs fi g yesT tk tv δ = some (.o (.t ⟨fl, putAll Kf Vf xs []⟩), δ1) := by
  unfold dcE
  rw [hf]
  simp only [Option.bind_some]
  rw [if_pos hn, dcD_gen Kf Vf H (by simpa using hl)]
  show some (_, restD δ1 (wipeD δ1 vs) vs) = _
  rw [hr]
/-! keys of whole numbers -/
def keyI (r : List Int) : List Key := r.map Sum.inl
theorem keyL_ints : ∀ r : List Int, keyL (r.map PyData.int) = some (keyI r)
  | [] => rfl
  | i :: r => by
    show ((some (Sum.inl i)).bind fun k => (keyL (r.map PyData.int)).map fun ks => k :: ks) = _
    rw [keyL_ints r]
    rfl
theorem keyS_ints (r : List Int) : keyS (.d (.tuple (r.map PyData.int))) = some (false, keyI r) := by
  show (keyL (r.map PyData.int)).map _ = _
  rw [keyL_ints]
  rfl
theorem keyI_inj {r q : List Int} (h : keyI r = keyI q) : r = q := List.map_inj_right (fun a b e => Sum.inl.inj e) |>.mp h
theorem in_tab {neg : Bool} {r : List Int} {s : S} {kvs : Tb} (h : asTb s = some ⟨false, kvs⟩) : opInX neg (.d (.tuple (r.map PyData.int))) s = some (.d (.bool (neg ^^ hasK kvs (keyI r)))) := by
  have e : opInT neg (.d (.tuple (r.map PyData.int))) s = some (.d (.bool (neg ^^ hasK kvs (keyI r)))) := by
    unfold opInT
    rw [keyS_ints, h]
    simp only [Option.bind_some, if_true]
    rw [valK_some]
  unfold opInX
  rw [e]
end DL

namespace DL
open PySem PySem.Spec PyProof.Rows L2
variable [TB]

/-! ### enumerate(list) -/
def enumF : Nat → List PyData → List PyData
  | _, [] => []
  | i, x :: xs => .tuple [.int (i : Nat), x] :: enumF (i + 1) xs
def enumI (fa : AEV) : IEV := fun δ => (fa δ).bind fun x => match x.1 with
  | [.v (.d (.list xs))] => some (enumF 0 xs, x.2)
  | _ => none
section
variable {X : Cx} {e : Expr} {fa : AEV} {p pos tpos : Pos} {elts : List Expr} {kk : Nat}
end
end DL


/-! ### sorted(xs), xs a list of tuples of whole numbers -/
namespace DLS
open PySem PySem.Spec PyProof.Rows L2 SrtO
/-- as Python orders tuples -/
def lexL : List Int → List Int → Bool
  | [], ys => !ys.isEmpty
  | _ :: _, [] => false
  | x :: xs, y :: ys => if x = y then lexL xs ys else decide (x < y)
section
variable {prog : Program} {w : World} {A : Around} {s : Shared} {E : Value → Shared → Prop}
def IsTupI (h : Heap) (v : Value) (k : List Int) : Prop := ∃ a o its n, v = .ref a ∧ h.get? a = some o ∧ o.cls = .type "tuple" ∧ o.data = .seq (List.toArray its) n ∧ Vals (k.map V.int) its
theorem IsTupI.keeps {h h' : Heap} {v : Value} {k : List Int} (x : IsTupI h v k) (kp : ∀ b o, h.get? b = some o → o.cls = .type "tuple" → h'.get? b = some o) : IsTupI h' v k := let ⟨a, o, its, n, e, ho, hc, hd, hv⟩ := x; ⟨a, o, its, n, e, kp a o ho hc, hc, hd, hv⟩
end
end DLS
namespace DL
open PySem PySem.Spec PyProof.Rows L2 DLS
variable [TB]
def rSortedTI (K : PySem.W.Frag) : List V → Hp → VK → Prop := fun vs H Q => ∃ (a : Addr) (xs : List V) (k : V → List Int), vs = [V.ref a] ∧ SqL K H a xs ∧ (∀ x ∈ xs, ∃ t, x = V.ref t ∧ H t = some (.tup ((k x).map V.int))) ∧ (xs.length < 2 ∨ ∀ x ∈ xs, k x ≠ []) ∧
  ∀ ys p, SrtO.Srtd (fun x y => lexL (k x) (k y)) ys → SrtO.Stb (fun x y => lexL (k x) (k y)) ys xs → H p = none → Q (.ref p) (upd H p (.lst ys))
section
variable {X : Cx}
end
end DL

namespace DL
open PySem PySem.Spec PyProof.Rows L2 DLS
variable [TB]

abbrev tupI (r : List Int) : PyData := .tuple (r.map PyData.int)
def intsP : List PyData → Option (List Int)
  | [] => some []
  | .int i :: ds => (intsP ds).map (i :: ·)
  | _ => none
def rowsP : List PyData → Option (List (List Int))
  | [] => some []
  | .tuple ds :: xs => (intsP ds).bind fun r => (rowsP xs).map (r :: ·)
  | _ => none
abbrev sortT : List (List Int) → List (List Int) := isort lexL
def fSortedT : List S → Option S
  | [s] => (asL s).bind fun xs => (rowsP xs).bind fun rs => if rs.length < 2 ∨ (rs.all fun r => !r.isEmpty) = true then some (.o (.l ((sortT rs).map tupI))) else none
  | _ => none
def intV : V → Int
  | .int i => i
  | _ => 0
def keyVT (H : Hp) : V → List Int
  | .ref t => match H t with
    | some (.tup vs) => vs.map intV
    | _ => []
  | _ => []
section
variable {X : Cx} {e : Expr} {es : List Expr} {pos p : Pos} {fa : AEV}
end
end DL

namespace DL
open PySem PySem.Spec PyProof.Rows L2 DLS
variable [TB]

/-! ### f(b = .., a = ..): all arguments by their names -/
abbrev DK (X : Cx) (kws : List Keyword) (f : AEV) : Prop := PK X kws (liftA X.K f)
section
variable {X : Cx} {e : Expr} {kws : List Keyword} {kpos p pos : Pos} {nm : Option Str}
/-- what was said last stands first -/
def revA (fa : AEV) : AEV := fun δ => (fa δ).map fun x => (x.1.reverse, x.2)
/-- a def of the program that may be called by its parameters' names, said from the last to the first -/
def DefK (Pr : Program) (w : World) (K : PySem.W.Frag) (mg : Str → Option Value) (base : Heap) (k : Nat) (name : Str) (ps : List Str) (F : FN) : Prop :=
  ∃ a fd, mg name = some (.ref a) ∧ PySem.W.keepIn K (.ref a) = true ∧ (∀ (s : Shared) (ws : List Value), K.In s.heap → ws.length = ps.length → BindsTo s fd ⟨[], ps.reverse.zip ws⟩ (ps.zip ws.reverse)) ∧ FnG Pr w K mg base k a fd ps (spF K ps.length F)
end
end DL

namespace DL
open PySem PySem.Spec PyProof.Rows L2 DLS
variable [TB]

/-! ### f(e), e a new list of its own that f may change; f tells data -/
def callN (F : FN) (fe : EV) : EV := fun δ => (fe δ).bind fun x => match x.1 with
  | .o c => (F [.o c]).bind fun r => match r.1 with
    | .d y => some (.d y, x.2)
    | _ => none
  | _ => none
section
variable {K : PySem.W.Frag} {T : List Addr} {ρ ρ' : List (Option Addr)} {δ δ' : Ds} {σ σ' : L2.St} {H H' : Hp}
theorem Sim.keep (s : Sim K T ρ δ σ H) (e : Same (hid T ρ H) (hid T ρ H')) (hT : ∀ a, a ∈ T ∨ some a ∈ ρ → Kp (H a) (H' a)) (ht : LamX.Tabs TB.tb H') : Sim K T ρ δ σ H' where
  len := s.len
  slen := s.slen
  slot := fun i x h => by
    obtain ⟨v, h1, h2⟩ := s.slot i x h
    refine ⟨v, h1, ?_⟩
    cases x with
    | o c =>
      obtain ⟨a, o, e1, e2, e3⟩ := h2
      obtain ⟨a', r1, r2⟩ := s.own i c h
      rw [r2] at h1
      cases h1
      cases e1
      exact ⟨a, o, rfl, (hT a (.inr (ix_mem r1))).eq e2 (co_nb e3).1, coM e e3⟩
    | d y => exact svM (s := .d y) e h2
    | t y => exact svM (s := .t y) e h2
    | z y => exact svM (s := .z y) e h2
    | p y => exact svM (s := .p y) e h2
  own := s.own
  own' := s.own'
  inj := s.inj
  nt := s.nt
  tmp := fun a ha => (hT a (.inl ha)).nt (s.tmp a ha)
  tabT := s.tabT
  tabs := ht
end
section
variable {X : Cx} {pos p : Pos} {e : Expr} {x : Str}
end
end DL

namespace DL
open PySem PySem.Spec PyProof.Rows L2 DLS
variable [TB]

/-! ### sorted(table), its keys tuples of numbers -/
def rSortedKT (K : PySem.W.Frag) : List V → Hp → VK → Prop := fun vs H Q => ∃ (d : Addr) (kvs : List (List Key × V)), vs = [V.ref d] ∧ Rd H d (.dT kvs) ∧ (∀ bs, IsKeys H kvs bs → ∀ b ∈ bs, ∃ r : List Int, H b = some (.tup (r.map V.int)) ∧ keyVT H (.ref b) = r ∧ (kvs.length < 2 ∨ r ≠ [])) ∧
  ∀ bs ys p, IsKeys H kvs bs → SrtO.Srtd (fun x y => lexL (keyVT H x) (keyVT H y)) ys → SrtO.Stb (fun x y => lexL (keyVT H x) (keyVT H y)) ys (bs.map V.ref) → H p = none → Q (.ref p) (upd H p (.lst ys))
section
variable {X : Cx}
end
end DL

namespace DL
open PySem PySem.Spec PyProof.Rows L2 DLS
variable [TB]

def fSortedK : List S → Option S
  | [s] => (asTb s).bind fun t => if t.fl = false then (rowsP (t.kvs.map fun p => keyD p.1)).bind fun rs => if rs.length < 2 ∨ (rs.all fun r => !r.isEmpty) = true then some (.o (.l ((sortT rs).map tupI))) else none else none
  | _ => none
section
variable {X : Cx} {e : Expr} {es : List Expr} {pos p : Pos} {fa : AEV}
end
end DL

namespace DLS
open PySem PySem.Calls PyProof.Rows PyProof.V PySem.Spec
section
variable {prog : Program} {w : World} {A : Around} {E : Value → Shared → Prop} {s : Shared}
end
end DLS
namespace DL
open PySem PySem.Spec PyProof.Rows L2 DLS
variable [TB]
/-! ### table != {} -/
def rNeB : R2 := fun x y H Q => ∃ a b kvs, x = .ref a ∧ y = .ref b ∧ Rd H a (.dT kvs) ∧ Rd H b (.dT []) ∧ Q (.bl (!(kvs.length == 0))) H
def opNeB (a b : S) : Option S := (asTb a).bind fun t => (asTb b).bind fun u => if t.fl = false ∧ u.fl = false ∧ u.kvs.length = 0 then some (.d (.bool (!(t.kvs.length == 0)))) else none
section
variable {X : Cx} {a b : Expr} {pos : Pos} {fp fq : PEV} {k : Nat}
end
end DL

namespace DL
open PySem PySem.Spec PyProof.Rows L2 DLS
variable [TB]
/-! ### i & 1 -/
def opAnd1 (a b : S) : Option S := (asI a).bind fun i => (asI b).bind fun j => if j = 1 then some (.d (.int (i % 2))) else none
section
variable {X : Cx} {a b : Expr} {pos : Pos} {fp fq : PEV} {k : Nat}
end
end DL

namespace DL
open PySem PySem.Spec PyProof.Rows L2
variable [TB]

/-! ### list(table.values()), tuple keys -/
def tListVals (td : TE) : TE := fun σ H Q => td σ H fun x H1 => ∃ a kvs, x = V.ref a ∧ Rd H1 a (.dT kvs) ∧ ∀ p, H1 p = none → Q (.ref p) (upd H1 p (.lst (kvs.map (·.2))))
section
variable {X : Cx} {o : Expr} {p pos apos mpos : Pos} {td : TE}
def listVE (fa : PEV) : EV := fun δ => (fa δ).bind fun x => (res x.2 x.1).bind fun u => (asTb u).bind fun t => if t.fl = false then some (.o (.l (t.kvs.map (·.2))), x.2) else none
end
end DL

namespace DL
open PySem PySem.Spec PyProof.Rows L2
variable [TB]

/-! ### max, min, sum of a list of whole numbers -/
def bigL : List Int → Int
  | [] => 0
  | [a] => a
  | a :: b :: r => max a (bigL (b :: r))
def lowL : List Int → Int
  | [] => 0
  | [a] => a
  | a :: b :: r => min a (lowL (b :: r))
def fMaxL : List S → Option S
  | [s] => (asL s).bind fun xs => (intsP xs).bind fun ns => if ns = [] then none else some (.d (.int (bigL ns)))
  | _ => none
def fMinL : List S → Option S
  | [s] => (asL s).bind fun xs => (intsP xs).bind fun ns => if ns = [] then none else some (.d (.int (lowL ns)))
  | _ => none
def fSum : List S → Option S
  | [s] => (asL s).bind fun xs => (intsP xs).map fun ns => .d (.int ns.sum)
  | _ => none
section
variable {X : Cx} {e : Expr} {es : List Expr} {pos p : Pos} {fa : AEV}
end
end DL

namespace DL
open PySem PySem.Spec PyProof.Rows L2
variable [TB]

/-! ### what may be shown: how deep, how long -/
structure Rp (d w : Nat) (x : PyData) : Prop where
  sh : x.showable = true
  nd : x.hasDict = false
  ly : x.canLay0 = true
  dp : x.depth ≤ d
  ln : x.shown.length ≤ w
structure RpA (d w : Nat) (xs : List PyData) : Prop where
  sh : PyData.showableAll xs = true
  nd : PyData.hasDictAll xs = false
  ly : PyData.canLayAll0 xs = true
  dp : PyData.depthAll xs ≤ d
  ln : piled (PyData.shownAll xs) ≤ (w + 2) * xs.length
theorem rpA {d w : Nat} : ∀ {xs : List PyData}, (∀ x ∈ xs, Rp d w x) → RpA d w xs
  | [], _ => ⟨rfl, rfl, rfl, Nat.zero_le _, Nat.zero_le _⟩
  | x :: xs, h => by
    have a := h x List.mem_cons_self
    have b := rpA fun y hy => h y (List.mem_cons_of_mem _ hy)
    refine ⟨?_, ?_, ?_, ?_, ?_⟩
    · show (x.showable && PyData.showableAll xs) = true
      rw [a.sh, b.sh]; rfl
    · show (x.hasDict || PyData.hasDictAll xs) = false
      rw [a.nd, b.nd]; rfl
    · show (x.canLay0 && PyData.canLayAll0 xs) = true
      rw [a.ly, b.ly]; rfl
    · show max x.depth (PyData.depthAll xs) ≤ d
      exact Nat.max_le.mpr ⟨a.dp, b.dp⟩
    · show piled (x.shown :: PyData.shownAll xs) ≤ _
      rw [piled_cons, List.length_cons, Nat.mul_succ]
      have := a.ln
      have := b.ln
      omega
theorem Rp.mono {d w d' w' : Nat} {x : PyData} (h : Rp d w x) (hd : d ≤ d') (hw : w ≤ w') : Rp d' w' x := ⟨h.sh, h.nd, h.ly, Nat.le_trans h.dp hd, Nat.le_trans h.ln hw⟩
theorem Rp.bool (b : Bool) : Rp 0 5 (.bool b) := ⟨rfl, rfl, rfl, Nat.le_refl _, by cases b <;> decide +kernel⟩
theorem Rp.nil : Rp 0 4 .none := ⟨rfl, rfl, rfl, Nat.le_refl _, by decide +kernel⟩
theorem shown_1000 : ∀ k : Fin 1000, (PyData.shown (.int (k.val : Int))).length ≤ 3 := by decide +kernel
theorem Rp.int {i : Int} (h : 0 ≤ i ∧ i < 1000) : Rp 0 3 (.int i) := ⟨decide_eq_true (log_lt (a := 10) (lt_pow_of h.1 (by omega)) (by decide) (by decide)), rfl, rfl, Nat.le_refl _, by
  have := shown_1000 ⟨i.toNat, by omega⟩
  rw [show ((i.toNat : Nat) : Int) = i by omega] at this
  exact this⟩
theorem text_len (ts : List Str) : ∀ (i : Nat) (a : Str), (textFrom i a ts).length ≤ a.length + piled ts := by
  induction ts with
  | nil => intro i a; exact Nat.le_add_right _ _
  | cons t ts ih =>
    intro i a
    rw [piled_cons]
    unfold textFrom
    refine Nat.le_trans (ih _ _) ?_
    split <;> simp only [Str.length_append] <;> (have : ((", " : String) : Str).length ≤ 2 := by decide +kernel) <;> (have : (("" : String) : Str).length ≤ 0 := by decide +kernel) <;> omega
theorem Rp.list {d w : Nat} {xs : List PyData} (h : ∀ x ∈ xs, Rp d w x) : Rp (d + 1) ((w + 2) * xs.length + 3) (.list xs) := by
  have b := rpA h
  refine ⟨b.sh, b.nd, b.ly, Nat.succ_le_succ b.dp, ?_⟩
  show (listText (PyData.shownAll xs)).length ≤ _
  unfold listText
  rw [Str.length_append]
  have h1 := text_len (PyData.shownAll xs) 0 "["
  have h2 : (("[" : String) : Str).length ≤ 1 := by decide +kernel
  have h3 : (("]" : String) : Str).length ≤ 1 := by decide +kernel
  have := b.ln
  omega
theorem Rp.tuple {d w : Nat} {xs : List PyData} (h : ∀ x ∈ xs, Rp d w x) : Rp (d + 1) ((w + 2) * xs.length + 3) (.tuple xs) := by
  have b := rpA h
  refine ⟨b.sh, b.nd, b.ly, Nat.succ_le_succ b.dp, ?_⟩
  show (tupleText (PyData.shownAll xs)).length ≤ _
  unfold tupleText
  rw [Str.length_append, Str.length_append]
  have h3 : (Str.join ", " (PyData.shownAll xs)).length ≤ (w + 2) * xs.length := by
    cases xs with
    | nil => exact Nat.zero_le _
    | cons i r =>
      have e := join_length_add (PyData.shownAll (i :: r)) (by show PyData.shown i :: _ ≠ []; exact List.cons_ne_nil _ _)
      have := b.ln
      omega
  have h4 : (("(" : String) : Str).length ≤ 1 := by decide +kernel
  have h5 : ((if (PyData.shownAll xs).length == 1 then ",)" else ")" : String) : Str).length ≤ 2 := by
    split <;> decide +kernel
  omega
theorem Rp.ok {d w : Nat} {x : PyData} (h : Rp d w x) (hd : d ≤ 60) (hw : w ≤ sizeLine) : reprOk x = true := by
  unfold reprOk
  rw [h.sh, h.nd, decide_eq_true (Nat.le_trans h.dp hd), decide_eq_true (Nat.le_trans h.ln hw)]
  rfl
theorem Rp.shaped {d w : Nat} {x : PyData} (h : Rp d w x) (hd : d ≤ 64) : SeqAt.shaped x = true := by
  unfold SeqAt.shaped
  rw [h.ly, decide_eq_true (Nat.le_trans h.dp hd)]
  rfl
theorem Rp.ints {ms : List Int} (h : ∀ i ∈ ms, 0 ≤ i ∧ i < 1000) : Rp 1 (5 * ms.length + 3) (.tuple (ms.map PyData.int)) := by
  have := Rp.tuple (xs := ms.map PyData.int) (d := 0) (w := 3) fun x hx => by
    obtain ⟨i, hi, rfl⟩ := List.mem_map.mp hx
    exact Rp.int (h i hi)
  rw [List.length_map] at this
  exact this
end DL

namespace DL
open PySem PySem.Spec PyProof.Rows L2
variable [TB]
open AutoSeq1 (wpAny_loadPart')

/-! ### enumerate(tuple) -/
section
variable {prog : Program} {w : World} {A : Around} {E : Value → Shared → Prop} {s : Shared}
end
end DL

namespace DL
open PySem PySem.Spec PyProof.Rows L2
variable [TB]

/-- the tuple at a, each item in a new pair with its number -/
def ItE (K : PySem.W.Frag) (a : Addr) : It where
  go := fun i H => ∃ (xs : List V) (x : V), SqT K H a xs ∧ xs[i]? = some x
  yld := fun i H v H' => ∃ T x, v = .ref T ∧ H T = none ∧ H' = upd H T (.tup [.int (i : Nat), x]) ∧ ∀ xs, SqT K H a xs → xs[i]? = some x
  stop := fun i H => ∃ xs : List V, SqT K H a xs ∧ xs.length ≤ i
def iEnumT (K : PySem.W.Frag) (ta : TA) : TI := fun σ H R => ta σ H fun vs H1 => ∃ a xs, vs = [.ref a] ∧ SqT K H1 a xs ∧ R (ItE K a) H1
def enumX (fa : AEV) : IEV := fun δ => (fa δ).bind fun x => match x.1 with
  | [.v (.d (.list xs))] => some (enumF 0 xs, x.2)
  | [.v (.d (.tuple xs))] => some (enumF 0 xs, x.2)
  | _ => none
section
variable {X : Cx} {e : Expr} {fa : AEV} {p pos tpos : Pos} {elts : List Expr} {kk : Nat}
end
end DL

namespace DL
open PySem PySem.Spec PyProof.Rows L2 DLS
variable [TB]

/-! ### < of numbers or of tuples of numbers -/
def opLtX (a b : S) : Option S := match asI a, asI b with
  | some i, some j => some (.d (.bool (pLt i j)))
  | _, _ => (asT a).bind fun xs => (asT b).bind fun ys => (intsP xs).bind fun ns => (intsP ys).map fun ms => .d (.bool (lexL ns ms))
section
variable {X : Cx} {a b e : Expr} {pos : Pos} {fp fq : PEV} {j : Nat}
/-! ### a constant of the module -/
def Con (mg : Str → Option Value) (x : Str) (v : V) : Prop := ∃ u, mg x = some u ∧ RelV v u
theorem de_con {x : Str} {v : V} {d : PyData} (hg : Gl X x) (hm : Con X.mg x v) (h : ∀ (K : PySem.W.Frag) (G : Hp), Dq K G v d) (hd : (x == ("__debug__" : Str)) = false := by decide) : DE X (.Name x pos) (cst d) := by
  obtain ⟨u, h1, h2⟩ := hm
  exact de_cst (pe_glob hg h1 h2 hd) fun _ => h _ _
theorem de_conI {x : Str} {i : Int} (hg : Gl X x) (hm : Con X.mg x (.int i)) (hd : (x == ("__debug__" : Str)) = false := by decide) : DE X (.Name x pos) (cst (.int i)) := de_con hg hm (fun _ _ => .int i) hd
end
end DL

namespace DL
open PySem PySem.Spec PyProof.Rows L2 DLS RZ
variable [TB]

/-! ### zip of two lists, or of two tuples -/
def zipX (fa : AEV) : IEV := fun δ => (fa δ).bind fun x => match x.1 with
  | [.v (.d (.list xs)), .v (.d (.list ys))] => some (zipD xs ys, x.2)
  | [.v (.d (.tuple xs)), .v (.d (.tuple ys))] => some (zipD xs ys, x.2)
  | _ => none
end DL

namespace DL
open PySem PySem.Spec PyProof.Rows L2 DLS
variable [TB]

/-! ### a def that calls itself: its meaning by how deep it may go; no deeper means nothing -/
end DL

namespace DL
open PySem PySem.Spec PyProof.Rows L2
variable [TB]

/-! ### {k: v for .. for ..}: the machine's part -/
section
variable {prog : Program} {w : World} {A : Around} {R : Result → Shared → Prop} {s : Shared} {kx vx ta ia tb ib : Expr} {fa fb : List Expr} {scope : Scope} {pos : Pos} {it : Value} {D : Addr} {env : Env}
abbrev nbE (prog : Program) (w : World) (A : Around) (env : Env) (R : Result → Shared → Prop) := notedBy (model prog w) A env fun e s' => R (.error e) s'
abbrev ifsM (fs : List Expr) (env : Env) : Sem Bool := forIn fs true fun c r => if r = true then do let ok ← isTrue c env (eval c env); pure (ForInStep.yield ok) else pure (ForInStep.yield r)
end
end DL

namespace DL
open PySem PySem.Spec PyProof.Rows L2
variable [TB]

/-! ### {k: v for .. for ..}: a rule -/
def inGd (D : Addr) (wi1 : TI) (g1 : TG) (tt1 : TT) (tk tv : TE) (vs1 : List Nat) (σ2 : L2.St) (H3 : Hp) (Nx : Hp → Prop) : Prop :=
  wi1 σ2 H3 fun J1 H4 => ∃ W1 : Nat → Nat → Hp → Prop, (∃ m, W1 0 m H4) ∧ ∀ j k G, W1 j k G → (J1.stop j G ∧ Nx G) ∨
    (J1.go j G ∧ ∃ N1 : Hp → Prop, (∀ G', N1 G' → ∃ k', k' < k ∧ W1 (j + 1) k' G') ∧ ∀ x G', J1.yld j G x G' → g1 x (L2.wipe σ2 vs1) G' fun σ3 G5 => L2.wipe σ3 vs1 = L2.wipe σ2 vs1 ∧
      tt1 σ3 G5 fun b G6 => if b = true then tk σ3 G6 fun y G7 => tv σ3 G7 fun z G8 => ∃ G9, DPut G8 D y z G9 ∧ N1 G9 else N1 G6)
def tGd2 (o0 : HO) (wi : TI) (g : TG) (tt : TT) (wi1 : TI) (g1 : TG) (tt1 : TT) (tk tv : TE) (vs vs1 : List Nat) : TE := fun σ H Q => wi σ H fun J H1 => ∀ D, H1 D = none →
  ∃ W : Nat → Nat → Hp → Prop, (∃ m, W 0 m (upd H1 D o0)) ∧ ∀ i m G, W i m G → (J.stop i G ∧ Q (.ref D) G) ∨
    (J.go i G ∧ ∃ N : Hp → Prop, (∀ G', N G' → ∃ m', m' < m ∧ W (i + 1) m' G') ∧ ∀ x G', J.yld i G x G' → g x (L2.wipe σ vs) G' fun σ2 G2 => L2.wipe σ2 vs = L2.wipe σ vs ∧
      tt σ2 G2 fun b G3 => if b = true then inGd D wi1 g1 tt1 tk tv vs1 σ2 G3 N else N G3)
section
variable {X : Cx} {kx vx tg iter tg1 iter1 : Expr} {ifs ifs1 : List Expr} {scope : Scope} {own : List (Str × Nat)} {pos : Pos} {wi wi1 : TI} {g g1 : TG} {tt tt1 : TT} {tk tv : TE} {o0 : HO}
end
end DL

namespace DL
open PySem PySem.Spec PyProof.Rows L2
variable [TB]

/-! ### {k: v for .. for ..}, seen from the data -/
def dcD2 (fl : Bool) (vs vs1 : List Nat) (g : GEV) (tt : TEV) (fi1 : IEV) (g1 : GEV) (tt1 : TEV) (tk tv : EV) : List PyData → List (List Key × PyData) → Ds → Option (List (List Key × PyData) × Ds)
  | [], acc, δ => some (acc, δ)
  | x :: xs, acc, δ => (g x δ).bind fun δ1 => (tt δ1).bind fun b =>
    if b.1 then (fi1 b.2).bind fun z => if noOwn vs1 z.2 then (dcD fl vs1 g1 tt1 tk tv z.1 acc (wipeD z.2 vs1)).bind fun r =>
      if noOwn vs r.2 then dcD2 fl vs vs1 g tt fi1 g1 tt1 tk tv xs r.1 (wipeD r.2 vs) else none else none
    else if noOwn vs b.2 then dcD2 fl vs vs1 g tt fi1 g1 tt1 tk tv xs acc (wipeD b.2 vs) else none
def dc2E (fl : Bool) (vs vs1 : List Nat) (fi : IEV) (g : GEV) (tt : TEV) (fi1 : IEV) (g1 : GEV) (tt1 : TEV) (tk tv : EV) : EV := fun δ => (fi δ).bind fun x =>
  if noOwn vs x.2 then (dcD2 fl vs vs1 g tt fi1 g1 tt1 tk tv x.1 [] (wipeD x.2 vs)).map fun r => (.o (.t ⟨fl, r.1⟩), restD x.2 r.2 vs) else none
section
variable {K : PySem.W.Frag}
end
section
variable {X : Cx}
end
end DL

namespace DL
open PySem PySem.Spec PyProof.Rows L2
variable [TB]

/-! ### tuples that have tables in them: made, and taken apart -/
def M.s : M → S
  | .d x => .d x
  | .t x => .t x
def packA : List PV → Option (List M)
  | [] => some []
  | .v (.d x) :: ps => (packA ps).map (M.d x :: ·)
  | .v (.t x) :: ps => (packA ps).map (M.t x :: ·)
  | _ => none
section
variable {K : PySem.W.Frag} {T : List Addr} {ρ : List (Option Addr)} {H : Hp} {σ : L2.St}
end
def tupP (fa : AEV) : EV := fun δ => (fa δ).bind fun x => (packA x.1).bind fun ms => if ms.length ≤ sizeLine then some (.p ms, x.2) else none
def setM : List Nat → List M → Ds → Option Ds
  | [], [], δ => some δ
  | i :: is, m :: ms, δ => setM is ms (δ.set i (some m.s))
  | _, _, _ => none
def liftMs (K : PySem.W.Frag) (is : List Nat) : TGs := fun ws σ H Q => ∃ T ρ δ ms δ', Sim K T ρ δ σ H ∧ Paired (MV K (hid T ρ H)) ws ms ∧ setM is ms δ = some δ' ∧ ∀ ρ' σ' H', Sim K T ρ' δ' σ' H' → Ext T ρ H ρ' H' → Only is σ σ' → Q σ' H'
def liftM (K : PySem.W.Frag) (is : List Nat) : TG := fun v σ H Q => ∃ T ρ δ ms δ', Sim K T ρ δ σ H ∧ SV K (hid T ρ H) v (.p ms) ∧ setM is ms δ = some δ' ∧ ∀ ρ' σ' H', Sim K T ρ' δ' σ' H' → Ext T ρ H ρ' H' → Only is σ σ' → Q σ' H'
def unpP (f : PEV) (is : List Nat) : SEV := fun δ => (f δ).bind fun x => match x.1 with
  | .v (.p ms) => (setM is ms x.2).map fun δ' => .nx δ'
  | _ => none
section
variable {X : Cx} {pos : Pos} {e : Expr} {P : List Nat} {fp : PEV}
end
end DL

namespace DL
open PySem PySem.Spec PyProof.Rows L2
variable [TB]

/-! ### table.get(key, other) -/
def getE (ft fk fd : PEV) : EV := fun δ => (ft δ).bind fun x => (res x.2 x.1).bind fun u0 => (asTb u0).bind fun _ => (fk x.2).bind fun y => (fd y.2).bind fun z => (res z.2 x.1).bind fun u => (asTb u).bind fun t => (res z.2 y.1).bind fun kk => (keyS kk).bind fun q =>
  match z.1 with
  | .v (.d d) => if q.1 = t.fl then some (.d ((valK t.kvs q.2).getD d), z.2) else none
  | _ => none
section
variable {X : Cx} {o e f : Expr} {apos cpos : Pos} {ft fk fd : PEV} {k : Nat}
end
end DL

namespace DL
open PySem PySem.Spec PyProof.Rows L2
variable [TB]

/-! ### a tuple by 0 or 1 -/
def rRep1 (K : PySem.W.Frag) : R2 := fun x y H Q => ∃ l xs, x = .ref l ∧ y = .int 1 ∧ SqT K H l xs ∧ Q (.ref l) H
def rRep0 (K : PySem.W.Frag) : R2 := fun x y H Q => ∃ l xs, x = .ref l ∧ y = .int 0 ∧ SqT K H l xs ∧ xs ≠ [] ∧ ∀ p, H p = none → Q (.ref p) (upd H p (.tup []))
section
variable {X : Cx} {a b : Expr} {pos : Pos} {fa fb : PEV}
def opMulT (a b : S) : Option S := (asI b).bind fun j => (asT a).bind fun xs => if j = 1 then some (.d (.tuple xs)) else if j = 0 ∧ xs ≠ [] then some (.d (.tuple [])) else none
end
end DL

namespace DL
open PySem PySem.Spec PyProof.Rows L2 DLS
variable [TB]

/-! ### sorted(tuple), its members tuples of numbers -/
def rSortedTT (K : PySem.W.Frag) : List V → Hp → VK → Prop := fun vs H Q => ∃ (a : Addr) (xs : List V) (k : V → List Int), vs = [V.ref a] ∧ SqT K H a xs ∧ (∀ x ∈ xs, ∃ t, x = V.ref t ∧ H t = some (.tup ((k x).map V.int))) ∧ (xs.length < 2 ∨ ∀ x ∈ xs, k x ≠ []) ∧
  ∀ ys p, SrtO.Srtd (fun x y => lexL (k x) (k y)) ys → SrtO.Stb (fun x y => lexL (k x) (k y)) ys xs → H p = none → Q (.ref p) (upd H p (.lst ys))
def fSortedTT : List S → Option S
  | [s] => (asT s).bind fun xs => (rowsP xs).bind fun rs => if rs.length < 2 ∨ (rs.all fun r => !r.isEmpty) = true then some (.o (.l ((sortT rs).map tupI))) else none
  | _ => none
section
variable {X : Cx}
end
section
variable {X : Cx} {e : Expr} {es : List Expr} {pos p : Pos} {fa : AEV}
/-! ### {text: text, ..} -/
def strTab (kv : List (Str × Str)) : Tb := kv.foldl (fun a p => putD a [.inr p.1] (.str p.2)) []
def dispE (kv : List (Str × Str)) : EV := fun δ => some (.o (.t ⟨true, strTab kv⟩), δ)
end
end DL

namespace DL
open PySem PySem.Spec PyProof.Rows L2 DLS
variable [TB]

/-! ### len(table) -/
def fLenX : List S → Option S
  | [s] => (asTb s).bind fun t => if t.fl = false then some (.d (.int (t.kvs.length : Nat))) else none
  | _ => none
def rLenR : List V → Hp → VK → Prop := fun vs H Q => ∃ p kvs, vs = [V.ref p] ∧ Rd H p (.dT kvs) ∧ Q (.int kvs.length) H
section
variable {X : Cx} {e : Expr} {es : List Expr} {pos p : Pos} {fa : AEV}
end
end DL

namespace DL
open PySem PySem.Spec PyProof.Rows L2
variable [TB]
/-! ### two comparisons in one, as a test -/
section
variable {X : Cx} {a b c : Expr} {pos : Pos} {fa fb fc : PEV}
theorem chn_ok {r r' : R2} {g g' : S → S → Option S} (hd : OpD X.K r g) (hd' : OpD X.K r' g') (σ : L2.St) (H : Hp) (Q : V → Hp → Prop) (h : lift X.K (chn g g' fa fb fc) σ H Q) : tChain r r' (liftP X.K fa) (liftP X.K fb) (liftP X.K fc) σ H Q := by
  obtain ⟨T, ρ, δ, s, δ', hs, hf, hq⟩ := h
  unfold chn at hf
  cases ea : fa δ with
  | none => rw [ea] at hf; cases hf
  | some x =>
    rw [ea] at hf
    simp only [Option.bind_some] at hf
    cases eb : fb x.2 with
    | none => rw [eb] at hf; cases hf
    | some y =>
      rw [eb] at hf
      simp only [Option.bind_some] at hf
      cases e1 : res y.2 x.1 with
      | none => rw [e1] at hf; cases hf
      | some u =>
        rw [e1] at hf
        simp only [Option.bind_some] at hf
        cases e2 : res y.2 y.1 with
        | none => rw [e2] at hf; cases hf
        | some w =>
          rw [e2] at hf
          simp only [Option.bind_some] at hf
          cases e3 : g u w with
          | none => rw [e3] at hf; cases hf
          | some z =>
            rw [e3] at hf
            simp only [Option.bind_some] at hf
            refine ⟨T, ρ, δ, x.1, x.2, hs, by rw [ea], fun ρ1 v1 H1 s1 x1 p1 => ?_⟩
            refine ⟨T, ρ1, x.2, y.1, y.2, s1, by rw [eb], fun ρ2 v2 H2 s2 x2 p2 => ?_⟩
            split at hf
            · refine hd T ρ2 H2 v1 v2 u w (.d (.bool true)) _ s2.trk (pat_at s2 x2 p1 e1) (pat_at s2 .refl p2 e2) e3 fun v3 H3 m3 d3 => ?_
              cases (show Dq _ _ v3 (.bool true) from d3)
              have x3 := s2.trk.extT m3
              have s3 := s2.mono m3
              refine ⟨true, rfl, ?_⟩
              rw [if_pos rfl]
              cases ec : fc y.2 with
              | none => rw [ec] at hf; cases hf
              | some q =>
                rw [ec] at hf
                simp only [Option.bind_some] at hf
                cases e4 : res q.2 y.1 with
                | none => rw [e4] at hf; cases hf
                | some u' =>
                  rw [e4] at hf
                  simp only [Option.bind_some] at hf
                  cases e5 : res q.2 q.1 with
                  | none => rw [e5] at hf; cases hf
                  | some w' =>
                    rw [e5] at hf
                    simp only [Option.bind_some] at hf
                    cases e6 : g' u' w' with
                    | none => rw [e6] at hf; cases hf
                    | some z' =>
                      rw [e6] at hf
                      cases hf
                      refine ⟨T, ρ2, y.2, q.1, q.2, s3, by rw [ec], fun ρ4 v4 H4 s4 x4 p4 => ?_⟩
                      exact hd' T ρ4 H4 v2 v4 u' w' s Q s4.trk (pat_at s4 (x3.trans x4) p2 e4) (pat_at s4 .refl p4 e5) e6 (post_o s4 (x1.trans (x2.trans (x3.trans x4))) hq)
            · cases hf
              refine hd T ρ2 H2 v1 v2 u w (.d (.bool false)) _ s2.trk (pat_at s2 x2 p1 e1) (pat_at s2 .refl p2 e2) e3 fun v3 H3 m3 d3 => ?_
              cases (show Dq _ _ v3 (.bool false) from d3)
              refine ⟨false, rfl, ?_⟩
              rw [if_neg Bool.false_ne_true]
              exact hq ρ2 _ H3 (s2.mono m3) (x1.trans (x2.trans (s2.trk.extT m3))) (Dq.bl false)
            · cases hf

theorem dt_chain {op op' : CmpOp} {r r' : R2} {g g' : S → S → Option S} (ho : OpR X (compareOp op) r) (hd : OpD X.K r g) (ho' : OpR X (compareOp op') r') (hd' : OpD X.K r' g') (ha : DP X a fa) (hb : DP X b fb) (hc : DP X c fc) (hl : lastMarks [op, op'] [b, c] = false := by rfl) :
    DT X (.Compare a [op, op'] [b, c] pos) (bl (chn g g' fa fb fc)) := pt_imp (pt_chain ho ho' ha hb hc hl) fun σ H Q h => by
  have q := bl_ok σ H Q h
  exact chn_ok hd hd' σ H _ q
end
end DL

namespace DL
open PySem PySem.Spec PyProof.Rows L2 DLS
variable [TB]

/-! ### dict(list of pairs), the keys tuples -/
/-- the pair's address, its key's address, the key, the value -/
abbrev PrT := Addr × Addr × List Key × V
def mergeT (kvs : List (List Key × V)) (more : List PrT) : List (List Key × V) := more.foldl (fun acc p => putK acc p.2.2.1 p.2.2.2) kvs
def rDictT (K : PySem.W.Frag) : List V → Hp → VK → Prop := fun vs H Q => ∃ (a : Addr) (ps : List PrT), vs = [V.ref a] ∧ SqL K H a (ps.map fun p => V.ref p.1) ∧ (∀ p ∈ ps, SqT K H p.1 [V.ref p.2.1, p.2.2.2] ∧ H p.2.1 = some (.tup (p.2.2.1.map kV))) ∧
  ∀ d, H d = none → Q (.ref d) (upd H d (.dT (mergeT [] ps)))
abbrev RelPr (h : Heap) (p : PrT) (q : List Key × Addr × Value) : Prop := q.1 = p.2.2.1 ∧ q.2.1 = p.2.1 ∧ RelV p.2.2.2 q.2.2 ∧ h.IsTuple p.1 #[.ref p.2.1, q.2.2]
section
variable {X : Cx}
end
/-- the pairs of a list, by the data -/
def pairsP : List PyData → Option (List (List Key × PyData))
  | [] => some []
  | .tuple [.tuple ks, d] :: xs => (keyL ks).bind fun k => (pairsP xs).map fun r => (k, d) :: r
  | _ => none
def mergeD (kvs : List (List Key × PyData)) (more : List (List Key × PyData)) : List (List Key × PyData) := more.foldl (fun acc p => putD acc p.1 p.2) kvs
def fDictT : List S → Option S
  | [s] => (asL s).bind fun xs => (pairsP xs).map fun kvs => .o (.t ⟨false, mergeD [] kvs⟩)
  | _ => none
section
variable {X : Cx} {e : Expr} {es : List Expr} {pos p : Pos} {fa : AEV}
end
end DL

namespace DL
open PySem PySem.Spec PyProof.Rows L2 DLS
variable [TB]

/-! ### sorted(tuple of numbers) -/
def rSortedIT (K : PySem.W.Frag) : List V → Hp → VK → Prop := fun vs H Q => ∃ (a : Addr) (ns : List Int), vs = [V.ref a] ∧ SqT K H a (ns.map V.int) ∧
  ∀ (ns' : List Int) (p : Addr), ns'.Perm ns → ns'.Pairwise (· ≤ ·) → H p = none → Q (.ref p) (upd H p (.lst (ns'.map V.int)))
abbrev sortI : List Int → List Int := isort fun a b => decide (a < b)
def fSortedI : List S → Option S
  | [s] => (asT s).bind fun xs => (intsP xs).map fun ns => .o (.l ((sortI ns).map PyData.int))
  | _ => none
section
variable {X : Cx}
end
section
variable {X : Cx} {e : Expr} {es : List Expr} {pos p : Pos} {fa : AEV}
end
end DL

namespace DL
open PySem PySem.Spec PyProof.Rows L2 DLS
variable [TB]

/-! ### raise: never come to, as the meaning says -/
def noS : SEV := fun _ => none
end DL

namespace DL
open PySem PySem.Spec PyProof.Rows L2
variable [TB]

/-! ### dicts as data: {} and {'a': x} -/
def dctE0 : EV := fun δ => some (.d (.dict []), δ)
def dctE1 (k : Str) (f : EV) : EV := fun δ => (f δ).bind fun x => match x.1 with
  | .d d => some (.d (.dict [(.str k, d)]), x.2)
  | _ => none
section
variable {K : PySem.W.Frag} {T : List Addr} {ρ ρ1 : List (Option Addr)} {δ δ' : Ds} {σ : L2.St} {H H0 : Hp} {p : Addr} {o : HO}
end
section
variable {X : Cx} {e : Expr} {es : List Expr} {pos p : Pos} {fa : AEV}
/-! ### str of a whole number -/
def fStr : List S → Option S
  | [.d (.int i)] => if i.natAbs.log2 < 1920 then some (.d (.str (toString i))) else none
  | _ => none
end
end DL

namespace DLS
open PySem PySem.Calls PyProof.Rows PyProof.V PySem.Spec PySem.MeetsSeq PySem.SeqAt
/-! ### a dict against a text -/
section
variable {prog : Program} {w : World} {A : Around} {E : Value → Shared → Prop} {s : Shared}
end
end DLS
namespace DL
open PySem PySem.Spec PyProof.Rows L2 DLS
variable [TB]
/-! ### anything == a text -/
def isT (t : Str) : PyData → Bool
  | .str x => decide (x = t)
  | _ => false
def isAdr : PyData → Bool
  | .dict ((.int _, .int _) :: _) => true
  | .dict ((.int _, .str _) :: _) => true
  | .dict ((.int _, .tuple _) :: _) => true
  | .dict ((.int _, .bool _) :: _) => true
  | .dict ((.int _, .list _) :: _) => true
  | _ => false
def rEqS (K : PySem.W.Frag) : R2 := fun x y H Q => ∃ d t, Dq K H x d ∧ isAdr d = false ∧ y = .str t ∧ Q (.bl (isT t d)) H
def opEqS (a b : S) : Option S := match a, b with
  | .d x, .d (.str t) => if isAdr x = false then some (.d (.bool (isT t x))) else none
  | _, _ => none
section
variable {X : Cx} {a b : Expr} {pos : Pos} {fp fq : PEV} {k : Nat}
end
/-! ### repr of anything -/
mutual
theorem dq_reads2 {X : Cx} {pins : List (Addr × Obj)} {σ : L2.St} {H : Hp} {s : Shared} (I : Inv X pins σ H s) (hz : H sysModules = none) : ∀ (d : PyData) (v : V) (u : Value), Dq X.K H v d → RelV v u → d.showable = true → ∃ as, Reads s.heap u d as ∧ sysModules ∉ as
  | .none, _, _, h, r, sh => by
    cases h; cases r
    exact ⟨_, Reads.none, by simp⟩
  | .bool b, _, _, h, r, sh => by
    cases h; cases r
    exact ⟨_, Reads.bool b, by simp⟩
  | .int i, _, _, h, r, sh => by
    cases h
    obtain ⟨t, rfl⟩ := r
    exact ⟨_, Reads.int i t, by simp⟩
  | .str x, _, _, h, r, sh => by
    cases h
    obtain ⟨t, rfl⟩ := r
    exact ⟨_, Reads.str x t, by simp⟩
  | .list ds, _, _, h, r, sh => by
    cases h with
    | @lst a xs _ hs ha =>
      cases r
      obtain ⟨its, rv, ⟨o, n, ho, hc, _, hd⟩, _⟩ := I.list (SqL.of hs)
      obtain ⟨as, hr, hn⟩ := dq_reads2A I hz ds _ its ha rv sh
      refine ⟨_, Reads.list ho hc hd hr, fun z => ?_⟩
      rcases List.mem_cons.mp z with z | z
      · rw [← z, hz] at hs
        cases hs
      · exact hn z
  | .tuple ds, _, _, h, r, sh => by
    cases h with
    | tup hs ha =>
      cases r
      obtain ⟨its, rv, ⟨o, ho, hc, n, hd⟩, _⟩ := I.tuple (SqT.of hs)
      obtain ⟨as, hr, hn⟩ := dq_reads2A I hz ds _ its ha rv sh
      exact ⟨_, Reads.tuple ho hc hd hr, hn⟩
  | .dict [], _, _, h, r, _ => by
    obtain ⟨as, h1, h2⟩ := dq_reads I (.dict []) _ _ h r rfl
    exact ⟨as, h1, h2 rfl⟩
  | .dict [(k, x)], _, _, h, r, sh => by
    cases h with
    | @dct1 a k v _ hs hx =>
      cases r
      obtain ⟨_, ya, vs, rk, m⟩ := (show ObjOk X.prog X.w H s.heap a (.dK [(.inr k, v)]) from I.hok a _ hs)
      cases rk with
      | @cons p q _ _ r0 rt =>
        cases rt
        obtain ⟨o, es, ep, h1, h2, h3, h4⟩ := dict_parts m
        obtain ⟨q1, q2⟩ := q
        obtain ⟨rk1, rv1⟩ := r0
        cases (show Sum.inr k = q1 from rk1)
        have rv2 : RelV v q2 := rv1
        cases he : es.toList with
        | nil => rw [he] at h4; cases h4
        | cons e r =>
          rw [he] at h4
          cases h4 with
          | cons k1 k2 k3 =>
            cases r with
            | cons _ _ => cases k3
            | nil =>
              have k1' : keyIs (.inr k) e.key = true := k1
              rcases keyIs_shape k1' with ⟨i, t, e2, e1⟩ | ⟨z, t, e2, e1⟩
              · cases e2
              · cases e2
                obtain ⟨as, hr, hn⟩ := dq_reads2 I hz x v q2 hx rv2 (by
                  have := Bool.and_eq_true_iff.mp (show ((PyData.showable (.str k) && x.showable) && true) = true from sh)
                  exact (Bool.and_eq_true_iff.mp this.1).2)
                refine ⟨_, Reads.dict (as := [] ++ []) (bs := as ++ []) h1 h2 h3 (by rw [he]; show ReadsAll _ [e.key] [PyData.str k] _; rw [e1]; exact .cons (Reads.str k t) .nil) (by rw [he]; show ReadsAll _ [e.val] [x] _; rw [k2]; exact .cons hr .nil), fun z => ?_⟩
                have hz' : sysModules = a ∨ sysModules ∈ as := by simpa using z
                rcases hz' with hz' | hz'
                · rw [hz'] at ya
                  simp at ya
                · exact hn hz'
  | .dict (_ :: _ :: _), _, _, h, r, sh => by
    cases h with
    | kon h1 h2 h3 h4 h5 => exact absurd sh (kon_hid _ _ _)
    | adr _ _ h1 h2 => exact absurd sh (kon_hid _ _ _)
    | exc _ _ => exact absurd sh (kon_hid _ _ _)
    | exf _ _ _ _ => exact absurd sh (kon_hid _ _ _)
    | fn _ => exact absurd sh (kon_hid _ _ _)
    | idx _ _ => exact absurd sh (kon_hid _ _ _)
    | tab _ _ => exact absurd sh (kon_hid _ _ _)
    | tabT _ _ => exact absurd sh (kon_hid _ _ _)
    | mem _ _ _ _ _ => exact absurd sh (kon_hid _ _ _)
theorem dq_reads2A {X : Cx} {pins : List (Addr × Obj)} {σ : L2.St} {H : Hp} {s : Shared} (I : Inv X pins σ H s) (hz : H sysModules = none) : ∀ (ds : List PyData) (vs : List V) (us : List Value), DqAll X.K H vs ds → Vals vs us → PyData.showableAll ds = true → ∃ as, ReadsAll s.heap us ds as ∧ sysModules ∉ as
  | [], _, _, h, r, _ => by
    cases h; cases r
    exact ⟨_, ReadsAll.nil, by simp⟩
  | d :: ds, _, _, h, r, sh => by
    cases h with
    | cons h1 h2 =>
      cases r with
      | cons r1 r2 =>
        have sh := Bool.and_eq_true_iff.mp (show (d.showable && PyData.showableAll ds) = true from sh)
        obtain ⟨as, q1, n1⟩ := dq_reads2 I hz d _ _ h1 r1 sh.1
        obtain ⟨bs, q2, n2⟩ := dq_reads2A I hz ds _ _ h2 r2 sh.2
        refine ⟨_, ReadsAll.cons q1 q2, fun z => ?_⟩
        rcases List.mem_append.mp z with z | z
        · exact n1 z
        · exact n2 z
end
def reprD (x : PyData) : Bool := x.showable && decide (x.depth ≤ 60) && decide (x.shown.length ≤ sizeLine)
def fReprD : List S → Option S
  | [s] => (asD s).bind fun x => if reprD x then some (.d (.str x.shown)) else none
  | _ => none
def rReprD (K : PySem.W.Frag) : List V → Hp → VK → Prop := fun vs H Q => ∃ v x, vs = [v] ∧ Dq K H v x ∧ reprD x = true ∧ Q (.str x.shown) H
theorem cr_reprD {X : Cx} (hG : X.A.guards = some []) (hu : X.A.units + 64 < cLine) (hsm : ∃ o, X.base.get? sysModules = some o) : CallR X (.builtin "repr") (rReprD X.K) := by
  intro pins s σ H vs us Q I r h
  obtain ⟨v, x, rfl, hx, ok, q⟩ := h
  obtain ⟨so, hso⟩ := hsm
  have hz : H sysModules = none := (I.bs _ so hso).2
  obtain ⟨u, rfl, hu'⟩ := Vals.one r
  unfold reprD at ok
  simp only [Bool.and_eq_true, decide_eq_true_eq] at ok
  obtain ⟨⟨o1, o3⟩, o4⟩ := ok
  obtain ⟨as, rd, rn⟩ := dq_reads2 I hz x _ _ hx hu' o1
  have ref : ∀ a, u = .ref a → wpAny (model X.prog X.w) X.A (call (.builtin "repr") [.ref a]) (EP X pins σ Q) X.xe s := fun a e => by
    subst e
    exact repr_of_reads' rd o1 (fun _ => rn) hG (by omega) (fun b o e => e) (fun h' t tk hk => ⟨.str x.shown, H, I.kept hk, ⟨_, rfl⟩, q⟩) o4
  cases rd with
  | none => exact PySem.P.repr_of_none ⟨.str _, H, I.tok _, ⟨_, rfl⟩, q⟩
  | bool b => exact PySem.P.repr_of_bool ⟨.str _, H, I.tok _, ⟨_, rfl⟩, q⟩
  | int i t => exact PySem.P.repr_of_int (of_decide_eq_true o1) ⟨.str _, H, I.tok _, ⟨_, rfl⟩, q⟩
  | str z t => exact PySem.P.repr_of_str (hsz := o4) ⟨.str _, H, I.tok _, ⟨_, rfl⟩, q⟩
  | list _ _ _ _ => exact ref _ rfl
  | tuple _ _ _ _ => exact ref _ rfl
  | dict _ _ _ _ _ => exact ref _ rfl
theorem cd_reprD {K : PySem.W.Frag} : CallD K (rReprD K) fReprD := fun T ρ H vs ss s Q k hp hg hq => by
  unfold fReprD at hg
  split at hg
  · rename_i u
    obtain ⟨v, rfl, h⟩ := paired1 hp
    cases ed : asD u with
    | none => rw [ed] at hg; cases hg
    | some x =>
      rw [ed] at hg
      simp only [Option.bind_some] at hg
      split at hg
      · rename_i ok
        cases hg
        exact ⟨v, x, rfl, at_Dq h ed, ok, postO_same hq (.str _)⟩
      · cases hg
  · cases hg
section
variable {X : Cx} {e : Expr} {es : List Expr} {pos p : Pos} {fs : AEV}
theorem de_reprD {k : Nat} (hsm : ∃ o, X.base.get? sysModules = some o) (hG : X.A.guards = some []) (hr : Room k X.A) (hm : X.mg "repr" = none) (hg : Gl X "repr") (ha : DA X (e :: es) fs) (he : starEach (e :: es) X.env = (false, eval e X.env) :: starEach es X.env := by rfl) (hpl : (backTo pos (starEach es X.env)).any (·.1) = false := by rfl) : DE X (.Call (.Name "repr" p) (e :: es) [] pos) (callB fReprD fs) :=
  de_callB (cr_reprD hG hr.units hsm) cd_reprD hg hm (by decide +kernel) ha (by decide) (by decide) he hpl
end
/-! what may be shown, dicts too -/
structure RpD (d w : Nat) (x : PyData) : Prop where
  sh : x.showable = true
  dp : x.depth ≤ d
  ln : x.shown.length ≤ w
theorem Rp.toD {d w : Nat} {x : PyData} (h : Rp d w x) : RpD d w x := ⟨h.sh, h.dp, h.ln⟩
theorem RpD.mono {d w d' w' : Nat} {x : PyData} (h : RpD d w x) (hd : d ≤ d') (hw : w ≤ w') : RpD d' w' x := ⟨h.sh, Nat.le_trans h.dp hd, Nat.le_trans h.ln hw⟩
structure RpDA (d w : Nat) (xs : List PyData) : Prop where
  sh : PyData.showableAll xs = true
  dp : PyData.depthAll xs ≤ d
  ln : piled (PyData.shownAll xs) ≤ (w + 2) * xs.length
theorem rpDA {d w : Nat} : ∀ {xs : List PyData}, (∀ x ∈ xs, RpD d w x) → RpDA d w xs
  | [], _ => ⟨rfl, Nat.zero_le _, Nat.zero_le _⟩
  | x :: xs, h => by
    have a := h x List.mem_cons_self
    have b := rpDA fun y hy => h y (List.mem_cons_of_mem _ hy)
    refine ⟨?_, ?_, ?_⟩
    · show (x.showable && PyData.showableAll xs) = true
      rw [a.sh, b.sh]; rfl
    · show max x.depth (PyData.depthAll xs) ≤ d
      exact Nat.max_le.mpr ⟨a.dp, b.dp⟩
    · show piled (x.shown :: PyData.shownAll xs) ≤ _
      rw [piled_cons, List.length_cons, Nat.mul_succ]
      have := a.ln
      have := b.ln
      omega
theorem RpD.list {d w : Nat} {xs : List PyData} (h : ∀ x ∈ xs, RpD d w x) : RpD (d + 1) ((w + 2) * xs.length + 3) (.list xs) := by
  have b := rpDA h
  refine ⟨b.sh, Nat.succ_le_succ b.dp, ?_⟩
  show (listText (PyData.shownAll xs)).length ≤ _
  unfold listText
  rw [Str.length_append]
  have h1 := text_len (PyData.shownAll xs) 0 "["
  have h2 : (("[" : String) : Str).length ≤ 1 := by decide +kernel
  have h3 : (("]" : String) : Str).length ≤ 1 := by decide +kernel
  have := b.ln
  omega
theorem RpD.tuple {d w : Nat} {xs : List PyData} (h : ∀ x ∈ xs, RpD d w x) : RpD (d + 1) ((w + 2) * xs.length + 3) (.tuple xs) := by
  have b := rpDA h
  refine ⟨b.sh, Nat.succ_le_succ b.dp, ?_⟩
  show (tupleText (PyData.shownAll xs)).length ≤ _
  unfold tupleText
  rw [Str.length_append, Str.length_append]
  have h3 : (Str.join ", " (PyData.shownAll xs)).length ≤ (w + 2) * xs.length := by
    cases xs with
    | nil => exact Nat.zero_le _
    | cons i r =>
      have e := join_length_add (PyData.shownAll (i :: r)) (by show PyData.shown i :: _ ≠ []; exact List.cons_ne_nil _ _)
      have := b.ln
      omega
  have h4 : (("(" : String) : Str).length ≤ 1 := by decide +kernel
  have h5 : ((if (PyData.shownAll xs).length == 1 then ",)" else ")" : String) : Str).length ≤ 2 := by
    split <;> decide +kernel
  omega
theorem RpD.ok {d w : Nat} {x : PyData} (h : RpD d w x) (hd : d ≤ 60) (hw : w ≤ sizeLine) : fReprD [.d x] = some (.d (.str x.shown)) := by
  have e : reprD x = true := by
    unfold reprD
    rw [h.sh, decide_eq_true (Nat.le_trans h.dp hd), decide_eq_true (Nat.le_trans h.ln hw)]
    rfl
  show (if reprD x = true then some (S.d (.str x.shown)) else none) = _
  rw [if_pos e]
/-! ### the law's end, where the base has the modules' table -/
section
variable {P : Program} {w : World} {K : PySem.W.Frag} {mg mb : Str → Option Value} {k : Nat} {fa a : Addr} {fd : FuncData} {x : Str} {sp : Sp} {s₁ : Shared} {vs : List Value} {ns : List Int}
theorem end_coreS (H : Hp) (KX : K.In s₁.heap) (hns : s₁.heap.Ns mainGlobals mg) (hb : s₁.heap.Ns builtinsNs mb) (hbb : ∀ x : Str, x ≠ "__name__" → mb x = bootBuiltins x) (hlim : s₁.heap.NoLimit) (hg : s₁.gens = #[])
    (ha : s₁.heap.get? a = some { cls := .type "list", data := .seq vs.toArray }) (hr : Room k callerA)
    (hsm : ∃ mm, s₁.heap.Ns sysModules mm) (F : ∀ base : Heap, K.In base → base.Ns mainGlobals mg → (∃ o, base.get? sysModules = some o) → FnG P w K mg base k fa fd [x] sp) (hbind : ∀ (s : Shared) (u : Value), BindsTo s fd ⟨[u], []⟩ [(x, u)])
    (hO : L2.Only H) (hS : sp [.ref a] H (fun v _ => v = .bl true) fun _ _ _ => False) (hok : HOk P w H s₁.heap) (hA : ∀ b, H b ≠ none → b = a) (hK : H a ≠ none → K.lookup a = none) :
    codeAny (model P w) callerA (.call (.ref fa) ⟨[.ref a], []⟩) (fun r s' => r = .ok (.ret (.bool true)) ∧ OldK s₁.heap s'.heap ∧ s'.os = s₁.os ∧ AllBare s'.gens) s₁ := by
  have isA : ∀ {b : Addr} {u : HO}, H b = some u → b = a := fun {b u} q => hA b (by
    rw [q]
    exact Option.some_ne_none u)
  have dic : ∀ {b : Addr} {o : Obj} {es : Array DictEntry} {ep : Nat}, s₁.heap.get? b = some o → o.data = .dict es ep → H b = none := by
    intro b o es ep e d
    cases q : H b with
    | none => rfl
    | some u =>
      have e2 := isA q
      subst e2
      rw [ha] at e
      cases e
      cases (show Data.seq vs.toArray _ = Data.dict es ep from d)
  have nsK : ∀ {b : Addr} {m : Str → Option Value}, s₁.heap.Ns b m → (hidT s₁.heap H).Ns b m := by
    rintro b m ⟨o, es, ep, e, d, r⟩
    exact ⟨o, es, ep, hidT_get e (dic e d), d, r⟩
  have hKb : K.In (hidT s₁.heap H) := by
    intro b o e
    refine hidT_get (KX b o e) ?_
    cases q : H b with
    | none => rfl
    | some u =>
      have e2 := isA q
      subst e2
      rw [hK (by rw [q]; exact Option.some_ne_none u)] at e
      cases e
  obtain ⟨mc, l1, l2⟩ := hlim
  have hM : Mod K mg (hidT s₁.heap H) := ⟨hKb, nsK hns, ⟨mb, nsK hb, hbb⟩, mc, nsK l1, l2⟩
  have none0 : ∀ (b : Addr), b ∉ ([] : List Addr) := fun b => by simp
  have e0 : Env0 P w K mg (hidT s₁.heap H) callerA [] s₁ H :=
    ⟨rfl, hM, fun b o e => of_hidT e, Nat.le_of_eq (hidT_size _ _), trivial,
      fun b z => (none0 b z).elim, hok, .of_eq hg⟩
  have hsm2 : ∃ o, (hidT s₁.heap H).get? sysModules = some o := let ⟨_, z⟩ := hsm; let ⟨o, _, _, e, _⟩ := nsK z; ⟨o, e⟩
  have R := (F _ hKb (nsK hns) hsm2).run callerA [] s₁ H ⟨[.ref a], []⟩ [.ref a] [.ref a] _ _ rfl hr e0
    (hbind s₁ (.ref a)) (.cons rfl .nil) hS
  refine codeAny_mono R ?_
  intro r s' h
  cases r with
  | error e => exact h.elim
  | ok fl =>
    cases fl with
    | next => exact h.elim
    | brk => exact h.elim
    | cont => exact h.elim
    | ret u =>
      obtain ⟨v, H', os, bare, un, hok', rv, q⟩ := h
      cases (show v = .bl true from q)
      cases (show u = Value.bool true from rv)
      refine ⟨rfl, OldK.of_keep ?_, os, bare⟩
      intro b o e
      cases q : H b with
      | none => exact un.keep b o e q (fun z => none0 b z) (none0 b)
      | some u =>
        rcases hO b with z | ⟨ob, xs, z⟩
        · rw [q] at z
          cases z
        · have e1 := (hok b _ z).1
          have e2 := (hok' b _ (un.frzs b ob _ z)).1
          rw [e] at e1
          cases e1
          exact e2
theorem end_callS (KX : K.In s₁.heap) (hns : s₁.heap.Ns mainGlobals mg) (hb : s₁.heap.Ns builtinsNs mb) (hbb : ∀ x : Str, x ≠ "__name__" → mb x = bootBuiltins x) (hlim : s₁.heap.NoLimit) (hg : s₁.gens = #[])
    (ha : s₁.heap.get? a = some { cls := .type "list", data := .seq vs.toArray }) (hi : IntsAre vs ns) (hl : ns.length ≤ sizeLine) (hr : Room k callerA)
    (hsm : ∃ mm, s₁.heap.Ns sysModules mm) (F : ∀ base : Heap, K.In base → base.Ns mainGlobals mg → (∃ o, base.get? sysModules = some o) → FnG P w K mg base k fa fd [x] sp) (hbind : ∀ (s : Shared) (u : Value), BindsTo s fd ⟨[u], []⟩ [(x, u)])
    (hsp : ∀ H : Hp, L2.Only H → SqL K H a (ns.map V.int) → sp [.ref a] H (fun v _ => v = .bl true) fun _ _ _ => False) :
    codeAny (model P w) callerA (.call (.ref fa) ⟨[.ref a], []⟩) (fun r s' => r = .ok (.ret (.bool true)) ∧ OldK s₁.heap s'.heap ∧ s'.os = s₁.os ∧ AllBare s'.gens) s₁ := by
  have rv := vals_ints hi
  have lenV := hi.length
  cases hk : K.lookup a with
  | some o =>
    have e := KX a o hk
    rw [ha] at e
    cases e
    have hO : L2.Only fun _ => none := fun _ => .inl rfl
    have hS : SqL K (fun _ => none) a (ns.map V.int) := .inr ⟨_, vs.toArray, _, hk, rfl, rfl, rfl, by rw [List.size_toArray, lenV]; exact hl, by simpa using rv⟩
    refine end_coreS (fun _ => none) KX hns hb hbb hlim hg ha hr hsm F hbind hO (hsp _ hO hS) ?_ (fun b z => absurd rfl z) (fun z => absurd rfl z)
    intro b u z
    cases (show (none : Option HO) = some u from z)
  | none =>
    have at1 : ∀ b, b = a → (fun b => if b = a then some (HO.frz { cls := .type "list", data := .seq vs.toArray } (.lst (ns.map V.int))) else none) b = some (HO.frz { cls := .type "list", data := .seq vs.toArray } (.lst (ns.map V.int))) := fun b e => if_pos e
    have at0 : ∀ b, b ≠ a → (fun b => if b = a then some (HO.frz { cls := .type "list", data := .seq vs.toArray } (.lst (ns.map V.int))) else none) b = none := fun b e => if_neg e
    generalize hH : (fun b => if b = a then some (HO.frz { cls := .type "list", data := .seq vs.toArray } (.lst (ns.map V.int))) else none : Hp) = H at at1 at0
    have hO : L2.Only H := fun b => by
      by_cases e : b = a
      · exact .inr ⟨_, _, at1 b e⟩
      · exact .inl (at0 b e)
    refine end_coreS H KX hns hb hbb hlim hg ha hr hsm F hbind hO (hsp H hO (.inl (.inr ⟨_, at1 a rfl⟩))) ?_ ?_ fun _ => hk
    · intro b u z
      by_cases e : b = a
      · rw [at1 b e] at z
        cases z
        subst e
        refine ⟨ha, ?_, vs, _, rv, ha⟩
        rw [List.length_map]
        exact hl
      · rw [at0 b e] at z
        cases z
    · intro b z
      by_cases e : b = a
      · exact e
      · exact absurd (at0 b e) z
end
omit [TB] in
/-- the goal that the head leaves, from the law's meaning: it is True of every script -/
theorem walkS {l : PySem.W.OpenLaw} {n k : Nat} {q : Program} {loose : List Str} {XP : (Str → Option Value) → Heap → Prop} {YP : World → Heap → Prop} {d : DefRec} {K : Params → PySem.W.Frag} {x : Str} {G : FN}
    (hn : l.most = some n) (hn2 : n ≤ sizeLine) (hdf : d.params.defaults = []) (hr : Room k callerA) (himp : importsNone q = true) (hY : ∀ (w : World) (h : Heap), YP w h → (K w.params).In h)
    (F : ∀ (w : World) (mg : Str → Option Value) (fa : Addr) (h : Heap), (K w.params).In h → h.Ns mainGlobals mg → mg d.name = some (.ref fa) →
      ∃ fd : FuncData, (∀ (s : Shared) (u : Value), BindsTo s fd ⟨[u], []⟩ [(x, u)]) ∧
        ∀ base : Heap, (K w.params).In base → base.Ns mainGlobals mg → (∃ o, base.get? sysModules = some o) → FnG l.prog w (K w.params) mg base k fa fd [x] (@spF defTB (K w.params) 1 G))
    (hG : ∀ ns : List Int, ns.length ≤ n → ∃ cs, G [.z ns] = some (.d (.bool true), cs)) :
    PySem.W.WalkO q loose XP YP l.row.toRowW d [] (fun f vs => PySem.call f vs) := by
  refine Att.attach_call hn hdf fun w s₀ s₁ mg mb fa o pm cd doc a vs ns G' Y ho hd hcd hmg hobj hints hlen hg => ?_
  have KX := hY w _ Y
  obtain ⟨fd, hb, hF⟩ := F w mg fa _ KX G'.T.g hmg
  refine end_callS KX G'.T.g G'.T.b G'.T.builtins G'.T.nolimit hg hobj hints (Nat.le_trans hlen hn2) hr (let ⟨mm, z, _⟩ := (G'.T.seer himp).mods; ⟨mm, z⟩) hF hb ?_
  intro H hO hS
  obtain ⟨cs, hcs⟩ := hG ns hlen
  have he : hid [] [none] H = H := by
    funext b
    unfold hid
    rw [if_neg]
    rintro (z | z)
    · cases z
    · cases List.mem_singleton.mp z
  refine ⟨[], [none], [.z ns], _, cs, ⟨rfl, rfl, ?_, ?_, ?_, ?_, ?_, ?_, (fun p hp => by cases (show p ∈ ([] : List (Addr × Str)) from hp)), (fun p hp => by cases (show p ∈ ([] : List (Addr × Str)) from hp))⟩, rfl, hcs, ?_⟩
  · intro i s hi
    cases i with
    | zero =>
      cases (show some (some (S.z ns)) = some (some s) from hi)
      exact ⟨.ref a, rfl, a, rfl, by rw [he]; exact hS⟩
    | succ i => cases (show (none : Option (Option S)) = some (some s) from hi)
  · intro i c hi
    cases i with
    | zero => cases (show some (some (S.z ns)) = some (some (S.o c)) from hi)
    | succ i => cases (show (none : Option (Option S)) = some (some (S.o c)) from hi)
  · intro i b hi
    cases i with
    | zero => cases (show some (none : Option Addr) = some (some b) from hi)
    | succ i => cases (show (none : Option (Option Addr)) = some (some b) from hi)
  · intro i j b hi
    cases i with
    | zero => cases (show some (none : Option Addr) = some (some b) from hi)
    | succ i => cases (show (none : Option (Option Addr)) = some (some b) from hi)
  · intro i b hi
    cases i with
    | zero => cases (show some (none : Option Addr) = some (some b) from hi)
    | succ i => cases (show (none : Option (Option Addr)) = some (some b) from hi)
  · intro b hb
    cases hb
  · intro v H' _ _ hv
    cases (show Dq _ _ v (.bool true) from hv)
    rfl
end DL

namespace DL
open PySem PySem.Spec PyProof.Rows L2 DLS
variable [TB]
/-! ### numbers, truths among them -/
abbrev b2 (b : Bool) : Int := if b = true then 1 else 0
def rNum (g : Int → Int → Int) : R2 := fun x y H Q => (∃ i j, x = .int i ∧ y = .int j ∧ Q (.int (g i j)) H) ∨ (∃ b j, x = .bl b ∧ y = .int j ∧ Q (.int (g (b2 b) j)) H) ∨ (∃ i b, x = .int i ∧ y = .bl b ∧ Q (.int (g i (b2 b))) H)
def opNum (g : Int → Int → Int) (a b : S) : Option S := match a, b with
  | .d (.int i), .d (.int j) => some (.d (.int (g i j)))
  | .d (.bool b), .d (.int j) => some (.d (.int (g (b2 b) j)))
  | .d (.int i), .d (.bool b) => some (.d (.int (g i (b2 b))))
  | _, _ => none
section
variable {X : Cx} {a b e : Expr} {es : List Expr} {pos p : Pos} {fp fq : PEV} {fa : AEV}
def strN : PyData → Option Str
  | .int i => if i.natAbs.log2 < 1920 then some (toString i) else none
  | .bool b => some (if b = true then "True" else "False")
  | _ => none
def fStrN : List S → Option S
  | [.d x] => (strN x).map fun t => .d (.str t)
  | _ => none
end
/-! ### a tuple of anything != () -/
def rNeU (K : PySem.W.Frag) : R2 := fun x y H Q => ∃ xs, Dq K H x (.tuple xs) ∧ Dq K H y (.tuple []) ∧ Q (.bl (!xs.isEmpty)) H
def opNeU (a b : S) : Option S := match a, b with
  | .d (.tuple xs), .d (.tuple []) => some (.d (.bool (!xs.isEmpty)))
  | _, _ => none
section
variable {X : Cx} {a b : Expr} {pos : Pos} {fp fq : PEV} {k : Nat}
end
end DL

namespace DL
open PySem PySem.Spec PyProof.Rows L2 DLS
variable [TB]
/-! ### things of any kind: how great, how deep, how long -/
inductive Sm (B : Nat) : PyData → Prop
  | non : Sm B .none
  | bl (b : Bool) : Sm B (.bool b)
  | int {i : Int} (h : i.natAbs ≤ B) : Sm B (.int i)
  | str (x : Str) : Sm B (.str x)
  | lst {xs : List PyData} (h : ∀ x ∈ xs, Sm B x) : Sm B (.list xs)
  | tup {xs : List PyData} (h : ∀ x ∈ xs, Sm B x) : Sm B (.tuple xs)
  | dE : Sm B (.dict [])
  | d1 {k : Str} {x : PyData} (h : Sm B x) : Sm B (.dict [(.str k, x)])
theorem Sm.mono {B B' : Nat} (hB : B ≤ B') {x : PyData} (h : Sm B x) : Sm B' x := by
  induction h with
  | non => exact .non
  | bl b => exact .bl b
  | int h => exact .int (Nat.le_trans h hB)
  | str x => exact .str x
  | lst _ ih => exact .lst ih
  | tup _ ih => exact .tup ih
  | dE => exact .dE
  | d1 _ ih => exact .d1 ih
theorem all_show : ∀ {xs : List PyData}, (∀ x ∈ xs, x.showable = true) → PyData.showableAll xs = true
  | [], _ => rfl
  | x :: xs, h => by
    show (x.showable && PyData.showableAll xs) = true
    rw [h x List.mem_cons_self, all_show fun y hy => h y (List.mem_cons_of_mem _ hy)]
    rfl
theorem Sm.show {B : Nat} (hB : B < 2 ^ 1000) {x : PyData} (h : Sm B x) : x.showable = true := by
  induction h with
  | non => rfl
  | bl b => rfl
  | int h => exact decide_eq_true (log_lt (a := 1000) (Nat.lt_of_le_of_lt h hB) (by decide) (by decide))
  | str x => rfl
  | lst _ ih => exact all_show ih
  | tup _ ih => exact all_show ih
  | dE => rfl
  | @d1 k x _ ih =>
    show (true && x.showable && true) = true
    rw [ih]; rfl
def slen (xs : List PyData) : Nat := (xs.map fun x => x.shown.length + 2).sum
theorem slen_piled : ∀ xs : List PyData, piled (PyData.shownAll xs) = slen xs
  | [] => rfl
  | x :: xs => by
    show piled (x.shown :: PyData.shownAll xs) = _
    rw [piled_cons, slen_piled xs]
    unfold slen
    rw [List.map_cons, List.sum_cons]
theorem slen_one (x : PyData) : slen [x] = x.shown.length + 2 := by
  unfold slen
  simp
theorem sum_sub {l m : List Nat} (h : l.Sublist m) : l.sum ≤ m.sum := by
  induction h with
  | slnil => exact Nat.le_refl _
  | cons a _ ih => rw [List.sum_cons]; omega
  | cons_cons a _ ih => rw [List.sum_cons, List.sum_cons]; omega
theorem slen_sub {xs ys : List PyData} (h : xs.Sublist ys) : slen xs ≤ slen ys := sum_sub (h.map _)
theorem slen_len (xs : List PyData) : 2 * xs.length ≤ slen xs := by
  induction xs with
  | nil => exact Nat.le_refl _
  | cons x xs ih =>
    have : slen (x :: xs) = x.shown.length + 2 + slen xs := by
      unfold slen
      rw [List.map_cons, List.sum_cons]
    rw [this, List.length_cons]
    omega
structure It (d w B : Nat) (x : PyData) : Prop where
  sm : Sm B x
  dp : x.depth ≤ d
  ln : x.shown.length ≤ w
structure SqI (d w B : Nat) (xs : List PyData) : Prop where
  sm : ∀ x ∈ xs, Sm B x
  dp : ∀ x ∈ xs, x.depth ≤ d
  ln : slen xs ≤ w
theorem It.mono {d w B d' w' B' : Nat} {x : PyData} (h : It d w B x) (hd : d ≤ d') (hw : w ≤ w') (hB : B ≤ B') : It d' w' B' x := ⟨h.sm.mono hB, Nat.le_trans h.dp hd, Nat.le_trans h.ln hw⟩
theorem SqI.mono {d w B d' w' B' : Nat} {x : List PyData} (h : SqI d w B x) (hd : d ≤ d') (hw : w ≤ w') (hB : B ≤ B') : SqI d' w' B' x := ⟨fun y hy => (h.sm y hy).mono hB, fun y hy => Nat.le_trans (h.dp y hy) hd, Nat.le_trans h.ln hw⟩
theorem depth_all {d : Nat} : ∀ {xs : List PyData}, (∀ x ∈ xs, x.depth ≤ d) → PyData.depthAll xs ≤ d
  | [], _ => Nat.zero_le _
  | x :: xs, h => by
    show max x.depth (PyData.depthAll xs) ≤ d
    exact Nat.max_le.mpr ⟨h x List.mem_cons_self, depth_all fun y hy => h y (List.mem_cons_of_mem _ hy)⟩
theorem depth_mem {d : Nat} : ∀ {xs : List PyData}, PyData.depthAll xs ≤ d → ∀ x ∈ xs, x.depth ≤ d
  | [], _, x, hx => nomatch hx
  | y :: xs, h, x, hx => by
    have h' : max y.depth (PyData.depthAll xs) ≤ d := h
    obtain ⟨h1, h2⟩ := Nat.max_le.mp h'
    rcases List.mem_cons.mp hx with rfl | hx
    · exact h1
    · exact depth_mem h2 x hx
theorem SqI.tup {d w B : Nat} {xs : List PyData} (h : SqI d w B xs) : It (d + 1) (w + 3) B (.tuple xs) := by
  refine ⟨.tup h.sm, Nat.succ_le_succ (depth_all h.dp), ?_⟩
  show (tupleText (PyData.shownAll xs)).length ≤ _
  unfold tupleText
  rw [Str.length_append, Str.length_append]
  have hp := slen_piled xs
  have h3 : (Str.join ", " (PyData.shownAll xs)).length ≤ slen xs := by
    cases xs with
    | nil => exact Nat.zero_le _
    | cons i r =>
      have e := join_length_add (PyData.shownAll (i :: r)) (by show PyData.shown i :: _ ≠ []; exact List.cons_ne_nil _ _)
      omega
  have h4 : (("(" : String) : Str).length ≤ 1 := by decide +kernel
  have h5 : ((if (PyData.shownAll xs).length == 1 then ",)" else ")" : String) : Str).length ≤ 2 := by
    split <;> decide +kernel
  have := h.ln
  omega
theorem SqI.lst {d w B : Nat} {xs : List PyData} (h : SqI d w B xs) : It (d + 1) (w + 3) B (.list xs) := by
  refine ⟨.lst h.sm, Nat.succ_le_succ (depth_all h.dp), ?_⟩
  show (listText (PyData.shownAll xs)).length ≤ _
  unfold listText
  rw [Str.length_append]
  have hp := slen_piled xs
  have h1 := text_len (PyData.shownAll xs) 0 "["
  have h2 : (("[" : String) : Str).length ≤ 1 := by decide +kernel
  have h3 : (("]" : String) : Str).length ≤ 1 := by decide +kernel
  have := h.ln
  omega
theorem It.un {d w B : Nat} {xs : List PyData} (h : It (d + 1) w B (.tuple xs)) : SqI d (w + 2) B xs := by
  refine ⟨?_, depth_mem (Nat.le_of_succ_le_succ h.dp), ?_⟩
  · cases h.sm with
    | tup q => exact q
  · have hl := h.ln
    have hl' : (tupleText (PyData.shownAll xs)).length ≤ w := hl
    unfold tupleText at hl'
    rw [Str.length_append, Str.length_append] at hl'
    have hp := slen_piled xs
    cases xs with
    | nil => exact Nat.zero_le _
    | cons i r =>
      have e := join_length_add (PyData.shownAll (i :: r)) (by show PyData.shown i :: _ ≠ []; exact List.cons_ne_nil _ _)
      omega
theorem It.deep {d w B : Nat} {xs : List PyData} (h : It d w B (.tuple xs)) : ∃ e, d = e + 1 := by
  have : PyData.depthAll xs + 1 ≤ d := h.dp
  exact ⟨d - 1, by omega⟩
theorem SqI.sub {d w B : Nat} {xs ys : List PyData} (h : SqI d w B ys) (s : xs.Sublist ys) : SqI d w B xs := ⟨fun x hx => h.sm x (s.subset hx), fun x hx => h.dp x (s.subset hx), Nat.le_trans (slen_sub s) h.ln⟩
theorem It.one {d w B : Nat} {x : PyData} (h : It d w B x) : SqI d (w + 2) B [x] := ⟨fun y hy => by rw [List.mem_singleton.mp hy]; exact h.sm, fun y hy => by rw [List.mem_singleton.mp hy]; exact h.dp, by
  rw [slen_one]
  have := h.ln
  omega⟩
theorem SqI.nil (d B : Nat) : SqI d 0 B [] := ⟨fun x hx => (nomatch hx), fun x hx => (nomatch hx), Nat.le_refl _⟩
theorem SqI.len {d w B : Nat} {xs : List PyData} (h : SqI d w B xs) : xs.length ≤ w := by
  have := slen_len xs
  have := h.ln
  omega
theorem shown_le {x : PyData} : ∀ {xs : List PyData}, x ∈ xs → x.shown.length + 2 ≤ slen xs
  | y :: xs, h => by
    have e : slen (y :: xs) = y.shown.length + 2 + slen xs := by
      unfold slen
      rw [List.map_cons, List.sum_cons]
    rw [e]
    rcases List.mem_cons.mp h with rfl | h
    · omega
    · have := shown_le h
      omega
theorem SqI.at {d w B : Nat} {xs : List PyData} (h : SqI d w B xs) {x : PyData} (hx : x ∈ xs) : It d w B x := ⟨h.sm x hx, h.dp x hx, by
  have := shown_le hx
  have := h.ln
  omega⟩
theorem It.ok {d w B : Nat} {x : PyData} (h : It d w B x) (hd : d ≤ 60) (hw : w ≤ 16000000) (hB : B < 2 ^ 1000) : fReprD [.d x] = some (.d (.str x.shown)) := RpD.ok (d := d) (w := w) ⟨h.sm.show hB, h.dp, h.ln⟩ hd (Nat.le_trans hw (by decide))
theorem It.rp {d w B : Nat} {x : PyData} (hs : Sm B x) (h : RpD d w x) : It d w B x := ⟨hs, h.dp, h.ln⟩
theorem shown_int : ∀ k : Fin 201, (PyData.shown (.int ((k.val : Int) - 100))).length ≤ 5 := by decide +kernel
theorem shown_str : ∀ k : Fin 201, (PyData.shown (.str (Str.ofString (toString ((k.val : Int) - 100))))).length ≤ 7 := by decide +kernel
theorem It.int {d B : Nat} {i : Int} (h : i.natAbs ≤ B) (hB : B ≤ 100) : It d 5 B (.int i) := ⟨.int h, Nat.zero_le _, by
  have := shown_int ⟨(i + 100).toNat, by omega⟩
  rw [show (((i + 100).toNat : Nat) : Int) - 100 = i by omega] at this
  exact this⟩
theorem It.strI {d B : Nat} {i : Int} (h : i.natAbs ≤ 100) : It d 7 B (.str (Str.ofString (toString i))) := ⟨.str _, Nat.zero_le _, by
  have := shown_str ⟨(i + 100).toNat, by omega⟩
  rw [show (((i + 100).toNat : Nat) : Int) - 100 = i by omega] at this
  exact this⟩
theorem It.non (d B : Nat) : It d 4 B .none := ⟨.non, Nat.zero_le _, by decide +kernel⟩
theorem It.bl (d B : Nat) (b : Bool) : It d 5 B (.bool b) := ⟨.bl b, Nat.zero_le _, by cases b <;> decide +kernel⟩
end DL

namespace DL
open PySem PySem.Spec PyProof.Rows L2 DLS
variable [TB]
/-! ### a tuple by any small number -/
def opMulTN (a b : S) : Option S := match opMulT a b with
  | some z => some z
  | none => (asI b).bind fun j => (asT a).bind fun xs => if xs ≠ [] ∧ 2 ≤ j ∧ j ≤ 1000 ∧ xs.length ≤ 1000 then some (.d (.tuple (List.replicate j.toNat xs).flatten)) else none
section
variable {X : Cx} {a b : Expr} {pos : Pos} {fa fb : PEV}
end
end DL

namespace DLS
open PySem PySem.Spec PyProof.Rows L2 SrtO PySem.W
/-! ### tuples that are all empty can be sorted too -/
section
variable {prog : Program} {w : World} {A : Around} {E : Value → Shared → Prop} {s : Shared}
end
end DLS
namespace DL
open PySem PySem.Spec PyProof.Rows L2 DLS
variable [TB]
/-! ### sorted(tuple), its members tuples of numbers -/
def rSortedTE (K : PySem.W.Frag) : List V → Hp → VK → Prop := fun vs H Q => ∃ (a : Addr) (xs : List V) (k : V → List Int), vs = [V.ref a] ∧ SqT K H a xs ∧ (∀ x ∈ xs, ∃ t, x = V.ref t ∧ H t = some (.tup ((k x).map V.int))) ∧ ((∀ x ∈ xs, k x = []) ∨ xs.length < 2 ∨ ∀ x ∈ xs, k x ≠ []) ∧
  ∀ ys p, SrtO.Srtd (fun x y => lexL (k x) (k y)) ys → SrtO.Stb (fun x y => lexL (k x) (k y)) ys xs → H p = none → Q (.ref p) (upd H p (.lst ys))
def fSortedTE : List S → Option S
  | [s] => (asT s).bind fun xs => (rowsP xs).bind fun rs => if (rs.all fun r => r.isEmpty) = true ∨ rs.length < 2 ∨ (rs.all fun r => !r.isEmpty) = true then some (.o (.l ((sortT rs).map tupI))) else none
  | _ => none
section
variable {X : Cx}
end
section
variable {X : Cx} {e : Expr} {es : List Expr} {pos p : Pos} {fa : AEV}
end
end DL

namespace DL
open PySem PySem.Spec PyProof.Rows L2 DLS
variable [TB]
/-! ### n *= e -/
def ipMul : TIp := fun x y H Q => ∃ i j, x = .int i ∧ y = .int j ∧ (-(2 ^ 64) < j ∧ j < 2 ^ 64) ∧ Q (.int (i * j)) H
section
variable {X : Cx} {P : List Nat} {e : Expr} {pos : Pos} {fp : PEV}
def augMS (i : Nat) (f : PEV) : SEV := fun δ => match slot δ i with
  | some (.d (.int m)) => (f δ).bind fun x => match x.1 with
    | .v (.d (.int n)) => if -(2 ^ 64) < n ∧ n < 2 ^ 64 then some (.nx (x.2.set i (some (.d (.int (m * n)))))) else none
    | _ => none
  | _ => none
end
/-! ### a tuple of anything == () -/
def rEqU (K : PySem.W.Frag) : R2 := fun x y H Q => ∃ xs, Dq K H x (.tuple xs) ∧ Dq K H y (.tuple []) ∧ Q (.bl xs.isEmpty) H
def opEqU (a b : S) : Option S := match a, b with
  | .d (.tuple xs), .d (.tuple []) => some (.d (.bool xs.isEmpty))
  | _, _ => none
section
variable {X : Cx} {a b : Expr} {pos : Pos} {fp fq : PEV} {k : Nat}
end
end DL

namespace DL
open PySem PySem.Spec PyProof.Rows L2 DLS
variable [TB]
/-! ### x[i] as a target, x owned -/
def subG (i : Nat) (fi : PEV) : GEV := fun d δ => match slot δ i with
  | some (.o _) => (fi δ).bind fun y => match y.1, slot y.2 i with
    | .v (.d (.int k)), some (.o (.l xs)) => (ixN xs.length k).map fun j => y.2.set i (some (.o (.l (xs.set j d))))
    | _, _ => none
  | _ => none
section
variable {X : Cx}
end
end DL

namespace DL
open PySem PySem.Spec PyProof.Rows L2 LamX NdefX
variable [TB]
/-! ### a function with captured cells is entered -/
section
omit [TB]
theorem cellsFrom_app : ∀ (names : List (Str × NameKind)) (n : Nat) (a b : List (Str × Addr)), cellsFrom n names (a ++ b) = cellsFrom n names a ++ b
  | [], _, _, _ => rfl
  | (x, k) :: r, n, a, b => by
    unfold cellsFrom
    split
    · exact cellsFrom_app r (n + 1) ((x, n) :: a) b
    · exact cellsFrom_app r n a b
theorem cellsFrom_cl (names : List (Str × NameKind)) (n : Nat) (cl : List (Str × Addr)) : cellsFrom n names cl = cellsFrom n names [] ++ cl := cellsFrom_app names n [] cl
theorem cells_kind : ∀ {names : List (Str × NameKind)} {n : Nat} {acc : List (Str × Addr)} {x : Str} {c : Addr}, (x, c) ∈ cellsFrom n names acc → (x, c) ∈ acc ∨ (x, NameKind.cell) ∈ names
  | [], _, _, _, _, h => .inl h
  | (y, k) :: r, n, acc, x, c, h => by
    unfold cellsFrom at h
    split at h
    · rename_i hk
      have hk : k = .cell := by simpa using hk
      rcases cells_kind h with h | h
      · rcases List.mem_cons.mp h with e | h
        · cases e
          exact .inr (by rw [hk]; exact List.mem_cons_self)
        · exact .inl h
      · exact .inr (List.mem_cons_of_mem _ h)
    · rcases cells_kind h with h | h
      · exact .inl h
      · exact .inr (List.mem_cons_of_mem _ h)
/-- its names: the parameters, then the captured ones, then its blocks' -/
structure CScope (N ps fr : List Str) (sc : Scope) : Prop where
  kind : sc.kind = .function
  co : sc.isCoroutine = false
  gen : sc.isGenerator = false
  nd : N.Nodup
  pre : N.take (ps.length + fr.length) = ps ++ fr
  par : ∀ x ∈ ps, sc.names.lookup x = some .local ∨ sc.names.lookup x = some .cell
  free : ∀ y ∈ sc.names, y.2 = .free → y.1 ∈ fr
  frk : ∀ x ∈ fr, sc.names.lookup x = some .free
  uniq : ∀ y ∈ sc.names, sc.names.lookup y.1 = some y.2
def cscB (N ps fr : List Str) (sc : Scope) : Bool :=
  decide (sc.kind = .function) && !sc.isCoroutine && !sc.isGenerator && decide N.Nodup && decide (N.take (ps.length + fr.length) = ps ++ fr) && ps.all (fun x => decide (sc.names.lookup x = some .local) || decide (sc.names.lookup x = some .cell)) && sc.names.all (fun y => !decide (y.2 = .free) || decide (y.1 ∈ fr)) && fr.all (fun x => decide (sc.names.lookup x = some .free)) && sc.names.all (fun y => decide (sc.names.lookup y.1 = some y.2))
section
variable {M : Model} {A : Around} {E : Value → Shared → Prop} {s₀ s : Shared} {m cm : Str → Option Value} {env : Env} {own : List (Str × Addr)}
theorem stLC2 {n : Str} {v : Value} {Q : Unit → Shared → Prop} (x : InCallC s₀ env.locals m own cm s) (hk : env.scope.kind = .function) (hl : env.kindOf n = some .local)
    (h : ∀ s', InCallC s₀ env.locals (fun y => if y = n then some v else m y) own cm s' → Q () s') : wpAny M A (storeName env n v) Q E s := by
  refine wpAny_storeName_local hl x.toInCall.ns (fun h' hn' hs' => h _ ⟨⟨?_, hn', fun b o e => ?_, x.toInCall.fresh⟩, fun k c hc => ?_, x.apart, x.above⟩) (by rw [hk]; rfl)
  · obtain ⟨h₁, tk, rfl⟩ := x.toInCall.same
    exact ⟨h', _, rfl⟩
  · exact hs'.extBut b o (Nat.ne_of_lt (Nat.lt_of_lt_of_le (Heap.lt_size e) x.toInCall.fresh)) (x.toInCall.keep b o e)
  · exact (x.cell k c hc).sameBut hs' (Nat.ne_of_gt (x.above k c (PySem.mem_of_lookup hc)))
theorem stCC2 {n : Str} {c : Addr} {v : Value} {Q : Unit → Shared → Prop} (x : InCallC s₀ env.locals m own cm s) (hk : env.scope.kind = .function) (hl : env.kindOf n = some .cell)
    (hc : own.lookup n = some c) (hc1 : env.cells.lookup n = some c)
    (h : ∀ s', InCallC s₀ env.locals m own (fun y => if y = n then some v else cm y) s' → Q () s') : wpAny M A (storeName env n v) Q E s := by
  have hLc := x.above n c (PySem.mem_of_lookup hc)
  refine wpAny_storeName_cell hk hl hc1 (x.cell n c hc) fun h' hc' hs' => h _ ⟨⟨?_, x.toInCall.ns.sameBut hs' (Nat.ne_of_lt hLc), fun b o e => ?_, x.toInCall.fresh⟩, fun k c' hk' => ?_, x.apart, x.above⟩
  · obtain ⟨h₁, tk, rfl⟩ := x.toInCall.same
    exact ⟨h', _, rfl⟩
  · exact hs'.extBut b o (Nat.ne_of_lt (Nat.lt_trans (Nat.lt_of_lt_of_le (Heap.lt_size e) x.toInCall.fresh) hLc)) (x.toInCall.keep b o e)
  · by_cases hkn : k = n
    · subst hkn
      rw [hc] at hk'; cases hk'
      simpa using hc'
    · rw [if_neg hkn]
      exact (x.cell k c' hk').sameBut hs' fun e => hkn (name_of_addr x.apart (PySem.mem_of_lookup hk') (e ▸ PySem.mem_of_lookup hc))
theorem bindParams2 (f : Str × Value → PUnit → Sem (ForInStep PUnit)) (hf : ∀ n v u, f (n, v) u = (do storeName env n v; pure (.yield ⟨⟩))) (hk : env.scope.kind = .function) :
    ∀ (binds : List (Str × Value)) (m cm : Str → Option Value) (s : Shared) (Q : PUnit → Shared → Prop), InCallC s₀ env.locals m own cm s →
      (∀ x ∈ binds, env.kindOf x.1 = some .local ∨ (env.kindOf x.1 = some .cell ∧ ∃ c, own.lookup x.1 = some c ∧ env.cells.lookup x.1 = some c)) →
      (∀ s', InCallC s₀ env.locals (bindL env.kindOf binds m) own (bindC env.kindOf binds cm) s' → Q ⟨⟩ s') → wpAny M A (forIn binds ⟨⟩ f) Q E s
  | [], m, cm, s, Q, x, _, h => by rw [List.forIn_nil]; exact wpAny_pure (h s x)
  | (n, v) :: r, m, cm, s, Q, x, hkind, h => by
    rw [List.forIn_cons, hf]
    have hr : ∀ y ∈ r, env.kindOf y.1 = some .local ∨ (env.kindOf y.1 = some .cell ∧ ∃ c, own.lookup y.1 = some c ∧ env.cells.lookup y.1 = some c) := fun y hy => hkind y (List.mem_cons_of_mem _ hy)
    rcases hkind (n, v) List.mem_cons_self with hl | ⟨hl, c, hc, hc1⟩
    · refine wpAny_bind (wpAny_bind (stLC2 x hk hl fun s' x' => wpAny_pure (bindParams2 f hf hk r _ _ s' Q x' hr fun s'' x'' => h s'' ?_)))
      unfold bindL bindC; rw [if_pos hl, if_pos hl]; exact x''
    · have hnl : ¬ env.kindOf n = some .local := by rw [hl]; decide
      refine wpAny_bind (wpAny_bind (stCC2 x hk hl hc hc1 fun s' x' => wpAny_pure (bindParams2 f hf hk r _ _ s' Q x' hr fun s'' x'' => h s'' ?_)))
      unfold bindL bindC; rw [if_neg hnl, if_neg hnl]; exact x''
theorem newEnvCl {scope : Scope} {globals : Addr} {cl : List (Str × Addr)} {binds : List (Str × Value)} {qual : Str} {func : Option Addr} {code : Value} {builtins : Addr} {Q : Env → Shared → Prop}
    (hk : scope.kind = .function) (hkind : ∀ x ∈ binds, scope.names.lookup x.1 = some .local ∨ scope.names.lookup x.1 = some .cell)
    (hQ : ∀ env, env = newEnv scope s.heap.objs.size globals (cellsFrom (s.heap.objs.size + 1) scope.names cl) qual func code none builtins →
      ∀ s', InCallC s env.locals (bindL env.kindOf binds fun _ => none) (cellsFrom (s.heap.objs.size + 1) scope.names []) (bindC env.kindOf binds fun _ => none) s' → Q env s') :
    wpAny M A (newFunctionEnv scope globals cl binds qual func code none builtins) Q E s := by
  simp only [newFunctionEnv, Option.isSome_none, Bool.false_eq_true, if_false]
  refine wpAny_bind (wpAny_alloc ?_)
  refine wpAny_bind (wpAny_layCells _ (fun name kind cells => by cases hkc : kind == NameKind.cell <;> simp [hkc]) _ _ _ _ ?_)
  have ok := cellsFrom_ok scope.names (s.heap.push { cls := .type "frame", data := .dict #[] }) (s.heap.objs.size + 1) [] ⟨fun _ _ hm => (nomatch hm), List.Pairwise.nil⟩ (by rw [Heap.size_push]; exact Nat.le_refl _)
  rw [Heap.size_push] at ok
  rw [show ({ s with heap := s.heap.push { cls := .type "frame", data := .dict #[] } } : Shared).heap.objs.size = s.heap.objs.size + 1 from Heap.size_push ..]
  refine wpAny_bind (bindParams2 (s₀ := s) (env := newEnv scope s.heap.objs.size globals (cellsFrom (s.heap.objs.size + 1) scope.names cl) qual func code none builtins) (own := cellsFrom (s.heap.objs.size + 1) scope.names [])
    _ (fun _ _ _ => rfl) hk binds (fun _ => none) (fun _ => none) _ _
    ⟨⟨⟨_, _, rfl⟩, (Heap.Ns.new s.heap (.type "frame")).keeps (pushCells_keeps _ _), fun b o e => pushCells_keeps _ _ b o (Heap.get?_push_of_some _ e), Nat.le_refl _⟩,
      fun n c hc => (ok.empty n c (PySem.mem_of_lookup hc)).1, ok.apart, fun n c hm => (ok.empty n c hm).2⟩
    (fun x hx => ?_) fun s' x => wpAny_pure (hQ _ rfl s' x))
  rcases hkind x hx with h | h
  · exact .inl h
  · obtain ⟨c, hc⟩ := cell_has (n := s.heap.objs.size + 1) h
    refine .inr ⟨h, c, hc, ?_⟩
    show (cellsFrom (s.heap.objs.size + 1) scope.names cl).lookup x.1 = some c
    rw [cellsFrom_cl, List.lookup_append, hc]
    rfl
end
/-- the context of its body -/
def ccx (CX : CXT) (P : Program) (w : World) (K : PySem.W.Frag) (mg : Str → Option Value) (base : Heap) (N : List Str) (qual : Str) (scope : Scope) (f : Addr) (cd : Value) (cl : List (Str × Addr)) (A : Around) (outer : List Env) (s : Shared) (H : Hp) (E : XK) : Cx where
  prog := P
  w := w
  K := K
  mg := mg
  base := base
  A := A.deeper (PySem.W.envX qual scope s.heap.objs.size f cd (cellsFrom (s.heap.objs.size + 1) scope.names cl))
  N := N
  s_0 := s
  H_0 := H
  env := PySem.W.envX qual scope s.heap.objs.size f cd (cellsFrom (s.heap.objs.size + 1) scope.names cl)
  outer := outer
  stack := PySem.W.envX qual scope s.heap.objs.size f cd (cellsFrom (s.heap.objs.size + 1) scope.names cl) :: outer
  ex := []
  calm := true
  fn := fun y => scope.names.lookup y == some .cell
  pn := []
  xe := fun e s' => wpAny (model P w) (A.deeper (PySem.W.envX qual scope s.heap.objs.size f cd (cellsFrom (s.heap.objs.size + 1) scope.names cl))) (leaving (PySem.W.envX qual scope s.heap.objs.size f cd (cellsFrom (s.heap.objs.size + 1) scope.names cl)) e) (fun _ s'' => CX outer H s E e s'') (fun e' s'' => CX outer H s E e' s'') s'
theorem own_none {N ps fr : List Str} {sc : Scope} (S : CScope N ps fr sc) {n : Nat} {y : Str} (h : sc.names.lookup y ≠ some .cell) : (cellsFrom n sc.names []).lookup y = none := by
  cases e : (cellsFrom n sc.names []).lookup y with
  | none => rfl
  | some c =>
    rcases cells_kind (PySem.mem_of_lookup e) with z | z
    · cases z
    · exact absurd (S.uniq _ z) h
theorem inv_startC {CX : CXT} {P : Program} {w : World} {K : PySem.W.Frag} {mg : Str → Option Value} {base : Heap} {N ps fr : List Str} {qual : Str} {scope : Scope} {f : Addr} {cd : Value} {cl : List (Str × Addr)} {A : Around} {outer : List Env} {s s1 : Shared} {H : Hp} {E : XK} {us : List Value} {vs : List V} {ws : List (Option V)}
    (S : CScope N ps fr scope) (hd : A.handled = none) (e0 : Env0 P w K mg base A outer s H) (hl : vs.length = ps.length) (r : Vals vs us) (C : CellsAt cl fr ws s.heap H)
    (x : InCallC s s.heap.objs.size (bindL (PySem.W.envX qual scope s.heap.objs.size f cd (cellsFrom (s.heap.objs.size + 1) scope.names cl)).kindOf (ps.zip us) fun _ => none) (cellsFrom (s.heap.objs.size + 1) scope.names []) (bindC (PySem.W.envX qual scope s.heap.objs.size f cd (cellsFrom (s.heap.objs.size + 1) scope.names cl)).kindOf (ps.zip us) fun _ => none) s1) :
    Inv (ccx CX P w K mg base N qual scope f cd cl A outer s H E) [] (startF N vs ws) H s1 := by
  have hpl : ps.length + fr.length ≤ N.length := by
    have q := congrArg List.length S.pre
    rw [List.length_take, List.length_append] at q
    omega
  obtain ⟨h1, tk, rfl, hk⟩ := x.done
  have noA : ∀ b : Addr, b ∉ (ccx CX P w K mg base N qual scope f cd cl A outer s H E).ex := fun b z => absurd (show b ∈ ([] : List Addr) from z) (by simp)
  have lk : ∀ {y : Str} {c : Addr}, (cellsFrom (s.heap.objs.size + 1) scope.names cl).lookup y = some c → (cellsFrom (s.heap.objs.size + 1) scope.names []).lookup y = some c ∨ (scope.names.lookup y ≠ some .cell ∧ cl.lookup y = some c) := fun {y c} e => by
    rw [cellsFrom_cl, List.lookup_append] at e
    by_cases hc : scope.names.lookup y = some .cell
    · obtain ⟨c1, h1⟩ := cell_has (n := s.heap.objs.size + 1) hc
      rw [h1] at e
      cases e
      exact .inl h1
    · rw [own_none S hc] at e
      exact .inr ⟨hc, e⟩
  have lkC : ∀ {y : Str} {c : Addr}, (cellsFrom (s.heap.objs.size + 1) scope.names []).lookup y = some c → (cellsFrom (s.heap.objs.size + 1) scope.names cl).lookup y = some c := fun {y c} e => by
    rw [cellsFrom_cl, List.lookup_append, e]
    rfl
  have lkF : ∀ {y : Str} {c : Addr}, scope.names.lookup y = some .free → cl.lookup y = some c → (cellsFrom (s.heap.objs.size + 1) scope.names cl).lookup y = some c := fun {y c} h e => by
    rw [cellsFrom_cl, List.lookup_append, own_none S (by rw [h]; decide)]
    exact e
  have clt : ∀ {y : Str} {c : Addr}, cl.lookup y = some c → c < s.heap.objs.size := fun {y c} e => by
    obtain ⟨_, v, z⟩ := C.all y c e
    exact z.lt
  have above : ∀ {y : Str} {c : Addr}, (cellsFrom (s.heap.objs.size + 1) scope.names []).lookup y = some c → s.heap.objs.size < c := fun {y c} e => x.above y c (PySem.mem_of_lookup e)
  have cellK : ∀ {c : Addr} {v : Option Value}, s.heap.IsCell c v → h1.IsCell c v := fun {c v} ⟨o, ho, hd⟩ => ⟨o, hk _ _ ho, hd⟩
  refine ⟨⟨e0.mod, S.kind, rfl, rfl, Nat.le_refl _, fun y z c h1 h2 => ?_, fun y hy => ?_, fun y c hf h => ?_, fun _ => hd, Around.frames_deeper e0.frames, .inr ⟨rfl, rfl⟩, fun b z => absurd z (noA b), e0.bs, e0.bsz, fun b _ _ => noA b, fun b z => absurd z (noA b), e0.funs, e0.frf⟩,
    rfl, e0.bare, Un.kept hk, ⟨_, x.toInCall.ns, fun i y v e1 e2 e3 => ?_⟩, fun y c h => ?_, e0.hok.fresh (Nat.le_refl _), fun y c h => ?_, fun p hp => absurd (show p ∈ ([] : List (Addr × Obj)) from hp) (by simp), e0.hok.kept hk, ?_⟩
  · rcases lk h1 with a | ⟨_, a⟩
    · rcases lk h2 with b | ⟨_, b⟩
      · exact name_of_addr x.apart (PySem.mem_of_lookup a) (PySem.mem_of_lookup b)
      · have q1 := above a
        have q2 := clt b
        exact absurd (Nat.lt_trans q1 q2) (Nat.lt_irrefl _)
    · rcases lk h2 with b | ⟨_, b⟩
      · have q1 := above b
        have q2 := clt a
        exact absurd (Nat.lt_trans q1 q2) (Nat.lt_irrefl _)
      · exact C.inj y z c a b
  · have hy : scope.names.lookup y = some .cell ∨ scope.names.lookup y = some .free := hy
    rcases hy with hy | hy
    · obtain ⟨c, hc⟩ := cell_has (n := s.heap.objs.size + 1) hy
      exact ⟨c, lkC hc⟩
    · obtain ⟨i, hi⟩ := List.mem_iff_getElem?.mp (S.free _ (PySem.mem_of_lookup hy) rfl)
      obtain ⟨c, hc, _⟩ := C.has i y hi
      exact ⟨c, lkF hy hc⟩
  · have hf : (scope.names.lookup y == some .cell) = true := hf
    have hf : scope.names.lookup y = some .cell := by simpa using hf
    rcases lk h with a | ⟨a, _⟩
    · exact Nat.le_of_lt (above a)
    · exact absurd hf a
  · have e1 : N[i]? = some y := e1
    have clen := C.len
    unfold startF at e2
    by_cases h1' : i < ps.length
    · have hq : ps[i]? = some y := by
        have : (ps ++ fr)[i]? = some y := by
          rw [← S.pre, List.getElem?_take_of_lt (by omega)]
          exact e1
        rw [List.getElem?_append_left h1'] at this
        exact this
      rw [List.getElem?_append_left (by rw [List.length_map]; omega), List.getElem?_map] at e2
      have ha : vs[i]? = some v := by
        cases e : vs[i]? with
        | none => rw [e] at e2; cases e2
        | some a => rw [e] at e2; cases e2; rfl
      obtain ⟨u, hu, rv⟩ := r.get ha
      have ndP : ps.Nodup := by
        have q := S.nd.sublist (List.take_sublist (ps.length + fr.length) N)
        rw [S.pre] at q
        exact (List.nodup_append.mp q).1
      refine ⟨u, rv, ?_⟩
      rcases S.par y (List.mem_of_getElem? hq) with k | k
      · exact .inl ⟨k, bindL_get ndP hq hu k⟩
      · obtain ⟨c, e⟩ := cell_has (n := s.heap.objs.size + 1) k
        refine .inr ⟨.inl k, c, lkC e, ?_⟩
        have q := x.cell y c e
        rw [bindC_get ndP hq hu (by show scope.names.lookup y ≠ _; rw [k]; decide)] at q
        exact q
    · rw [List.getElem?_append_right (by rw [List.length_map]; omega), List.length_map] at e2
      by_cases h2 : i < ps.length + fr.length
      · have hq : (ps ++ fr)[i]? = some y := by
          rw [← S.pre, List.getElem?_take_of_lt (by omega)]
          exact e1
        rw [List.getElem?_append_right (by omega)] at hq
        rw [List.getElem?_append_left (by omega), hl] at e2
        obtain ⟨c, hc, hv⟩ := C.has (i - ps.length) y hq
        obtain ⟨u, ru, hu⟩ := hv v e2
        have kf := S.frk y (List.mem_of_getElem? hq)
        exact ⟨u, ru, .inr ⟨.inr kf, c, lkF kf hc, cellK hu⟩⟩
      · rw [List.getElem?_append_right (by omega), List.getElem?_replicate] at e2
        split at e2 <;> cases e2
  · rcases lk h with a | ⟨_, a⟩
    · exact ⟨_, x.cell y c a⟩
    · obtain ⟨v, z⟩ := (C.all y c a).2
      exact ⟨v, cellK z⟩
  · rcases lk h with a | ⟨_, a⟩
    · exact e0.hok.fresh (Nat.le_of_lt (above a))
    · exact (C.all y c a).1
  · have clen := C.len
    unfold startF
    show _ = N.length
    rw [List.length_append, List.length_append, List.length_map, List.length_replicate]
    omega
end
end DL

namespace DLK
open PySem PySem.Spec PyProof.Rows PySem.W L2
/-! ### an object that nobody tracks is written -/
section
variable {X : Cx} {pins : List (Addr × Obj)} {σ : L2.St} {H : Hp} {s : Shared}
/-- stable by whole numbers -/
def sortBy {α : Type} (ks : List Int) (xs : List α) : List α := ((ks.zip xs).mergeSort fun a b => decide (a.1 ≤ b.1)).map (·.2)
end
end DLK

namespace DL
open PySem PySem.Spec PyProof.Rows L2
variable [TB]
/-! ### a promise, as what the body's meaning must bring -/
theorem spF_lift {K : PySem.W.Frag} {N : List Str} {m : Nat} {P : List Nat} {body : SEV} {vs : List V} {H : Hp} {Q : VK} {E : XK} (h : spF K m (runF P N.length body) vs H Q E) : liftS K P body { nx := fun _ H' => Q .non H', rt := Q } (L2.start N vs) H := by
  obtain ⟨T, as, ss, r, cs, hs, hl, hF, hq⟩ := h
  have hvl : vs.length = ss.length := by have := hs.slen; simpa using this
  have hst := hs.start (N.length - ss.length)
  unfold runF at hF
  cases eb : body (ss.map some ++ List.replicate (N.length - ss.length) none) with
  | none => rw [eb] at hF; cases hF
  | some o =>
    rw [eb] at hF
    have hst' : Sim K T (as ++ List.replicate (N.length - ss.length) none) (ss.map some ++ List.replicate (N.length - ss.length) none) (L2.start N vs) H := by
      unfold L2.start
      rw [hvl]
      exact hst
    refine ⟨T, _, _, o, hst', eb, ?_⟩
    -- what stands at the end
    have fin : ∀ (δ : Ds), ownC P 0 ss δ = some cs → ∀ (ρ' : List (Option Addr)) (σ' : L2.St) (H' : Hp), Sim K T ρ' δ σ' H' → Ext T (as ++ List.replicate (N.length - ss.length) none) H ρ' H' → Keep P (L2.start N vs) σ' →
        Same (hid T ρ' H') (hid T as H') ∧ Own K T as H' cs ∧ Ext T as H as H' := by
      intro δ hc ρ' σ' H' s1 x1 k1
      have each : ∀ (j : Nat) (a : Addr), as[j]? = some (some a) → ∃ c, ρ'[j]? = some (some a) ∧ δ[j]? = some (some (.o c)) ∧ cs[j]? = some (some c) := by
        intro j a hj
        obtain ⟨c0, hc0⟩ := hs.own' j a hj
        have hc1 : ss[j]? = some (.o c0) := by
          rw [List.getElem?_map] at hc0
          cases e : ss[j]? with
          | none => rw [e] at hc0; cases hc0
          | some z => rw [e] at hc0; cases hc0; rfl
        obtain ⟨hP, c, e1, e2⟩ := ownC_spec hc j c0 hc1
        obtain ⟨b, f1, f2⟩ := s1.own j c e1
        obtain ⟨a', g1, g2⟩ := hst'.own j c0 (get_app' hc0)
        rw [get_app' hj] at g1
        cases g1
        have := k1 j (by simpa using hP)
        rw [f2, g2] at this
        cases this
        exact ⟨c, f1, e1, e2⟩
      have hl : Same (hid T ρ' H') (hid T as H') := hid_less fun b hb => hb.elim .inl fun z => .inr (by
        obtain ⟨j, hj⟩ := mem_ix z
        obtain ⟨c, h1, _⟩ := each j b hj
        exact ix_mem h1)
      refine ⟨hl, fun j a hj => ?_, ?_, x1.tmp, x1.tabs⟩
      · obtain ⟨c, h1, h2, h3⟩ := each j a hj
        obtain ⟨v, e1, e2⟩ := s1.slot j _ h2
        obtain ⟨b, f1, f2⟩ := s1.own j c h2
        rw [h1] at f1
        cases f1
        rw [f2] at e1
        cases e1
        obtain ⟨b, o, z, z1, z2⟩ := e2
        cases z
        exact ⟨c, o, h3, z1, coM hl z2⟩
      · have := x1.same
        rw [hid_app] at this
        exact this.trans hl
    cases o with
    | bk δ => cases hF
    | ct δ => cases hF
    | nx δ =>
      have hF' : (ownC P 0 ss δ).map (fun cs => (S.d .none, cs)) = some (r, cs) := hF
      cases e : ownC P 0 ss δ with
      | none => rw [e] at hF'; cases hF'
      | some cs' =>
        rw [e] at hF'
        cases hF'
        intro ρ' σ' H' s1 x1 k1
        obtain ⟨a, b, c⟩ := fin δ e ρ' σ' H' s1 x1 k1
        exact hq _ H' b c .non
    | rt u δ =>
      have hF' : (ownC P 0 ss δ).map (fun cs => (u, cs)) = some (r, cs) := hF
      cases e : ownC P 0 ss δ with
      | none => rw [e] at hF'; cases hF'
      | some cs' =>
        rw [e] at hF'
        cases u with
        | o z =>
          cases hF'
          intro ρ' σ' p H0 o s1 x1 k1 hp hc
          obtain ⟨a, b, c⟩ := fin δ e ρ' σ' H0 s1 x1 k1
          exact hq p H0 o b c hp (coM a hc)
        | d z =>
          cases hF'
          intro ρ' σ' v H' s1 x1 k1 hv
          obtain ⟨a, b, c⟩ := fin δ e ρ' σ' H' s1 x1 k1
          exact hq v H' b c (svM (s := .d z) a hv)
        | t z =>
          cases hF'
          intro ρ' σ' v H' s1 x1 k1 hv
          obtain ⟨a, b, c⟩ := fin δ e ρ' σ' H' s1 x1 k1
          exact hq v H' b c (svM (s := .t z) a hv)
        | z z =>
          cases hF'
          intro ρ' σ' v H' s1 x1 k1 hv
          obtain ⟨a, b, c⟩ := fin δ e ρ' σ' H' s1 x1 k1
          exact hq v H' b c (svM (s := .z z) a hv)
        | p z =>
          cases hF'
          intro ρ' σ' v H' s1 x1 k1 hv
          obtain ⟨a, b, c⟩ := fin δ e ρ' σ' H' s1 x1 k1
          exact hq v H' b c (svM (s := .p z) a hv)
theorem lift_ret {K : PySem.W.Frag} {f : EV} {D : Ends} {σ : L2.St} {H : Hp} (h : liftS K [] (retS f) D σ H) : lift K f σ H D.rt := by
  obtain ⟨T, ρ, δ, o, hs, hf, hq⟩ := h
  unfold retS at hf
  cases ea : f δ with
  | none => rw [ea] at hf; cases hf
  | some x =>
    rw [ea] at hf
    cases hf
    exact ⟨T, ρ, δ, x.1, x.2, hs, by rw [ea], post_mk hq⟩
open NdefX LamX in
/-- a lambda is called -/
theorem lam_run {Pr : Program} {w : World} {K : PySem.W.Frag} {mg : Str → Option Value} {base : Heap} {N ps fr : List Str} {qual : Str} {params : Arguments} {body : Expr} {scope : Scope} {f c' : Addr} {cl : List (Str × Addr)} {pm ctv : Value} {k : Nat} {fE : EV} {A : Around} {outer : List Env} {s : Shared} {H : Hp} {us : List Value} {vs ws : List V} {Q : VK}
    (S : CScope N ps fr scope) (hbind : bindArgs (PySem.W.kla_fn "<lambda>" qual params body scope cl pm (.ref c') ctv) ⟨us, []⟩ = pure (ps.zip us))
    (hbody : Room k (A.deeper (PySem.W.envX qual scope s.heap.objs.size f (.ref c') (cellsFrom (s.heap.objs.size + 1) scope.names cl))) → DE (ccx CX0 Pr w K mg base N qual scope f (.ref c') cl A outer s H E0) body fE)
    (hr : Room (k + 1) A) (e0 : Env0 Pr w K mg base A outer s H) (ho : s.heap.get? f = some (PySem.W.kla_obj "<lambda>" qual params body scope cl pm c' ctv))
    (hc : s.heap.CodeRec (.ref c') qual) (C : CellsAt cl fr (ws.map some) s.heap H) (r : Vals vs us) (hl : vs.length = ps.length)
    (h : spF K (ps.length + fr.length) (runF [] N.length (retS fE)) (vs ++ ws) H Q E0) :
    codeAny (model Pr w) A (.call (.ref f) ⟨us, []⟩) (CR CX0 outer Pr w H s Q E0) s := by
  have lim : s.heap.NoLimit := e0.mod.nolimit.keeps fun b o e => (e0.bs b o e).1
  refine PySem.W.kla_callFunE hr.depth ho rfl S.co S.gen rfl hc ?_
  rw [hbind]
  refine wpAny_pure (newEnvCl S.kind (fun ⟨n, _⟩ hy => S.par n (List.of_mem_zip hy).1) fun env he s1 x => ?_)
  subst he
  refine ⟨lim.keeps x.toInCall.keep, ?_⟩
  refine PySem.W.kla_codeExpr ?_
  have I := inv_startC (CX := CX0) (E := E0) S hr.hd e0 hl r C x
  have L := lift_ret (spF_lift h)
  have e : startF N vs (ws.map some) = L2.start N (vs ++ ws) := by
    unfold startF L2.start
    rw [List.map_append, List.append_assoc, List.length_append, List.length_map, Nat.sub_sub]
  rw [e] at I
  refine wpAny_mono ((hbody (hr.deeper _)).run [] s1 _ H _ I L) (fun v s' hq => ?_) fun e s' hq => hq
  obtain ⟨v', H', J, rv, q⟩ := hq
  exact ⟨v', H', J.os, J.bare, J.base, J.hok, rv, q⟩
section
variable {K : PySem.W.Frag} {T : List Addr} {ρ : List (Option Addr)} {δ : Ds} {σ : L2.St} {H : Hp}
theorem in_all {b : Addr} : b ∈ T ++ ρ.filterMap id ↔ (b ∈ T ∨ some b ∈ ρ) := by
  rw [List.mem_append]
  constructor
  · rintro (h | h)
    · exact .inl h
    · obtain ⟨z, hz, e⟩ := List.mem_filterMap.mp h
      have e' : z = some b := e
      rw [e'] at hz
      exact .inr hz
  · rintro (h | h)
    · exact .inl h
    · exact .inr (List.mem_filterMap.mpr ⟨some b, h, rfl⟩)
theorem hid_all {n : Nat} : hid (T ++ ρ.filterMap id) (List.replicate n none) H = hid T ρ H := by
  funext b
  unfold hid
  have e : (b ∈ T ++ ρ.filterMap id ∨ some b ∈ List.replicate n (none : Option Addr)) ↔ (b ∈ T ∨ some b ∈ ρ) := by
    rw [in_all]
    constructor
    · rintro (h | h)
      · exact h
      · cases (List.mem_replicate.mp h).2
    · exact .inl
  simp only [e]
/-- nothing but data is handed on -/
theorem Sim.args (s : Sim K T ρ δ σ H) {vs : List V} {ss : List S} (h : Paired (SV K (hid T ρ H)) vs ss) : Sim K (T ++ ρ.filterMap id) (List.replicate ss.length none) (ss.map some) (vs.map some) H := by
  have no : ∀ {i : Nat} {a : Addr}, (List.replicate ss.length (none : Option Addr))[i]? = some (some a) → False := fun {i a} e => by
    rw [List.getElem?_replicate] at e
    split at e <;> cases e
  refine ⟨by simp, by simp [Paired.length h], fun i u hi => ?_, fun i c hi => ?_, fun i a hi => (no hi).elim, fun i j a hi => (no hi).elim, fun i a hi => (no hi).elim, fun a ha => ?_, fun p hp => List.mem_append_left _ (s.tabT p hp), s.tabs⟩
  · rw [List.getElem?_map] at hi
    cases e : ss[i]? with
    | none => rw [e] at hi; cases hi
    | some u' =>
      rw [e] at hi
      cases hi
      obtain ⟨v, a, b⟩ := paired_get h i u e
      exact ⟨v, by rw [List.getElem?_map, a]; rfl, at_hid hid_all.symm (sv_at b)⟩
  · rw [List.getElem?_map] at hi
    cases e : ss[i]? with
    | none => rw [e] at hi; cases hi
    | some u' =>
      rw [e] at hi
      cases hi
      obtain ⟨v, a, b⟩ := paired_get h i _ e
      exact b.elim
  · exact (in_all.mp ha).elim (s.tmp a) (s.trk.own a)
theorem Sim.argsBack (s : Sim K T ρ δ σ H) {n : Nat} {H' : Hp} (x : Ext (T ++ ρ.filterMap id) (List.replicate n none) H (List.replicate n none) H') : Sim K T ρ δ σ H' ∧ Ext T ρ H ρ H' := by
  have sm : Same (hid T ρ H) (hid T ρ H') := by
    have := x.same
    rw [hid_all, hid_all] at this
    exact this
  refine ⟨s.keep sm (fun a ha => x.tmp a (in_all.mpr ha)) (x.tabs s.tabs), sm, fun a ha => x.tmp a (in_all.mpr (.inl ha)), x.tabs⟩
end
/-! ### what a lambda reads of the def that makes it -/
def frzS : Ds → List Nat → Ds
  | δ, [] => δ
  | δ, i :: is => match slot δ i with
    | some (.o c) => frzS (δ.set i (some (frz (.o c)))) is
    | _ => frzS δ is
def capD (δ : Ds) : List Nat → Option (List S)
  | [] => some []
  | i :: is => match slot δ i with
    | some (.o _) => none
    | some s => (capD δ is).map (s :: ·)
    | none => none
theorem Sim.frzS {K : PySem.W.Frag} {T : List Addr} {σ : L2.St} {H : Hp} : ∀ {is : List Nat} {ρ : List (Option Addr)} {δ : Ds}, Sim K T ρ δ σ H → ∃ ρ', Sim K T ρ' (DL.frzS δ is) σ H ∧ Ext T ρ H ρ' H
  | [], ρ, δ, s => ⟨ρ, s, .refl⟩
  | i :: is, ρ, δ, s => by
    unfold DL.frzS
    split
    · rename_i c hc
      obtain ⟨s1, x1, _⟩ := s.freeze (slot_some hc)
      obtain ⟨ρ', s2, x2⟩ := Sim.frzS (is := is) s1
      exact ⟨ρ', s2, x1.trans x2⟩
    · exact Sim.frzS s
end DL

namespace DL
open PySem PySem.Spec PyProof.Rows L2 LamX NdefX
variable [TB]
/-! ### a lambda is made -/
section
variable {X : Cx} {pins : List (Addr × Obj)} {σ : L2.St} {H : Hp} {s : Shared}
end
/-- the tables have grown -/
theorem Sim.made {K : PySem.W.Frag} {T : List Addr} {ρ : List (Option Addr)} {δ : Ds} {σ : L2.St} {H H1 : Hp} {P : Addr} (s : Sim K T ρ δ σ H) (hP : P ∈ T) (e : ∀ b o, b ≠ P → H b = some o → H1 b = some o) (h0 : ∃ ps, H P = some (.tbl ps)) (h1 : ∃ ps, H1 P = some (.tbl ps)) (ht : Tabs TB.tb H1) : Sim K T ρ δ σ H1 ∧ Ext T ρ H ρ H1 := by
  have sm : Same (hid T ρ H) (hid T ρ H1) := fun b o hb => by
    obtain ⟨b1, b2, b3⟩ := hid_some.mp hb
    exact hid_some.mpr ⟨e b o (fun z => b2 (by rw [z]; exact hP)) b1, b2, b3⟩
  have kp : ∀ a, a ∈ T ∨ some a ∈ ρ → Kp (H a) (H1 a) := fun a ha => by
    by_cases hb : a = P
    · rw [hb]
      exact .inr ⟨h0, h1⟩
    · obtain ⟨o, ho, _⟩ := ha.elim (s.trk.tmp a) (s.trk.own a)
      exact .inl ((e a o hb ho).trans ho.symm)
  exact ⟨s.keep sm kp ht, sm, fun a ha => kp a (.inl ha), fun _ => ht⟩
/-- what a def that makes a lambda must show of itself -/
structure Maker (X : Cx) (c P : Addr) : Prop where
  tab : TabB X.base X.mg c P
  code : X.env.code = .ref c
  mem : (P, X.env.qual ++ "<lambda>") ∈ TB.tb
  uniq : ∀ p ∈ TB.tb, p.1 = P → p.2 = X.env.qual ++ "<lambda>"
/-- the words of the lambda, as they stand in the text -/
structure LamW (X : Cx) (N ps fr : List Str) (js : List Nat) (params : Arguments) (scope : Scope) : Prop where
  sc : CScope N ps fr scope
  def0 : defaultsOf params X.env = ([], [])
  bind : ∀ (q : Str) (b : Expr) (cl : List (Str × Addr)) (pm cv ctv : Value) (us : List Value), us.length = ps.length → bindArgs (PySem.W.kla_fn "<lambda>" q params b scope cl pm cv ctv) ⟨us, []⟩ = pure (ps.zip us)
  free : ∀ y ∈ scope.names, y.2 = .free → X.env.scope.names.lookup y.1 = some .cell ∨ X.env.scope.names.lookup y.1 = some .free
  frs : ∀ y ∈ fr, (y, NameKind.free) ∈ scope.names
  at_ : js.map (fun j => X.N[j]?) = fr.map some
section
variable {X : Cx} {pins : List (Addr × Obj)} {σ : L2.St} {H : Hp} {s : Shared}
theorem LamW.hf {N ps fr : List Str} {js : List Nat} {params : Arguments} {scope : Scope} (L : LamW X N ps fr js params scope) (ok : X.Ok) : ∀ y ∈ scope.names, y.2 = .free → ∃ c, X.env.cells.lookup y.1 = some c := fun y hy e => (L.free y hy e).elim (fun z => ok.has _ (.inl z)) fun z => ok.has _ (.inr z)
end
end DL

namespace DL
open PySem PySem.Spec PyProof.Rows L2 LamX NdefX
variable [TB]
/-! ### sorted(xs, key=lambda ..), the keys whole numbers -/
def keysOf (F : FN) (cs : List S) : List PyData → Option (List Int)
  | [] => some []
  | x :: xs => match F (.d x :: cs) with
    | some (.d (.int k), _) => (keysOf F cs xs).map (k :: ·)
    | _ => none
def sortKeyE (F : FN) (js : List Nat) (fa : AEV) : EV := fun δ => (fa δ).bind fun x => match x.1 with
  | [.v (.d (.list xs))] => (capD (frzS x.2 js) js).bind fun cs => (keysOf F cs xs).bind fun ks => some (.o (.l (DLK.sortBy ks xs)), frzS x.2 js)
  | _ => none
section
variable {X : Cx} {e : Expr} {p pos lpos kpos : Pos}
end
end DL

namespace DL
open PySem PySem.Spec PyProof.Rows L2
variable [TB]
/-! ### sorted(set(t)), t a tuple of whole numbers -/
section
omit [TB]
def insU (x : Int) : List Int → List Int
  | [] => [x]
  | y :: ys => if x < y then x :: y :: ys else if x = y then y :: ys else y :: insU x ys
def usort : List Int → List Int
  | [] => []
  | x :: xs => insU x (usort xs)
def intsU : List PyData → Option (List Int)
  | [] => some []
  | .int i :: r => (intsU r).map (i :: ·)
  | _ => none
end
def sortSetE (fa : PEV) : EV := fun δ => (fa δ).bind fun x => match x.1 with
  | .v (.d (.tuple xs)) => (intsU xs).bind fun ns => if ns.length < 64 then some (.o (.l ((usort ns).map PyData.int)), x.2) else none
  | _ => none
section
variable {X : Cx} {a : Expr} {p p2 q pos : Pos}
end
end DL

namespace DL
open PySem PySem.Spec PyProof.Rows L2 LamX
/-! ### the end of a law whose defs make lambdas -/
section
theorem law_callG {P : Program} {w : World} {K : PySem.W.Frag} {mg mb : Str → Option Value} {k : Nat} {fa a : Addr} {cs : List (Addr × Addr)} {fd : FuncData} {x : Str} {sp : Sp} {s₁ : Shared} {vs : List Value} {ns : List Int}
    (KX : K.In s₁.heap) (hns : s₁.heap.Ns mainGlobals mg) (hb : s₁.heap.Ns builtinsNs mb) (hbb : ∀ x : Str, x ≠ "__name__" → mb x = bootBuiltins x) (hlim : s₁.heap.NoLimit) (hg : s₁.gens = #[])
    (hT : ∀ p ∈ cs, s₁.heap.get? p.2 = some { cls := .none, data := .fields #[] }) (nT : ∀ p ∈ cs, K.lookup p.2 = none) (C : ∀ p ∈ cs, PySem.W.CodeHd s₁.heap p.1 p.2)
    (hbm : ∃ (bm : Addr) (ob : Obj), mg "__builtins__" = some (.ref bm) ∧ bm ≠ builtinsNs ∧ s₁.heap.get? bm = some ob ∧ ob.cls = .type "module" ∧ ob.dict = some builtinsNs ∧ ob.data = .plain)
    (ha : s₁.heap.get? a = some { cls := .type "list", data := .seq vs.toArray }) (hi : IntsAre vs ns) (hl : ns.length ≤ sizeLine) (hr : Room k callerA)
    (hsm : ∃ mm, s₁.heap.Ns sysModules mm) (F : ∀ base : Heap, K.In base → base.Ns mainGlobals mg → (∃ o, base.get? sysModules = some o) → (∀ p ∈ cs, TabB base mg p.1 p.2) → FnG P w K mg base k fa fd [x] sp) (hbind : ∀ (s : Shared) (u : Value), BindsTo s fd ⟨[u], []⟩ [(x, u)])
    (hsp : ∀ H : Hp, (∀ p ∈ cs, H p.2 = some (.tbl #[])) → SqL K H a (ns.map V.int) → sp [.ref a] H (fun v _ => v = .bl true) fun _ _ _ => False) :
    codeAny (model P w) callerA (.call (.ref fa) ⟨[.ref a], []⟩) (fun r s' => r = .ok (.ret (.bool true)) ∧ OldK s₁.heap s'.heap ∧ s'.os = s₁.os ∧ AllBare s'.gens) s₁ := by
  have rv := vals_ints hi
  have lenV := hi.length
  have isT : ∀ b : Addr, b ∈ cs.map (·.2) → s₁.heap.get? b = some { cls := .none, data := .fields #[] } := fun b hb => by
    obtain ⟨p, hp, e⟩ := List.mem_map.mp hb
    rw [← e]
    exact hT p hp
  have aT : a ∉ cs.map (·.2) := fun z => by
    have q := isT a z
    rw [ha] at q
    have z' : Data.seq vs.toArray _ = Data.fields #[] := congrArg Obj.data (Option.some.inj q)
    cases z'
  have memT : ∀ p ∈ cs, p.2 ∈ cs.map (·.2) := fun p hp => List.mem_map.mpr ⟨p, hp, rfl⟩
  -- from an abstract heap in which nothing but the script and the tables may be tracked
  have core : ∀ H : Hp, (∀ p ∈ cs, H p.2 = some (.tbl #[])) → (∀ b, H b = none ∨ b ∈ cs.map (·.2) ∨ ∃ o xs, H b = some (.frz o (.lst xs))) → SqL K H a (ns.map V.int) → HOk P w H s₁.heap → (∀ b, H b ≠ none → b = a ∨ b ∈ cs.map (·.2)) → (H a ≠ none → K.lookup a = none) →
      codeAny (model P w) callerA (.call (.ref fa) ⟨[.ref a], []⟩) (fun r s' => r = .ok (.ret (.bool true)) ∧ OldK s₁.heap s'.heap ∧ s'.os = s₁.os ∧ AllBare s'.gens) s₁ := by
    intro H hH hO hS hok hA hK
    have base_of : ∀ {b : Addr} {o : Obj}, s₁.heap.get? b = some o → H b = none → (hidT s₁.heap H).get? b = some o := fun e n => hidT_get e n
    have noD : ∀ {b : Addr} {o : Obj}, s₁.heap.get? b = some o → (∀ vs n, o.data ≠ .seq vs n) → o.data ≠ .fields #[] → H b = none := fun {b o} e h1 h2 => by
      cases q : H b with
      | none => rfl
      | some u =>
        rcases hA b (by rw [q]; simp) with e' | e'
        · rw [e', ha] at e
          cases e
          exact (h1 _ _ rfl).elim
        · rw [isT b e'] at e
          cases e
          exact (h2 rfl).elim
    have noA : ∀ {b : Addr} {o : Obj} {es : Array DictEntry} {ep : Nat}, s₁.heap.get? b = some o → o.data = .dict es ep → H b = none := fun {b o es ep} e d => by
      refine noD e (fun vs n z => ?_) fun z => ?_
      · rw [d] at z
        cases z
      · rw [d] at z
        cases z
    have nsK : ∀ {b : Addr} {m : Str → Option Value}, s₁.heap.Ns b m → (hidT s₁.heap H).Ns b m := fun {b m} ⟨o, es, ep, e, d, r⟩ => ⟨o, es, ep, base_of e (noA e d), d, r⟩
    have hKb : K.In (hidT s₁.heap H) := fun b o e => base_of (KX b o e) (by
      cases q : H b with
      | none => rfl
      | some u =>
        rcases hA b (by rw [q]; simp) with e' | e'
        · rw [e'] at e q
          rw [hK (by rw [q]; simp)] at e
          cases e
        · obtain ⟨p, hp, ep⟩ := List.mem_map.mp e'
          rw [← ep, nT p hp] at e
          cases e)
    have hM : L2.Mod K mg (hidT s₁.heap H) := ⟨hKb, nsK hns, ⟨mb, nsK hb, hbb⟩, let ⟨mc, h1, h2⟩ := hlim; ⟨mc, nsK h1, h2⟩⟩
    have TB : ∀ p ∈ cs, TabB (hidT s₁.heap H) mg p.1 p.2 := fun p hp => by
      have hTp := hT p hp
      refine ⟨?_, ?_, fun z => ?_⟩
      · obtain ⟨o, us, file, tf, flags, tg, inF, text, tt, e1, r1, r2, r3, r4, r5, r6, r7, r8, hne⟩ := C p hp
        refine ⟨o, us, file, tf, flags, tg, inF, text, tt, base_of e1 (noD e1 (fun vs n z => ?_) fun z => ?_), r1, r2, r3, r4, r5, r6, r7, r8, hne⟩
        · rw [r2] at z
          cases z
        · rw [r2] at z
          cases z
          simp at r3
      · obtain ⟨bm, ob, b1, b2, b3, b4, b5, b6⟩ := hbm
        have nG : bm ≠ mainGlobals := fun q => by
          obtain ⟨o, es, ep, e, hd, _⟩ := hns
          rw [q, e] at b3
          cases b3
          rw [hd] at b6
          cases b6
        have nP : bm ≠ p.2 := fun q => by
          rw [q, hTp] at b3
          cases b3
          cases b6
        refine ⟨bm, ob, b1, b2, nG, nP, base_of b3 (noD b3 (fun vs n z => ?_) fun z => ?_), b4, b5, b6⟩
        · rw [b6] at z
          cases z
        · rw [b6] at z
          cases z
      · obtain ⟨o, es, ep, e, hd, _⟩ := hns
        rw [z, hTp] at e
        cases e
        cases hd
    have e0 : Env0 P w K mg (hidT s₁.heap H) callerA [] s₁ H := ⟨rfl, hM, fun b o e => of_hidT e, Nat.le_of_eq (hidT_size _ _), trivial, fun b hb => absurd (show b ∈ ([] : List Addr) from hb) (by simp), hok, .of_eq hg⟩
    have hsm2 : ∃ o, (hidT s₁.heap H).get? sysModules = some o := let ⟨_, z⟩ := hsm; let ⟨o, _, _, e, _⟩ := nsK z; ⟨o, e⟩
    refine codeAny_mono ((F _ hKb (nsK hns) hsm2 TB).run callerA [] s₁ H ⟨[.ref a], []⟩ [.ref a] [.ref a] _ _ rfl hr e0 (hbind s₁ (.ref a)) (.cons rfl .nil) (hsp H hH hS)) fun r s' h => ?_
    cases r with
    | error e => exact h.elim
    | ok fl =>
      cases fl with
      | next => exact False.elim h
      | brk => exact False.elim h
      | cont => exact False.elim h
      | ret u =>
        obtain ⟨v, H', os, bare, un, hok', r', q⟩ := h
        have q' : v = .bl true := q
        subst q'
        obtain rfl : u = Value.bool true := r'
        have key : ∀ b o, b ∉ cs.map (·.2) → s₁.heap.get? b = some o → s'.heap.get? b = some o := fun b o nb e => by
          cases q : H b with
          | none => exact un.keep b o e q (by intro z; exact absurd (show b ∈ ([] : List Addr) from z) (by simp)) (by simp)
          | some u =>
            rcases hO b with z | z | ⟨ob, xs, z⟩
            · rw [q] at z; cases z
            · exact absurd z nb
            · have z2 := un.frzs b ob _ z
              obtain ⟨e1, _⟩ := hok b _ z
              obtain ⟨e2, _⟩ := hok' b _ z2
              rw [e] at e1; cases e1
              exact e2
        have grown : ∀ p ∈ cs, ∃ more : Array Value, s'.heap.get? p.2 = some { cls := .none, data := .fields more } := fun p hp => by
          obtain ⟨more, z⟩ := un.tbls p.2 #[] (hH p hp)
          exact ⟨_, hok' p.2 _ z⟩
        refine ⟨rfl, ⟨fun b o e => ?_, fun b o e => ?_⟩, os, bare⟩
        · by_cases hb : b ∈ cs.map (·.2)
          · obtain ⟨p, hp, ep⟩ := List.mem_map.mp hb
            obtain ⟨more, hm⟩ := grown p hp
            rw [← ep] at e ⊢
            rw [hT p hp] at e
            cases e
            exact .inr (.inl ⟨((C p hp).tab (hT p hp)).isCodeTable, rfl, #[], more, rfl, by rw [Array.empty_append]; exact hm⟩)
          · exact .inl (key b o hb e)
        · by_cases hb : b ∈ cs.map (·.2)
          · obtain ⟨p, hp, ep⟩ := List.mem_map.mp hb
            obtain ⟨more, hm⟩ := grown p hp
            rw [← ep]
            exact ⟨_, hm⟩
          · exact ⟨o, key b o hb e⟩
  cases hk : K.lookup a with
  | some o =>
    have e := KX a o hk
    rw [ha] at e
    cases e
    refine core (fun b => if b ∈ cs.map (·.2) then some (.tbl #[]) else none) (fun p hp => if_pos (memT p hp)) (fun b => ?_) (.inr ⟨_, vs.toArray, _, hk, rfl, rfl, rfl, by rw [List.size_toArray, lenV]; exact hl, by simpa using rv⟩) (fun b u z => ?_) (fun b z => ?_) fun z => absurd (show (if a ∈ cs.map (·.2) then some (HO.tbl #[]) else none) = none from if_neg aT) z
    · by_cases hb : b ∈ cs.map (·.2)
      · exact .inr (.inl hb)
      · exact .inl (if_neg hb)
    · by_cases hb : b ∈ cs.map (·.2)
      · have z' := (if_pos hb).symm.trans z
        cases z'
        exact isT b hb
      · have z' := (if_neg hb).symm.trans z
        cases z'
    · by_cases hb : b ∈ cs.map (·.2)
      · exact .inr hb
      · exact absurd (if_neg hb) z
  | none =>
    refine core (fun b => if b = a then some (.frz { cls := .type "list", data := .seq vs.toArray } (.lst (ns.map V.int))) else if b ∈ cs.map (·.2) then some (.tbl #[]) else none) (fun p hp => (if_neg (show ¬ p.2 = a from fun z => aT (by rw [← z]; exact memT p hp))).trans (if_pos (memT p hp))) (fun b => ?_)
      (.inl (.inr ⟨{ cls := .type "list", data := .seq vs.toArray }, if_pos rfl⟩)) (fun b u z => ?_) (fun b z => ?_) fun _ => hk
    · by_cases hb : b = a
      · exact .inr (.inr ⟨_, _, if_pos hb⟩)
      · by_cases hb2 : b ∈ cs.map (·.2)
        · exact .inr (.inl hb2)
        · exact .inl ((if_neg hb).trans (if_neg hb2))
    · by_cases hb : b = a
      · have z' := (if_pos hb).symm.trans z
        cases z'
        rw [hb]
        exact ⟨ha, by rw [List.length_map]; exact hl, vs, _, rv, ha⟩
      · have z1 := (if_neg hb).symm.trans z
        by_cases hb2 : b ∈ cs.map (·.2)
        · have z' := (if_pos hb2).symm.trans z1
          cases z'
          exact isT b hb2
        · have z' := (if_neg hb2).symm.trans z1
          cases z'
    · by_cases hb : b = a
      · exact .inl hb
      · by_cases hb2 : b ∈ cs.map (·.2)
        · exact .inr hb2
        · exact absurd ((if_neg hb).trans (if_neg hb2)) z
end
/-- the tables of some defs, each with the name that its code objects bear -/
def csOf (K : PySem.W.Frag) (ms : List (Str × Str)) : List (Addr × Addr × Str) := ms.map fun m => match PySem.W.tabIn K m.1 with
  | some (c, P) => (c, P, m.2)
  | none => (0, 0, m.2)
def csOk (K : PySem.W.Frag) (cs : List (Addr × Addr × Str)) (ts : List Addr) : Bool := cs.all fun p => PySem.W.codeHdIn K p.1 p.2.1 && decide (p.2.1 ∈ ts) && (K.lookup p.2.1).isNone
abbrev tbOf (cs : List (Addr × Addr × Str)) : TB := ⟨cs.map fun p => (p.2.1, p.2.2)⟩
theorem cs_mem {cs : List (Addr × Addr × Str)} {p : Addr × Addr × Str} (h : cs.any (fun q => decide (q = p)) = true) : p ∈ cs := by
  obtain ⟨q, h1, h2⟩ := List.any_eq_true.mp h
  rw [← of_decide_eq_true h2]
  exact h1
theorem cs_uniq {cs : List (Addr × Addr × Str)} {P : Addr} {n : Str} (h : cs.all (fun q => !decide (q.2.1 = P) || decide (q.2.2 = n)) = true) : ∀ p ∈ cs, p.2.1 = P → p.2.2 = n := fun p hp e => by
  have := List.all_eq_true.mp h p hp
  simpa [e] using this
theorem tb_mem {cs : List (Addr × Addr × Str)} {c P : Addr} {n : Str} (h : (c, P, n) ∈ cs) : (P, n) ∈ (tbOf cs).tb := List.mem_map.mpr ⟨_, h, rfl⟩
theorem tb_uniq {cs : List (Addr × Addr × Str)} {P : Addr} {n : Str} (h : ∀ p ∈ cs, p.2.1 = P → p.2.2 = n) : ∀ p ∈ (tbOf cs).tb, p.1 = P → p.2 = n := fun p hp e => by
  obtain ⟨q, hq, rfl⟩ := List.mem_map.mp hp
  exact h q hq e
/-- the goal that the head leaves, from the law's meaning: it is True of every script -/
theorem walkLam {l : PySem.W.OpenLaw} {n k : Nat} {q : Program} {loose : List Str} {XP : (Str → Option Value) → Heap → Prop} {YP : World → Heap → Prop} {d : DefRec} {K : Params → PySem.W.Frag} {x : Str} {G : FN} {ts : List Addr} (ms : List (Str × Str))
    (hn : l.most = some n) (hn2 : n ≤ sizeLine) (hdf : d.params.defaults = []) (hr : Room k callerA) (himp : importsNone q = true) (hY : ∀ (w : World) (h : Heap), YP w h → (K w.params).In h)
    (hTs : ∀ (w : World) (h : Heap), YP w h → ∀ P ∈ ts, h.get? P = some (PySem.W.tabObj #[])) (hcs : ∀ w : World, csOk (K w.params) (csOf (K w.params) ms) ts = true)
    (F : ∀ (w : World) (mg : Str → Option Value) (fa : Addr) (h : Heap), (K w.params).In h → h.Ns mainGlobals mg → mg d.name = some (.ref fa) →
      ∃ fd : FuncData, (∀ (s : Shared) (u : Value), BindsTo s fd ⟨[u], []⟩ [(x, u)]) ∧
        ∀ base : Heap, (K w.params).In base → base.Ns mainGlobals mg → (∃ o, base.get? sysModules = some o) → (∀ p ∈ csOf (K w.params) ms, TabB base mg p.1 p.2.1) → FnG l.prog w (K w.params) mg base k fa fd [x] (@spF (tbOf (csOf (K w.params) ms)) (K w.params) 1 G))
    (hG : ∀ ns : List Int, ns.length ≤ n → ∃ cs, G [.z ns] = some (.d (.bool true), cs)) :
    PySem.W.WalkO q loose XP YP l.row.toRowW d [] (fun f vs => PySem.call f vs) := by
  refine Att.attach_call hn hdf fun w s₀ s₁ mg mb fa o pm cd doc a vs ns G' Y ho hd hcd hmg hobj hints hlen hg => ?_
  have KX := hY w _ Y
  obtain ⟨fd, hb, hF⟩ := F w mg fa _ KX G'.T.g hmg
  have hall : ∀ p ∈ csOf (K w.params) ms, PySem.W.codeHdIn (K w.params) p.1 p.2.1 = true ∧ p.2.1 ∈ ts ∧ (K w.params).lookup p.2.1 = none := fun p hp => by
    have := List.all_eq_true.mp (hcs w) p hp
    simp only [Bool.and_eq_true, decide_eq_true_eq, Option.isNone_iff_eq_none] at this
    exact ⟨this.1.1, this.1.2, this.2⟩
  generalize csOf (K w.params) ms = cs at hF hall
  refine law_callG (cs := cs.map fun p => (p.1, p.2.1)) KX G'.T.g G'.T.b G'.T.builtins G'.T.nolimit hg ?_ ?_ ?_ G'.T.bmain hobj hints (Nat.le_trans hlen hn2) hr (let ⟨mm, z, _⟩ := (G'.T.seer himp).mods; ⟨mm, z⟩) (fun base h1 h2 h3 h4 => hF base h1 h2 h3 fun p hp => h4 _ (List.mem_map.mpr ⟨p, hp, rfl⟩)) hb ?_
  · intro p hp
    obtain ⟨p', hp', rfl⟩ := List.mem_map.mp hp
    exact hTs w _ Y _ (hall p' hp').2.1
  · intro p hp
    obtain ⟨p', hp', rfl⟩ := List.mem_map.mp hp
    exact (hall p' hp').2.2
  · intro p hp
    obtain ⟨p', hp', rfl⟩ := List.mem_map.mp hp
    exact PySem.W.codeHd_of_K KX (hall p' hp').1
  intro H hH hS
  obtain ⟨rs, hrs⟩ := hG ns hlen
  have hT' : ∀ p ∈ cs, H p.2.1 = some (.tbl #[]) := fun p hp => hH (p.1, p.2.1) (List.mem_map.mpr ⟨p, hp, rfl⟩)
  have nz : ∀ b : Addr, some b ∉ ([none] : List (Option Addr)) := fun b z => by cases List.mem_singleton.mp z
  have hs : SqL (K w.params) (hid (cs.map fun p => p.2.1) [none] H) a (ns.map V.int) := by
    have nt : ∀ o, H a = some o → (∀ ps, o ≠ .tbl ps) → hid (cs.map fun p => p.2.1) [none] H a = some o := fun o ho hn => hid_some.mpr ⟨ho, fun z => by
      obtain ⟨p, hp, e⟩ := List.mem_map.mp z
      have := hT' p hp
      rw [e, ho] at this
      exact hn _ (Option.some.inj this), nz a⟩
    rcases hS with (h | ⟨o, h⟩) | h
    · exact .inl (.inl (nt _ h fun ps z => by cases z))
    · exact .inl (.inr ⟨o, nt _ h fun ps z => by cases z⟩)
    · exact .inr h
  refine ⟨cs.map fun p => p.2.1, [none], [.z ns], _, rs, @Sim.mk (tbOf cs) _ _ _ _ _ _ rfl rfl ?_ ?_ ?_ ?_ ?_ ?_ ?_ ?_, rfl, hrs, ?_⟩
  · intro i s hi
    cases i with
    | zero =>
      cases (show some (some (S.z ns)) = some (some s) from hi)
      exact ⟨.ref a, rfl, a, rfl, hs⟩
    | succ i => cases (show (none : Option (Option S)) = some (some s) from hi)
  · intro i c hi
    cases i with
    | zero => cases (show some (some (S.z ns)) = some (some (S.o c)) from hi)
    | succ i => cases (show (none : Option (Option S)) = some (some (S.o c)) from hi)
  · intro i b hi
    cases i with
    | zero => cases (show some (none : Option Addr) = some (some b) from hi)
    | succ i => cases (show (none : Option (Option Addr)) = some (some b) from hi)
  · intro i j b hi
    cases i with
    | zero => cases (show some (none : Option Addr) = some (some b) from hi)
    | succ i => cases (show (none : Option (Option Addr)) = some (some b) from hi)
  · intro i b hi
    cases i with
    | zero => cases (show some (none : Option Addr) = some (some b) from hi)
    | succ i => cases (show (none : Option (Option Addr)) = some (some b) from hi)
  · intro b hb
    obtain ⟨p, hp, e⟩ := List.mem_map.mp hb
    exact ⟨.tbl #[], by rw [← e]; exact hT' p hp, trivial⟩
  · intro p hp
    obtain ⟨p', hp', rfl⟩ := List.mem_map.mp hp
    exact List.mem_map.mpr ⟨p', hp', rfl⟩
  · intro p hp
    obtain ⟨p', hp', rfl⟩ := List.mem_map.mp hp
    exact TabS.nil (hT' p' hp')
  · intro v H' _ _ hv
    cases (show Dq _ _ v (.bool true) from hv)
    rfl
def tabC (K : PySem.W.Frag) (x : Str) : Addr := match PySem.W.tabIn K x with
  | some p => p.1
  | none => 0
def tabP (K : PySem.W.Frag) (x : Str) : Addr := match PySem.W.tabIn K x with
  | some p => p.2
  | none => 0
theorem tab_some {K : PySem.W.Frag} {x : Str} (h : (PySem.W.tabIn K x).isSome = true) : PySem.W.tabIn K x = some (tabC K x, tabP K x) := by
  unfold tabC tabP
  cases e : PySem.W.tabIn K x with
  | none => rw [e] at h; cases h
  | some p => rfl
/-- a def's code object is the one that tabIn tells -/
theorem maker_code {K : PySem.W.Frag} {x qual : Str} {st : Stmt} {f c P : Addr} {oc : Value} {od an : Option Addr} {osl : Array (Option Value)} {kV doc pm cdv ct : Value} (t : PySem.W.tabIn K x = some (c, P)) (a : PySem.W.nsIn K mainGlobals x = some (some (.ref f)))
    (l : K.lookup f = some ⟨oc, od, .func (PySem.W.fnOf x qual (defArgs st) (defBody st) (defScope st) .none kV doc pm an cdv ct), osl⟩) : cdv = .ref c := by
  unfold PySem.W.tabIn at t
  rw [a] at t
  simp only at t
  rw [l] at t
  simp only at t
  split at t
  · split at t
    · split at t
      · cases t
        rename_i h _ _ _ _ _ _
        first
          | rfl
          | assumption
      · cases t
    · cases t
  · cases t
/-! ### a def that makes lambdas: its code object is known -/
structure FunM (K : PySem.W.Frag) (x qual : Str) (st : Stmt) (f : Addr) (fd : FuncData) (c : Addr) : Prop where
  ex : ∃ (oc : Value) (od : Option Addr) (kV doc pm : Value) (an : Option Addr) (ct : Value) (osl : Array (Option Value)),
    fd = PySem.W.fnOf x qual (defArgs st) (defBody st) (defScope st) .none kV doc pm an (.ref c) ct ∧ K.lookup f = some ⟨oc, od, .func fd, osl⟩ ∧ PySem.W.codeIn K (.ref c) qual = true
  kp : PySem.W.keepIn K (.ref f) = true
theorem funM_mk {K : PySem.W.Frag} {x qual : Str} {st : Stmt} {f c : Addr} {oc : Value} {od an : Option Addr} {osl : Array (Option Value)} {kV doc pm cdv ct : Value} (l : K.lookup f = some ⟨oc, od, .func (PySem.W.fnOf x qual (defArgs st) (defBody st) (defScope st) .none kV doc pm an cdv ct), osl⟩)
    (e : cdv = .ref c) (h : PySem.W.codeIn K cdv qual = true) (k : PySem.W.keepIn K (.ref f) = true) : FunM K x qual st f (PySem.W.fnOf x qual (defArgs st) (defBody st) (defScope st) .none kV doc pm an cdv ct) c := by
  subst e
  exact ⟨⟨oc, od, kV, doc, pm, an, ct, osl, rfl, l, h⟩, k⟩
variable [TB]
end DL

namespace DL
open PySem PySem.Spec PyProof.Rows L2
variable [TB]
/-! ### xs.remove(k), whole numbers -/
def gRem (xs ds : List PyData) : Option (S × List PyData) := match ds with
  | [.int k] => (intsU xs).bind fun ns => if k ∈ ns then some (.d .none, (ns.erase k).map PyData.int) else none
  | _ => none
section
variable {X : Cx} {pos p : Pos} {e : Expr} {es : List Expr} {fa : AEV}
end
end DL

namespace DL
open PySem PySem.Spec PyProof.Rows L2
variable [TB]
/-! ### a comprehension over a name's own list, which stays its own -/
def lcDo (p : Nat) (vs : List Nat) (g : GEV) (tt : TEV) (te : EV) : Nat → Nat → Ds → Option (List PyData × Ds)
  | m, k, δ => match slot δ p with
    | some (.o (.l zs)) => match zs[k]?, m with
      | none, _ => some ([], δ)
      | some _, 0 => none
      | some x, m + 1 => (g x δ).bind fun δ1 => (tt δ1).bind fun b =>
        if b.1 then (te b.2).bind fun y => match frz y.1 with
          | .d d => if noOwn vs y.2 then (lcDo p vs g tt te m (k + 1) (wipeD y.2 vs)).map fun r => (d :: r.1, r.2) else none
          | _ => none
        else if noOwn vs b.2 then lcDo p vs g tt te m (k + 1) (wipeD b.2 vs) else none
    | _ => none
def lcO (p : Nat) (vs : List Nat) (g : GEV) (tt : TEV) (te : EV) : EV := fun δ => match slot δ p with
  | some (.o (.l xs)) => if noOwn vs δ then (lcDo p vs g tt te xs.length 0 (wipeD δ vs)).bind fun r => if r.1.length ≤ sizeLine then some (.o (.l r.1), restD δ r.2 vs) else none else none
  | _ => none
def iOwn (K : PySem.W.Frag) (p : Nat) : TI := fun σ H R => ∃ a ws, σ[p]? = some (some (.ref a)) ∧ SqL K H a ws ∧ R (Itl K a) H
section
variable {X : Cx} {tg : Expr}
end
/-! its value, where nothing is changed on the way -/
section
omit [TB]
variable {δ : Ds}
end
end DL

/-! table.setdefault(key, value), the keys tuples -/
namespace L2
open PySem PySem.Spec PyProof.Rows
section
variable {X : Cx} {pins : List (Addr × Obj)} {σ : St} {H : Hp} {s : Shared} {a b : Addr} {r : Value} {d : V} {k : List Key} {A : Around} {E : Value → Shared → Prop}
end
def tDSetdT (td ty tx : TE) : TE := fun σ H Q => td σ H fun x H1 => ∃ a, x = .ref a ∧ IsD H1 a ∧ ty σ H1 fun y H2 => tx σ H2 fun z H3 => ∃ (kvs : List (List Key × V)) (k : List Key) (b : Addr), H3 a = some (.dT kvs) ∧ y = .ref b ∧ H3 b = some (.tup (k.map kV)) ∧ kvs.length < sizeLine ∧
  (∀ v, valV kvs k = some v → Q v H3) ∧ (valV kvs k = none → Q z (upd H3 a (.dT (putK kvs k z))))
section
variable {X : Cx} {o e f : Expr} {td ty tx : TE} {apos cpos : Pos}
end
end L2
namespace DL
open PySem PySem.Spec PyProof.Rows L2
variable [TB]
def setdE (i : Nat) (fk fd : PEV) : EV := fun δ => match slot δ i with
  | some (.o (.t _)) => (fk δ).bind fun y => (fd y.2).bind fun z => match z.1, slot z.2 i, (res z.2 y.1).bind keyS with
    | .v (.d d), some (.o (.t t)), some (f, k) => if f = false ∧ t.fl = false ∧ t.kvs.length < sizeLine then some (match valK t.kvs k with
        | some d' => (.d d', z.2)
        | none => (.d d, z.2.set i (some (.o (.t ⟨t.fl, putD t.kvs k d⟩))))) else none
    | _, _, _ => none
  | _ => none
section
variable {X : Cx} {e f : Expr} {apos cpos : Pos} {fk fd : PEV} {k : Nat}
end
end DL

namespace DLK
open PySem PySem.Spec PyProof.Rows PySem.W L2
/-! ### > of two tuples of whole numbers -/
section
variable {X : Cx} {pins : List (Addr × Obj)} {σ : L2.St} {H : Hp} {s : Shared}
/-- the first of the greatest -/
def bestK (ks : List (List Int)) : Nat → Nat := PySem.argBest fun i j => HT.lexLt (ks.getD j []) (ks.getD i [])
end
end DLK

namespace DL
open PySem PySem.Spec PyProof.Rows L2 LamX NdefX
variable [TB]
/-! ### tuples of whole numbers, the module's own ones too -/
section
omit [TB]
def wkI : PyData → Option (List Int)
  | .tuple ds => intsP ds
  | .dict [(.int b, .none), (.none, .tuple ds)] => if b = konI then intsP ds else none
  | _ => none
def wksOf : List PyData → Option (List (List Int))
  | [] => some []
  | d :: ds => (wkI d).bind fun k => (wksOf ds).map (k :: ·)
end
/-! ### a tuple of the module -/
def ConT (K : PySem.W.Frag) (mg : Str → Option Value) (x : Str) (is : List Int) : Prop := ∃ (a : Addr) (o : Obj) (its : Array Value) (n : Nat), mg x = some (.ref a) ∧ K.lookup a = some o ∧ o.cls = .type "tuple" ∧ o.data = .seq its n ∧ its.size ≤ sizeLine ∧ Vals (is.map V.int) its.toList
section
variable {X : Cx} {pos : Pos}
end
/-! ### min(xs, default=d) of tuples of whole numbers -/
def leastK (ks : List (List Int)) : Nat → Nat := PySem.argBest fun i j => HT.lexLt (ks.getD i []) (ks.getD j [])
def minDefE (fa : AEV) (fd : EV) : EV := fun δ => (fa δ).bind fun x => match x.1 with
  | [.v (.d (.list xs))] => (fd x.2).bind fun y => match y.1 with
    | .d d => (wksOf xs).bind fun ks => if xs = [] then some (.d d, y.2) else (xs[leastK ks (xs.length - 1)]?).map fun z => (.d z, y.2)
    | _ => none
  | _ => none
section
variable {X : Cx} {e d : Expr} {p pos kpos : Pos} {fa : AEV} {fd : EV}
end
/-! ### min(xs) of a list of tuples of whole numbers -/
def fMinW : List S → Option S
  | [s] => (asL s).bind fun xs => (wksOf xs).bind fun ks => if xs = [] then none else (xs[leastK ks (xs.length - 1)]?).map fun z => .d z
  | _ => none
def rMinW (K : PySem.W.Frag) : List V → Hp → VK → Prop := fun vs H Q => ∃ (l : Addr) (ws : List V) (ks : List (List Int)), vs = [.ref l] ∧ SqL K H l ws ∧ 0 < ws.length ∧ ks.length = ws.length ∧
  (∀ (i : Nat) (w : V), ws[i]? = some w → ∃ k b, ks[i]? = some k ∧ w = .ref b ∧ SqT K H b (k.map V.int)) ∧ ∀ w, ws[leastK ks (ws.length - 1)]? = some w → Q w H
section
variable {X : Cx} {e : Expr} {es : List Expr} {pos p : Pos} {fa : AEV}
end
def TupO (o : Obj) (is : List Int) : Prop := ∃ (its : Array Value) (n : Nat), o.cls = .type "tuple" ∧ o.data = .seq its n ∧ its.size ≤ sizeLine ∧ Vals (is.map V.int) its.toList
def tupOb (o : Obj) (is : List Int) : Bool := (match o.cls with | .type n => n == "tuple" | _ => false) && (match o.data with | .seq its _ => decide (its.size ≤ sizeLine) && decide (its.toList.length = is.length) && ((is.zip its.toList).all fun p => match p.2 with | .int i _ => i == p.1 | _ => false) | _ => false)
/-! ### max(t, key=lambda ..), the keys tuples of whole numbers -/
def keysW (F : FN) (cs : List S) : List PyData → Option (List (List Int))
  | [] => some []
  | x :: xs => match F (.d x :: cs) with
    | some (.d y, _) => (wkI y).bind fun k => (keysW F cs xs).map (k :: ·)
    | _ => none
def maxKeyE (F : FN) (js : List Nat) (fa : AEV) : EV := fun δ => (fa δ).bind fun x => match x.1 with
  | [.v (.d (.tuple xs))] => (capD (frzS x.2 js) js).bind fun cs => (keysW F cs xs).bind fun ks => if xs = [] then none else (xs[DLK.bestK ks (xs.length - 1)]?).map fun z => (.d z, frzS x.2 js)
  | _ => none
section
variable {X : Cx} {e : Expr} {p pos lpos kpos : Pos}
end
end DL

/-! {key: value}, the key a tuple -/
namespace L2
open PySem PySem.Spec PyProof.Rows
def tDispT1 (tk tv : TE) : TE := fun σ H Q => ∀ p, H p = none → tPairs [(tk, tv)] σ (upd H p (.dT [])) fun ps H2 => ∃ (kk : List Key) (b : Addr) (z : V), ps = [(.ref b, z)] ∧ H2 b = some (.tup (kk.map kV)) ∧ H2 p = some (.dT []) ∧ Q (.ref p) (upd H2 p (.dT (putK [] kk z)))
end L2
namespace DL
open PySem PySem.Spec PyProof.Rows L2
variable [TB]
def tab1E (fk fv : EV) : EV := fun δ => (fk δ).bind fun y => match y.1 with
  | .d (.tuple ds) => (fv y.2).bind fun z => match z.1, keyL ds with
    | .d d, some k => some (.o (.t ⟨false, [(k, d)]⟩), z.2)
    | _, _ => none
  | _ => none
end DL

/-! xs[i::k] of a list -/
namespace DLS
open PySem PySem.Spec PyProof.Rows L2
def stepL {α : Type} (xs : List α) (lo st : Option Int) : List α :=
  (sliceRange (sliceBounds lo none st xs.length).1 (sliceBounds lo none st xs.length).2.1 (sliceBounds lo none st xs.length).2.2).filterMap (xs[·]?)
end DLS
namespace L2
open PySem PySem.Spec PyProof.Rows
section
variable {X : Cx} {e : Expr}
def tStepS (K : PySem.W.Frag) (te : TE) (tl ts : TO) : TE := fun σ H Q => te σ H fun x H1 => tl σ H1 fun lo H2 => ts σ H2 fun st H3 => ∃ a xs, x = .ref a ∧ SqL K H3 a xs ∧ st ≠ some 0 ∧ ∀ p, H3 p = none → Q (.ref p) (upd H3 p (.lst (DLS.stepL xs lo st)))
end
end L2
namespace DL
open PySem PySem.Spec PyProof.Rows L2 DLS
variable [TB]
def stepE (f : PEV) (fl fh : Ds → Option (Option Int × Ds)) : EV := fun δ => (f δ).bind fun x => (fl x.2).bind fun l => (fh l.2).bind fun h => (res h.2 x.1).bind fun s => match asL s with
  | some xs => if h.1 = some 0 then none else some (.o (.l (stepL xs l.1 h.1)), h.2)
  | none => none
section
variable {X : Cx} {e l k : Expr} {p3 pos : Pos} {f : PEV} {fl fh : Ds → Option (Option Int × Ds)}
end
end DL

namespace DLS
open PySem PySem.Spec PyProof.Rows L2 SrtO PySem.W
/-! ### tuples of which some are empty, the first isn't -/
section
variable {prog : Program} {w : World} {A : Around} {E : Value → Shared → Prop} {s : Shared}
end
end DLS
namespace DL
open PySem PySem.Spec PyProof.Rows L2 DLS
variable [TB]
/-! ### sorted(table), some of its keys empty, the first isn't -/
def mixed : List (List Int) → Bool
  | [] => false
  | r :: rs => !r.isEmpty && rs.any fun q => q.isEmpty
def rSortedKM (K : PySem.W.Frag) : List V → Hp → VK → Prop := fun vs H Q => ∃ (d : Addr) (kvs : List (List Key × V)), vs = [V.ref d] ∧ Rd H d (.dT kvs) ∧ (∀ bs, IsKeys H kvs bs → (∀ b ∈ bs, ∃ r : List Int, H b = some (.tup (r.map V.int)) ∧ keyVT H (.ref b) = r) ∧ ∃ b bs', bs = b :: bs' ∧ keyVT H (.ref b) ≠ [] ∧ ∃ c ∈ bs', keyVT H (.ref c) = []) ∧
  ∀ bs ys p, IsKeys H kvs bs → SrtO.Srtd (fun x y => lexL (keyVT H x) (keyVT H y)) ys → SrtO.Stb (fun x y => lexL (keyVT H x) (keyVT H y)) ys (bs.map V.ref) → H p = none → Q (.ref p) (upd H p (.lst ys))
section
variable {X : Cx}
end
def fSortedKM : List S → Option S
  | [s] => (asTb s).bind fun t => if t.fl = false then (rowsP (t.kvs.map fun p => keyD p.1)).bind fun rs => if mixed rs = true then some (.o (.l ((sortT rs).map tupI))) else none else none
  | _ => none
section
variable {X : Cx} {e : Expr} {es : List Expr} {pos p : Pos} {fa : AEV}
end
end DL

namespace DLK
open PySem PySem.Spec PyProof.Rows PySem.W L2
section
variable {X : Cx} {pins : List (Addr × Obj)} {σ : L2.St} {H : Hp} {s : Shared}
/-- the first of the least -/
def leastI (ks : List Int) : Nat → Nat := PySem.argBest fun i j => decide (ks.getD i 0 < ks.getD j 0)
end
end DLK
namespace DL
open PySem PySem.Spec PyProof.Rows L2 LamX NdefX
variable [TB]
/-! ### min(xs, key=lambda ..), the keys whole numbers -/
def keysI (F : FN) (cs : List S) : List PyData → Option (List Int)
  | [] => some []
  | x :: xs => match F (.d x :: cs) with
    | some (.d (.int k), _) => (keysI F cs xs).map (k :: ·)
    | _ => none
def minKeyE (F : FN) (js : List Nat) (fa : AEV) : EV := fun δ => (fa δ).bind fun x => match x.1 with
  | [.v (.d (.list xs))] => (capD (frzS x.2 js) js).bind fun cs => (keysI F cs xs).bind fun ks => if xs = [] then none else (xs[DLK.leastI ks (xs.length - 1)]?).map fun z => (.d z, frzS x.2 js)
  | _ => none
section
variable {X : Cx} {e : Expr} {p pos lpos kpos : Pos}
end
end DL

/-! for x in table, the table a name's own, keys tuples: it is locked while the loop runs, and may be read -/
namespace DL
open PySem PySem.Spec PyProof.Rows L2 LamX NdefX
variable [TB]
section
omit [TB]
/-- all but one address stays; what stands there is a locked table -/
structure But (d : Addr) (G G' : Hp) : Prop where
  st : ∀ b o, b ≠ d → G b = some o → G' b = some o
  at' : ∃ od ws, G d = some (.frz od (.dT ws))
section
variable {d : Addr} {G G' : Hp} (e : But d G G')
include e
theorem But.keep {b : Addr} {o : HO} (h : G b = some o) (n : ∀ od ws, o ≠ .frz od (.dT ws)) : G' b = some o := e.st b o (fun z => by
  obtain ⟨od, ws, hd⟩ := e.at'
  rw [z, hd] at h
  exact n od ws (Option.some.inj h).symm) h
end
theorem capB {d : Addr} {H H' : Hp} (e : But d H H') {x : PyData} (h : capOk H x) : capOk H' x := by
  unfold capOk at h ⊢
  split at h
  · trivial
  · obtain ⟨kk, h1, h2⟩ := h
    exact ⟨kk, h1, e.keep h2 (fun _ _ z => nomatch z)⟩
  · obtain ⟨kk, h1, h2⟩ := h
    exact ⟨kk, h1, e.keep h2 (fun _ _ z => nomatch z)⟩
  · exact h.elim
mutual
theorem dpB {K : PySem.W.Frag} {d : Addr} {H H' : Hp} (e : But d H H') : ∀ {v : V} (x : PyData), Dq K H v x → Dq K H' v x
  | _, .none, h => by cases h; exact .non
  | _, .bool b, h => by cases h; exact .bl b
  | _, .int b, h => by cases h; exact .int b
  | _, .str b, h => by cases h; exact .str b
  | _, .list ds, h => by
    cases h with
    | lst hs ha => exact .lst (e.keep hs (fun _ _ z => nomatch z)) (dpAllB e ds ha)
  | _, .tuple ds, h => by
    cases h with
    | tup hs ha => exact .tup (e.keep hs (fun _ _ z => nomatch z)) (dpAllB e ds ha)
  | _, .dict [], h => by
    cases h with
    | dctE hs => exact .dctE (e.keep hs (fun _ _ z => nomatch z))
  | _, .dict [(k, x)], h => by
    cases h with
    | dct1 hs ha => exact .dct1 (e.keep hs (fun _ _ z => nomatch z)) (dpB e x ha)
  | _, .dict (_ :: _ :: _), h => by
    cases h with
    | kon h1 h2 h3 h4 h5 => exact .kon h1 h2 h3 h4 h5
    | adr g1 g2 h1 h2 => exact .adr g1 g2 (e.keep h1 (fun _ _ z => by unfold LamX.CodeO at z; cases z)) fun x hx => capB e (h2 x hx)
    | exc g h1 => exact .exc g (e.keep h1 (fun _ _ z => by unfold ExV at z; cases z))
    | exf g h1 h2 h3 => exact .exf g (e.keep h1 (fun _ _ z => by unfold ExV at z; cases z)) (e.keep h2 (fun _ _ z => nomatch z)) (dpB e _ h3)
    | fn g => exact .fn g
    | idx g h1 => exact .idx g (e.keep h1 (fun _ _ z => by cases z))
    | tab h1 h2 => exact .tab (e.keep h1 (fun _ _ z => nomatch z)) (dpAllB e _ h2)
    | tabT h1 h2 => exact .tabT (e.keep h1 (fun _ _ z => nomatch z)) (dpAllB e _ h2)
    | mem h1 h2 h3 h4 h5 => exact .mem (e.keep h1 (fun _ _ z => by unfold MemO at z; cases z)) (fun p hp => keyTM (fun _ _ z => e.keep z (fun _ _ z => nomatch z)) _ _ (h2 p hp)) h3 (dpAllB e _ h4) (dpAllB e _ h5)
theorem dpAllB {K : PySem.W.Frag} {d : Addr} {H H' : Hp} (e : But d H H') : ∀ {vs : List V} (ds : List PyData), DqAll K H vs ds → DqAll K H' vs ds
  | _, [], h => by cases h; exact .nil
  | _, x :: ds, h => by
    cases h with
    | cons h1 h2 => exact .cons (dpB e x h1) (dpAllB e ds h2)
end
end
/-- no table in the slot -/
def noTab : Option S → Bool
  | some (.t _) => false
  | some (.p _) => false
  | _ => true
section
variable {K : PySem.W.Frag} {T : List Addr} {ρ : List (Option Addr)} {δ : Ds} {σ : L2.St} {H : Hp} {i : Nat} {d : Addr}
end
/-- the loop over an owned table -/
def forLk (i : Nat) (tg : GEV) (body : SEV) : SEV := fun δ => match slot δ i with
  | some (.o (.t t)) => if t.fl = false then (forD tg body (t.kvs.map fun p => keyD p.1) (δ.set i (some (.t t)))).bind fun
      | .nx δ' => match slot δ' i with
        | some (.t t') => if t'.fl = false ∧ (δ'.set i none).all noTab = true then some (.nx (δ'.set i (some (.o (.t t'))))) else none
        | _ => none
      | _ => none
    else none
  | _ => none
section
variable {X : Cx} {P : List Nat} {pos npos : Pos}
end
end DL
/-! name = [.. for .. for ..] -/
namespace DL
open PySem PySem.Spec PyProof.Rows L2
variable [TB]
section
variable {X : Cx}
theorem ds_setLc2 {P : List Nat} {i : Nat} {y : Str} {py : Pos} {elt tg iter tg1 iter1 : Expr} {ifs ifs1 : List Expr} {scope : Scope} {own : List (Str × Nat)} {pos spos : Pos} {ws vs1 ws1 : List Nat} {fi fi1 : IEV} {g g1 : GEV} {tt tt1 : TEV} {te : EV} (hc : X.calm = true) (hN : X.N.Nodup) (hy : X.N[i]? = some y) (hyl : X.env.scope.names.lookup y = some .local) (hP : i ∉ P)
    (hsw : swapsWith (.ListComp elt [⟨tg, iter, ifs, 0⟩, ⟨tg1, iter1, ifs1, 0⟩] scope pos) (some (.Name y py)) spos.line X.env = pure true) (hi : DI X tg iter fi) (ok : BlkOk X.N X.env.scope scope own) (hw : ∀ j ∈ ws, j ∈ own.map (·.2)) (hw1 : ∀ j ∈ ws1, j ∈ vs1) (hv1 : ∀ j ∈ vs1, j ∈ own.map (·.2))
    (hg : ∀ (s : Shared) (H : Hp) (C : Addr) (cl : List (Str × Addr)) (fp : List Addr), DG (X.blk s H scope (compEnvC scope cl C X.env) fp) ws tg g)
    (ht : ∀ (s : Shared) (H : Hp) (C : Addr) (cl : List (Str × Addr)) (fp : List Addr), DTs (X.blk s H scope (compEnvC scope cl C X.env) fp) ifs tt)
    (hi1 : ∀ (s : Shared) (H : Hp) (C : Addr) (cl : List (Str × Addr)) (fp : List Addr), DI (X.blk s H scope (compEnvC scope cl C X.env) fp) tg1 iter1 fi1)
    (hg1 : ∀ (s : Shared) (H : Hp) (C : Addr) (cl : List (Str × Addr)) (fp : List Addr), DG (X.blk s H scope (compEnvC scope cl C X.env) fp) ws1 tg1 g1)
    (ht1 : ∀ (s : Shared) (H : Hp) (C : Addr) (cl : List (Str × Addr)) (fp : List Addr), DTs (X.blk s H scope (compEnvC scope cl C X.env) fp) ifs1 tt1)
    (he : ∀ (s : Shared) (H : Hp) (C : Addr) (cl : List (Str × Addr)) (fp : List Addr), DE (X.blk s H scope (compEnvC scope cl C X.env) fp) elt te) (hs : ∀ x, foldedSetIterable iter X.env x = pure x := by intro _; rfl) (hs1 : ∀ (env : Env) x, foldedSetIterable iter1 env x = pure x := by intro _ _; rfl) :
    DS X P (.Assign [.Name y py] (.ListComp elt [⟨tg, iter, ifs, 0⟩, ⟨tg1, iter1, ifs1, 0⟩] scope pos) spos) (setS i (lc2E (own.map (·.2)) vs1 fi g tt fi1 g1 tt1 te)) := ps_imp (ps_setLc2 hc hN hy hyl hsw hi ok hv1 hg ht hi1 hg1 ht1 he hs hs1) fun D σ H ⟨T, ρ, δ, o, hs, hf, hq⟩ => lc2_ok hw hw1 hv1 σ H _ (set_ok hP ⟨T, ρ, δ, o, hs, hf, hq⟩)
end
end DL
/-! table.pop(key), the keys tuples -/
namespace L2
open PySem PySem.Spec PyProof.Rows
section
variable {X : Cx} {pins : List (Addr × Obj)} {σ : St} {H : Hp} {s : Shared} {a b : Addr} {k : List Key} {A : Around} {E : Value → Shared → Prop}
end
def tDPopT (td ty : TE) : TE := fun σ H Q => td σ H fun x H1 => ∃ a, x = .ref a ∧ IsD H1 a ∧ ty σ H1 fun y H2 => ∃ (kvs : List (List Key × V)) (k : List Key) (b : Addr) (v : V), H2 a = some (.dT kvs) ∧ y = .ref b ∧ H2 b = some (.tup (k.map kV)) ∧ valV kvs k = some v ∧ Q v (upd H2 a (.dT (dropK kvs k)))
section
variable {X : Cx} {o e : Expr} {td ty : TE} {apos cpos : Pos}
end
end L2
namespace DL
open PySem PySem.Spec PyProof.Rows L2
variable [TB]
def dropD (kvs : List (List Key × PyData)) (k : List Key) : List (List Key × PyData) := kvs.filter fun p => decide (p.1 ≠ k)
def popE (i : Nat) (fk : PEV) : EV := fun δ => match slot δ i with
  | some (.o (.t t0)) => (fk δ).bind fun y => match slot y.2 i, (res y.2 y.1).bind keyS with
    | some (.o (.t t)), some (f, k) => if t.fl = f ∧ t.fl = false then (valK t.kvs k).map fun d => (.d d, y.2.set i (some (.o (.t ⟨t.fl, dropD t.kvs k⟩)))) else none
    | _, _ => none
  | _ => none
section
variable {X : Cx} {e : Expr} {apos cpos : Pos} {fk : PEV} {k : Nat}
end
end DL
/-! max(a, b, c) of whole numbers -/
namespace DL
open PySem PySem.Spec PyProof.Rows L2
variable [TB]
def fMax3 : List S → Option S
  | [s, u, w] => (asI s).bind fun i => (asI u).bind fun j => (asI w).map fun l => .d (.int (if j > i then (if l > j then l else j) else (if l > i then l else i)))
  | _ => none
section
variable {X : Cx} {e : Expr} {es : List Expr} {pos p : Pos} {fa : AEV}
end
end DL
/-! a, b = a list of that length -/
namespace DL
open PySem PySem.Spec PyProof.Rows L2
variable [TB]
def lstG (n : Nat) (gs : GsEV) : GEV := fun x δ => match x with
  | .list ds => if ds.length = n then gs ds δ else none
  | _ => none
section
variable {X : Cx} {pos : Pos}
theorem dg_lst {vs : List Nat} {es : List Expr} {k : Nat} {gs : GsEV} {n : Nat} (hc : X.calm = true) (h : DGs X vs es gs) (hn : (assignEach es X.env).length = n := by rfl) (hst : (assignEach es X.env).findIdx? (·.1) = none := by rfl) : DG X vs (.Tuple es k pos) (lstG n gs) := pg_imp (pg_unl hc h hn hst) fun v σ H Q ⟨T, ρ, δ, x, δ', hs, hd, hg, hq⟩ => by
  unfold lstG at hg
  split at hg
  · rename_i ds
    split at hg
    · rename_i hl
      cases hd with
      | lst h1 h2 => exact ⟨_, _, rfl, SqL.of (hid_same _ _ h1), by rw [dpAll_len h2]; exact hl, T, ρ, δ, ds, δ', hs, h2, hg, hq⟩
    · cases hg
  · cases hg
end
end DL

/-! for x in xs: if k not in d: d[k] = []; d[k].append(x), d a new table: its lists are made in place -/
namespace DL
open PySem PySem.Spec PyProof.Rows L2 LamX NdefX
variable [TB]
section
variable {K : PySem.W.Frag} {T : List Addr} {ρ : List (Option Addr)} {δ : Ds} {σ : L2.St} {H : Hp} {i : Nat} {d : Addr}
end
abbrev Bk := List (Key × Addr × List PyData)
def bAd (ab : Bk) : List Addr := ab.map fun p => p.2.1
def bKv (ab : Bk) : List (Key × V) := ab.map fun p => (p.1, V.ref p.2.1)
def bAcc (ab : Bk) : List (Key × List PyData) := ab.map fun p => (p.1, p.2.2)
/-- the dict at d, its lists at their addresses, all of it in the making -/
structure BI (K : PySem.W.Frag) (T : List Addr) (d : Addr) (ab : Bk) (ρ : List (Option Addr)) (δ : Ds) (σ : L2.St) (H : Hp) : Prop where
  sim : Sim K (bAd ab ++ d :: T) ρ δ σ H
  dct : H d = some (.dK (bKv ab))
  lst : ∀ p ∈ ab, ∃ vs, H p.2.1 = some (.lst vs) ∧ DqAll K (hid (bAd ab ++ d :: T) ρ H) vs p.2.2
  nd : (bAd ab).Nodup
  fr : ∀ p ∈ ab, p.2.1 ≠ d ∧ p.2.1 ∉ T
  dT : d ∉ T
  kn : (ab.map (·.1)).Nodup
section
variable {K : PySem.W.Frag} {T : List Addr} {ρ ρ' : List (Option Addr)} {δ δ' : Ds} {σ σ' : L2.St} {H H' : Hp} {d : Addr} {ab : Bk}
theorem BI.dm : d ∈ bAd ab ++ d :: T := List.mem_append_right _ List.mem_cons_self
theorem BI.bm {p : Key × Addr × List PyData} (hp : p ∈ ab) : p.2.1 ∈ bAd ab ++ d :: T := List.mem_append_left _ (List.mem_map.mpr ⟨p, hp, rfl⟩)
theorem BI.ext (h : BI K T d ab ρ δ σ H) (s : Sim K (bAd ab ++ d :: T) ρ' δ' σ' H') (x : Ext (bAd ab ++ d :: T) ρ H ρ' H') : BI K T d ab ρ' δ' σ' H' where
  sim := s
  dct := x.at BI.dm h.dct
  lst := fun p hp => let ⟨vs, a, b⟩ := h.lst p hp; ⟨vs, x.at (BI.bm hp) a, dpAllM x.same _ b⟩
  nd := h.nd
  fr := h.fr
  dT := h.dT
  kn := h.kn
/-- a new list under a new key -/
theorem BI.put {b : Addr} {k : Key} (h : BI K T d ab ρ δ σ H) (hb : H b = none) (hk : k ∉ ab.map (·.1)) : Sim K (b :: (bAd ab ++ d :: T)) ρ δ σ (upd H b (.lst [])) ∧ hid (b :: (bAd ab ++ d :: T)) ρ (upd H b (.lst [])) = hid (bAd ab ++ d :: T) ρ H := ⟨h.sim.addTmp hb, hid_new hb⟩
theorem BI.add {b : Addr} {k : Key} (s : Sim K (b :: (bAd ab ++ d :: T)) ρ δ σ H) (dct : H d = some (.dK (bKv ab))) (lst : ∀ p ∈ ab, ∃ vs, H p.2.1 = some (.lst vs) ∧ DqAll K (hid (b :: (bAd ab ++ d :: T)) ρ H) vs p.2.2) (new : H b = some (.lst []))
    (nd : (bAd ab).Nodup) (fr : ∀ p ∈ ab, p.2.1 ≠ d ∧ p.2.1 ∉ T) (dT : d ∉ T) (kn : (ab.map (·.1)).Nodup) (hb : b ∉ bAd ab ++ d :: T) (hk : k ∉ ab.map (·.1)) : BI K T d (ab ++ [(k, b, [])]) ρ δ σ (upd H d (.dK (putK (bKv ab) k (.ref b)))) := by
  have mem : ∀ a, a ∈ b :: (bAd ab ++ d :: T) ↔ a ∈ bAd (ab ++ [(k, b, [])]) ++ d :: T := fun a => by
    unfold bAd
    simp only [List.map_append, List.map_cons, List.map_nil, List.mem_cons, List.mem_append]
    constructor
    · rintro (z | z | z)
      · exact .inl (.inr (.inl z))
      · exact .inl (.inl z)
      · exact .inr z
    · rintro ((z | z | z) | z)
      · exact .inr (.inl z)
      · exact .inl z
      · cases z
      · exact .inr (.inr z)
  have s2 := s.tEq mem
  have hd : d ∈ b :: (bAd ab ++ d :: T) := List.mem_cons_of_mem _ BI.dm
  have nbd : b ≠ d := fun z => hb (by rw [z]; exact BI.dm)
  have hh : hid (bAd (ab ++ [(k, b, [])]) ++ d :: T) ρ (upd H d (.dK (putK (bKv ab) k (.ref b)))) = hid (b :: (bAd ab ++ d :: T)) ρ H := by
    rw [hid_tmp ((mem d).mp hd), ← hid_tEq mem]
  refine ⟨s2.tmpW ((mem d).mp hd) (nb_of dct), ?_, ?_, ?_, ?_, dT, ?_⟩
  · rw [upd_same]
    congr 2
    unfold putK bKv
    rw [if_neg, List.map_append]
    · rfl
    · rw [List.any_map]
      intro z
      obtain ⟨p, hp, e⟩ := List.any_eq_true.mp z
      have e : decide (p.1 = k) = true := e
      exact hk (List.mem_map.mpr ⟨p, hp, of_decide_eq_true e⟩)
  · intro p hp
    rw [hh]
    rcases List.mem_append.mp hp with hp | hp
    · obtain ⟨vs, h1, h2⟩ := lst p hp
      exact ⟨vs, by rw [upd_ne (fr p hp).1]; exact h1, h2⟩
    · rw [List.mem_singleton.mp hp]
      exact ⟨[], by rw [upd_ne nbd]; exact new, .nil⟩
  · unfold bAd
    rw [List.map_append, List.nodup_append]
    refine ⟨nd, List.nodup_cons.mpr ⟨(fun h => nomatch h), List.nodup_nil⟩, fun a ha c hc => ?_⟩
    rw [List.mem_singleton.mp hc]
    exact fun z => hb (by
      have z : a = b := z
      rw [← z]
      exact List.mem_append_left _ ha)
  · intro p hp
    rcases List.mem_append.mp hp with hp | hp
    · exact fr p hp
    · rw [List.mem_singleton.mp hp]
      exact ⟨nbd, fun z => hb (List.mem_append_right _ (List.mem_cons_of_mem _ z))⟩
  · rw [List.map_append, List.nodup_append]
    refine ⟨kn, List.nodup_cons.mpr ⟨(fun h => nomatch h), List.nodup_nil⟩, fun a ha c hc => ?_⟩
    rw [List.mem_singleton.mp hc]
    exact fun z => hk (by
      have z : a = k := z
      rw [← z]
      exact ha)
def bPush (ab : Bk) (k : Key) (x : PyData) : Bk := ab.map fun p => if p.1 = k then (p.1, p.2.1, p.2.2 ++ [x]) else p
theorem push_ad (ab : Bk) (k : Key) (x : PyData) : bAd (bPush ab k x) = bAd ab := by
  unfold bAd bPush
  rw [List.map_map]
  apply List.map_congr_left
  intro p _
  show (if p.1 = k then (p.1, p.2.1, p.2.2 ++ [x]) else p).2.1 = _
  split <;> rfl
theorem push_k (ab : Bk) (k : Key) (x : PyData) : (bPush ab k x).map (·.1) = ab.map (·.1) := by
  unfold bPush
  rw [List.map_map]
  apply List.map_congr_left
  intro p _
  show (if p.1 = k then (p.1, p.2.1, p.2.2 ++ [x]) else p).1 = _
  split <;> rfl
theorem push_kv (ab : Bk) (k : Key) (x : PyData) : bKv (bPush ab k x) = bKv ab := by
  unfold bKv bPush
  rw [List.map_map]
  apply List.map_congr_left
  intro p _
  show ((if p.1 = k then (p.1, p.2.1, p.2.2 ++ [x]) else p).1, V.ref (if p.1 = k then (p.1, p.2.1, p.2.2 ++ [x]) else p).2.1) = _
  split <;> rfl
theorem bAd_inj {ab : Bk} (h : (bAd ab).Nodup) {p q : Key × Addr × List PyData} (hp : p ∈ ab) (hq : q ∈ ab) (e : p.2.1 = q.2.1) : p = q := by
  induction ab with
  | nil => cases hp
  | cons a l ih =>
    unfold bAd at h
    rw [List.map_cons, List.nodup_cons] at h
    rcases List.mem_cons.mp hp with e1 | hp1
    · rcases List.mem_cons.mp hq with e2 | hq1
      · rw [e1, e2]
      · exact (h.1 (List.mem_map.mpr ⟨q, hq1, by rw [← e, e1]⟩)).elim
    · rcases List.mem_cons.mp hq with e2 | hq1
      · exact (h.1 (List.mem_map.mpr ⟨p, hp1, by rw [e, e2]⟩)).elim
      · exact ih h.2 hp1 hq1
theorem bK_inj {ab : Bk} (h : (ab.map (·.1)).Nodup) {p q : Key × Addr × List PyData} (hp : p ∈ ab) (hq : q ∈ ab) (e : p.1 = q.1) : p = q := by
  induction ab with
  | nil => cases hp
  | cons a l ih =>
    rw [List.map_cons, List.nodup_cons] at h
    rcases List.mem_cons.mp hp with e1 | hp1
    · rcases List.mem_cons.mp hq with e2 | hq1
      · rw [e1, e2]
      · exact (h.1 (List.mem_map.mpr ⟨q, hq1, by rw [← e, e1]⟩)).elim
    · rcases List.mem_cons.mp hq with e2 | hq1
      · exact (h.1 (List.mem_map.mpr ⟨p, hp1, by rw [e, e2]⟩)).elim
      · exact ih h.2 hp1 hq1
/-- one list grows -/
theorem BI.push {p : Key × Addr × List PyData} {vs : List V} {v : V} {x : PyData} (h : BI K T d ab ρ δ σ H) (hp : p ∈ ab) (hv : H p.2.1 = some (.lst vs)) (hvs : DqAll K (hid (bAd ab ++ d :: T) ρ H) vs p.2.2) (hx : Dq K (hid (bAd ab ++ d :: T) ρ H) v x) : BI K T d (bPush ab p.1 x) ρ δ σ (upd H p.2.1 (.lst (vs ++ [v]))) := by
  have hm : p.2.1 ∈ bAd ab ++ d :: T := BI.bm hp
  have hh : hid (bAd ab ++ d :: T) ρ (upd H p.2.1 (.lst (vs ++ [v]))) = hid (bAd ab ++ d :: T) ρ H := hid_tmp hm
  refine ⟨?_, ?_, ?_, ?_, ?_, h.dT, ?_⟩
  · rw [push_ad]
    exact h.sim.tmpW hm (nb_of hv)
  · rw [upd_ne (h.fr p hp).1.symm, push_kv]
    exact h.dct
  · intro q hq
    rw [push_ad, hh]
    obtain ⟨r, hr, rfl⟩ := List.mem_map.mp hq
    by_cases e : r.1 = p.1
    · have er := bK_inj h.kn hr hp e
      subst er
      rw [if_pos rfl]
      exact ⟨_, upd_same, dpAll_app hvs (.cons hx .nil)⟩
    · rw [if_neg e]
      obtain ⟨ws, h1, h2⟩ := h.lst r hr
      refine ⟨ws, ?_, h2⟩
      rw [upd_ne]
      · exact h1
      · intro z
        exact e (by rw [bAd_inj h.nd hr hp z])
  · rw [push_ad]; exact h.nd
  · intro q hq
    obtain ⟨r, hr, rfl⟩ := List.mem_map.mp hq
    by_cases e : r.1 = p.1
    · rw [if_pos e]; exact h.fr r hr
    · rw [if_neg e]; exact h.fr r hr
  · rw [push_k]; exact h.kn
end
/-! one turn -/
def addB (acc : List (Key × List PyData)) (k : Key) (x : PyData) : List (Key × List PyData) := acc.map fun p => if p.1 = k then (p.1, p.2 ++ [x]) else p
def hasB (acc : List (Key × List PyData)) (k : Key) : Bool := acc.any fun p => decide (p.1 = k)
def fkey (fk : PEV) (δ : Ds) : Option (Key × Ds) := (fk δ).bind fun y => match y.1 with
  | .v (.d a) => (key1 a).map fun k => (k, y.2)
  | _ => none
/-- the list under the key grows by what stands in slot m -/
def growB (m : Nat) (fk : PEV) (k : Key) (acc : List (Key × List PyData)) (δ : Ds) : Option (List (Key × List PyData) × Ds) := (fkey fk δ).bind fun z => if z.1 = k then match slot z.2 m with
    | some (.d x) => if (acc.all fun p => decide (p.2.length < sizeLine)) = true then some (addB acc k x, z.2) else none
    | _ => none
  else none
def turnBk (m : Nat) (fk : PEV) (acc : List (Key × List PyData)) (δ : Ds) : Option (List (Key × List PyData) × Ds) := (fkey fk δ).bind fun y =>
  if hasB acc y.1 = true then growB m fk y.1 acc y.2
  else if acc.length < sizeLine then (fkey fk y.2).bind fun z => if z.1 = y.1 then growB m fk y.1 (acc ++ [(y.1, [])]) z.2 else none else none
section
variable {K : PySem.W.Frag} {T : List Addr} {ρ ρ' : List (Option Addr)} {δ δ' : Ds} {σ : L2.St} {G H H1 H' : Hp} {d : Addr} {ab : Bk}
/-- with what has become of everything else since the loop began -/
def BB (K : PySem.W.Frag) (T : List Addr) (d : Addr) (G H1 : Hp) (ab : Bk) (ρ : List (Option Addr)) (δ : Ds) (σ : L2.St) (H : Hp) : Prop := BI K T d ab ρ δ σ H ∧ Same G (hid (bAd ab ++ d :: T) ρ H) ∧ ∀ a ∈ T, Kp (H1 a) (H a)
theorem BB.ext {σ' : L2.St} (h : BB K T d G H1 ab ρ δ σ H) (s : Sim K (bAd ab ++ d :: T) ρ' δ' σ' H') (x : Ext (bAd ab ++ d :: T) ρ H ρ' H') : BB K T d G H1 ab ρ' δ' σ' H' :=
  ⟨h.1.ext s x, h.2.1.trans x.same, fun a ha => (h.2.2 a ha).trans (x.tmp a (List.mem_append_right _ (List.mem_cons_of_mem _ ha)))⟩
abbrev tTurn (K : PySem.W.Frag) (i m : Nat) (fk : PEV) : TS := tSeq (tIfS (tB (tDNotIn (liftP K fk) (tVar i))) (tAsg (tLst tNil) (gSub (tVar i) (liftP K fk) rSetD)) tNext) (tDrop (tBM K "list" rAppend (tDGet (tVar i) (liftP K fk)) (liftA K (consA (frzP (vr m)) nilA))))
end
def blkD (m : Nat) (fk : PEV) (g : GEV) : List PyData → List (Key × List PyData) → Ds → Option (List (Key × List PyData) × Ds)
  | [], acc, δ => some (acc, δ)
  | x :: xs, acc, δ => (g x δ).bind fun δ1 => (turnBk m fk acc δ1).bind fun r => blkD m fk g xs r.1 r.2
def tabB (acc : List (Key × List PyData)) : Tab := ⟨true, acc.map fun p => ([p.1], .list p.2)⟩
def forBlk (i m : Nat) (fk : PEV) (fi : IEV) (g : GEV) : SEV := fun δ => (fi δ).bind fun z => match slot z.2 i with
  | some (.o (.t t)) => if t.fl = true ∧ t.kvs.isEmpty = true then (blkD m fk g z.1 [] (z.2.set i none)).map fun r => .nx (r.2.set i (some (.o (.t (tabB r.1))))) else none
  | _ => none
section
variable {X : Cx} {P : List Nat} {pos p1 p2 p3 p4 p5 p6 p7 n1 n2 n3 n4 ap cp : Pos}
end
end DL

/-! [.. for x in table if ..], the table a name's own, keys tuples: locked while it runs, and may be read -/
namespace DL
open PySem PySem.Spec PyProof.Rows L2 LamX NdefX
variable [TB]
section
end
/-- the comprehension over an owned table -/
def lcLk (i : Nat) (vs : List Nat) (g : GEV) (tt : TEV) (te : EV) : EV := fun δ => match slot δ i with
  | some (.o (.t t)) => if t.fl = false ∧ noOwn vs (δ.set i (some (.t t))) = true then (lcD vs g tt te (t.kvs.map fun p => keyD p.1) (wipeD (δ.set i (some (.t t))) vs)).bind fun r => if r.1.length ≤ sizeLine then match slot (restD (δ.set i (some (.t t))) r.2 vs) i with
      | some (.t t') => if t'.fl = false ∧ ((restD (δ.set i (some (.t t))) r.2 vs).set i none).all noTab = true then some (.o (.l r.1), (restD (δ.set i (some (.t t))) r.2 vs).set i (some (.o (.t t')))) else none
      | _ => none
    else none
    else none
  | _ => none
section
variable {X : Cx}
end
end DL

/-! flat dicts: dict(list of pairs), list(table), a comprehension over a flat table that stays a name's own -/
namespace DL
open PySem PySem.Spec PyProof.Rows L2 LamX NdefX
variable [TB]
/-- the pair's address, its key, the value -/
abbrev PrK := Addr × Key × V
def mergeK (kvs : List (Key × V)) (more : List PrK) : List (Key × V) := more.foldl (fun acc p => putK acc p.2.1 p.2.2) kvs
def rDictK (K : PySem.W.Frag) : List V → Hp → VK → Prop := fun vs H Q => ∃ (a : Addr) (ps : List PrK), vs = [V.ref a] ∧ SqL K H a (ps.map fun p => V.ref p.1) ∧ (∀ p ∈ ps, SqT K H p.1 [kV p.2.1, p.2.2]) ∧
  ∀ d, H d = none → Q (.ref d) (upd H d (.dK (mergeK [] ps)))
/-- the key, what stands for it, the value -/
abbrev RelPk (h : Heap) (p : PrK) (q : Key × Value × Value) : Prop := q.1 = p.2.1 ∧ RelV (kV p.2.1) q.2.1 ∧ RelV p.2.2 q.2.2 ∧ h.IsTuple p.1 #[q.2.1, q.2.2]
section
variable {X : Cx}
end
/-- the pairs of a list, by the data -/
def pairsF : List PyData → Option (List (List Key × PyData))
  | [] => some []
  | .tuple [k, d] :: xs => (key1 k).bind fun k => (pairsF xs).map fun r => ([k], d) :: r
  | _ => none
def fDictF : List S → Option S
  | [s] => (asL s).bind fun xs => (pairsF xs).map fun kvs => .o (.t ⟨true, mergeD [] kvs⟩)
  | _ => none
section
variable {X : Cx} {e : Expr} {es : List Expr} {pos p : Pos} {fa : AEV}
end
/-! list(a flat table) -/
def keyF : List Key → PyData
  | [k] => keyD1 k
  | _ => .none
def fListF : List S → Option S
  | [s] => (asTb s).bind fun t => if t.fl = true then some (.o (.l (t.kvs.map fun p => keyF p.1))) else none
  | _ => none
section
variable {X : Cx} {e : Expr} {es : List Expr} {pos p : Pos} {fa : AEV}
end
section
omit [TB]
/-- all but one address stays; what stands there is a locked table -/
structure ButF (d : Addr) (G G' : Hp) : Prop where
  st : ∀ b o, b ≠ d → G b = some o → G' b = some o
  at' : ∃ od ws, G d = some (.frz od (.dK ws))
section
variable {d : Addr} {G G' : Hp} (e : ButF d G G')
include e
theorem ButF.keep {b : Addr} {o : HO} (h : G b = some o) (n : ∀ od ws, o ≠ .frz od (.dK ws)) : G' b = some o := e.st b o (fun z => by
  obtain ⟨od, ws, hd⟩ := e.at'
  rw [z, hd] at h
  exact n od ws (Option.some.inj h).symm) h
end
theorem capF {d : Addr} {H H' : Hp} (e : ButF d H H') {x : PyData} (h : capOk H x) : capOk H' x := by
  unfold capOk at h ⊢
  split at h
  · trivial
  · obtain ⟨kk, h1, h2⟩ := h
    exact ⟨kk, h1, e.keep h2 (fun _ _ z => nomatch z)⟩
  · obtain ⟨kk, h1, h2⟩ := h
    exact ⟨kk, h1, e.keep h2 (fun _ _ z => nomatch z)⟩
  · exact h.elim
mutual
theorem dpBF {K : PySem.W.Frag} {d : Addr} {H H' : Hp} (e : ButF d H H') : ∀ {v : V} (x : PyData), Dq K H v x → Dq K H' v x
  | _, .none, h => by cases h; exact .non
  | _, .bool b, h => by cases h; exact .bl b
  | _, .int b, h => by cases h; exact .int b
  | _, .str b, h => by cases h; exact .str b
  | _, .list ds, h => by
    cases h with
    | lst hs ha => exact .lst (e.keep hs (fun _ _ z => nomatch z)) (dpAllBF e ds ha)
  | _, .tuple ds, h => by
    cases h with
    | tup hs ha => exact .tup (e.keep hs (fun _ _ z => nomatch z)) (dpAllBF e ds ha)
  | _, .dict [], h => by
    cases h with
    | dctE hs => exact .dctE (e.keep hs (fun _ _ z => nomatch z))
  | _, .dict [(k, x)], h => by
    cases h with
    | dct1 hs ha => exact .dct1 (e.keep hs (fun _ _ z => nomatch z)) (dpBF e x ha)
  | _, .dict (_ :: _ :: _), h => by
    cases h with
    | kon h1 h2 h3 h4 h5 => exact .kon h1 h2 h3 h4 h5
    | adr g1 g2 h1 h2 => exact .adr g1 g2 (e.keep h1 (fun _ _ z => by unfold LamX.CodeO at z; cases z)) fun x hx => capF e (h2 x hx)
    | exc g h1 => exact .exc g (e.keep h1 (fun _ _ z => by unfold ExV at z; cases z))
    | exf g h1 h2 h3 => exact .exf g (e.keep h1 (fun _ _ z => by unfold ExV at z; cases z)) (e.keep h2 (fun _ _ z => nomatch z)) (dpBF e _ h3)
    | fn g => exact .fn g
    | idx g h1 => exact .idx g (e.keep h1 (fun _ _ z => by cases z))
    | tab h1 h2 => exact .tab (e.keep h1 (fun _ _ z => nomatch z)) (dpAllBF e _ h2)
    | tabT h1 h2 => exact .tabT (e.keep h1 (fun _ _ z => nomatch z)) (dpAllBF e _ h2)
    | mem h1 h2 h3 h4 h5 => exact .mem (e.keep h1 (fun _ _ z => by unfold MemO at z; cases z)) (fun p hp => keyTM (fun _ _ z => e.keep z (fun _ _ z => nomatch z)) _ _ (h2 p hp)) h3 (dpAllBF e _ h4) (dpAllBF e _ h5)
theorem dpAllBF {K : PySem.W.Frag} {d : Addr} {H H' : Hp} (e : ButF d H H') : ∀ {vs : List V} (ds : List PyData), DqAll K H vs ds → DqAll K H' vs ds
  | _, [], h => by cases h; exact .nil
  | _, x :: ds, h => by
    cases h with
    | cons h1 h2 => exact .cons (dpBF e x h1) (dpAllBF e ds h2)
end
end
section
variable {K : PySem.W.Frag} {T : List Addr} {ρ : List (Option Addr)} {δ : Ds} {σ : L2.St} {H : Hp} {i : Nat} {d : Addr}
end
/-- the comprehension over an owned table -/
def lcLf (i : Nat) (vs : List Nat) (g : GEV) (tt : TEV) (te : EV) : EV := fun δ => match slot δ i with
  | some (.o (.t t)) => if t.fl = true ∧ noOwn vs (δ.set i (some (.t t))) = true then (lcD vs g tt te (t.kvs.map fun p => keyF p.1) (wipeD (δ.set i (some (.t t))) vs)).bind fun r => if r.1.length ≤ sizeLine then match slot (restD (δ.set i (some (.t t))) r.2 vs) i with
      | some (.t t') => if t'.fl = true ∧ ((restD (δ.set i (some (.t t))) r.2 vs).set i none).all noTab = true then some (.o (.l r.1), (restD (δ.set i (some (.t t))) r.2 vs).set i (some (.o (.t t')))) else none
      | _ => none
    else none
    else none
  | _ => none
section
variable {X : Cx}
end
end DL

/-! for a, b in zip(xs, ys), the lists names' own, which they stay -/
namespace DL
open PySem PySem.Spec PyProof.Rows L2 LamX NdefX RZ
variable [TB]
def forDz (i j : Nat) (tg : GEV) (body : SEV) : Nat → Nat → Ds → Option Out
  | m, k, δ => match slot δ i, slot δ j with
    | some (.o (.l xs)), some (.o (.l ys)) => match xs[k]?, ys[k]? with
      | some x, some y => match m with
        | 0 => none
        | m + 1 => (tg (.tuple [x, y]) δ).bind fun δ1 => (body δ1).bind fun
          | .nx δ2 => forDz i j tg body m (k + 1) δ2
          | .ct δ2 => forDz i j tg body m (k + 1) δ2
          | .bk δ2 => some (.nx δ2)
          | .rt s δ2 => some (.rt s δ2)
      | _, _ => some (.nx δ)
    | _, _ => none
def forZO (i j : Nat) (tg : GEV) (body : SEV) : SEV := fun δ => match slot δ i, slot δ j with
  | some (.o (.l xs)), some (.o (.l _)) => forDz i j tg body xs.length 0 δ
  | _, _ => none
section
variable {X : Cx} {P : List Nat} {pos npos : Pos}
end
/-- one meaning where the slot is a name's own, another else -/
def orOwn (p : Nat) (f1 f2 : EV) : EV := fun δ => match slot δ p with
  | some (.o _) => f1 δ
  | _ => f2 δ
end DL

/-! a lambda that is handed on to a def of one's own, which calls it by its parameter's name -/
namespace DL
open PySem PySem.Spec PyProof.Rows L2 LamX NdefX
variable [TB]
section
omit [TB]
theorem gfn_at {Pr : Program} {w : World} {K : PySem.W.Frag} {mg : Str → Option Value} {base : Heap} {x qual : Str} {st : Stmt} {f : Addr} {fd : FuncData} {N ps : List Str} {k : Nat} (F : Fun K x qual st f fd) (Sc : FnScope N ps (defScope st))
    {A : Around} {outer : List Env} {s : Shared} {H : Hp} {args : Args} {us : List Value} {vs : List V} {Q : VK} {E : XK} (vl : vs.length = ps.length) (hr : Room (k + 1) A) (e0 : Env0 Pr w K mg base A outer s H) (hb : BindsTo s fd args (ps.zip us)) (r : Vals vs us)
    (hbody : ∀ cdv : Value, Room k (A.deeper (envOfC qual (defScope st) s.heap.objs.size f cdv)) → ∃ t, PSs (cxOf CX0 Pr w K mg base N qual (defScope st) f cdv A outer s H E).nox (defBody st) t ∧ t { nx := fun _ H' => Q .non H', rt := Q } (L2.start N vs) H) :
    codeAny (model Pr w) A (.call (.ref f) args) (CR CX0 outer Pr w H s Q E) s := by
  obtain ⟨oc, od, kV, doc, pm, an, cdv, ct, osl, efd, lk, hcd⟩ := F.ex
  subst efd
  have kept : ∀ b o, base.get? b = some o → s.heap.get? b = some o := fun b o e => (e0.bs b o e).1
  have KX : K.In s.heap := e0.mod.kin.keeps kept
  have nl : s.heap.NoLimit := e0.mod.nolimit.keeps kept
  have kinds : ∀ y ∈ ps.zip us, (defScope st).names.lookup y.1 = some .local ∨
      ((defScope st).names.lookup y.1 = some .cell ∧
        ((cellsFrom (s.heap.objs.size + 1) (defScope st).names []).lookup y.1).isSome = true) := by
    intro y hy
    have hm : y.1 ∈ ps := (List.of_mem_zip (a := y.1) (b := y.2) hy).1
    rcases Sc.par y.1 hm with q | q
    · exact .inl q
    · refine .inr ⟨q, ?_⟩
      exact PySem.W.cellsFrom_some _ _ _ (.inl q)
  refine codeAny_call_function hr.depth (KX _ _ lk) rfl Sc.co Sc.gen rfl ?_ (hb _ _ _ _ ?_)
  · exact PySem.W.codeRec_of KX hcd
  refine wpAny_newFunctionEnv_cells Sc.kind kinds ?_
  intro env henv s1 x1
  subst henv
  refine ⟨nl.keeps x1.toInCall.keep, ?_⟩
  apply codeAny_func
  obtain ⟨t, ht, hq⟩ := hbody cdv (hr.deeper _)
  have I0 := inv_start (CX := CX0) (E := E) Sc hr.hd e0 vl r x1
  have W := ht.nox.run [] s1 (L2.start N vs) H _ I0 hq
  refine wpAny_mono W ?_ (fun _ _ z => z)
  intro fl s' hs
  cases fl with
  | ret u =>
    obtain ⟨v, σ', H', J, rv, q⟩ := hs
    exact ⟨v, H', J.os, J.bare, J.base, J.hok, rv, q⟩
  | next =>
    obtain ⟨σ', H', J, q⟩ := hs
    exact ⟨V.non, H', J.os, J.bare, J.base, J.hok, rfl, q⟩
  | brk => exact hs.elim fun _ z => z.elim fun _ z => z.2.elim
  | cont => exact hs.elim fun _ z => z.elim fun _ z => z.2.elim
/-! what was captured -/
def capV : PyData → V
  | .int n => .int n
  | .tuple [.int d, .tuple _] => .ref d.toNat
  | .tuple [.int d, .list _] => .ref d.toNat
  | _ => .non
def kDec : PyData → Key
  | .int i => .inl i
  | .str x => .inr x
  | _ => .inl 0
def kDecT : PyData → List Key
  | .tuple ks => ks.map kDec
  | _ => []
def capS : PyData → S
  | .int n => .d (.int n)
  | .tuple [.int _, .tuple ks] => .t ⟨true, ks.map fun k => ([kDec k], .bool true)⟩
  | .tuple [.int _, .list ks] => .t ⟨false, ks.map fun k => (kDecT k, .bool true)⟩
  | _ => .d .none
theorem kDec_enc (k : Key) : kDec (kEnc k) = k := by cases k <;> rfl
theorem kDecT_enc (k : List Key) : kDecT (.tuple (k.map kEnc)) = k := by
  show (k.map kEnc).map kDec = k
  rw [List.map_map]
  have : (kDec ∘ kEnc) = id := funext fun k => kDec_enc k
  rw [this, List.map_id]
theorem cap_sv {K : PySem.W.Frag} {G : Hp} {x : PyData} (h : capOk G x) : SV K G (capV x) (capS x) := by
  unfold capOk at h
  split at h
  · exact .int _
  · obtain ⟨kk, rfl, hd⟩ := h
    refine ⟨_, _, rfl, .inl hd, .inr ⟨rfl, kk.map fun k => (k, V.bl true), rfl, ?_⟩⟩
    show TV K G ((kk.map fun k => (k, V.bl true)).map fun p => ([p.1], p.2)) ((kk.map kEnc).map fun k => ([kDec k], PyData.bool true))
    rw [List.map_map, List.map_map]
    clear hd
    induction kk with
    | nil => exact .nil
    | cons k kk ih => exact .cons ⟨by show [k] = [kDec (kEnc k)]; rw [kDec_enc], .bl true⟩ ih
  · obtain ⟨kk, rfl, hd⟩ := h
    refine ⟨_, _, rfl, .inl hd, .inl ⟨rfl, kk.map fun k => (k, V.bl true), rfl, ?_⟩⟩
    show TV K G (kk.map fun k => (k, V.bl true)) ((kk.map fun k => PyData.tuple (k.map kEnc)).map fun k => (kDecT k, PyData.bool true))
    rw [List.map_map]
    clear hd
    induction kk with
    | nil => exact .nil
    | cons k kk ih => exact .cons ⟨(kDecT_enc k).symm, .bl true⟩ ih
  · exact h.elim
theorem caps_sv {K : PySem.W.Frag} {G : Hp} : ∀ {cs : List PyData}, (∀ x ∈ cs, capOk G x) → Paired (SV K G) (cs.map capV) (cs.map capS)
  | [], _ => .nil
  | x :: cs, h => .cons (cap_sv (h x List.mem_cons_self)) (caps_sv fun y hy => h y (List.mem_cons_of_mem _ hy))
theorem adr_inv {K : PySem.W.Frag} {G : Hp} {v : V} {d : PyData} (h : Dq K G v d) : ∀ {f c : Addr} {q : Str} {cs : List PyData}, d = adrC f c q cs → v = .ref f ∧ G c = some (CodeO c q) ∧ ∀ x ∈ cs, capOk G x := by
  intro f c q cs e
  cases h with
  | adr h1 h2 h3 h4 =>
    simp only [PyData.dict.injEq, List.cons.injEq, Prod.mk.injEq, PyData.int.injEq, PyData.tuple.injEq, PyData.str.injEq, true_and, and_true] at e
    obtain ⟨e1, e2, e3, e4⟩ := e
    subst e3 e4
    rw [h1] at e1
    rw [h2] at e2
    have e1 := Int.ofNat.inj e1
    have e2 := Int.ofNat.inj e2
    subst e1 e2
    exact ⟨rfl, h3, h4⟩
  | _ => cases e
/-- the function stands in the ground, as do the cells that it captured -/
structure FnAt (B : Heap) (f c : Addr) (q : Str) (cs : List PyData) (params : Arguments) (body : Expr) (scope : Scope) (cl : List (Str × Addr)) (pm ctv : Value) (fr : List Str) : Prop where
  get : B.get? f = some (PySem.W.kla_obj "<lambda>" q params body scope cl pm c ctv)
  len : ((cs.map capV).map some).length = fr.length
  all : ∀ y a, cl.lookup y = some a → ∃ v, B.IsCell a v
  inj : ∀ x y a, cl.lookup x = some a → cl.lookup y = some a → x = y
  has : ∀ (i : Nat) (y : Str), fr[i]? = some y → ∃ a, cl.lookup y = some a ∧ ∀ v, ((cs.map capV).map some)[i]? = some (some v) → ∃ u, L2.RelV v u ∧ B.IsCell a (some u)
theorem FnAt.at' {X : Cx} {f c : Addr} {q : Str} {cs : List PyData} {params : Arguments} {body : Expr} {scope : Scope} {cl : List (Str × Addr)} {pm ctv : Value} {fr : List Str} (Φ : FnAt X.base f c q cs params body scope cl pm ctv fr) {pins : List (Addr × Obj)} {σ : L2.St} {H : Hp} {s : Shared} (I : Inv X pins σ H s) :
    s.heap.get? f = some (PySem.W.kla_obj "<lambda>" q params body scope cl pm c ctv) ∧ CellsAt cl fr ((cs.map capV).map some) s.heap H := by
  have kp : ∀ {a : Addr} {v : Option Value}, X.base.IsCell a v → H a = none ∧ s.heap.IsCell a v := fun {a v} ⟨o, ho, hd⟩ => ⟨(I.bs a o ho).2, o, (I.bs a o ho).1, hd⟩
  refine ⟨(I.bs f _ Φ.get).1, Φ.len, fun y a e => ?_, Φ.inj, fun i y e => ?_⟩
  · obtain ⟨v, z⟩ := Φ.all y a e
    exact ⟨(kp z).1, v, (kp z).2⟩
  · obtain ⟨a, e1, e2⟩ := Φ.has i y e
    exact ⟨a, e1, fun v hv => let ⟨u, r, z⟩ := e2 v hv; ⟨u, r, (kp z).2⟩⟩
/-- a greater ground: all that stands there and isn't tracked -/
theorem ground_at {X : Cx} {pins : List (Addr × Obj)} {σ : L2.St} {H : Hp} {s : Shared} (I : Inv X pins σ H s) : ∃ B : Heap, Env0 X.prog X.w X.K X.mg B X.A X.stack s H ∧ ∀ b o, s.heap.get? b = some o → H b = none → b ∉ frs X.stack → B.get? b = some o := by
  have e0 := I.env0
  let l : List Addr := (List.range s.heap.objs.size).filter fun b => (H b).isSome || decide (b ∈ frs X.stack)
  have hl : ∀ {b : Addr} {o : Obj}, s.heap.get? b = some o → (b ∈ l ↔ (H b ≠ none ∨ b ∈ frs X.stack)) := fun {b o} e => by
    show b ∈ (List.range s.heap.objs.size).filter _ ↔ _
    rw [List.mem_filter, List.mem_range, Bool.or_eq_true_iff, decide_eq_true_iff]
    constructor
    · rintro ⟨_, h | h⟩
      · exact .inl (fun z => by rw [z] at h; cases h)
      · exact .inr h
    · rintro (h | h)
      · refine ⟨Heap.lt_size e, .inl ?_⟩
        cases hb : H b with
        | none => exact absurd hb h
        | some _ => rfl
      · exact ⟨Heap.lt_size e, .inr h⟩
  have get : ∀ b o, s.heap.get? b = some o → H b = none → b ∉ frs X.stack → (PySem.W.hideAll s.heap l).get? b = some o := fun b o e h1 h2 => PySem.W.hideAll_get l e fun z => ((hl e).mp z).elim (fun y => y h1) h2
  have nofr : ∀ b o, X.base.get? b = some o → b ∉ frs X.stack := fun b o e hb => by
    rcases List.mem_cons.mp (I.stkSub _ hb) with hz | hz
    · obtain ⟨m, hn, hk, _⟩ := I.fr
      have h1 := I.ok.above
      have h2 := Heap.lt_size (I.ok.bs b o e).1
      rw [hz] at h2
      exact absurd h2 (Nat.not_lt.mpr h1)
    · exact I.ok.nofr e hz
  have kept : ∀ b o, X.base.get? b = some o → (PySem.W.hideAll s.heap l).get? b = some o := fun b o e => get b o (I.bs b o e).1 (I.bs b o e).2 (nofr b o e)
  have m := I.ok.mod
  refine ⟨PySem.W.hideAll s.heap l, ⟨e0.frames, ⟨m.kin.keeps kept, m.glob.keeps kept, ?_, m.nolimit.keeps kept⟩, fun b o e => ?_, Nat.le_of_eq (PySem.W.hideAll_size _ _), ?_, e0.frf, e0.hok, e0.bare⟩, get⟩
  · obtain ⟨mb, h1, h2⟩ := m.blt
    exact ⟨mb, h1.keeps kept, h2⟩
  · have e1 := PySem.W.of_hideAll l e
    refine ⟨e1, ?_⟩
    cases hb : H b with
    | none => rfl
    | some x =>
      have : b ∈ l := (hl e1).mpr (.inl (by rw [hb]; exact fun z => nomatch z))
      rw [PySem.W.hideAll_none l this] at e
      cases e
  · refine funFrames_none e0.funs fun L hL => ?_
    cases hg : (PySem.W.hideAll s.heap l).get? L with
    | none => rfl
    | some o =>
      have e1 := PySem.W.of_hideAll l hg
      have : L ∈ l := (hl e1).mpr (.inr hL)
      rw [PySem.W.hideAll_none l this] at hg
      cases hg
end
/-- a lambda's meaning: its parameters, then what it captured -/
abbrev lamF (np nf nn : Nat) (b : EV) : FN := fun ss => if ss.length = np + nf then runF [] nn (retS b) ss else none
open Classical in
/-- the parameter at slot i is called; it must be the function d0 -/
noncomputable def callFn (i : Nat) (d0 : PyData) (css : List S) (F : FN) (fa : AEV) : EV := fun δ => match slot δ i with
  | some (.d d) => if d = d0 then (fa δ).bind fun x => (dataA x.1).bind fun ds => (F (ds.map S.d ++ css)).bind fun r => match r.1 with
    | .d y => some (.d y, x.2)
    | _ => none
    else none
  | _ => none
theorem paired_app {α β : Type} {R : α → β → Prop} {xs xs' : List α} {ys ys' : List β} (h : Paired R xs ys) (h' : Paired R xs' ys') : Paired R (xs ++ xs') (ys ++ ys') := by
  induction h with
  | nil => exact h'
  | cons a b ih => exact .cons a ih
theorem data_sv {K : PySem.W.Frag} {G : Hp} : ∀ {vs : List V} {ds : List PyData}, DqAll K G vs ds → Paired (SV K G) vs (ds.map S.d)
  | _, [], h => by cases h; exact .nil
  | _, d :: ds, h => by
    cases h with
    | cons a b => exact .cons a (data_sv b)
section
variable {X : Cx} {k i : Nat} {x : Str} {p pos : Pos} {e : Expr} {es : List Expr} {fa : AEV} {f c : Addr} {q : Str} {cs : List PyData} {params : Arguments} {body : Expr} {scope : Scope} {cl : List (Str × Addr)} {pm ctv : Value} {N ps fr : List Str} {fE : EV}
end
end DL
namespace DL
open PySem PySem.Spec PyProof.Rows L2 LamX NdefX
variable [TB]
section
omit [TB]
/-- may it be captured: a number, or a flat table of Trues that is the name's own -/
def okCap : Option S → Bool
  | some (.d (.int _)) => true
  | some (.o (.t t)) => if t.fl = true then t.kvs.all fun p => match p with
    | ([_], .bool true) => true
    | _ => false
    else t.kvs.all fun p => match p with
    | (_, .bool true) => true
    | _ => false
  | _ => false
def lotE (js : List Nat) (res : List S → PyData → Option PyData) (fe : PEV) : EV := fun δ => (fe δ).bind fun x => match x.1 with
  | .v (.d n) => if (js.all fun j => okCap (slot x.2 j)) = true then (capD (DL.frzS x.2 js) js).bind fun css => (res css n).map fun y => (.d y, DL.frzS x.2 js) else none
  | _ => none
theorem slot_setE {δ : Ds} {i j : Nat} {x : Option S} : slot (δ.set i x) j = if i = j ∧ i < δ.length then x else slot δ j := by
  unfold slot
  by_cases h : i = j
  · subst h
    by_cases hl : i < δ.length
    · rw [List.getElem?_set_self hl, if_pos ⟨rfl, hl⟩]
      rfl
    · rw [if_neg (fun z => hl z.2), List.getElem?_eq_none (by rw [List.length_set]; omega), List.getElem?_eq_none (by omega)]
  · rw [List.getElem?_set_ne h, if_neg (fun z => h z.1)]
theorem frz_frz (s : S) : frz (frz s) = frz s := by
  cases s with
  | o c => cases c <;> rfl
  | _ => rfl
theorem frzS_slot : ∀ (js : List Nat) (δ : Ds) (j : Nat), slot (DL.frzS δ js) j = if j ∈ js then (slot δ j).map frz else slot δ j
  | [], δ, j => rfl
  | i :: is, δ, j => by
    unfold DL.frzS
    split
    · rename_i c hc
      rw [frzS_slot is]
      have hil : i < δ.length := (List.getElem?_eq_some_iff.mp (slot_some hc)).1
      by_cases hij : i = j
      · subst hij
        have e0 : slot (δ.set i (some (frz (.o c)))) i = some (frz (.o c)) := by rw [slot_setE, if_pos ⟨rfl, hil⟩]
        rw [e0, if_pos List.mem_cons_self, hc]
        split
        · show some (frz (frz (.o c))) = some (frz (.o c))
          rw [frz_frz]
        · rfl
      · have e0 : slot (δ.set i (some (frz (.o c)))) j = slot δ j := by rw [slot_setE, if_neg (fun z => hij z.1)]
        rw [e0]
        by_cases hj : j ∈ is
        · rw [if_pos hj, if_pos (List.mem_cons_of_mem _ hj)]
        · rw [if_neg hj, if_neg (fun z => (List.mem_cons.mp z).elim (fun z => hij z.symm) hj)]
    · rename_i hno
      rw [frzS_slot is]
      by_cases hj : j ∈ is
      · rw [if_pos hj, if_pos (List.mem_cons_of_mem _ hj)]
      · rw [if_neg hj]
        by_cases hij : j = i
        · subst hij
          rw [if_pos List.mem_cons_self]
          cases e : slot δ j with
          | none => rfl
          | some s =>
            cases s with
            | o c => exact absurd e (hno c)
            | _ => rfl
        · rw [if_neg (fun z => (List.mem_cons.mp z).elim hij hj)]
end
theorem tv_true {K : PySem.W.Frag} {G : Hp} : ∀ {wt : List (Key × V)} {kvs : List (List Key × PyData)}, TV K G (wt.map fun p => ([p.1], p.2)) kvs → (kvs.all fun p => match p with | ([_], .bool true) => true | _ => false) = true →
    kvs = wt.map (fun p => ([p.1], .bool true)) ∧ wt = (wt.map (·.1)).map fun k => (k, V.bl true)
  | [], _, h, _ => by cases h; exact ⟨rfl, rfl⟩
  | p :: wt, kvs, h, ha => by
    cases h with
    | cons h t =>
      rename_i q kvs'
      rw [List.all_cons, Bool.and_eq_true_iff] at ha
      obtain ⟨i1, i2⟩ := tv_true t ha.2
      obtain ⟨q1, q2⟩ := q
      have h1 : [p.1] = q1 := h.1
      subst h1
      have hq := ha.1
      have : q2 = .bool true := by
        split at hq
        · rename_i e
          cases e
          rfl
        · cases hq
      subst this
      have h2 : Dq K G p.2 (.bool true) := h.2
      have h3 : p.2 = V.bl true := by
        generalize p.2 = v at h2
        cases h2
        rfl
      refine ⟨by rw [List.map_cons, ← i1], ?_⟩
      rw [List.map_cons, List.map_cons, ← i2]
      show p :: wt = (p.1, V.bl true) :: wt
      rw [← h3]
theorem tv_trueT {K : PySem.W.Frag} {G : Hp} : ∀ {wt : List (List Key × V)} {kvs : List (List Key × PyData)}, TV K G wt kvs → (kvs.all fun p => match p with | (_, .bool true) => true | _ => false) = true →
    kvs = wt.map (fun p => (p.1, .bool true)) ∧ wt = (wt.map (·.1)).map fun k => (k, V.bl true)
  | [], _, h, _ => by cases h; exact ⟨rfl, rfl⟩
  | p :: wt, kvs, h, ha => by
    cases h with
    | cons h t =>
      rename_i q kvs'
      rw [List.all_cons, Bool.and_eq_true_iff] at ha
      obtain ⟨i1, i2⟩ := tv_trueT t ha.2
      obtain ⟨q1, q2⟩ := q
      have h1 : p.1 = q1 := h.1
      subst h1
      have hq := ha.1
      have : q2 = .bool true := by
        split at hq
        · rename_i e
          cases e
          rfl
        · cases hq
      subst this
      have h2 : Dq K G p.2 (.bool true) := h.2
      have h3 : p.2 = V.bl true := by
        generalize p.2 = v at h2
        cases h2
        rfl
      refine ⟨by rw [List.map_cons, ← i1], ?_⟩
      rw [List.map_cons, List.map_cons, ← i2]
      show p :: wt = (p.1, V.bl true) :: wt
      rw [← h3]
theorem caps_of {K : PySem.W.Frag} {T : List Addr} {ρ ρ' : List (Option Addr)} {δ : Ds} {σ : L2.St} {H : Hp} {js : List Nat} (sm : Sim K T ρ δ σ H) (sf : Sim K T ρ' (DL.frzS δ js) σ H) (hok : ∀ j ∈ js, okCap (slot δ j) = true) :
    ∀ (is : List Nat) (css : List S), (∀ j ∈ is, j ∈ js) → capD (DL.frzS δ js) is = some css → ∃ cs : List PyData, css = cs.map capS ∧ is.map (slotAt σ) = (cs.map capV).map some ∧ ∀ x ∈ cs, capOk (hid T ρ' H) x
  | [], css, _, h => by
    cases h
    exact ⟨[], rfl, rfl, fun _ z => nomatch z⟩
  | i :: is, css, hs, h => by
    have hi := hs i List.mem_cons_self
    have ok := hok i hi
    have es := frzS_slot js δ i
    rw [if_pos hi] at es
    unfold capD at h
    split at h
    · cases h
    · rename_i u hno hu
      cases e : capD (DL.frzS δ js) is with
      | none => rw [e] at h; cases h
      | some r =>
        rw [e] at h
        cases h
        obtain ⟨cs, c1, c2, c3⟩ := caps_of sm sf hok is r (fun j hj => hs j (List.mem_cons_of_mem _ hj)) e
        obtain ⟨v, f1, f2⟩ := sf.slot i u (slot_some hu)
        rw [hu] at es
        have key : ∃ x : PyData, u = capS x ∧ v = capV x ∧ capOk (hid T ρ' H) x := by
          unfold okCap at ok
          split at ok
          · rename_i n hn
            rw [hn] at es
            cases es
            have f2 : Dq K (hid T ρ' H) v (.int n) := f2
            cases f2
            exact ⟨.int n, rfl, rfl, trivial⟩
          · rename_i t hn
            rw [hn] at es
            cases es
            obtain ⟨a, oa, a1, a2, a3, a4⟩ := sim_owned sm hn
            have a4 : TbO K (hid T ρ H) oa t := a4
            split at ok
            · rename_i hfl
              have hall := ok
              rcases a4 with ⟨f', _⟩ | ⟨_, wt, rfl, tv⟩
              · rw [hfl] at f'; cases f'
              obtain ⟨e1, e2⟩ := tv_true tv hall
              rw [a1] at f1
              cases f1
              obtain ⟨a', o', z, hr, ht⟩ := f2
              cases z
              have hh : hid T ρ' H a = some (.dK wt) := by
                rcases hr with hr | ⟨od, hr⟩
                · have := hid_same _ _ hr
                  rw [a3] at this
                  cases this
                  exact hr
                · have := hid_same _ _ hr
                  rw [a3] at this
                  cases this
              refine ⟨.tuple [.int (a : Nat), .tuple ((wt.map (·.1)).map kEnc)], ?_, rfl, wt.map (·.1), rfl, ?_⟩
              · obtain ⟨fl, kvs⟩ := t
                have hfl : fl = true := hfl
                have e1 : kvs = _ := e1
                subst hfl
                subst e1
                show S.t ⟨true, _⟩ = S.t ⟨true, _⟩
                rw [List.map_map, List.map_map]
                congr 2
                exact List.map_congr_left fun p _ => by show ([p.1], PyData.bool true) = ([kDec (kEnc p.1)], PyData.bool true); rw [kDec_enc]
              · show hid T ρ' H ((a : Nat) : Int).toNat = _
                rw [Int.toNat_natCast, hh, ← e2]
            · rename_i hfl
              have hfl : t.fl = false := by
                cases h : t.fl
                · rfl
                · exact absurd h hfl
              have hall := ok
              rcases a4 with ⟨_, wt, rfl, tv⟩ | ⟨f', _⟩
              case inr => rw [hfl] at f'; cases f'
              obtain ⟨e1, e2⟩ := tv_trueT tv hall
              rw [a1] at f1
              cases f1
              obtain ⟨a', o', z, hr, ht⟩ := f2
              cases z
              have hh : hid T ρ' H a = some (.dT wt) := by
                rcases hr with hr | ⟨od, hr⟩
                · have := hid_same _ _ hr
                  rw [a3] at this
                  cases this
                  exact hr
                · have := hid_same _ _ hr
                  rw [a3] at this
                  cases this
              refine ⟨.tuple [.int (a : Nat), .list ((wt.map (·.1)).map fun k => .tuple (k.map kEnc))], ?_, rfl, wt.map (·.1), rfl, ?_⟩
              · obtain ⟨fl, kvs⟩ := t
                have hfl : fl = false := hfl
                have e1 : kvs = _ := e1
                subst hfl
                subst e1
                show S.t ⟨false, _⟩ = S.t ⟨false, _⟩
                rw [List.map_map, List.map_map]
                congr 2
                exact List.map_congr_left fun p _ => by show (p.1, PyData.bool true) = (kDecT (.tuple (p.1.map kEnc)), PyData.bool true); rw [kDecT_enc]
              · show hid T ρ' H ((a : Nat) : Int).toNat = _
                rw [Int.toNat_natCast, hh, ← e2]
          · cases ok
        obtain ⟨x, rfl, rfl, hx⟩ := key
        exact ⟨x :: cs, by rw [c1]; rfl, by rw [List.map_cons, c2, slotAt_of f1]; rfl, fun y hy => (List.mem_cons.mp hy).elim (fun z => by rw [z]; exact hx) (c3 y)⟩
    · cases h
end DL

/-! g(e, lambda ..): the def g calls the lambda by its parameter's name -/
namespace DL
open PySem PySem.Spec PyProof.Rows L2 LamX NdefX
variable [TB]
section
variable {X : Cx} {kg i : Nat} {g qg : Str} {stg : Stmt} {fg : Addr} {fdg : FuncData} {Ng psg : List Str} {c P : Addr} {N ps fr : List Str} {js : List Nat} {params : Arguments} {body : Expr} {scope : Scope} {p pos lpos : Pos} {e : Expr} {fe : PEV} {Pg : List Nat} {Bg : PyData → List S → SEV} {res : List S → PyData → Option PyData}
/-- a def as the module's object -/
def RawDef (K : PySem.W.Frag) (mg : Str → Option Value) (x : Str) (st : Stmt) (ps : List Str) : Prop := ∃ f fd, Fun K x x st f fd ∧ mg x = some (.ref f) ∧ Binds K fd ps []
end
end DL

/-! what lot_by tells -/
namespace DL
open PySem PySem.Spec PyProof.Rows L2
def lotG (FL : FN) (css : List S) (x y : PyData) : Option Bool := (FL ([S.d x, .d y] ++ css)).bind fun r => match r.1 with
  | .d (.bool b) => some b
  | _ => none
def lotIn (G : PyData → PyData → Option Bool) (x : PyData) : List PyData → Option (List PyData)
  | [] => some []
  | y :: ys => (G x y).bind fun b => (lotIn G x ys).map fun r => if b then .tuple [x, y] :: r else r
def lotOut (G : PyData → PyData → Option Bool) (ys : List PyData) : List PyData → Option (List PyData)
  | [] => some []
  | x :: xs => (lotIn G x ys).bind fun a => (lotOut G ys xs).map fun r => a ++ r
def resLot (FL : FN) (css : List S) (n : PyData) : Option PyData := match n with
  | .int m => if 0 ≤ m ∧ m ≤ 1000 then (lotOut (lotG FL css) (rng 0 m.toNat) (rng 0 m.toNat)).bind fun L => if L.length ≤ 100000 then some (.tuple [.int m, .tuple L]) else none else none
  | _ => none
section
variable {FL : FN} {css : List S} {d0 : PyData} {m : Int}
abbrev lotD4 (m : Int) (d0 : PyData) (a b : Option S) : Ds := [some (.d (.int m)), some (.d d0), a, b]
theorem lot_call (x y : PyData) {b : Bool} (h : lotG FL css x y = some b) : bl (callFn 1 d0 css FL (consA (pk 2) (consA (pk 3) nilA))) (lotD4 m d0 (some (.d x)) (some (.d y))) = some (b, lotD4 m d0 (some (.d x)) (some (.d y))) := by
  have e : callFn 1 d0 css FL (consA (pk 2) (consA (pk 3) nilA)) (lotD4 m d0 (some (.d x)) (some (.d y))) = some (.d (.bool b), lotD4 m d0 (some (.d x)) (some (.d y))) := by
    unfold callFn
    have e0 : slot (lotD4 m d0 (some (.d x)) (some (.d y))) 1 = some (.d d0) := rfl
    rw [e0]
    simp only [if_true]
    have e1 : consA (pk 2) (consA (pk 3) nilA) (lotD4 m d0 (some (.d x)) (some (.d y))) = some ([.v (.d x), .v (.d y)], lotD4 m d0 (some (.d x)) (some (.d y))) := rfl
    rw [e1]
    simp only [Option.bind_some]
    have e2 : dataA [.v (.d x), .v (.d y)] = some [x, y] := rfl
    rw [e2]
    simp only [Option.bind_some]
    unfold lotG at h
    have e3 : ([x, y].map S.d ++ css) = ([S.d x, .d y] ++ css) := rfl
    rw [e3]
    cases er : FL ([S.d x, .d y] ++ css) with
    | none => rw [er] at h; cases h
    | some r =>
      rw [er] at h
      simp only [Option.bind_some] at h ⊢
      split at h
      · rename_i b' hb
        cases h
        rw [hb]
      · cases h
  unfold bl
  rw [e]
  rfl
abbrev lotTE : EV := tupE (consA (frzP (vr 2)) (consA (frzP (vr 3)) nilA))
theorem lot_in {x : PyData} : ∀ (ys : List PyData) {L : List PyData}, lotIn (lotG FL css) x ys = some L → lcD [3] (nameG 3) (bl (callFn 1 d0 css FL (consA (pk 2) (consA (pk 3) nilA)))) lotTE ys (lotD4 m d0 (some (.d x)) none) = some (L, lotD4 m d0 (some (.d x)) none)
  | [], L, h => by cases h; rfl
  | y :: ys, L, h => by
    unfold lotIn at h
    cases eg : lotG FL css x y with
    | none => rw [eg] at h; cases h
    | some b =>
      rw [eg] at h
      simp only [Option.bind_some] at h
      cases ei : lotIn (lotG FL css) x ys with
      | none => rw [ei] at h; cases h
      | some r =>
        rw [ei] at h
        have ih := lot_in ys ei
        have ec := lot_call (m := m) (d0 := d0) x y eg
        have e1 : nameG 3 y (lotD4 m d0 (some (.d x)) none) = some (lotD4 m d0 (some (.d x)) (some (.d y))) := rfl
        unfold lcD
        rw [e1]
        simp only [Option.bind_some]
        rw [ec]
        simp only [Option.bind_some]
        have ew : wipeD (lotD4 m d0 (some (.d x)) (some (.d y))) [3] = lotD4 m d0 (some (.d x)) none := rfl
        have en : noOwn [3] (lotD4 m d0 (some (.d x)) (some (.d y))) = true := rfl
        cases b with
        | false =>
          cases h
          rw [if_neg (by decide), if_pos en, ew]
          exact ih
        | true =>
          cases h
          have et : lotTE (lotD4 m d0 (some (.d x)) (some (.d y))) = some (.d (.tuple [x, y]), lotD4 m d0 (some (.d x)) (some (.d y))) := tupE_of (ds := [x, y]) rfl rfl (show 2 ≤ sizeLine by decide)
          rw [if_pos rfl, et]
          simp only [Option.bind_some, frz]
          rw [if_pos en, ew, ih]
          rfl
theorem lot_out {n : Nat} (hm : m = (n : Nat)) (hn : n ≤ 1000) : ∀ (xs : List PyData) {L : List PyData}, lotOut (lotG FL css) (rng 0 n) xs = some L → lcD2 [2, 3] [3] (nameG 2) yesT (rngI1 (consA (pk 0) nilA)) (nameG 3) (bl (callFn 1 d0 css FL (consA (pk 2) (consA (pk 3) nilA)))) lotTE xs (lotD4 m d0 none none) = some (L, lotD4 m d0 none none)
  | [], L, h => by cases h; rfl
  | x :: xs, L, h => by
    unfold lotOut at h
    cases ei : lotIn (lotG FL css) x (rng 0 n) with
    | none => rw [ei] at h; cases h
    | some a =>
      rw [ei] at h
      simp only [Option.bind_some] at h
      cases eo : lotOut (lotG FL css) (rng 0 n) xs with
      | none => rw [eo] at h; cases h
      | some r =>
        rw [eo] at h
        cases h
        have ih := lot_out hm hn xs eo
        have el := lot_in (m := m) (d0 := d0) (rng 0 n) ei
        have e1 : nameG 2 x (lotD4 m d0 none none) = some (lotD4 m d0 (some (.d x)) none) := rfl
        have e2 : rngI1 (consA (pk 0) nilA) (lotD4 m d0 (some (.d x)) none) = some (rng 0 n, lotD4 m d0 (some (.d x)) none) := by
          have := rngI1_of (fa := consA (pk 0) nilA) (δ := lotD4 m d0 (some (.d x)) none) (δ1 := lotD4 m d0 (some (.d x)) none) (n := m) rfl ⟨by omega, by omega⟩
          rw [hm, Int.toNat_natCast] at this
          rw [hm]
          exact this
        unfold lcD2
        rw [e1]
        simp only [Option.bind_some]
        rw [show yesT (lotD4 m d0 (some (.d x)) none) = some (true, lotD4 m d0 (some (.d x)) none) from rfl]
        simp only [Option.bind_some, if_true]
        rw [e2]
        simp only [Option.bind_some]
        rw [if_pos (show noOwn [3] (lotD4 m d0 (some (.d x)) none) = true from rfl), show wipeD (lotD4 m d0 (some (.d x)) none) [3] = lotD4 m d0 (some (.d x)) none from rfl, el]
        simp only [Option.bind_some]
        rw [if_pos (show noOwn [2, 3] (lotD4 m d0 (some (.d x)) none) = true from rfl), show wipeD (lotD4 m d0 (some (.d x)) none) [2, 3] = lotD4 m d0 none none from rfl, ih]
        rfl
theorem lot_res {FL : FN} {d0 : PyData} {css : List S} {n y : PyData} (h : resLot FL css n = some y) : ∃ zs, runF [0, 1] 4 (retS (tupE (consA (frzP (vr 0)) (consA (frzP (callB fTuple (consA (frzP (lc2E [2, 3] [3] (rngI1 (consA (pk 0) nilA)) (nameG 2) yesT (rngI1 (consA (pk 0) nilA)) (nameG 3) (bl (callFn 1 d0 css FL (consA (pk 2) (consA (pk 3) nilA)))) (tupE (consA (frzP (vr 2)) (consA (frzP (vr 3)) nilA))))) nilA))) nilA)))) [.d n, .d d0] = some (.d y, zs) := by
  unfold resLot at h
  split at h
  case h_2 => cases h
  rename_i m
  split at h
  case isFalse => cases h
  rename_i hm
  cases eo : lotOut (lotG FL css) (rng 0 m.toNat) (rng 0 m.toNat) with
  | none => rw [eo] at h; cases h
  | some L =>
    rw [eo] at h
    simp only [Option.bind_some] at h
    split at h
    case isFalse => cases h
    rename_i hl
    cases h
    have hl2 : L.length ≤ sizeLine := Nat.le_trans hl (by decide)
    have e1 : rngI1 (consA (pk 0) nilA) (lotD4 m d0 none none) = some (rng 0 m.toNat, lotD4 m d0 none none) := rngI1_of (n := m) rfl ⟨by omega, by omega⟩
    have e2 := lot_out (m := m) (n := m.toNat) (d0 := d0) (by omega) (by omega) (rng 0 m.toNat) eo
    have e3 : lc2E [2, 3] [3] (rngI1 (consA (pk 0) nilA)) (nameG 2) yesT (rngI1 (consA (pk 0) nilA)) (nameG 3) (bl (callFn 1 d0 css FL (consA (pk 2) (consA (pk 3) nilA)))) (tupE (consA (frzP (vr 2)) (consA (frzP (vr 3)) nilA))) (lotD4 m d0 none none) = some (.o (.l L), lotD4 m d0 none none) := by
      unfold lc2E
      rw [e1]
      simp only [Option.bind_some]
      rw [if_pos (show noOwn [2, 3] (lotD4 m d0 none none) = true from rfl), show wipeD (lotD4 m d0 none none) [2, 3] = lotD4 m d0 none none from rfl, e2]
      simp only [Option.bind_some]
      rw [if_pos hl2]
      rfl
    have e4 : callB fTuple (consA (frzP (lc2E [2, 3] [3] (rngI1 (consA (pk 0) nilA)) (nameG 2) yesT (rngI1 (consA (pk 0) nilA)) (nameG 3) (bl (callFn 1 d0 css FL (consA (pk 2) (consA (pk 3) nilA)))) (tupE (consA (frzP (vr 2)) (consA (frzP (vr 3)) nilA))))) nilA) (lotD4 m d0 none none) = some (.d (.tuple L), lotD4 m d0 none none) :=
      callB_of (consA_of (frzP_l e3) (rfl : nilA (lotD4 m d0 none none) = some ([], lotD4 m d0 none none))) rfl rfl
    exact ⟨_, runF_rt (δ := lotD4 m d0 none none) (retS_of (tupE_of (ds := [.int m, .tuple L]) (consA_of rfl (consA_of (frzP_d e4) rfl)) rfl (show 2 ≤ sizeLine by decide))) rfl⟩
end
end DL

/-! sorted(set(xs)), xs a list of whole numbers -/
namespace DLS
open PySem PySem.Spec PyProof.Rows L2
section
variable {P : Program} {w : World} {A : Around} {E : Value → Shared → Prop} {s : Shared}
/-- a set that nobody has put anything in -/
abbrev bareSet (w : World) : Obj := { cls := .type "set", dict := none, data := .set #[] 0 (.fresh 0 0 (!w.params.followText "set-order")) }
/-- a list's iterator, at its start -/
abbrev lstIt (l : Addr) : Obj := { cls := .type "list_iterator", data := .fields #[.ref l, .int 0 0] }
/-- the loop that fills the new set from the list -/
theorem fill_loop {l : Addr} {items : Array Value} {ns : List Int} {R : Result → Shared → Prop} (hh : A.in1.handled = none) (hl : s.heap.IsList l items) (hi : IntsAre items.toList ns) (hb : ns.length + 1 < scanBound)
    (h : ∀ s' c, Moved [s.heap.objs.size, s.heap.objs.size + 1] (fun a b => b = a) { s with heap := (s.heap.push (bareSet w)).push (lstIt l) } s' → c ≤ ns.length → SetR w s'.heap s.heap.objs.size (fun j => decide (j ∈ ns)) c → R (.ok (.ret .none)) s') :
    codeAny (model P w) A (.builtin "set.update.loop" ⟨[.ref s.heap.objs.size, .ref (s.heap.objs.size + 1)], []⟩) R { s with heap := (s.heap.push (bareSet w)).push (lstIt l) } := by
  have n : items.size = ns.length := by have := IntsAre.length hi; rwa [Array.length_toList] at this
  obtain ⟨ol, el, _⟩ := id hl
  have lt : (l : Nat) < s.heap.objs.size := Heap.lt_size el
  have z1 : (s.heap.push (bareSet w)).objs.size = s.heap.objs.size + 1 := Heap.size_push ..
  have ne : l ≠ s.heap.objs.size + 1 := Nat.ne_of_lt (Nat.lt_succ_of_lt lt)
  have gs : ((s.heap.push (bareSet w)).push (lstIt l)).get? s.heap.objs.size = some (bareSet w) := Heap.get?_push_of_some _ (Heap.get?_push_size _ rfl)
  have gi : ((s.heap.push (bareSet w)).push (lstIt l)).get? (s.heap.objs.size + 1) = some (lstIt l) := by rw [← z1]; exact Heap.get?_push_size _ rfl
  refine set_update_ints (Walks.list hh (s.heap.objs.size + 1) l ne items).toS s.heap.objs.size (fun z => ?_) ns n hb (fun i v e => ?_) items.size 0 _ rfl (Nat.zero_le _) ⟨⟨_, gi, rfl, rfl⟩, (hl.push _).push _⟩ ⟨0, Nat.le_refl _, setR_new_at gs⟩ fun s' c m hc r => h s' c m (by rw [← n]; exact hc) r
  · rcases List.mem_cons.mp z with z | z
    · exact Nat.ne_of_lt (Nat.lt_succ_self _) z
    · exact Nat.ne_of_gt lt (List.mem_singleton.mp z)
  · have k : i < ns.length := by rw [← n]; exact (Array.getElem?_eq_some_iff.mp e).1
    obtain ⟨t, q⟩ := IntsAre.int_at hi i v (by rw [Array.getElem?_toList]; exact e)
    exact ⟨ns[i], t, List.getElem?_eq_getElem k, by rw [q, List.getD_eq_getElem?_getD, List.getElem?_eq_getElem k]; rfl⟩
/-- what the new set's start owes -/
abbrev FillQ (w : World) (s : Shared) (ns : List Int) (s2 : Shared) : Prop := ∃ h' tk c, s2 = { s with heap := h', toks := tk } ∧ SetR w h' s.heap.objs.size (fun j => decide (j ∈ ns)) c ∧ c ≤ ns.length ∧ ∀ b o, s.heap.get? b = some o → h'.get? b = some o
theorem fill_done {ns : List Int} {l : Addr} {s' : Shared} {c : Nat} (m : Moved [s.heap.objs.size, s.heap.objs.size + 1] (fun a b => b = a) { s with heap := (s.heap.push (bareSet w)).push (lstIt l) } s') (hc : c ≤ ns.length) (r : SetR w s'.heap s.heap.objs.size (fun j => decide (j ∈ ns)) c) : FillQ w s ns s' := by
  obtain ⟨h2, g2, d2, t2, o2⟩ := s'
  cases (show g2 = s.gens from m.gens)
  cases (show d2 = s.drawn from m.drawn)
  cases (show o2 = s.os from m.os)
  refine ⟨h2, t2, c, rfl, r, hc, fun b o e => ?_⟩
  have lt := Heap.lt_size e
  refine m.heap b o (fun z => ?_) (Heap.get?_push_of_some _ (Heap.get?_push_of_some _ e))
  rcases List.mem_cons.mp z with z | z
  · exact Nat.ne_of_lt lt z
  · exact Nat.ne_of_lt (Nat.lt_succ_of_lt lt) (List.mem_singleton.mp z)
set_option maxHeartbeats 3000000 in
/-- set.__init__(new, xs) -/
theorem init_of_list {l : Addr} {items : Array Value} {ns : List Int} {R : Result → Shared → Prop} (hh : A.handled = none) (hl : s.heap.IsList l items) (hi : IntsAre items.toList ns) (hb : ns.length + 1 < scanBound) (h : ∀ s2, FillQ w s ns s2 → R (.ok (.ret .none)) s2) :
    codeAny (model P w) A (.call (.builtin "set.__init__") ⟨[.ref s.heap.objs.size, .ref l], []⟩) R { s with heap := s.heap.push (bareSet w) } := by
  have gs : (s.heap.push (bareSet w)).get? s.heap.objs.size = some (bareSet w) := Heap.get?_push_size _ rfl
  have ty : Shared.TypeIs { s with heap := s.heap.push (bareSet w) } (.ref s.heap.objs.size) "set" := ⟨_, gs, rfl⟩
  obtain ⟨⟨oc, od, oa, osl⟩, el, ec, k, ek⟩ := id hl
  cases (show oc = .type "list" from ec)
  cases (show oa = .seq items k from ek)
  have el2 : (s.heap.push (bareSet w)).get? l = some { cls := .type "list", dict := od, data := .seq items k, slots := osl } := Heap.get?_push_of_some _ el
  have u1 := F.sub_list_set
  have u2 := F.sub_list_frozenset
  have u3 : (Value.type "list" == Value.type "dict") = false := by decide
  have z1 : (s.heap.push (bareSet w)).objs.size = s.heap.objs.size + 1 := Heap.size_push ..
  refine codeAny_call_builtin F.called_set.init.plain F.entry_set_init (check_set_init_1 ty ?_)
  unfold Builtin.«set.__init__» noKeywords Builtin.Frozenset.updateFrom
  generalize ep : pyIter = walk
  wp_walk
  subst ep
  refine wpAny_pyIter_list (hl.push _) (wpAny_bind (wpAny_runValue ?_))
  rw [z1]
  refine fill_loop (by simp [hh]) hl hi hb fun s2 c m hc r => ?_
  exact wpAny_pure (wpAny_pure (h s2 (fill_done m hc r)))
set_option maxHeartbeats 3000000 in
theorem set_of_list {l : Addr} {items : Array Value} {ns : List Int} {Q : Value → Shared → Prop} (hh : A.handled = none) (hl : s.heap.IsList l items) (hi : IntsAre items.toList ns) (hb : ns.length + 1 < scanBound) (h : ∀ s2, FillQ w s ns s2 → Q (.ref s.heap.objs.size) s2) :
    wpAny (model P w) A (call (.type "set") [.ref l]) Q E s := by
  obtain ⟨c0, tl0, mro0⟩ := F.called_set.mro
  obtain ⟨made0, sub0, nt0, cc0⟩ := (⟨F.called_set.made, F.called_set.sub, F.called_set.notType, F.called_set.canCreate⟩ : _ ∧ _ ∧ _ ∧ _)
  have tc0 := F.typeCall_set_1 (.ref l)
  apply wpAny_call
  apply codeAny_of_tree
  show wpAny (model P w) _ (callAny (.type "set") ⟨[.ref l], []⟩) _ _ s
  apply wpAny_pure
  refine ⟨Code.quiet_builtin _ (by decide +kernel), ?_⟩
  apply codeAny_builtin F.entry_type_call
  rw [Around.under_plain (weight_type_call_type "set" [.ref l] []) rfl]
  repeat (any_goals (first | assumption | wp_step))
  refine codeAny_mono (code_set_led1 (.ref l) (E := E) (Q₁ := fun v t => v = .ref s.heap.objs.size ∧ t = { s with heap := s.heap.push (bareSet w) }) ⟨rfl, rfl⟩) (fun r t q => ?_)
  rcases r with e | fl
  · exact q
  cases fl
  case ret v =>
    obtain ⟨e1, e2⟩ := q
    subst e1
    subst e2
    have gs : (s.heap.push (bareSet w)).get? s.heap.objs.size = some (bareSet w) := Heap.get?_push_size _ rfl
    have ty : Shared.TypeIs { s with heap := s.heap.push (bareSet w) } (.ref s.heap.objs.size) "set" := ⟨_, gs, rfl⟩
    have li := F.called_set.init.lookup
    have bi := F.called_set.init.bind (.ref s.heap.objs.size)
    repeat (any_goals (first | assumption | wp_step))
    refine init_of_list (by simp [hh]) hl hi hb fun s2 f => ?_
    exact wpAny_pure (wpAny_pure (h s2 f))
  all_goals exact q.elim
end
end DLS
namespace DL
open PySem PySem.Spec PyProof.Rows L2
variable [TB]
def sortSetLE (fa : PEV) : EV := fun δ => (fa δ).bind fun x => match x.1 with
  | .v (.d (.list xs)) => (intsU xs).bind fun ns => if ns.length < 64 then some (.o (.l ((usort ns).map PyData.int)), x.2) else none
  | _ => none
section
variable {X : Cx} {a : Expr} {p p2 q pos : Pos}
end
end DL

/-! a def in a def's body that is handed on to another def; divmod -/
namespace DL
open PySem PySem.Spec PyProof.Rows L2 LamX NdefX
def fDivmod : List S → Option S
  | [a, b] => (asI a).bind fun i => (asI b).bind fun j => if 0 < j ∧ j < 1073741824 then some (.d (.tuple [.int (i / j), .int (i % j)])) else none
  | _ => none
theorem cd_divmod {K : PySem.W.Frag} [TB] : CallD K (fun xs H Q => ∃ i j, xs = [.int i, .int j] ∧ L2.CDiv i j ∧ ∀ p, H p = none → Q (.ref p) (upd H p (.tup [.int (i / j), .int (i % j)]))) fDivmod := fun T ρ H vs ss s Q k hp hg hq => by
  unfold fDivmod at hg
  split at hg
  · rename_i u w
    obtain ⟨v, v', rfl, h, h'⟩ := paired2 hp
    cases e : asI u with
    | none => rw [e] at hg; cases hg
    | some i =>
      rw [e] at hg
      simp only [Option.bind_some] at hg
      cases e' : asI w with
      | none => rw [e'] at hg; cases hg
      | some j =>
        rw [e'] at hg
        simp only [Option.bind_some] at hg
        split at hg
        case isFalse => cases hg
        rename_i hj
        cases hg
        exact ⟨i, j, by rw [at_I h e, at_I h' e'], hj, fun p hp => postO_tup k hq (.cons (.int _) (.cons (.int _) .nil)) hp⟩
  · cases hg
section
variable [TB] {X : Cx} {p pos : Pos} {e : Expr} {es : List Expr} {fa : AEV}
theorem de_divmod (hm : X.mg "divmod" = none) (hg : Gl X "divmod") (ha : DA X (e :: es) fa) (he : starEach (e :: es) X.env = (false, eval e X.env) :: starEach es X.env := by rfl) (hpl : (backTo pos (starEach es X.env)).any (·.1) = false := by rfl) : DE X (.Call (.Name "divmod" p) (e :: es) [] pos) (callB fDivmod fa) :=
  de_callB call_divmod cd_divmod hg hm (by decide +kernel) ha (by decide) (by decide) he hpl
end
section
variable {X : Cx} {pins : List (Addr × Obj)} {σ : L2.St} {H : Hp} {s : Shared}
abbrev fnObj (F : NF) (doc pm ctv : Value) : Obj := { cls := .type "function", data := .func (F.fd doc pm ctv) }
theorem ndef_make3 {T : List (Addr × Str)} {c P : Addr} {name : Str} {params : Arguments} {body : List Stmt} {scope : Scope} {pos : Pos} {E : Value → Shared → Prop} {Q : Value → Shared → Prop} (I : Inv X pins σ H s) (TB : TabB X.base X.mg c P) (hcode : X.env.code = .ref c)
    (hm : (P, X.env.qual ++ name) ∈ T) (hu : ∀ p ∈ T, p.1 = P → p.2 = X.env.qual ++ name) (hT : Tabs T H) (hfree : ∀ y ∈ scope.names, y.2 = .free → ∃ c, X.env.cells.lookup y.1 = some c)
    (h : ∀ (f c' : Addr) (doc pm ctv : Value) (H1 : Hp) (s' : Shared), Inv X pins σ H1 s' → (∀ b o, b ≠ P → H b = some o → H1 b = some o) → (∃ ps, H1 P = some (.tbl ps)) → Tabs T H1 →
      s'.heap.get? f = some (fnObj ⟨name, X.env.qual ++ name, params, body, scope, cloFrom X.env.cells scope.names [], c'⟩ doc pm ctv) → H1 f = none → s.heap.objs.size ≤ f → H1 c' = some (CodeO c' (X.env.qual ++ name)) → Q (.ref f) s') :
    wpAny (model X.prog X.w) X.A (makeFunction name (X.env.qual ++ name) params (.stmts body) scope X.env [] [] [] pos pos.line) Q E s := by
  obtain ⟨ps, hP, ht, ha⟩ := hT _ hm
  have bP : s.heap.BuiltinsAt X.mg P := TB.bm.keeps I.bk
  have hP' : s.heap.get? P = some { cls := .none, data := .fields ps } := I.hok P _ hP
  cases hc : codeAmong pos ps.toList with
  | none =>
    refine PySem.W.makeFunction_K (mg := X.mg) (c := c) (P := P) (ps := ps) (closure_ok hfree) I.ok.glob (I.mod.glob.keeps I.bk) hcode (TB.code.keeps I.bk) hP' ht hc TB.gP bP fun c' ctv doc h' tk hx hge hlt hrec htb => ?_
    obtain ⟨c2, oc, vs, t, e2, hoc, hd, hv⟩ := hrec
    cases e2
    have hsz : s.heap.objs.size ≤ h'.objs.size := Nat.le_trans hge (Nat.le_of_lt hlt)
    have nC : H c' = none := I.hok.fresh hge
    have I1 := inv_table (t' := tk) (more := #[rawInt pos.line, rawInt pos.col, .ref c']) (h' := h'.push (fnObj ⟨name, X.env.qual ++ name, params, body, scope, cloFrom X.env.cells scope.names [], c'⟩ doc ((X.mg "__name__").getD .none) ctv)) I hP
      (fun b o hb e => Heap.get?_push_of_some _ (hx b o hb e)) (Heap.get?_push_of_some _ htb) hge ⟨oc, vs, t, Heap.get?_push_of_some _ hoc, hd, hv⟩
    have hE : ∀ b o, b ≠ P → H b = some o → upd (upd H P (.tbl (ps ++ #[rawInt pos.line, rawInt pos.col, .ref c']))) c' (CodeO c' (X.env.qual ++ name)) b = some o := fun b o hb e => by
      rw [upd_ne (ne_of_none e nC), upd_ne hb]
      exact e
    have hne : ∀ {c0 : Addr} {q : Str}, H c0 = some (CodeO c0 q) → c0 ≠ P := fun {c0 q} e z => by
      rw [z, hP] at e
      exact codeO_ne ps (Option.some.inj e).symm
    have eL : (ps ++ #[rawInt pos.line, rawInt pos.col, .ref c']).toList = ps.toList ++ [rawInt pos.line, rawInt pos.col, .ref c'] := by simp
    refine h h'.objs.size c' doc ((X.mg "__name__").getD .none) ctv _ _ I1 hE ⟨_, by rw [upd_ne (ne_of_none hP nC), upd_same]⟩ (fun p hp => ?_) (Heap.get?_push_size _ rfl) ?_ hsz upd_same
    · by_cases hb : p.1 = P
      · rw [hu p hp hb, hb]
        refine ⟨_, by rw [upd_ne (ne_of_none hP nC), upd_same], by rw [eL]; exact PySem.TriplesOk_snoc _ _ _ _ ht, fun p' cv hcv => ?_⟩
        rw [eL] at hcv
        rcases among_app _ ht hcv with z | z
        · obtain ⟨c0, e1, e2⟩ := ha p' cv z
          exact ⟨c0, e1, hE _ _ (hne e2) e2⟩
        · exact ⟨c', z, upd_same⟩
      · obtain ⟨ps', a1, a2, a3⟩ := hT p hp
        refine ⟨ps', by rw [upd_ne (ne_of_none a1 nC), upd_ne hb]; exact a1, a2, fun p' cv hcv => ?_⟩
        obtain ⟨c0, e1, e2⟩ := a3 p' cv hcv
        exact ⟨c0, e1, hE _ _ (hne e2) e2⟩
    · have n1 : h'.objs.size ≠ c' := Nat.ne_of_gt hlt
      have n2 : h'.objs.size ≠ P := Nat.ne_of_gt (Nat.lt_of_lt_of_le (Heap.lt_size hP') hsz)
      rw [upd_ne n1, upd_ne n2]
      exact I.hok.fresh hsz
  | some cv =>
    obtain ⟨c', e, hco⟩ := ha pos cv hc
    subst e
    refine PySem.W.makeFunction_hit (mg := X.mg) (c := c) (P := P) (ps := ps) (closure_ok hfree) I.ok.glob (I.mod.glob.keeps I.bk) hcode (TB.code.keeps I.bk) hP' ht hc bP fun ctv doc h' tk hx hsz => ?_
    have I1 : Inv X pins σ H { s with heap := h'.push (fnObj ⟨name, X.env.qual ++ name, params, body, scope, cloFrom X.env.cells scope.names [], c'⟩ doc ((X.mg "__name__").getD .none) ctv), toks := tk } := I.kept fun b o e => Heap.get?_push_of_some _ (hx b o e)
    exact h h'.objs.size c' doc ((X.mg "__name__").getD .none) ctv H _ I1 (fun _ _ _ e => e) ⟨ps, hP⟩ hT (Heap.get?_push_size _ rfl) (I.hok.fresh hsz) hsz hco
theorem inv_pinned {f : Addr} {o : Obj} (I : Inv X pins σ H s) (ho : s.heap.get? f = some o) (hf : H f = none) (hl : f ≠ X.env.locals) (hs : f ∉ X.fs) (hd : ∀ v, o.data ≠ .cell v) : Inv X ((f, o) :: pins) σ H s :=
  ⟨I.ok, I.os, I.bare, I.base, I.loc, I.cell, I.free, I.freeC, fun p hp => (by
    rcases List.mem_append.mp hp with hp | hp
    · exact I.pin p (List.mem_append.mpr (.inl hp))
    · rcases List.mem_cons.mp hp with e | hp
      · rw [e]
        exact ⟨ho, hf, hl, hs, hd⟩
      · exact I.pin p (List.mem_append.mpr (.inr hp))), I.hok, I.len⟩
theorem inv_unpin {q : Addr × Obj} (I : Inv X (q :: pins) σ H s) : Inv X pins σ H s :=
  ⟨I.ok, I.os, I.bare, I.base, I.loc, I.cell, I.free, I.freeC, fun p hp => I.pin p ((List.mem_append.mp hp).elim (fun z => List.mem_append.mpr (.inl z)) fun z => List.mem_append.mpr (.inr (List.mem_cons_of_mem _ z))), I.hok, I.len⟩
end
/-- the nested function stands in the ground, as do the cells that it captured -/
structure FnAtN (B : Heap) (f : Addr) (F : NF) (cs : List PyData) (fr : List Str) : Prop where
  get : ∃ doc pm ctv, B.get? f = some (fnObj F doc pm ctv)
  len : ((cs.map capV).map some).length = fr.length
  all : ∀ y a, F.cl.lookup y = some a → ∃ v, B.IsCell a v
  inj : ∀ x y a, F.cl.lookup x = some a → F.cl.lookup y = some a → x = y
  has : ∀ (i : Nat) (y : Str), fr[i]? = some y → ∃ a, F.cl.lookup y = some a ∧ ∀ v, ((cs.map capV).map some)[i]? = some (some v) → ∃ u, L2.RelV v u ∧ B.IsCell a (some u)
theorem FnAtN.at' {X : Cx} {f : Addr} {F : NF} {cs : List PyData} {fr : List Str} (Φ : FnAtN X.base f F cs fr) {pins : List (Addr × Obj)} {σ : L2.St} {H : Hp} {s : Shared} (I : Inv X pins σ H s) :
    (∃ doc pm ctv, s.heap.get? f = some (fnObj F doc pm ctv)) ∧ CellsAt F.cl fr ((cs.map capV).map some) s.heap H := by
  have kp : ∀ {a : Addr} {v : Option Value}, X.base.IsCell a v → H a = none ∧ s.heap.IsCell a v := fun {a v} ⟨o, ho, hd⟩ => ⟨(I.bs a o ho).2, o, (I.bs a o ho).1, hd⟩
  obtain ⟨doc, pm, ctv, hg⟩ := Φ.get
  refine ⟨⟨doc, pm, ctv, (I.bs f _ hg).1⟩, Φ.len, fun y a e => ?_, Φ.inj, fun i y e => ?_⟩
  · obtain ⟨v, z⟩ := Φ.all y a e
    exact ⟨(kp z).1, v, (kp z).2⟩
  · obtain ⟨a, e1, e2⟩ := Φ.has i y e
    exact ⟨a, e1, fun v hv => let ⟨u, r, z⟩ := e2 v hv; ⟨u, r, (kp z).2⟩⟩
abbrev ndF (np nf nn : Nat) (B : SEV) : FN := fun ss => if ss.length = np + nf then runF [] nn B ss else none
section
variable [TB]
theorem ndef_run {Pr : Program} {w : World} {K : PySem.W.Frag} {mg : Str → Option Value} {base : Heap} {N ps fr : List Str} {F : NF} {f : Addr} {k : Nat} {fB : SEV} {A : Around} {outer : List Env} {s : Shared} {H : Hp} {us : List Value} {vs ws : List V} {Q : VK} {doc pm ctv : Value}
    (S : NScope N ps fr F.scope) (hbind : bindArgs (F.fd doc pm ctv) ⟨us, []⟩ = pure (ps.zip us))
    (hbody : Room k (A.deeper (envF F f s.heap.objs.size)) → DSs (ncx CX0 Pr w K mg base N F f A outer s H E0).nox [] F.body fB)
    (hr : Room (k + 1) A) (e0 : Env0 Pr w K mg base A outer s H) (ho : s.heap.get? f = some (fnObj F doc pm ctv))
    (hc : s.heap.CodeRec (.ref F.c) F.qual) (C : CellsAt F.cl fr (ws.map some) s.heap H) (r : Vals vs us) (hl : vs.length = ps.length)
    (h : spF K (ps.length + fr.length) (runF [] N.length fB) (vs ++ ws) H Q E0) :
    codeAny (model Pr w) A (.call (.ref f) ⟨us, []⟩) (CR CX0 outer Pr w H s Q E0) s := by
  have lim : s.heap.NoLimit := e0.mod.nolimit.keeps fun b o e => (e0.bs b o e).1
  refine codeAny_call_function hr.depth ho rfl S.co S.gen rfl hc ?_
  rw [hbind]
  refine wpAny_pure (wpAny_newFunctionEnv S.nocell (fun ⟨n, _⟩ hy => S.par n (List.of_mem_zip hy).1) (fun h₁ hns hsb => ⟨lim.fresh _ hsb, ?_⟩) S.kind)
  show codeAny _ _ (.func F.body (envF F f s.heap.objs.size)) _ _
  refine codeAny_func ?_
  have kp : ∀ b o, s.heap.get? b = some o → h₁.get? b = some o := fun b o e => hsb.extBut b o (Nat.ne_of_lt (Heap.lt_size e)) (Heap.get?_push_of_some _ e)
  have I := inv_startN (CX := CX0) (E := E0) (P := Pr) (w := w) (f := f) (tk := s.toks + (ps.zip us).length) S hr.hd e0 hl r C hns kp
  have L := spF_lift h
  have e : startF N vs (ws.map some) = L2.start N (vs ++ ws) := by
    unfold startF L2.start
    rw [List.map_append, List.append_assoc, List.length_append, List.length_map, Nat.sub_sub]
  rw [e] at I
  refine wpAny_mono ((hbody (hr.deeper _)).nox.run [] _ _ H _ I L) (fun fl s' hs => ?_) fun e s' hs => hs
  cases fl with
  | ret u =>
    obtain ⟨v, σ', H', J, rv, q⟩ := hs
    exact ⟨v, H', J.os, J.bare, J.base, J.hok, rv, q⟩
  | next =>
    obtain ⟨σ', H', J, q⟩ := hs
    exact ⟨V.non, H', J.os, J.bare, J.base, J.hok, rfl, q⟩
  | brk =>
    obtain ⟨_, _, _, q⟩ := hs
    exact False.elim q
  | cont =>
    obtain ⟨_, _, _, q⟩ := hs
    exact False.elim q
end
end DL

namespace DL
open PySem PySem.Spec PyProof.Rows L2 LamX NdefX
variable [TB]
section
variable {X : Cx} {k i : Nat} {x : Str} {p pos : Pos} {e : Expr} {es : List Expr} {fa : AEV} {f : Addr} {F : NF} {cs : List PyData} {N ps fr : List Str} {fB : SEV}
theorem de_callFnN (Φ : FnAtN X.base f F cs fr) (Sc : NScope N ps fr F.scope)
    (hbind : ∀ (doc pm ctv : Value) (us : List Value), us.length = ps.length → bindArgs (F.fd doc pm ctv) ⟨us, []⟩ = pure (ps.zip us))
    (hbody : ∀ (A : Around) (outer : List Env) (s : Shared) (H : Hp), A.guards = some [] → Room k (A.deeper (envF F f s.heap.objs.size)) → DSs (ncx CX0 X.prog X.w X.K X.mg X.base N F f A outer s H E0).nox [] F.body fB)
    (hG : X.A.guards = some []) (hr : Room (k + 1) X.A) (hN : X.N[i]? = some x) (hv : Vis X.env.scope x) (ha : DA X (e :: es) fa) (hlen : (e :: es).length = ps.length)
    (hd : (x == ("__debug__" : Str)) = false := by decide) (hcd : (x == ("__classdict__" : Str)) = false := by decide)
    (he : starEach (e :: es) X.env = (false, eval e X.env) :: starEach es X.env := by rfl) (hpl : (backTo pos (starEach es X.env)).any (·.1) = false := by rfl) :
    DE X (.Call (.Name x p) (e :: es) [] pos) (callFn i (adrC f F.c F.qual cs) (cs.map capS) (ndF ps.length fr.length N.length fB) fa) := by
  refine ⟨fun pins s σ H Q I h => ?_⟩
  obtain ⟨T, ρ, δ, sv, δ', hs, hf, hq⟩ := h
  unfold callFn at hf
  split at hf
  case h_2 => cases hf
  rename_i d hsl
  split at hf
  case isFalse => cases hf
  rename_i hdd
  subst hdd
  obtain ⟨v, e1, hv1⟩ := hs.slot i _ (slot_some hsl)
  have hv2 : Dq X.K (hid T ρ H) v (adrC f F.c F.qual cs) := hv1
  obtain ⟨rfl, hco, hcap⟩ := adr_inv hv2 rfl
  cases ea : fa δ with
  | none => rw [ea] at hf; cases hf
  | some z =>
    obtain ⟨pvs, δ1⟩ := z
    rw [ea] at hf
    simp only [Option.bind_some] at hf
    cases ed : dataA pvs with
    | none => rw [ed] at hf; cases hf
    | some ds =>
      rw [ed] at hf
      simp only [Option.bind_some, ndF] at hf
      split at hf
      case isFalse => cases hf
      rename_i hl2
      cases er : runF [] N.length fB (ds.map S.d ++ cs.map capS) with
      | none => rw [er] at hf; cases hf
      | some r =>
        obtain ⟨sr, zs⟩ := r
        rw [er] at hf
        simp only [Option.bind_some] at hf
        split at hf
        case h_2 => cases hf
        rename_i y
        cases hf
        have fat : ∀ {σ : L2.St} {H : Hp} {s : Shared} {pins : List (Addr × Obj)}, Inv X pins σ H s → PySem.W.FnAt f s.heap := fun I => let ⟨_, _, _, z⟩ := (Φ.at' I).1; ⟨_, _, _, _, z⟩
        refine wpAny_Call_Name_kw (thn ((pe_var (pos := p) hN hv hd hcd).run pins s σ H (fun v H1 => v = .ref f ∧ H1 = H) I ⟨.ref f, e1, rfl, rfl⟩) fun u s1 ⟨v, H1, I1, r1, q1⟩ => ?_)
        obtain ⟨ev, eH⟩ := q1
        subst ev
        rw [eH] at I1
        obtain rfl : u = Value.ref f := r1
        refine PySem.W.callWith_F (first := []) (fat I1) (thn (ha.run pos pins s1 σ H (fun vs H2 => ∃ ρ1, Sim X.K T ρ1 δ' σ H2 ∧ Ext T ρ H ρ1 H2 ∧ Paired (PAt X.K T ρ1 H2 σ) vs pvs) I1 ⟨T, ρ, δ, pvs, δ', hs, ea, fun ρ1 vs H2 a b c => ⟨ρ1, a, b, c⟩⟩) fun us s2 ⟨vs, H2, I2, r, ρ1, sm, x1, p1⟩ => ⟨fat I2, ?_⟩) he hpl
        show wpAny _ _ (call (.ref f) us) _ _ _
        obtain ⟨⟨doc, pm, ctv, ho⟩, C⟩ := Φ.at' I2
        have dq := data_dp p1 ed
        have hcap2 : ∀ x ∈ cs, capOk (hid T ρ1 H2) x := fun x hx => capM x1.same (hcap x hx)
        have hco2 : H2 F.c = some (CodeO F.c F.qual) := hid_same _ _ (x1.same _ _ hco)
        have all := paired_app (data_sv dq) (caps_sv (K := X.K) hcap2)
        have sa := sm.args all
        have vl : vs.length = ds.length := dpAll_len dq
        have dl : ds.length = ps.length := by
          have h1 := C.len
          rw [List.length_append, List.length_map, List.length_map] at hl2
          rw [List.length_map, List.length_map] at h1
          omega
        have hsp : spF X.K (ps.length + fr.length) (runF [] N.length fB) (vs ++ cs.map capV) H2 (fun v' H'' => Sim X.K T ρ1 δ' σ H'' ∧ DL.Ext T ρ1 H2 ρ1 H'' ∧ Dq X.K (hid T ρ1 H'') v' y) E0 := by
          refine ⟨T ++ ρ1.filterMap id, List.replicate (ds.map S.d ++ cs.map capS).length none, ds.map S.d ++ cs.map capS, .d y, zs, sa, hl2, er, ?_⟩
          intro v' H'' _ hx hv'
          obtain ⟨b1, b2⟩ := sm.argsBack hx
          refine ⟨b1, b2, ?_⟩
          have hv'' : Dq X.K (hid (T ++ ρ1.filterMap id) (List.replicate (ds.map S.d ++ cs.map capS).length none) H'') v' y := hv'
          rw [hid_all] at hv''
          exact hv''
        refine wpAny_call (codeAny_mono (ndef_run (ws := cs.map capV) Sc (hbind doc pm ctv us (by rw [← r.length]; omega)) (hbody X.A X.stack s2 H2 hG) hr I2.env0 ho (codeO_at I2.hok hco2) C r (by omega) hsp) fun rr s' hq' => ?_)
        cases rr with
        | error e => exact hq'.elim
        | ok fl =>
          cases fl with
          | ret u =>
            refine I2.after (Q := Q) ?_
            obtain ⟨v', H'', os, bare, un, hok, rv', qq⟩ := (show CE X.stack X.prog X.w H2 s2 _ u s' from hq')
            exact ⟨v', H'', os, bare, un, hok, rv', hq ρ1 v' H'' qq.1 (x1.trans qq.2.1) qq.2.2⟩
          | next => exact False.elim hq'
          | brk => exact False.elim hq'
          | cont => exact False.elim hq'
end
/-- what a def that makes a def must show of itself -/
structure MakerN (X : Cx) (c P : Addr) (name : Str) : Prop where
  tab : TabB X.base X.mg c P
  code : X.env.code = .ref c
  mem : (P, X.env.qual ++ name) ∈ TB.tb
  uniq : ∀ p ∈ TB.tb, p.1 = P → p.2 = X.env.qual ++ name
structure NdefW (X : Cx) (N ps fr : List Str) (js : List Nat) (name : Str) (params : Arguments) (body : List Stmt) (scope : Scope) : Prop where
  sc : NScope N ps fr scope
  def0 : params.defaults = []
  kw0 : params.kw_defaults = []
  ann : annTrees params none X.env = []
  bind : ∀ (q : Str) (cl : List (Str × Addr)) (c : Addr) (doc pm ctv : Value) (us : List Value), us.length = ps.length → bindArgs ((⟨name, q, params, body, scope, cl, c⟩ : NF).fd doc pm ctv) ⟨us, []⟩ = pure (ps.zip us)
  free : ∀ y ∈ scope.names, y.2 = .free → X.env.scope.names.lookup y.1 = some .cell ∨ X.env.scope.names.lookup y.1 = some .free
  frs : ∀ y ∈ fr, (y, NameKind.free) ∈ scope.names
  at_ : js.map (fun j => X.N[j]?) = fr.map some
section
variable {X : Cx}
theorem NdefW.hf {N ps fr : List Str} {js : List Nat} {name : Str} {params : Arguments} {body : List Stmt} {scope : Scope} (L : NdefW X N ps fr js name params body scope) (ok : X.Ok) : ∀ y ∈ scope.names, y.2 = .free → ∃ c, X.env.cells.lookup y.1 = some c := fun y hy e => (L.free y hy e).elim (fun z => ok.has _ (.inl z)) fun z => ok.has _ (.inr z)
theorem Sim.setN {K : PySem.W.Frag} {T : List Addr} {ρ : List (Option Addr)} {δ : Ds} {σ : L2.St} {H : Hp} {i : Nat} {v : Option V} (h : Sim K T ρ δ σ H) (hi : δ[i]? = some none) : Sim K T ρ δ (σ.set i v) H :=
  ⟨h.len, by rw [List.length_set]; exact h.slen, fun j s e => by
    have hij : i ≠ j := fun z => by rw [z, e] at hi; cases hi
    obtain ⟨w, a, b⟩ := h.slot j s e
    exact ⟨w, by rw [List.getElem?_set_ne hij]; exact a, b⟩, fun j c e => by
    have hij : i ≠ j := fun z => by rw [z, e] at hi; cases hi
    obtain ⟨w, a, b⟩ := h.own j c e
    exact ⟨w, a, by rw [List.getElem?_set_ne hij]; exact b⟩, h.own', h.inj, h.nt, h.tmp, h.tabT, h.tabs⟩
end
def lotN (i : Nat) (js : List Nat) (res : List S → PyData → Option PyData) (fe : PEV) : EV := fun δ => match δ[i]? with
  | some none => (lotE js res fe δ).bind fun x => match x.2[i]? with
    | some none => some x
    | _ => none
  | _ => none
section
variable {X : Cx} {kg i : Nat} {g qg : Str} {stg : Stmt} {fg : Addr} {fdg : FuncData} {Ng psg : List Str} {c P : Addr} {N ps fr : List Str} {js : List Nat} {name : Str} {params : Arguments} {body : List Stmt} {scope : Scope} {p p2 pos dpos rpos : Pos} {e : Expr} {fe : PEV} {Pg P0 : List Nat} {Bg : PyData → List S → SEV} {res : List S → PyData → Option PyData}
theorem dss_ndefRet (Mk : MakerN X c P name) (L : NdefW X N ps fr js name params body scope) (Fg : Fun X.K g qg stg fg fdg) (Scg : FnScope Ng psg (defScope stg)) (hg : Gl X g) (hm : X.mg g = some (.ref fg)) (hb : Binds X.K fdg psg []) (hps : psg.length = 2)
    (hG : X.A.guards = some []) (hr : Room (kg + 1) X.A) (hfn : ∀ x, X.fn x = true) (he : DP X e fe)
    (hN : X.N.Nodup) (hi : X.N[i]? = some name) (hx : Loc X.env.scope name)
    (hbody : ∀ (B : Heap) (f c' : Addr) (cs : List PyData) (cdv : Value) (s : Shared) (H : Hp),
      FnAtN B f ⟨name, X.env.qual ++ name, params, body, scope, cloFrom X.env.cells scope.names [], c'⟩ cs fr →
      Room kg (X.A.deeper (envOfC qg (defScope stg) s.heap.objs.size fg cdv)) →
      DSs (cxOf CX0 X.prog X.w X.K X.mg B Ng qg (defScope stg) fg cdv X.A X.stack s H E0).nox Pg (defBody stg) (Bg (adrC f c' (X.env.qual ++ name) cs) (cs.map capS)))
    (hres : ∀ (d0 : PyData) (css : List S) (n y : PyData), res css n = some y → ∃ zs, runF Pg Ng.length (Bg d0 css) [.d n, .d d0] = some (.d y, zs))
    (hdb : (g == ("__debug__" : Str)) = false := by decide) (hdn : (name == ("__debug__" : Str)) = false := by decide) (hcn : (name == ("__classdict__" : Str)) = false := by decide)
    (hst : starEach (e :: [.Name name p2]) X.env = (false, eval e X.env) :: starEach [.Name name p2] X.env := by rfl)
    (hst2 : starEach [.Name name p2] X.env = (false, eval (.Name name p2) X.env) :: starEach [] X.env := by rfl)
    (hpl : (backTo pos (starEach [.Name name p2] X.env)).any (·.1) = false := by rfl) :
    DSs X P0 [.FunctionDef name params body [] none [] scope none name dpos, .Return (some (.Call (.Name g p) [e, .Name name p2] [] pos)) rpos] (retS (lotN i js res fe)) := by
  refine ⟨fun pins s σ H D I h0 => ?_⟩
  have h1 : lift X.K (lotN i js res fe) σ H D.rt := by
    obtain ⟨T, ρ, δ, o, hs, hf, hq⟩ := h0
    unfold retS at hf
    cases ea : lotN i js res fe δ with
    | none => rw [ea] at hf; cases hf
    | some x =>
      rw [ea] at hf
      cases hf
      exact ⟨T, ρ, δ, x.1, x.2, hs, by rw [ea], post_mk hq⟩
  obtain ⟨T, ρ, δ, sv, δ', hs, hf, hq⟩ := h1
  unfold lotN at hf
  split at hf
  case h_2 => cases hf
  rename_i hin0
  cases el : lotE js res fe δ with
  | none => rw [el] at hf; cases hf
  | some xx =>
  rw [el] at hf
  simp only [Option.bind_some] at hf
  split at hf
  case h_2 => cases hf
  rename_i hin
  cases hf
  unfold lotE at el
  cases ea : fe δ with
  | none => rw [ea] at el; cases el
  | some z =>
    obtain ⟨pv, δ1⟩ := z
    rw [ea] at el
    simp only [Option.bind_some] at el
    split at el
    case h_2 => cases el
    rename_i n
    split at el
    case isFalse => cases el
    rename_i hok
    cases ec : capD (DL.frzS δ1 js) js with
    | none => rw [ec] at el; cases el
    | some css =>
      rw [ec] at el
      simp only [Option.bind_some] at el
      cases er : res css n with
      | none => rw [er] at el; cases el
      | some y =>
        rw [er] at el
        cases el
        have hq0 : qualnameIn X.env name name = X.env.qual ++ name := by
          have hk : X.env.kindOf name = some .local ∨ X.env.kindOf name = some .cell := hx
          unfold qualnameIn
          rcases hk with k | k <;> rw [k] <;> first | rfl | exact if_neg (by decide)
        refine wpAny_execs_cons (PySem.W.nestDef_K L.def0 L.kw0 L.ann ?_)
        rw [hq0]
        refine ndef_make3 I Mk.tab Mk.code Mk.mem Mk.uniq hs.tabs (L.hf I.ok) fun f c' doc pm ctv H2 s2 I2 st2 tb2 tabs2 ho nf hge hco => ?_
        have fnl : f ≠ X.env.locals := fun z => absurd (Nat.lt_of_lt_of_le (z ▸ I.lt) hge) (Nat.lt_irrefl _)
        have I2p := inv_pinned I2 ho nf fnl (I.nofs hge) (fun v z => nomatch z)
        refine store_ok I2p hN hi hx (v := .ref f) rfl (fun s3 I3 => ?_) (.inl (hfn name))
        show wpAny _ _ (execs [.Return (some (.Call (.Name g p) [e, .Name name p2] [] pos)) rpos] X.env) _ _ s3
        -- the call
        let pins' : List (Addr × Obj) := (f, fnObj ⟨name, X.env.qual ++ name, params, body, scope, cloFrom X.env.cells scope.names [], c'⟩ doc pm ctv) :: pins
        let σ' : L2.St := σ.set i (some (.ref f))
        have hiσ : i < σ.length := by rw [I.len]; exact (List.getElem?_eq_some_iff.mp hi).1
        obtain ⟨ps0, hP0, _⟩ := hs.tabs _ Mk.mem
        obtain ⟨sm2, x2⟩ := hs.made (hs.tabT _ Mk.mem) st2 ⟨ps0, hP0⟩ tb2 tabs2
        have sm2' : Sim X.K T ρ δ σ' H2 := sm2.setN hin0
        suffices hcall : wpAny (model X.prog X.w) X.A (eval (.Call (.Name g p) [e, .Name name p2] [] pos) X.env) (EP X pins' σ' fun v H3 => D.rt v H3) X.xe s3 by
          refine wpAny_execs_cons (wpAny_Return_some (thn hcall fun v s4 ⟨x, H4, I4, r4, q4⟩ => ?_))
          exact ⟨x, σ', H4, inv_unpin I4, r4, q4⟩
        refine wpAny_Call_Name_kw (ld_glob I3 hg hm ?_ hdb)
        refine PySem.W.callWith_K (h₀ := X.base) I3.ok.mod.kin Fg.kp ?_ hst hpl
        rw [hst]
        show wpAny _ _ (spliced ((false, eval e X.env) :: backTo pos (starEach [.Name name p2] X.env))) _ _ s3
        refine Calls.spliced_cons (thn (he.run pins' s3 σ' H2 (fun v H1 => ∃ ρ1, Sim X.K T ρ1 δ1 σ' H1 ∧ Ext T ρ H2 ρ1 H1 ∧ Dq X.K (hid T ρ1 H1) v n ∧ H1 c' = some (CodeO c' (X.env.qual ++ name))) I3 ⟨T, ρ, δ, .v (.d n), δ1, sm2', ea, fun ρ1 v H1 a b d => ⟨ρ1, a, b, d, ?_⟩⟩) fun u1 s4 ⟨v1, H4, I4, rv1, ρ1, sm4, x4, d4, hco4⟩ => ?_)
        · have h0 : hid T ρ H2 c' = some (CodeO c' (X.env.qual ++ name)) := by
            refine hid_some.mpr ⟨hco, fun z => ?_, fun z => ?_⟩
            · obtain ⟨o, ho', hn⟩ := sm2'.trk.tmp _ z
              rw [hco] at ho'
              cases ho'
              exact nt_code _ _ hn
            · obtain ⟨o, ho', hn⟩ := sm2'.trk.own _ z
              rw [hco] at ho'
              cases ho'
              exact nt_code _ _ hn
          exact hid_same _ _ (b.same _ _ h0)
        rw [hst2]
        show wpAny _ _ (spliced ((false, eval (.Name name p2) X.env) :: backTo pos (starEach [] X.env))) _ _ s4
        have hvis : Vis X.env.scope name := hx.elim .inl fun z => .inr (.inl z)
        refine Calls.spliced_cons (thn ((pe_var (pos := p2) hi hvis hdn hcn).run pins' s4 σ' H4 (fun v H1 => v = .ref f ∧ H1 = H4) I4 ⟨.ref f, List.getElem?_set_self hiσ, rfl, rfl⟩) fun u2 s5 ⟨v2, H5, I5, r5, q5⟩ => ?_)
        obtain ⟨ev, eH⟩ := q5
        subst ev
        rw [eH] at I5
        obtain rfl : u2 = Value.ref f := r5
        refine Calls.spliced_nil ⟨I5.kIn, ?_⟩
        show wpAny _ _ (call (.ref fg) [u1, .ref f]) _ _ s5
        obtain ⟨ρ3, sm3, x3⟩ := sm4.frzS (is := js)
        obtain ⟨cs, ecs, ews, hcap⟩ := caps_of sm4 sm3 (fun j hj => List.all_eq_true.mp hok j hj) js css (fun j hj => hj) ec
        subst ecs
        have C := cells_of I5 (Caps.made (fr := fr) (js := js) I5.ok L.free L.frs L.at_)
        rw [ews] at C
        have hcs : ∀ y a, (cloFrom X.env.cells scope.names []).lookup y = some a → a ∉ frs X.stack := fun y a hy hin => by
          have hy2 := (Caps.made (fr := fr) (js := js) I5.ok L.free L.frs L.at_).sub y a hy
          rcases List.mem_cons.mp (I5.stkSub _ hin) with hz | hz
          · exact I5.cne y a hy2 hz
          · obtain ⟨_, o, ho', _⟩ := I5.ok.funs.mem hz
            have h1 := Heap.lt_size ho'
            have h2 := I5.ok.cab y a (hfn y) hy2
            exact absurd h1 (Nat.not_lt.mpr h2)
        obtain ⟨B, e0, gB⟩ := ground_at I5
        have cellB : ∀ {y a} {v : Option Value}, (cloFrom X.env.cells scope.names []).lookup y = some a → s5.heap.IsCell a v → B.IsCell a v := fun {y a v} hy ⟨o, h1, h2⟩ => ⟨o, gB a o h1 (C.all y a hy).1 (hcs y a hy), h2⟩
        have pf := I5.pin (f, fnObj ⟨name, X.env.qual ++ name, params, body, scope, cloFrom X.env.cells scope.names [], c'⟩ doc pm ctv) (List.mem_append.mpr (.inr List.mem_cons_self))
        have nfs : f ∉ frs X.stack := fun z => by
          rcases List.mem_cons.mp (I5.stkSub _ z) with hz | hz
          · exact fnl hz
          · exact I.nofs hge hz
        have Φ : FnAtN B f ⟨name, X.env.qual ++ name, params, body, scope, cloFrom X.env.cells scope.names [], c'⟩ cs fr :=
          ⟨⟨doc, pm, ctv, gB f _ pf.1 pf.2.1 nfs⟩, C.len, fun y a hy => let ⟨v, z⟩ := (C.all y a hy).2; ⟨v, cellB hy z⟩, C.inj, fun i y hy => let ⟨a, h1, h2⟩ := C.has i y hy; ⟨a, h1, fun v hv => let ⟨u, r, z⟩ := h2 v hv; ⟨u, r, cellB h1 z⟩⟩⟩
        let d0 : PyData := adrC f c' (X.env.qual ++ name) cs
        have d1' : Dq X.K (hid T ρ3 H4) v1 n := dpM x3.same _ d4
        have hco' : hid T ρ3 H4 c' = some (CodeO c' (X.env.qual ++ name)) := by
          refine hid_some.mpr ⟨hco4, fun z => ?_, fun z => ?_⟩
          · obtain ⟨o, ho', hn⟩ := sm3.trk.tmp _ z
            rw [hco4] at ho'
            cases ho'
            exact nt_code _ _ hn
          · obtain ⟨o, ho', hn⟩ := sm3.trk.own _ z
            rw [hco4] at ho'
            cases ho'
            exact nt_code _ _ hn
        have d0' : Dq X.K (hid T ρ3 H4) (.ref f) d0 := .adr rfl rfl hco' hcap
        have hp2 : Paired (SV X.K (hid T ρ3 H4)) [v1, V.ref f] [.d n, .d d0] := .cons d1' (.cons d0' .nil)
        have sa := sm3.args hp2
        obtain ⟨zs, hrun⟩ := hres d0 (cs.map capS) n y er
        have hsp : spF X.K 2 (runF Pg Ng.length (Bg d0 (cs.map capS))) [v1, .ref f] H4 (fun v' H'' => Sim X.K T ρ3 (DL.frzS δ1 js) σ' H'' ∧ DL.Ext T ρ3 H4 ρ3 H'' ∧ Dq X.K (hid T ρ3 H'') v' y) E0 := by
          refine ⟨T ++ ρ3.filterMap id, List.replicate 2 none, [.d n, .d d0], .d y, zs, sa, rfl, hrun, ?_⟩
          intro v' H'' _ hx hv'
          obtain ⟨b1, b2⟩ := sm3.argsBack hx
          refine ⟨b1, b2, ?_⟩
          have hv'' : Dq X.K (hid (T ++ ρ3.filterMap id) (List.replicate 2 none) H'') v' y := hv'
          rw [hid_all] at hv''
          exact hv''
        have bt := hb s5 [u1, .ref f] I5.kIn (by rw [List.append_nil]; exact hps.symm)
        rw [List.append_nil] at bt
        have rv : Vals [v1, V.ref f] [u1, .ref f] := .cons rv1 (.cons rfl .nil)
        refine wpAny_call (codeAny_mono (gfn_at (E := E0) (vs := [v1, V.ref f]) (Q := fun v' H'' => Sim X.K T ρ3 (DL.frzS δ1 js) σ' H'' ∧ DL.Ext T ρ3 H4 ρ3 H'' ∧ Dq X.K (hid T ρ3 H'') v' y) Fg Scg (by rw [hps]; rfl) hr e0 bt rv fun cdv hroom => ⟨_, hbody B f c' cs cdv s5 H4 Φ hroom, spF_lift hsp⟩) fun rr s' hq' => ?_)
        cases rr with
        | error e => exact hq'.elim
        | ok fl =>
          cases fl with
          | ret u =>
            refine I5.after (Q := fun v H3 => D.rt v H3) ?_
            obtain ⟨v', H'', os, bare, un, hok', rv', qq⟩ := (show CE X.stack X.prog X.w H4 s5 _ u s' from hq')
            have back : Sim X.K T ρ3 (DL.frzS δ1 js) σ H'' := by
              have := qq.1.setN (i := i) (v := σ[i]) hin
              have e1 : σ'.set i σ[i] = σ := by
                show (σ.set i (some (.ref f))).set i σ[i] = σ
                rw [List.set_set, List.set_getElem_self]
              rw [e1] at this
              exact this
            exact ⟨v', H'', os, bare, un, hok', rv', hq ρ3 v' H'' back (x2.trans (x4.trans (x3.trans qq.2.1))) qq.2.2⟩
          | next => exact False.elim hq'
          | brk => exact False.elim hq'
          | cont => exact False.elim hq'
theorem dss_ndefRetR {j : Nat} (Mk : MakerN X c P name) (L : NdefW X N ps fr js name params body scope) (U : RawDef X.K X.mg g stg psg) (Scg : FnScope Ng psg (defScope stg)) (hg : Gl X g) (hps : psg.length = 2)
    (hG : X.A.guards = some []) (hr : Room j X.A) (hk : kg + 1 ≤ j) (hfn : ∀ x, X.fn x = true) (he : DP X e fe)
    (hN : X.N.Nodup) (hi : X.N[i]? = some name) (hx : Loc X.env.scope name)
    (hbody : ∀ (fg : Addr) (B : Heap) (f c' : Addr) (cs : List PyData) (cdv : Value) (s : Shared) (H : Hp),
      FnAtN B f ⟨name, X.env.qual ++ name, params, body, scope, cloFrom X.env.cells scope.names [], c'⟩ cs fr → NScope N ps fr scope →
      (∀ (doc pm ctv : Value) (us : List Value), us.length = ps.length → bindArgs ((⟨name, X.env.qual ++ name, params, body, scope, cloFrom X.env.cells scope.names [], c'⟩ : NF).fd doc pm ctv) ⟨us, []⟩ = pure (ps.zip us)) →
      Room kg (X.A.deeper (envOfC g (defScope stg) s.heap.objs.size fg cdv)) →
      DSs (cxOf CX0 X.prog X.w X.K X.mg B Ng g (defScope stg) fg cdv X.A X.stack s H E0).nox Pg (defBody stg) (Bg (adrC f c' (X.env.qual ++ name) cs) (cs.map capS)))
    (hres : ∀ (d0 : PyData) (css : List S) (n y : PyData), res css n = some y → ∃ zs, runF Pg Ng.length (Bg d0 css) [.d n, .d d0] = some (.d y, zs))
    (hdb : (g == ("__debug__" : Str)) = false := by decide) (hdn : (name == ("__debug__" : Str)) = false := by decide) (hcn : (name == ("__classdict__" : Str)) = false := by decide)
    (hst : starEach (e :: [.Name name p2]) X.env = (false, eval e X.env) :: starEach [.Name name p2] X.env := by rfl)
    (hst2 : starEach [.Name name p2] X.env = (false, eval (.Name name p2) X.env) :: starEach [] X.env := by rfl)
    (hpl : (backTo pos (starEach [.Name name p2] X.env)).any (·.1) = false := by rfl) :
    DSs X P0 [.FunctionDef name params body [] none [] scope none name dpos, .Return (some (.Call (.Name g p) [e, .Name name p2] [] pos)) rpos] (retS (lotN i js res fe)) := by
  obtain ⟨fg, fdg, Fg, gm, b⟩ := U
  exact dss_ndefRet Mk L Fg Scg hg gm b hps hG (hr.mono hk) hfn he hN hi hx (fun B f c' cs cdv s H Φ => hbody fg B f c' cs cdv s H Φ L.sc fun doc pm ctv us h => L.bind _ _ _ doc pm ctv us h) hres hdb hdn hcn hst hst2 hpl
end
end DL

/-! tuple(range(i, j)), tuple(range(i, j, c)) -/
namespace DL
open PySem PySem.Spec PyProof.Rows L2
def rgVC (i k : Int) (n : Nat) : List V := (List.range n).map fun m => V.int (i + (m : Nat) * k)
section
variable {X : Cx} {a b c : Expr} {p rp pos rpos : Pos}
def tTupR2 (ta : TA) : TE := fun σ H Q => ta σ H fun vs H1 => ∃ (i j : Int), vs = [.int i, .int j] ∧ (-(2 ^ 62) ≤ i ∧ i < 2 ^ 62 ∧ -(2 ^ 62) ≤ j ∧ j < 2 ^ 62) ∧ (j - i).toNat ≤ 2 ^ 24 ∧ ∀ q, H1 q = none → Q (.ref q) (upd H1 q (.tup (rgVC i 1 (j - i).toNat)))
def tTupR3 (ta : TA) : TE := fun σ H Q => ta σ H fun vs H1 => ∃ (i j k : Int) (n : Nat), vs = [.int i, .int j, .int k] ∧ RgC i j k n ∧ n ≤ 2 ^ 24 ∧ ∀ q, H1 q = none → Q (.ref q) (upd H1 q (.tup (rgVC i k n)))
end
variable [TB]
def rgA2 (fa : AEV) : EV := fun δ => (fa δ).bind fun x => match x.1 with
  | [.v (.d (.int i)), .v (.d (.int j))] => if (-(2 ^ 62) ≤ i ∧ i < 2 ^ 62 ∧ -(2 ^ 62) ≤ j ∧ j < 2 ^ 62) ∧ (j - i).toNat ≤ 2 ^ 24 then some (.d (.tuple (rngC i 1 (j - i).toNat)), x.2) else none
  | _ => none
def rgA3 (fa : AEV) : EV := fun δ => (fa δ).bind fun x => match x.1 with
  | [.v (.d (.int i)), .v (.d (.int j)), .v (.d (.int c))] => if rgSmall i j c = true ∧ 0 ≤ Builtin.Range.rangeSize i j c ∧ (Builtin.Range.rangeSize i j c).toNat ≤ 2 ^ 24 then some (.d (.tuple (rngC i c (Builtin.Range.rangeSize i j c).toNat)), x.2) else none
  | _ => none
section
variable {X : Cx} {a b c : Expr} {p rp pos rpos : Pos} {fa : AEV}
end
end DL

/-! sorted(set(xs)), xs a list of pairs of whole numbers below 64 -/
namespace DL
open PySem PySem.Spec PyProof.Rows L2
def ltQ (p q : Int × Int) : Prop := p.1 < q.1 ∨ (p.1 = q.1 ∧ p.2 < q.2)
instance (p q : Int × Int) : Decidable (ltQ p q) := inferInstanceAs (Decidable (_ ∨ _))
def insQ (p : Int × Int) : List (Int × Int) → List (Int × Int)
  | [] => [p]
  | q :: r => if p = q then q :: r else if ltQ p q then p :: q :: r else q :: insQ p r
def usortQ : List (Int × Int) → List (Int × Int)
  | [] => []
  | p :: r => insQ p (usortQ r)
def tinyQ (p : Int × Int) : Bool := decide (0 ≤ p.1 ∧ p.1 < 64 ∧ 0 ≤ p.2 ∧ p.2 < 64)
def adOf : V → Addr
  | .ref a => a
  | _ => (0 : Nat)
variable [TB]
def sortSetPE (fa : PEV) : EV := fun δ => (fa δ).bind fun x => match x.1 with
  | .v (.d (.list xs)) => (prs xs).bind fun ps => if ps.length < 64 ∧ ps.all tinyQ = true then some (.o (.l ((usortQ ps).map pr)), x.2) else none
  | _ => none
section
variable {X : Cx} {a : Expr} {p p2 q pos : Pos}
end
end DL

/-! defs that may raise an exception of a class of the program, and try .. except X around a call of one -/
namespace DL
open PySem PySem.Spec PyProof.Rows L2
variable [TB]
abbrev veT : List Value := [.type "ValueError", .type "Exception", .type "BaseException", .type "object"]
inductive OX where
  | go (o : Out) | ex (n : Str) (δ : Ds)
abbrev SXV := Ds → Option OX
abbrev FX := List S → Option ((S × List (Option C)) ⊕ Str)
section
variable (K : PySem.W.Frag) (mg : Str → Option Value) (T : List Addr) (ρ : List (Option Addr)) (H : Hp) (σ : L2.St) (P : List Nat)
def PostX (D : Ends) (W : WX) : OX → Prop
  | .go o => PostS K T ρ H σ P D o
  | .ex n δ' => ∀ c, mg n = some c → ∀ ρ' σ' H', Sim K T ρ' δ' σ' H' → Ext T ρ H ρ' H' → Keep P σ σ' → W c none σ' H'
end
def liftX (K : PySem.W.Frag) (mg : Str → Option Value) (P : List Nat) (f : SXV) (W : WX) : TS := fun D σ H => ∃ T ρ δ o, Sim K T ρ δ σ H ∧ f δ = some o ∧ PostX K mg T ρ H σ P D W o
section
variable {K : PySem.W.Frag} {mg : Str → Option Value} {T : List Addr} {ρ ρ1 : List (Option Addr)} {H H1 : Hp} {σ σ1 : L2.St} {P : List Nat}
end
/-- a class of the program whose instances may be raised, without an __init__ of its own -/
structure ClsX (K : PySem.W.Frag) (mg : Str → Option Value) (n : Str) (bmB : List Value) : Prop where
  at' : ∃ C : Addr, mg n = some (.ref C) ∧ PySem.W.excIn K C bmB "ValueError.__new__" = true ∧ PySem.W.keepIn K (.ref C) = true ∧ PySem.W.subIn K (.ref C) (.type "BaseException") = some true ∧ PySem.W.typeIn K (.ref C) = some (.type "type")
/-- an exception of the one class is caught by the other one -/
def ExmX (K : PySem.W.Frag) (mg : Str → Option Value) (n m : Str) : Prop := ∃ c d, mg n = some c ∧ mg m = some d ∧ PySem.W.exmOne K c d = some true
section
variable {X : Cx} {P : List Nat} {W : WX} {pos pos2 p : Pos}
def guardX (t : TEV) (n : Str) (f : SEV) : SXV := fun δ => (t δ).bind fun r => if r.1 then some (.ex n r.2) else (f r.2).map .go
end
/-! ### the def -/
def notO : S → Bool
  | .o _ => false
  | _ => true
def runX (P : List Nat) (n : Nat) (body : SXV) : FX := fun ss => match body (ss.map some ++ List.replicate (n - ss.length) none) with
  | some (.go o) => (finF P ss (some o)).map .inl
  | some (.ex m _) => if ss.all notO then some (.inr m) else none
  | none => none
def goF (F : FX) : FN := fun ss => match F ss with
  | some (.inl r) => some r
  | _ => none
def spX (K : PySem.W.Frag) (mg : Str → Option Value) (m : Nat) (F : FX) : Sp := fun vs H Q E => ∃ T as ss, Sim K T as (ss.map some) (vs.map some) H ∧ ss.length = m ∧
  ((∃ r cs, F ss = some (.inl (r, cs)) ∧ PostF K T as H Q cs r) ∨ ∃ n, F ss = some (.inr n) ∧ ∀ c, mg n = some c → ∀ H', Ext T as H as H' → E c none H')
structure FnXG (Pr : Program) (w : World) (K : PySem.W.Frag) (mg : Str → Option Value) (base : Heap) (k : Nat) (f : Addr) (fd : FuncData) (ps : List Str) (sp : Sp) : Prop where
  len : ∀ vs H Q E, sp vs H Q E → vs.length = ps.length
  run : ∀ (A : Around) (outer : List Env) (s : Shared) (H : Hp) (args : Args) (us : List Value) (vs : List V) (Q : VK) (E : XK), A.guards = some [] → Room k A → Env0 Pr w K mg base A outer s H →
    BindsTo s fd args (ps.zip us) → Vals vs us → sp vs H Q E → codeAny (model Pr w) A (.call (.ref f) args) (CR (CX Pr w) outer Pr w H s Q E) s
theorem gfnX_of {Pr : Program} {w : World} {K : PySem.W.Frag} {mg : Str → Option Value} {base : Heap} {x qual : Str} {st : Stmt} {f : Addr} {fd : FuncData} {N ps : List Str} {k : Nat} {sp : Sp} (F : Fun K x qual st f fd) (Sc : FnScope N ps (defScope st))
    (hlen : ∀ vs H Q E, sp vs H Q E → vs.length = ps.length)
    (hbody : ∀ (cdv : Value) (A : Around) (outer : List Env) (s : Shared) (H : Hp) (vs : List V) (Q : VK) (E : XK), A.guards = some [] → Room k (A.deeper (envOfC qual (defScope st) s.heap.objs.size f cdv)) → sp vs H Q E →
      ∃ t, PSs (cxOf (CX Pr w) Pr w K mg base N qual (defScope st) f cdv A outer s H E) (defBody st) t ∧ t { nx := fun _ H' => Q .non H', rt := Q } (L2.start N vs) H) :
    FnXG Pr w K mg base (k + 1) f fd ps sp := by
  obtain ⟨oc, od, kV, doc, pm, an, cdv, ct, osl, efd, lk, hcd⟩ := F.ex
  subst efd
  constructor
  · exact hlen
  intro A outer s H args us vs Q E hG hr e0 hb r hsp
  have vl := hlen _ _ _ _ hsp
  have kept : ∀ b o, base.get? b = some o → s.heap.get? b = some o := fun b o e => (e0.bs b o e).1
  have KX : K.In s.heap := e0.mod.kin.keeps kept
  have nl : s.heap.NoLimit := e0.mod.nolimit.keeps kept
  have kinds : ∀ y ∈ ps.zip us, (defScope st).names.lookup y.1 = some .local ∨
      ((defScope st).names.lookup y.1 = some .cell ∧
        ((cellsFrom (s.heap.objs.size + 1) (defScope st).names []).lookup y.1).isSome = true) := by
    intro y hy
    have hm : y.1 ∈ ps := (List.of_mem_zip (a := y.1) (b := y.2) hy).1
    rcases Sc.par y.1 hm with q | q
    · exact .inl q
    · refine .inr ⟨q, ?_⟩
      exact PySem.W.cellsFrom_some _ _ _ (.inl q)
  refine codeAny_call_function hr.depth (KX _ _ lk) rfl Sc.co Sc.gen rfl ?_ (hb _ _ _ _ ?_)
  · exact PySem.W.codeRec_of KX hcd
  refine wpAny_newFunctionEnv_cells Sc.kind kinds ?_
  intro env henv s1 x1
  subst henv
  refine ⟨nl.keeps x1.toInCall.keep, ?_⟩
  apply codeAny_func
  obtain ⟨t, ht, hq⟩ := hbody cdv A outer s H vs Q E hG (hr.deeper _) hsp
  have I0 := inv_start (CX := CX Pr w) (E := E) Sc hr.hd e0 vl r x1
  have W := ht.run [] s1 (L2.start N vs) H _ I0 hq
  refine wpAny_mono W ?_ (fun _ _ z => z)
  intro fl s' hs
  cases fl with
  | ret u =>
    obtain ⟨v, σ', H', J, rv, q⟩ := hs
    exact ⟨v, H', J.os, J.bare, J.base, J.hok, rv, q⟩
  | next =>
    obtain ⟨σ', H', J, q⟩ := hs
    exact ⟨V.non, H', J.os, J.bare, J.base, J.hok, rfl, q⟩
  | brk => exact hs.elim fun _ z => z.elim fun _ z => z.2.elim
  | cont => exact hs.elim fun _ z => z.elim fun _ z => z.2.elim
/-- what stands at a def's end -/
theorem fn_end {K : PySem.W.Frag} {N : List Str} {P : List Nat} {T : List Addr} {as : List (Option Addr)} {ss : List S} {vs : List V} {H : Hp} {r : S} {cs : List (Option C)} {o : Out} {Q : VK} (hs : Sim K T as (ss.map some) (vs.map some) H)
    (hst' : Sim K T (as ++ List.replicate (N.length - ss.length) none) (ss.map some ++ List.replicate (N.length - ss.length) none) (L2.start N vs) H) (hF : finF P ss (some o) = some (r, cs)) (hq : PostF K T as H Q cs r) :
    PostS K T (as ++ List.replicate (N.length - ss.length) none) H (L2.start N vs) P { nx := fun _ H' => Q .non H', rt := Q } o := by
  have fin : ∀ (δ : Ds), ownC P 0 ss δ = some cs → ∀ (ρ' : List (Option Addr)) (σ' : L2.St) (H' : Hp), Sim K T ρ' δ σ' H' → Ext T (as ++ List.replicate (N.length - ss.length) none) H ρ' H' → Keep P (L2.start N vs) σ' →
      Same (hid T ρ' H') (hid T as H') ∧ Own K T as H' cs ∧ Ext T as H as H' := by
    intro δ hc ρ' σ' H' s1 x1 k1
    have each : ∀ (j : Nat) (a : Addr), as[j]? = some (some a) → ∃ c, ρ'[j]? = some (some a) ∧ δ[j]? = some (some (.o c)) ∧ cs[j]? = some (some c) := by
      intro j a hj
      obtain ⟨c0, hc0⟩ := hs.own' j a hj
      have hc1 : ss[j]? = some (.o c0) := by
        rw [List.getElem?_map] at hc0
        cases e : ss[j]? with
        | none => rw [e] at hc0; cases hc0
        | some z => rw [e] at hc0; cases hc0; rfl
      obtain ⟨hP, c, e1, e2⟩ := ownC_spec hc j c0 hc1
      obtain ⟨b, f1, f2⟩ := s1.own j c e1
      obtain ⟨a', g1, g2⟩ := hst'.own j c0 (get_app' hc0)
      rw [get_app' hj] at g1
      cases g1
      have := k1 j (by simpa using hP)
      rw [f2, g2] at this
      cases this
      exact ⟨c, f1, e1, e2⟩
    have hl : Same (hid T ρ' H') (hid T as H') := hid_less fun b hb => hb.elim .inl fun z => .inr (by
      obtain ⟨j, hj⟩ := mem_ix z
      obtain ⟨c, h1, _⟩ := each j b hj
      exact ix_mem h1)
    refine ⟨hl, fun j a hj => ?_, ?_, x1.tmp, x1.tabs⟩
    · obtain ⟨c, h1, h2, h3⟩ := each j a hj
      obtain ⟨v, e1, e2⟩ := s1.slot j _ h2
      obtain ⟨b, f1, f2⟩ := s1.own j c h2
      rw [h1] at f1
      cases f1
      rw [f2] at e1
      cases e1
      obtain ⟨b, o, z, z1, z2⟩ := e2
      cases z
      exact ⟨c, o, h3, z1, coM hl z2⟩
    · have := x1.same
      rw [hid_app] at this
      exact this.trans hl
  cases o with
  | bk δ => cases hF
  | ct δ => cases hF
  | nx δ =>
    have hF' : (ownC P 0 ss δ).map (fun cs => (S.d .none, cs)) = some (r, cs) := hF
    cases e : ownC P 0 ss δ with
    | none => rw [e] at hF'; cases hF'
    | some cs' =>
      rw [e] at hF'
      cases hF'
      intro ρ' σ' H' s1 x1 k1
      obtain ⟨a, b, c⟩ := fin δ e ρ' σ' H' s1 x1 k1
      exact hq _ H' b c .non
  | rt u δ =>
    have hF' : (ownC P 0 ss δ).map (fun cs => (u, cs)) = some (r, cs) := hF
    cases e : ownC P 0 ss δ with
    | none => rw [e] at hF'; cases hF'
    | some cs' =>
      rw [e] at hF'
      cases u with
      | o z =>
        cases hF'
        intro ρ' σ' p H0 o s1 x1 k1 hp hc
        obtain ⟨a, b, c⟩ := fin δ e ρ' σ' H0 s1 x1 k1
        exact hq p H0 o b c hp (coM a hc)
      | d z =>
        cases hF'
        intro ρ' σ' v H' s1 x1 k1 hv
        obtain ⟨a, b, c⟩ := fin δ e ρ' σ' H' s1 x1 k1
        exact hq v H' b c (svM (s := .d z) a hv)
      | t z =>
        cases hF'
        intro ρ' σ' v H' s1 x1 k1 hv
        obtain ⟨a, b, c⟩ := fin δ e ρ' σ' H' s1 x1 k1
        exact hq v H' b c (svM (s := .t z) a hv)
      | z z =>
        cases hF'
        intro ρ' σ' v H' s1 x1 k1 hv
        obtain ⟨a, b, c⟩ := fin δ e ρ' σ' H' s1 x1 k1
        exact hq v H' b c (svM (s := .z z) a hv)
      | p z =>
        cases hF'
        intro ρ' σ' v H' s1 x1 k1 hv
        obtain ⟨a, b, c⟩ := fin δ e ρ' σ' H' s1 x1 k1
        exact hq v H' b c (svM (s := .p z) a hv)
theorem FnXG.toG {Pr : Program} {w : World} {K : PySem.W.Frag} {mg : Str → Option Value} {base : Heap} {k m : Nat} {f : Addr} {fd : FuncData} {ps : List Str} {F : FX} (h : FnXG Pr w K mg base k f fd ps (spX K mg m F)) : FnG Pr w K mg base k f fd ps (spF K m (goF F)) := by
  have to : ∀ vs H Q E, spF K m (goF F) vs H Q E → spX K mg m F vs H Q E0 := fun vs H Q E hsp => by
    obtain ⟨T, as, ss, r, cs, hs, hl, hF, hq⟩ := hsp
    refine ⟨T, as, ss, hs, hl, .inl ⟨r, cs, ?_, hq⟩⟩
    unfold goF at hF
    cases e : F ss with
    | none => rw [e] at hF; cases hF
    | some y =>
      rw [e] at hF
      cases y with
      | inl y => cases hF; rfl
      | inr y => cases hF
  refine ⟨fun vs H Q E hsp => h.len vs H Q _ (to _ _ _ _ hsp), fun A outer s H args us vs Q E hG hr e0 hb r hsp => ?_⟩
  refine codeAny_mono (h.run A outer s H args us vs Q E0 hG hr e0 hb r (to _ _ _ _ hsp)) fun rs s' hq => ?_
  cases rs with
  | error e =>
    obtain ⟨_, _, _, _, _, _, _, _, _, _, _, _, z⟩ := hq
    exact z.elim
  | ok fl => cases fl <;> exact hq
structure DefX (Pr : Program) (w : World) (K : PySem.W.Frag) (mg : Str → Option Value) (base : Heap) (k : Nat) (x : Str) (ps : List Str) (F : FX) : Prop where
  at' : ∃ f fd, mg x = some (.ref f) ∧ PySem.W.keepIn K (.ref f) = true ∧ Binds K fd ps [] ∧ FnXG Pr w K mg base k f fd ps (spX K mg ps.length F)
theorem DefX.toDef {Pr : Program} {w : World} {K : PySem.W.Frag} {mg : Str → Option Value} {base : Heap} {k : Nat} {x : Str} {ps : List Str} {F : FX} (h : DefX Pr w K mg base k x ps F) : Def Pr w K mg base k x ps (goF F) := by
  obtain ⟨f, fd, h1, h2, h3, h4⟩ := h.at'
  exact ⟨f, fd, h1, h2, h3, h4.toG⟩
/-! ### its call, as a statement -/
def excAt (F : FX) (m : Nat) (fa : AEV) : Ds → Option (Str × Ds) := fun δ => (fa δ).bind fun x => (resA x.2 x.1).bind fun ss => if (x.1.filterMap PV.ix).Nodup ∧ ss.length = m ∧ ss.all notO = true then (match F ss with
  | some (.inr n) => some (n, x.2)
  | _ => none) else none
def stX (mk : EV → SEV) (F : FX) (m : Nat) (fa : AEV) : SXV := fun δ => match excAt F m fa δ with
  | some (n, δ1) => some (.ex n δ1)
  | none => (mk (callE (goF F) m fa) δ).map .go
section
variable {X : Cx} {P : List Nat} {W : WX} {pos p : Pos} {e : Expr} {es : List Expr} {x : Str}
theorem liftA_imp {K : PySem.W.Frag} {fa : AEV} {σ : L2.St} {H : Hp} {Q Q' : List V → Hp → Prop} (h : liftA K fa σ H Q) (k : ∀ vs H1, Q vs H1 → Q' vs H1) : liftA K fa σ H Q' := by
  obtain ⟨T, ρ, δ, ps, δ', hs, hf, hq⟩ := h
  exact ⟨T, ρ, δ, ps, δ', hs, hf, fun ρ' vs H' s1 x1 p1 => k _ _ (hq ρ' vs H' s1 x1 p1)⟩
theorem wb_nones {δ : Ds} : ∀ (ps : List PV) (k : Nat), ps.length ≤ k → wb δ ps (List.replicate k none) = some δ
  | [], _, _ => by simp [wb]
  | .v s :: ps, 0, h => by simp at h
  | .own i :: ps, 0, h => by simp at h
  | .v s :: ps, k + 1, h => by
    rw [List.replicate_succ]
    exact wb_nones ps k (by simpa using h)
  | .own i :: ps, k + 1, h => by
    rw [List.replicate_succ]
    exact wb_nones ps k (by simpa using h)
section
variable {k j m : Nat} {ps : List Str} {F : FX} {fa : AEV}
end
/-! ### try -/
def tryS (f : SXV) (hit : Str → Bool) (g : SEV) : SEV := fun δ => (f δ).bind fun o => match o with
  | .go o => some o
  | .ex n δ' => if hit n then g δ' else none
end
end DL

/-! sorted(a list of numbers) -/
namespace DL
open PySem PySem.Spec PyProof.Rows L2 DLS
variable [TB]
def fSortedIL : List S → Option S
  | [s] => (asL s).bind fun xs => (intsP xs).map fun ns => .o (.l ((sortI ns).map PyData.int))
  | _ => none
section
variable {X : Cx} {e : Expr} {es : List Expr} {pos p : Pos} {fa : AEV}
end
end DL

/-! except X as n: m = n, the exception kept as a value; is None, isinstance of it -/
namespace DL
open PySem PySem.Spec PyProof.Rows L2
/-- an exception's object, which is only pinned, becomes tracked -/
theorem track_exc {X : Cx} {pins : List (Addr × Obj)} {σ : L2.St} {H : Hp} {s : Shared} {a : Addr} {oe : Obj} {cl : Value} {d : Option Addr} (I : L2.Inv X pins σ H s) (ho : s.heap.get? a = some oe) (hz : oe.cls = cl ∧ oe.dict = d) (hd : ∃ vs, oe.data = .fields vs) (na : H a = none)
    (nL : a ≠ X.env.locals) (new : X.s_0.heap.get? a = none) (np : ∀ p ∈ X.pn ++ pins, p.1 ≠ a) : L2.Inv X pins σ (upd H a (ExV cl d a)) s := by
  obtain ⟨vs, hvs⟩ := hd
  have ne0 : ∀ b o, X.s_0.heap.get? b = some o → b ≠ a := fun b o e z => by
    rw [z, new] at e
    cases e
  have neS : ∀ {b : Addr} {o : HO}, H b = some o → b ≠ a := fun q => ne_of_none q na
  constructor
  · exact I.ok
  · exact I.os
  · exact I.bare
  · constructor
    · exact I.base.keep
    · exact I.base.slot
    · intro b o e n hq
      rw [upd_ne (ne0 b o e)]
      exact I.base.free b o e n hq
    · exact I.base.there
    · intro b xs e
      have q := I.base.tups b xs e
      rw [upd_ne (neS q)]
      exact q
    · intro b o xs e
      have q := I.base.frzs b o xs e
      rw [upd_ne (neS q)]
      exact q
    · intro b ps e
      obtain ⟨m, q⟩ := I.base.tbls b ps e
      exact ⟨m, by rw [upd_ne (neS q)]; exact q⟩
  · exact I.loc
  · exact I.cell
  · rw [upd_ne (Ne.symm nL)]
    exact I.free
  · intro x c e
    have hc : c ≠ a := fun z => by
      obtain ⟨v, o, h1, h2⟩ := I.cell x c e
      rw [z, ho] at h1
      cases h1
      rw [hvs] at h2
      cases h2
    rw [upd_ne hc]
    exact I.freeC x c e
  · intro p hp
    obtain ⟨e, n, r⟩ := I.pin p hp
    exact ⟨e, by rw [upd_ne (np p hp)]; exact n, r⟩
  · exact L2.HOk.laidN I.hok (h' := s.heap) (fun _ _ e => e) na ⟨⟨oe, vs, ho, hz.1, hz.2, hvs⟩, ⟨oe, ho⟩, fun h1 h2 ⟨o, vs', q, r⟩ k => ⟨o, vs', k o q, r⟩⟩
  · exact I.len
/-- what the clause 'except x as n' wishes where its suite only ends, and the exception is kept -/
def wKeep (K : PySem.W.Frag) (c : Value) (i : Nat) (ts : Addr → Value → Option Addr → TS) (Wout : WX) (D : Ends) : WX := fun cl d σ H =>
  ∃ b, PySem.W.exmOne K cl c = some b ∧ (b = true → ∀ a, H a = none → ts a cl d { nx := fun σ' H' => D.nx (σ'.set i none) (upd H' a (ExV cl d a)), rt := fun _ _ => False } (σ.set i (some (.ref a))) H) ∧ (b = false → Wout cl d σ H)
section
variable {X : Cx} {x n : Str} {c : Value} {i : Nat} {body suite : List Stmt} {b0 : Stmt} {np pos pos' : Pos} {tb : WX → TS} {ts : Addr → Value → Option Addr → TS} {Wout : WX}
theorem ps_tryKeep (hs : X.stack = X.env :: X.outer) (hf : X.env.frame = some X.env.locals) (hex : X.ex = []) (hN : X.N.Nodup) (hi : X.N[i]? = some n) (hln : X.env.kindOf n = some .local) (hc : Names X x c) (tk : Takes X Wout) (hnone : ∀ cl d σ H, ¬ Wout cl d σ H)
    (hb : ∀ (W : WX) (pn : List (Addr × Obj)) (xe : Value → Shared → Prop), Takes (X.tr pn xe) W → PassesOwn (model X.prog X.w) X.A X.env xe → PSs (X.tr pn xe) body (tb W))
    (hsu : ∀ (a : Addr) (oe : Obj) (cl : Value) (d : Option Addr) (pn : List (Addr × Obj)), Zc cl d oe → (∃ vs, oe.data = .fields vs) → PSs (X.suite a ((a, oe) :: pn)) (b0 :: suite) (ts a cl d)) :
    PS X (.Try body [.ExceptHandler (some (.Name x np)) (some n) (b0 :: suite) pos'] [] [] pos) (fun D σ H => tb (wKeep X.K c i ts Wout D) D σ H) := by
  constructor
  intro pins st σ H D I h
  have okX := I.ok
  have frm : X.A.frames = some (X.env :: X.outer) := by
    rw [okX.frames, hs]
  have locn : Loc X.env.scope n := .inl hln
  apply wpAny_Try_except
  let After : Value → Shared → Prop := fun e r1 => wpAny (model X.prog X.w) X.A (noteFrame e X.env) (fun _ r2 => wpAny (model X.prog X.w) X.A (setFlight e none) (fun _ r3 =>
    wpAny (model X.prog X.w) X.A (handleBy e X.env [.ExceptHandler (some (.Name x np)) (some n) (b0 :: suite) pos']) (SP X pins D) X.xe r3) X.xe r2) X.xe r1
  have taken : Takes (X.tr (X.pn ++ pins) After) (wKeep X.K c i ts Wout D) := by
    intro u sE xx
    obtain ⟨ad, Gr, s0, pins0, σ1, H1, cl, dc, rfl, J0, hGr, hup, hsky, hna, hos, hbare, b, hm, hyes, hno⟩ := xx
    have J : Inv X pins σ1 H1 s0 := J0.ofTry okX
    have hsky2 : Sky Gr (X.env :: X.outer) ad (Zc cl dc) X.env.locals sE.heap := by
      rw [← hs]
      exact hsky
    apply Sky.land Zc.steady frm hf hsky2
    intro hp3 fly3 up3
    have J3 : Inv X pins σ1 H1 { sE with heap := hp3 } := J.landed hGr fly3.1 (hup.trans up3) hos hbare
    obtain ⟨ob3, vs3, hget3, hzc3, hdat3⟩ := fly3.there
    have notIn : ad ∉ frs (X.env :: X.outer) := fun hmem => by
      obtain ⟨_, o1, e1, hnf⟩ := fly3.2.2.1.mem hmem
      rw [hget3] at e1
      cases e1
      exact hnf _ hdat3
    have neL : ad ≠ X.env.locals := fun z => by
      apply notIn
      apply List.mem_filterMap.mpr
      exact ⟨X.env, List.mem_cons_self, by rw [hf, z]⟩
    have neF : ad ∉ X.fs := fun hmem => by
      obtain ⟨ev, hev, q⟩ := List.mem_filterMap.mp hmem
      apply notIn
      exact List.mem_filterMap.mpr ⟨ev, List.mem_cons_of_mem _ hev, q⟩
    have fresh : Gr.get? ad = none := fly3.2.1
    have notStack : ad ∉ frs X.stack := by
      rw [hs]
      exact notIn
    have newS : X.s_0.heap.get? ad = none := by
      cases e : X.s_0.heap.get? ad with
      | none => rfl
      | some o =>
        obtain ⟨o2, e2⟩ := J.base.there ad o e (by rw [hex]; exact List.not_mem_nil)
        have := hGr ad o2 e2 notStack
        rw [fresh] at this
        cases this
    have notPin : ∀ p ∈ X.pn ++ pins, p.1 ≠ ad := fun p hp z => by
      obtain ⟨e1, _⟩ := J.pin p hp
      rw [z] at e1
      have := hGr ad _ e1 notStack
      rw [fresh] at this
      cases this
    have S3 := J3.suite hget3 hdat3 hna neL neF
    apply wpAny_handleBy_cons _ (by intro q; cases q)
    apply codeAny_handlers_test
    have isT : PySem.W.Looks (model X.prog X.w) hp3 (typeOf (.ref ad)) cl := fun A Q E s k q => by
      apply wpAny_typeOf_ref (k _ _ hget3)
      rw [hzc3.1]
      exact q
    have meets := PySem.W.exm_one (M := model X.prog X.w) (J3.kIn) isT hm
    have named : ∀ {Q : Value → Shared → Prop} {E : Value → Shared → Prop}, Q c { sE with heap := hp3 } → wpAny (model X.prog X.w) (X.A.mark (some (.ref ad))) (eval (.Name x np) X.env) Q E { sE with heap := hp3 } := fun {Q E} q => by
      obtain ⟨hgl, hdb, hmg | ⟨hmg, hv, hnn⟩⟩ := hc
      · exact ld_glob (X := X.suite ad ((ad, ob3) :: (X.pn ++ pins))) S3 hgl hmg q hdb
      · exact ld_blt (X := X.suite ad ((ad, ob3) :: (X.pn ++ pins))) S3 hgl hmg hv q hnn hdb
    apply named
    apply meets.here
    cases b with
    | false => exact absurd (hno rfl) (hnone _ _ _ _)
    | true =>
      apply codeAny_handlers_suite_as
      apply HandSPX.lands_againZ fly3
      intro hp4 fly4 up4
      have J4 : Inv X pins σ1 H1 { sE with heap := hp4 } := J.landed hGr fly4.1 ((hup.trans up3).trans up4) hos hbare
      obtain ⟨ob4, vs4, hget4, hzc4, hdat4⟩ := fly4.there
      have S4 := J4.suite hget4 hdat4 hna neL neF
      refine store_ok (X := X.suite ad ((ad, ob4) :: (X.pn ++ pins))) (v := .ref ad) S4 hN hi locn rfl (fun s5 S5 => ?_) (.inr hln)
      have run := (hsu ad ob4 cl dc (X.pn ++ pins) hzc4 ⟨_, hdat4⟩).run [] s5 _ H1 _ S5 (hyes rfl ad hna)
      refine wpAny_mono run (fun fl s6 hsp => ?_) (fun _ _ z => False.elim z)
      cases fl with
      | brk => exact hsp.elim fun _ z => z.elim fun _ z => z.2.elim
      | cont => exact hsp.elim fun _ z => z.elim fun _ z => z.2.elim
      | ret u => exact hsp.elim fun _ z => z.elim fun _ z => z.elim fun _ z => z.2.2.elim
      | next =>
        obtain ⟨σ6, H6, S6, q6⟩ := hsp
        obtain ⟨e6, n6, _⟩ := S6.pin (ad, ob4) (List.mem_append_left _ List.mem_cons_self)
        have J6 : Inv X ((ad, ob4) :: pins) σ6 H6 s6 := by
          have U := S6.unsuite okX
          refine ⟨okX, U.os, U.bare, U.base, U.loc, U.cell, U.free, U.freeC, fun p hp => ?_, U.hok, U.len⟩
          rcases List.mem_append.mp hp with hp | hp
          · exact U.pin p (List.mem_append_left _ hp)
          · rcases List.mem_cons.mp hp with e | hp
            · have := S6.pin (ad, ob4) (List.mem_append_left _ List.mem_cons_self)
              rw [e]
              exact ⟨this.1, this.2.1, neL, neF, fun v z => by rw [show ob4.data = .fields vs4 from hdat4] at z; cases z⟩
            · exact U.pin p (List.mem_append_right _ hp)
        refine gone_ok J6 hN hi hln fun s7 J7 => ?_
        obtain ⟨e7, n7, _⟩ := J7.pin (ad, ob4) (List.mem_append_right _ List.mem_cons_self)
        have J7' : Inv X pins (σ6.set i none) H6 s7 := ⟨okX, J7.os, J7.bare, J7.base, J7.loc, J7.cell, J7.free, J7.freeC, fun p hp => J7.pin p (by
          rcases List.mem_append.mp hp with hp | hp
          · exact List.mem_append_left _ hp
          · exact List.mem_append_right _ (List.mem_cons_of_mem _ hp)), J7.hok, J7.len⟩
        exact ⟨_, _, track_exc J7' e7 hzc4 ⟨_, hdat4⟩ n7 neL newS notPin, q6⟩
  have run := (hb (wKeep X.K c i ts Wout D) (X.pn ++ pins) After taken PassesOwn.looking).run [] st σ H D (I.toTry _) h
  refine wpAny_mono run (fun fl s1 hsp => ?_) (fun e s1 he => he)
  cases fl with
  | next =>
    obtain ⟨σ1, H1, J1, q⟩ := hsp
    apply wpAny_execs_nil
    exact ⟨σ1, H1, J1.ofTry okX, q⟩
  | brk =>
    obtain ⟨σ1, H1, J1, q⟩ := hsp
    exact ⟨σ1, H1, J1.ofTry okX, q⟩
  | cont =>
    obtain ⟨σ1, H1, J1, q⟩ := hsp
    exact ⟨σ1, H1, J1.ofTry okX, q⟩
  | ret u =>
    obtain ⟨v, σ1, H1, J1, r, q⟩ := hsp
    exact ⟨v, σ1, H1, J1.ofTry okX, r, q⟩
end
/-! ### the same over data -/
variable [TB]
theorem Sim.setN0 {K : PySem.W.Frag} {T : List Addr} {ρ : List (Option Addr)} {δ : Ds} {σ : L2.St} {H : Hp} {i : Nat} {y : Option V} (h : Sim K T ρ δ σ H) (hi : δ[i]? = some none) : Sim K T ρ δ (σ.set i y) H := by
  have ne : ∀ {j : Nat} {s : S}, δ[j]? = some (some s) → i ≠ j := fun hj z => by
    rw [z, hj] at hi
    cases hi
  refine ⟨h.len, by rw [List.length_set]; exact h.slen, fun j s hj => ?_, fun j c hj => ?_, h.own', h.inj, h.nt, h.tmp, h.tabT, h.tabs⟩
  · obtain ⟨v, a, b⟩ := h.slot j s hj
    exact ⟨v, by rw [List.getElem?_set_ne (ne hj)]; exact a, b⟩
  · obtain ⟨a, b, c'⟩ := h.own j c hj
    exact ⟨a, b, by rw [List.getElem?_set_ne (ne hj)]; exact c'⟩
def isNn : Option (Option S) → Bool
  | some none => true
  | _ => false
theorem isNn_eq {o : Option (Option S)} (h : isNn o = true) : o = some none := by
  match o, h with
  | some none, _ => rfl
def tryK (f : SXV) (hit : Str → Bool) (i m : Nat) : SEV := fun δ => (f δ).bind fun o => match o with
  | .go o => some o
  | .ex n δ' => if hit n = true ∧ isNn (δ'[i]?) = true then some (.nx (δ'.set m (some (.d (excC n))))) else none
section
variable {X : Cx} {P : List Nat} {pos : Pos} {x : Str}
end
/-! ### isinstance of an exception that is kept -/
def rIsV (K : PySem.W.Frag) : List V → Hp → VK → Prop := fun xs H Q => ∃ (a D : Addr) (c : V) (cv : Value) (b : Bool), xs = [.ref a, c] ∧ H a = some (ExV (.ref D) none a) ∧ ExcC K D ∧ (∀ u, RelV c u → u = cv) ∧ PySem.W.kitOne K (.ref D) cv = some b ∧ Q (.bl b) H
def rIsVT (K : PySem.W.Frag) : List V → Hp → VK → Prop := fun xs H Q => ∃ (a D t : Addr) (cs : List Addr) (b : Bool), xs = [.ref a, .ref t] ∧ H a = some (ExV (.ref D) none a) ∧ ExcC K D ∧ H t = some (.tup (cs.map V.ref)) ∧ PySem.W.kitAny K (.ref D) (cs.map Value.ref) = some b ∧ Q (.bl b) H
section
variable {X : Cx}
theorem refs_vals : ∀ {cs : List Addr} {us : List Value}, Vals (cs.map V.ref) us → us = cs.map Value.ref
  | [], _, .nil => rfl
  | c :: cs, _, .cons h t => by
    cases h
    rw [refs_vals t]
    rfl
/-- names of classes, as values -/
def GlbA (X : Cx) (es : List Expr) (cs : List Addr) : Prop := PA X es (fun _ H Q => Q (cs.map V.ref) H)
theorem glb_nil : GlbA X [] [] := pa_nil
theorem glb_cons {y : Str} {p : Pos} {c : Addr} {es : List Expr} {cs : List Addr} (hg : Gl X y) (hm : X.mg y = some (.ref c)) (h : GlbA X es cs) (hd : (y == ("__debug__" : Str)) = false := by decide) (he : starEach (.Name y p :: es) X.env = (false, eval (.Name y p) X.env) :: starEach es X.env := by rfl) : GlbA X (.Name y p :: es) (c :: cs) :=
  pa_cons (pe_glob (v := .ref c) hg hm rfl hd) h he
def isXE (R hits : List Str) (f : PEV) : EV := fun δ => (f δ).bind fun x => match x.1 with
  | .v (.d (.dict [(.int k, .str n), (.none, .none)])) => if k = konI ∧ R.contains n = true then some (.d (.bool (hits.contains n)), x.2) else none
  | _ => none
variable {a : Expr} {fa : PEV} {pos p1 p2 : Pos}
end
end DL

/-! tuples of whole numbers that may be asked for a place: tuple(range(..)) laid so, t + u, t.index(k) -/
namespace DL
open PySem PySem.Spec PyProof.Rows L2
section
variable {X : Cx} {a b : Expr} {p rp pos rpos : Pos}
def tTupR2F (ta : TA) : TE := fun σ H Q => ta σ H fun vs H1 => ∃ (i j : Int), vs = [.int i, .int j] ∧ (-(2 ^ 62) ≤ i ∧ i < 2 ^ 62 ∧ -(2 ^ 62) ≤ j ∧ j < 2 ^ 62) ∧ (j - i).toNat ≤ 2 ^ 24 ∧ ∀ q o, o.dict = none → H1 q = none → Q (.ref q) (upd H1 q (.frz o (.tup (rgVC i 1 (j - i).toNat))))
def tTupR1F (ta : TA) : TE := fun σ H Q => ta σ H fun vs H1 => ∃ (j : Int), vs = [.int j] ∧ (-(2 ^ 62) ≤ j ∧ j < 2 ^ 62) ∧ j.toNat ≤ 2 ^ 24 ∧ ∀ q o, o.dict = none → H1 q = none → Q (.ref q) (upd H1 q (.frz o (.tup (rgVC 0 1 j.toNat))))
/-- t + u, both so laid -/
def rCatF : R2 := fun x y H Q => ∃ a b oa ob xs ys, x = .ref a ∧ y = .ref b ∧ H a = some (.frz oa (.tup xs)) ∧ H b = some (.frz ob (.tup ys)) ∧ xs.length + ys.length ≤ sizeLine ∧
  (xs = [] → Q (.ref b) H) ∧ (xs ≠ [] → ys = [] → Q (.ref a) H) ∧ (xs ≠ [] → ys ≠ [] → ∀ p o, o.dict = none → H p = none → Q (.ref p) (upd H p (.frz o (.tup (xs ++ ys)))))
/-- t.index(k), k is there -/
def tIdx (to : TE) (t : TA) : TE := fun σ H Q => to σ H fun x H1 => ∃ (q : Addr) (o : Obj) (is : List Int), x = .ref q ∧ o.dict = none ∧ H1 q = some (.frz o (.tup (is.map V.int))) ∧ t σ H1 fun vs H2 => H2 q = some (.frz o (.tup (is.map V.int))) ∧ ∃ k : Int, vs = [.int k] ∧ k ∈ is ∧ Q (.int (is.idxOf k : Nat)) H2
end
variable [TB]
def rgI2 (fa : AEV) : EV := fun δ => (fa δ).bind fun x => match x.1 with
  | [.v (.d (.int i)), .v (.d (.int j))] => if (-(2 ^ 62) ≤ i ∧ i < 2 ^ 62 ∧ -(2 ^ 62) ≤ j ∧ j < 2 ^ 62) ∧ (j - i).toNat ≤ 2 ^ 24 then some (.d (idxC ((List.range (j - i).toNat).map fun m => i + (m : Nat) * 1)), x.2) else none
  | _ => none
def rgI1 (fa : AEV) : EV := fun δ => (fa δ).bind fun x => match x.1 with
  | [.v (.d (.int j))] => if (-(2 ^ 62) ≤ j ∧ j < 2 ^ 62) ∧ j.toNat ≤ 2 ^ 24 then some (.d (idxC ((List.range j.toNat).map fun m => 0 + (m : Nat) * 1)), x.2) else none
  | _ => none
section
variable {X : Cx} {a b : Expr} {p rp pos rpos : Pos} {fa : AEV}
/-- the numbers of such a tuple -/
def idxU : PyData → Option (List Int)
  | .dict [(.int k, .tuple is), (.none, .none)] => if k = konI then intsU is else none
  | _ => none
def opCatI (a b : S) : Option S := match a, b with
  | .d x, .d y => (idxU x).bind fun xs => (idxU y).bind fun ys => if xs.length + ys.length ≤ sizeLine then some (.d (idxC (xs ++ ys))) else none
  | _, _ => none
def fIdx (f : PEV) (fa : AEV) : EV := fun δ => (f δ).bind fun x => match x.1 with
  | .v (.d dx) => (idxU dx).bind fun is => (fa x.2).bind fun y => match y.1 with
    | [.v (.d (.int k))] => if k ∈ is then some (.d (.int (is.idxOf k : Nat)), y.2) else none
    | _ => none
  | _ => none
end
end DL

/-! calls by names said from the second to the last and then the first; raising defs called by names; return f(..) if t else f(..) of such -/
namespace DL
open PySem PySem.Spec PyProof.Rows L2 DLS
variable [TB]
def rotR {α : Type} (l : List α) : List α := l.drop 2 ++ l.take 2
def rotL {α : Type} (l : List α) : List α := l.drop 1 ++ l.take 1
def rotA (fa : AEV) : AEV := fun δ => (fa δ).map fun x => (rotR x.1, x.2)
def DefR (Pr : Program) (w : World) (K : PySem.W.Frag) (mg : Str → Option Value) (base : Heap) (k : Nat) (name : Str) (ps : List Str) (F : FN) : Prop :=
  ∃ a fd, mg name = some (.ref a) ∧ PySem.W.keepIn K (.ref a) = true ∧ (∀ (s : Shared) (ws : List Value), K.In s.heap → ws.length = ps.length → BindsTo s fd ⟨[], (rotL ps).zip ws⟩ (ps.zip (rotR ws))) ∧ FnG Pr w K mg base k a fd ps (spF K ps.length F)
section
variable {X : Cx} {e : Expr} {kws : List Keyword} {kpos p pos : Pos} {nm : Option Str}
end
/-! ### raising defs by names -/
structure DefXK (Pr : Program) (w : World) (K : PySem.W.Frag) (mg : Str → Option Value) (base : Heap) (k : Nat) (x : Str) (ps : List Str) (F : FX) : Prop where
  at' : ∃ f fd, mg x = some (.ref f) ∧ PySem.W.keepIn K (.ref f) = true ∧ (∀ (s : Shared) (ws : List Value), K.In s.heap → ws.length = ps.length → BindsTo s fd ⟨[], ps.reverse.zip ws⟩ (ps.zip ws.reverse)) ∧ FnXG Pr w K mg base k f fd ps (spX K mg ps.length F)
section
variable {X : Cx} {P : List Nat} {W : WX} {pos p : Pos} {kws : List Keyword} {x : Str}
def retIfX (t : TEV) (F : FX) (m : Nat) (fa fb : AEV) : SXV := fun δ => (t δ).bind fun r => if r.1 then stX retS F m fa r.2 else stX retS F m fb r.2
end
end DL

/-! for x, y, u in zip(a, b, c), three tuples -/
namespace DL
open PySem PySem.Spec PyProof.Rows L2
/-- the tuples at a, b, c as they stand at each turn, n of the shortest -/
def Itz3 (K : PySem.W.Frag) (a b c : Addr) (n : Nat) : L2.It :=
  ⟨fun i H => i < n ∧ ∃ (xs ys zs : List V) (x y u : V), SqT K H a xs ∧ SqT K H b ys ∧ SqT K H c zs ∧ xs[i]? = some x ∧ ys[i]? = some y ∧ zs[i]? = some u,
    fun i H v H' => ∃ T x y u, v = .ref T ∧ H T = none ∧ H' = upd H T (.tup [x, y, u]) ∧ (∀ xs, SqT K H a xs → xs[i]? = some x) ∧ (∀ ys, SqT K H b ys → ys[i]? = some y) ∧ ∀ zs, SqT K H c zs → zs[i]? = some u,
    fun i H => n ≤ i ∧ ∃ xs ys zs : List V, SqT K H a xs ∧ SqT K H b ys ∧ SqT K H c zs ∧ min (min xs.length ys.length) zs.length = n⟩
/-- the cells of the iterator, its tuples elsewhere -/
structure Sep3 (z TI TO i1 i2 i3 a b c : Nat) : Prop where
  ws : [z, TI, TO, i1, i2, i3].Nodup
  ta : a ∉ [z, TI, TO, i1, i2, i3]
  tb : b ∉ [z, TI, TO, i1, i2, i3]
  tc : c ∉ [z, TI, TO, i1, i2, i3]
theorem Sep3.sep {z TI TO i1 i2 i3 a b c : Nat} (D : Sep3 z TI TO i1 i2 i3 a b c) : ZipSep3 z TI TO i1 i2 i3 [i1, a] [i2, b] [i3, c] := by
  have h := D.ws
  have ha := D.ta
  have hb := D.tb
  have hc := D.tc
  simp only [List.nodup_cons, List.mem_cons, List.not_mem_nil, or_false, not_or] at h ha hb hc
  obtain ⟨⟨h1, h2, h3, h4, h5⟩, ⟨h6, h7, h8, h9⟩, ⟨h10, h11, h12⟩, ⟨h13, h14⟩, h15, _⟩ := h
  obtain ⟨a1, a2, a3, a4, a5, a6⟩ := ha
  obtain ⟨b1, b2, b3, b4, b5, b6⟩ := hb
  obtain ⟨c1, c2, c3, c4, c5, c6⟩ := hc
  have no : ∀ {x p q : Nat}, x ≠ p → x ≠ q → x ∉ [p, q] := fun e1 e2 h => by
    rcases List.mem_cons.mp h with e | h
    · exact e1 e
    · exact e2 (List.mem_singleton.mp h)
  exact ⟨Ne.symm h1, Ne.symm h2, h6, h7, List.mem_cons_self, no h3 (Ne.symm a1), no h10 (Ne.symm a3), h8, List.mem_cons_self, no h4 (Ne.symm b1), no h11 (Ne.symm b3), h9, List.mem_cons_self, no h5 (Ne.symm c1), no h12 (Ne.symm c3),
    no h13 (Ne.symm b4), no h14 (Ne.symm c4), no (Ne.symm h13) (Ne.symm a5), no h15 (Ne.symm c5), no (Ne.symm h14) (Ne.symm a6), no (Ne.symm h15) (Ne.symm b6)⟩
def iZip3 (K : PySem.W.Frag) (ta : TA) : TI := fun σ H R => ta σ H fun vs H1 => ∃ a b c xs ys zs, vs = [.ref a, .ref b, .ref c] ∧ SqT K H1 a xs ∧ SqT K H1 b ys ∧ SqT K H1 c zs ∧ R (Itz3 K a b c (min (min xs.length ys.length) zs.length)) H1
/-! the same over data -/
variable [TB]
def zip3D (xs ys zs : List PyData) : List PyData := (xs.zip (ys.zip zs)).map fun p => .tuple [p.1, p.2.1, p.2.2]
def zip3X (fa : AEV) : IEV := fun δ => (fa δ).bind fun x => match x.1 with
  | [.v (.d (.tuple xs)), .v (.d (.tuple ys)), .v (.d (.tuple zs))] => some (zip3D xs ys zs, x.2)
  | _ => none
end DL

/-! sorted(set(t)), t a tuple of tuples of whole numbers of one length -/
namespace DL
open PySem PySem.Spec PyProof.Rows L2 DLS
section
variable {P : Program} {w : World} {A : Around} {E : Value → Shared → Prop} {s : Shared}
abbrev set0 (w : World) : Obj := { cls := .type "set", dict := none, data := .set #[] 0 (.fresh 0 0 (!w.params.followText "set-order")) }
theorem none_above {h : Heap} {b : Addr} (hb : h.objs.size ≤ b) : h.get? b = none := by
  cases q : h.get? b with
  | none => rfl
  | some o => exact absurd (Nat.lt_of_lt_of_le (Heap.lt_size q) hb) (Nat.lt_irrefl _)
end
/-! unlike tuples in their order -/
def insL (p : List Int) : List (List Int) → List (List Int)
  | [] => [p]
  | q :: r => if p = q then q :: r else if lexL p q = true then p :: q :: r else q :: insL p r
def usortL : List (List Int) → List (List Int)
  | [] => []
  | p :: r => insL p (usortL r)
abbrev Lx (x y : List Int) : Prop := lexL x y = true
variable [TB]
/-- tuples of one length, not empty, of small numbers -/
def oneLen : List (List Int) → Bool
  | [] => true
  | r :: rs => !r.isEmpty && rs.all fun q => q.length == r.length
def smallR (r : List Int) : Bool := r.all fun m => decide (0 ≤ m ∧ m < 1024)
def sortSetTE (fa : PEV) : EV := fun δ => (fa δ).bind fun x => match x.1 with
  | .v (.d (.tuple xs)) => (rowsP xs).bind fun rs => if rs.length < 64 ∧ oneLen rs = true ∧ rs.all smallR = true then some (.o (.l ((usortL rs).map tupI)), x.2) else none
  | _ => none
section
variable {X : Cx} {a : Expr} {p p2 q pos : Pos}
end
/-! ### tuple(a flat table) -/
section
variable {prog : Program} {w : World} {A : Around} {E : Value → Shared → Prop} {s : Shared}
open PySem.W in
theorem call_tuple_src {d : Addr} {n : Nat} {P : Nat → Value → Prop} {OK : Heap → Prop} {Q : Value → Shared → Prop} (K : KdlSrc prog w "dict" d d n P OK) (hh : A.handled = none) (hok : OK s.heap) (hn : n ≤ sizeLine)
    (h : ∀ (h' : Heap) (tk : Nat) (acc : Array Value), (∀ b o, s.heap.get? b = some o → h'.get? b = some o) → ItemsOf P acc n → Q (.ref h'.objs.size) { s with heap := h'.push { cls := .type "tuple", data := .seq acc }, toks := tk }) : wpAny (model prog w) A (call (.type "tuple") [.ref d]) Q E s := by
  refine callType_codes (Q₁ := fun obj s₁ => s₁.TypeIs obj "tuple" ∧ Q obj s₁) F.called_tuple (F.typeCall_tuple_1 _) F.entry_object_init (codeAny_of_tree ?_) fun obj s₁ h₁ => ?_
  · show wpAny _ A.in1.in1 (do checkBuiltinCall "tuple.__new__" ⟨[.type "tuple", .ref d], []⟩; again (.builtin "tuple.__new__" ⟨[.type "tuple", .ref d], []⟩)) _ _ s
    refine wpAny_bind (wpAny_of_eq (F.newCall_tuple_1 _) (wpAny_pure ⟨plainId_quiet F.plain_tuple_new _, codeAny_builtin F.entry_tuple_new ?_⟩))
    rw [Around.under_plainId F.plain_tuple_new _]
    have hsub := sub_tuple_self
    have hinit := init_tuple_lookup
    have hmh := madeHere_tuple
    have hTI : s.TypeIs (.ref d) "dict" := K.type s hok
    have hh1 : A.in1.in1.handled = none := hh
    wp_walk using wpAny_typeOf hTI, kdu_collect (A := A.in1.in1) K hh1 hok hn
    intro h' tk acc hk hacc
    show wpAny _ _ (Builtin.Tuple.tupleExact acc.toList.toArray >>= fun v => ret v) _ _ _
    unfold Builtin.Tuple.tupleExact
    refine wpAny_bind (wpAny_newObj_type ?_ (by show acc.toList.toArray.size ≤ sizeLine; simp only [Array.toArray_toList]; rw [hacc.1]; exact hn))
    refine wpAny_pure ?_
    have e : acc.toList.toArray = acc := by simp
    rw [e]
    exact ⟨⟨_, Heap.get?_push_size _ rfl, rfl⟩, h h' tk acc hk hacc⟩
  · exact ⟨h₁.1, F.args_object_init_2 obj _, object_init_meets F.called_tuple.init.lookup F.called_tuple.made (by decide) prog w A.in1 _ s₁ ⟨h₁.1, rfl, h₁.2⟩⟩
end
section
variable {X : Cx}
def fTupF : List S → Option S
  | [s] => (asTb s).bind fun t => if t.fl = true then some (.d (.tuple (t.kvs.map fun p => keyF p.1))) else none
  | _ => none
end
/-! ### xs.remove(t), tuples of whole numbers -/
section
variable {X : Cx}
def rRemD (K : PySem.W.Frag) : V → List V → Hp → VK → Prop := fun x xs H Q => ∃ (l : Addr) (vs : List V) (ds : List PyData) (v : V) (d : PyData) (j : Nat), x = .ref l ∧ xs = [v] ∧ H l = some (.lst vs) ∧ L2.DpAll K H vs ds ∧ L2.Dp K H v d ∧ PyData.canLayAll0 ds = true ∧ d.canLay0 = true ∧ d.depth ≤ 60 ∧ SeqAt.dataPlace ds d = some j ∧ Q .non (upd H l (.lst (vs.eraseIdx j)))
/-- where a tuple of numbers stands -/
def gRemT (xs ds : List PyData) : Option (S × List PyData) := match ds with
  | [.tuple d] => (intsP d).bind fun r => (rowsP xs).bind fun rs => if r ∈ rs then some (.d .none, (rs.erase r).map tupI) else none
  | _ => none
end
end DL

/-! sets whose members are nested tuples of whole numbers -/
namespace NS
open PySem PySem.Spec PyProof.Rows L2
mutual
/-- whole numbers and tuples of such alone -/
def nums : NestedKey → Bool
  | .num _ => true
  | .tup ks => numsAll ks
  | _ => false
def numsAll : List NestedKey → Bool
  | [] => true
  | k :: ks => nums k && numsAll ks
end
section
variable {P : Program} {w : World}
def NoCls (P : Program) (w : World) (n : Nat) (s : Shared) (v : Value) : Prop := ∀ (A : Around) (E : Value → Shared → Prop) (Q : Bool → Shared → Prop), Q false s → wpAny (model P w) A (ofAClassStatement n v) Q E s
def ByVal (P : Program) (w : World) (n : Nat) (s : Shared) (v : Value) : Prop := ∀ (A : Around) (E : Value → Shared → Prop) (Q : Bool → Shared → Prop), Q true s → wpAny (model P w) A (hashByValue n v) Q E s
theorem noCls_flat {n : Nat} {s : Shared} {v : Value} (h : (∃ b, v = .bool b) ∨ ∃ i t, v = .int i t) : NoCls P w n s v := fun A E Q hq => by
  rcases h with ⟨b, rfl⟩ | ⟨i, t, rfl⟩ <;> (unfold ofAClassStatement; cases n <;> exact wpAny_pure hq)
theorem byVal_flat {n : Nat} {s : Shared} {v : Value} (h : (∃ b, v = .bool b) ∨ ∃ i t, v = .int i t) : ByVal P w n s v := fun A E Q hq => by
  rcases h with ⟨b, rfl⟩ | ⟨i, t, rfl⟩ <;> (unfold hashByValue; cases n <;> exact wpAny_pure hq)
theorem noCls_tup {n : Nat} {s : Shared} {a : Addr} {o : Obj} {vs : Array Value} {m : Nat} (ho : s.heap.get? a = some o) (hc : o.cls = .type "tuple") (hd : o.data = .seq vs m) (h : ∀ v ∈ vs.toList, NoCls P w n s v) : NoCls P w (n + 1) s (.ref a) := fun A E Q hq => by
  unfold ofAClassStatement
  refine wpAny_bind (wpAny_typeOf (T := "tuple") ⟨o, ho, hc⟩ ?_)
  dsimp only
  rw [if_pos (show (("tuple" : String) == "tuple") = true by decide)]
  refine wpAny_bind (wpAny_pure ?_)
  refine wp_if_neg (by decide) ?_
  refine wpAny_bind (wpAny_seqItems ho hd ?_)
  dsimp only
  refine wpAny_bind ?_
  show wpAny _ _ (forIn vs _ _) _ _ s
  rw [← Array.forIn_toList]
  refine wpAny_forIn_list _ (fun l r q => q = s ∧ r.1 = none ∧ ∀ v ∈ l, NoCls P w n s v) _ (fun v l r q hI => ?_) (fun r q hI => ?_) _ _ ⟨rfl, rfl, h⟩
  · obtain ⟨rfl, _, hl⟩ := hI
    refine wpAny_bind (hl v List.mem_cons_self _ _ _ ?_)
    refine wp_if_neg (by decide) ?_
    exact wpAny_pure ⟨rfl, rfl, fun u hu => hl u (List.mem_cons_of_mem _ hu)⟩
  · obtain ⟨rfl, hr, _⟩ := hI
    obtain ⟨r1, r2⟩ := r
    cases hr
    exact wpAny_pure hq
theorem byVal_tup {n : Nat} {s : Shared} {a : Addr} {o : Obj} {vs : Array Value} {m : Nat} (ho : s.heap.get? a = some o) (hc : o.cls = .type "tuple") (hd : o.data = .seq vs m) (h : ∀ v ∈ vs.toList, ByVal P w n s v) : ByVal P w (n + 1) s (.ref a) := fun A E Q hq => by
  unfold hashByValue
  refine wpAny_bind (wpAny_specialOf (T := "tuple") ⟨o, ho, hc⟩ F.slot_tuple_hash.lookup ?_)
  dsimp only
  refine wpAny_bind (wpAny_seqItems ho hd ?_)
  refine wpAny_bind ?_
  show wpAny _ _ (forIn vs _ _) _ _ s
  rw [← Array.forIn_toList]
  refine wpAny_forIn_list _ (fun l r q => q = s ∧ r.1 = none ∧ ∀ v ∈ l, ByVal P w n s v) _ (fun v l r q hI => ?_) (fun r q hI => ?_) _ _ ⟨rfl, rfl, h⟩
  · obtain ⟨rfl, _, hl⟩ := hI
    refine wpAny_bind (hl v List.mem_cons_self _ _ _ ?_)
    refine wp_if_neg (by decide) ?_
    exact wpAny_pure ⟨rfl, rfl, fun u hu => hl u (List.mem_cons_of_mem _ hu)⟩
  · obtain ⟨rfl, hr, _⟩ := hI
    obtain ⟨r1, r2⟩ := r
    cases hr
    exact wpAny_pure hq
mutual
theorem noCls_key : ∀ (k : NestedKey) (v : Value) (n : Nat) (s : Shared), NestedIs s.heap k v → nums k = true → k.depth ≤ n → NoCls P w n s v
  | .none, _, _, _, _, h, _ => by cases h
  | .text _, _, _, _, _, h, _ => by cases h
  | .num i, _, n, s, x, _, _ => by cases x with
    | bool e => exact noCls_flat (.inl ⟨_, rfl⟩)
    | int i t => exact noCls_flat (.inr ⟨_, _, rfl⟩)
  | .tup ks, _, n, s, x, h, hn => by
    cases x with
    | tup hg hc hd hk =>
      rw [NestedKey.depth] at hn
      cases n with
      | zero => omega
      | succ n => exact noCls_tup hg hc hd (noCls_keys ks _ n s hk h (by omega))
theorem noCls_keys : ∀ (ks : List NestedKey) (vs : List Value) (n : Nat) (s : Shared), NestedAll s.heap ks vs → numsAll ks = true → NestedKey.depthAll ks ≤ n → ∀ v ∈ vs, NoCls P w n s v
  | [], _, _, _, x, _, _, v, hv => by cases x; cases hv
  | k :: ks, _, n, s, x, h, hn, v, hv => by
    obtain ⟨h1, h2⟩ := Bool.and_eq_true_iff.mp (show (nums k && numsAll ks) = true from h)
    rw [NestedKey.depthAll] at hn
    cases x with
    | cons x1 x2 =>
      rcases List.mem_cons.mp hv with e | hv
      · rw [e]; exact noCls_key k _ n s x1 h1 (by omega)
      · exact noCls_keys ks _ n s x2 h2 (by omega) v hv
end
mutual
theorem byVal_key : ∀ (k : NestedKey) (v : Value) (n : Nat) (s : Shared), NestedIs s.heap k v → nums k = true → k.depth ≤ n → ByVal P w n s v
  | .none, _, _, _, _, h, _ => by cases h
  | .text _, _, _, _, _, h, _ => by cases h
  | .num i, _, n, s, x, _, _ => by cases x with
    | bool e => exact byVal_flat (.inl ⟨_, rfl⟩)
    | int i t => exact byVal_flat (.inr ⟨_, _, rfl⟩)
  | .tup ks, _, n, s, x, h, hn => by
    cases x with
    | tup hg hc hd hk =>
      rw [NestedKey.depth] at hn
      cases n with
      | zero => omega
      | succ n => exact byVal_tup hg hc hd (byVal_keys ks _ n s hk h (by omega))
theorem byVal_keys : ∀ (ks : List NestedKey) (vs : List Value) (n : Nat) (s : Shared), NestedAll s.heap ks vs → numsAll ks = true → NestedKey.depthAll ks ≤ n → ∀ v ∈ vs, ByVal P w n s v
  | [], _, _, _, x, _, _, v, hv => by cases x; cases hv
  | k :: ks, _, n, s, x, h, hn, v, hv => by
    obtain ⟨h1, h2⟩ := Bool.and_eq_true_iff.mp (show (nums k && numsAll ks) = true from h)
    rw [NestedKey.depthAll] at hn
    cases x with
    | cons x1 x2 =>
      rcases List.mem_cons.mp hv with e | hv
      · rw [e]; exact byVal_key k _ n s x1 h1 (by omega)
      · exact byVal_keys ks _ n s x2 h2 (by omega) v hv
end
/-- at a stands a tuple that is the key k, of whole numbers -/
def IsN (h : Heap) (k : NestedKey) (a : Addr) : Prop := NestedIs h k (.ref a) ∧ k.depth ≤ 8 ∧ nums k = true
theorem IsN.inj {h : Heap} {k k' : NestedKey} {a : Addr} (x : IsN h k a) (y : IsN h k' a) : k = k' := NestedIs.inj _ _ _ x.1 y.1
theorem IsN.keep {h h' : Heap} {k : NestedKey} {a : Addr} (x : IsN h k a) (e : ∀ b o vs n, h.get? b = some o → o.data = .seq vs n → h'.get? b = some o) : IsN h' k a := ⟨NestedIs.at e _ _ x.1, x.2⟩
end
end NS

namespace NS
open PySem PySem.Spec PyProof.Rows L2
section
variable {P : Program} {w : World} {A : Around} {E : Value → Shared → Prop} {s : Shared}
abbrev Ent := Addr × NestedKey
def hsh (w : World) (L : List Ent) : List Int := L.map fun p => p.2.hash w
def ents (w : World) (L : List Ent) : List (Int × Value) := L.map fun p => (p.2.hash w, Value.ref p.1)
/-- at a stands a set of the keys of L, its table's state told -/
structure NSet (w : World) (h : Heap) (a : Addr) (L : List Ent) (es : Array (Int × Value)) (ep : Nat) (t : SetTable) : Prop where
  obj : ∃ o, h.get? a = some o ∧ o.ExactSet ∧ o.data = .set es ep t
  row : es.toList = ents w L
  tab : TabOk t (hsh w L)
  nod : (L.map (·.2)).Nodup
  mem : ∀ p ∈ L, IsN h p.2 p.1
  pln : t.plain = true
  led : w.params.followText "set-order" = true ∨ t.led = true
  rom : L.length * 5 < t.mask * 3
  few : L.length < 64
variable {a : Addr} {L : List Ent} {es : Array (Int × Value)} {ep : Nat} {t : SetTable}
theorem ents_len (w : World) (L : List Ent) : (ents w L).length = L.length := List.length_map ..
theorem hsh_len (w : World) (L : List Ent) : (hsh w L).length = L.length := List.length_map ..
theorem size_of {es : Array (Int × Value)} {L : List Ent} (e : es.toList = ents w L) : es.size = L.length := by
  rw [← Array.length_toList, e, ents_len]
theorem fits_of {t : SetTable} {n : Nat} (d : t.dummies = #[]) (z : t.place.size = n) (k : n ≤ t.mask) : t.fits n = true := by
  unfold SetTable.fits SetTable.fill
  rw [d, z]
  simp [k]
theorem NSet.fits (R : NSet w s.heap a L es ep t) : t.fits es.size = true := by
  have z := R.tab.sz
  rw [hsh_len] at z
  have r := R.rom
  exact fits_of R.tab.dm (by rw [z, size_of R.row]) (by rw [size_of R.row]; omega)
/-- where a search's c-th step stands -/
abbrev stp (t : SetTable) (h : Int) (c : Nat) : SetTable.Probe := nth t.mask (runAt t.mask (SetTable.bits h % (t.mask + 1)) (SetTable.bits h)) c
end
end NS

namespace NS
open PySem PySem.Spec PyProof.Rows L2
section
variable {P : Program} {w : World} {A : Around} {E : Value → Shared → Prop} {s : Shared}
variable {a : Addr} {L : List Ent} {es : Array (Int × Value)} {ep : Nat} {t : SetTable}
end
end NS

namespace NS
open PySem PySem.Spec PyProof.Rows L2
theorem ins_perm {α : Type} (l : List α) (n : Nat) (x : α) : (l.take n ++ x :: l.drop n).Perm (x :: l) := by
  refine List.perm_middle.trans ?_
  rw [List.take_append_drop]
section
variable {P : Program} {w : World} {A : Around} {E : Value → Shared → Prop} {s : Shared}
variable {a : Addr} {L : List Ent} {es : Array (Int × Value)} {ep : Nat} {t : SetTable}
end
end NS

namespace NS
open PySem PySem.Spec PyProof.Rows L2
/-- a new set -/
abbrev set0 (w : World) : Obj := { cls := .type "set", dict := none, data := .set #[] 0 (.fresh 0 0 (!w.params.followText "set-order")) }
/-- L has the keys of the first i, each once -/
structure Gott (ks : List Ent) (i : Nat) (L : List Ent) : Prop where
  sub : ∀ p ∈ L, p ∈ ks
  all : ∀ p ∈ ks.take i, p.2 ∈ L.map (·.2)
  len : L.length ≤ i
section
variable {P : Program} {w : World} {A : Around} {E : Value → Shared → Prop} {s : Shared}
theorem IsN.up {h h' : Heap} {k : NestedKey} {a : Addr} (x : IsN h k a) (e : ∀ b o, h.get? b = some o → h'.get? b = some o) : IsN h' k a := x.keep fun b o _ _ hb _ => e b o hb
theorem NSet.up {h h' : Heap} {a : Addr} {L : List Ent} {es : Array (Int × Value)} {ep : Nat} {t : SetTable} (R : NSet w h a L es ep t) (ha : ∀ o, h.get? a = some o → h'.get? a = some o) (hm : ∀ p ∈ L, IsN h' p.2 p.1) : NSet w h' a L es ep t :=
  let ⟨o, ho, r⟩ := R.obj
  ⟨⟨o, ha o ho, r⟩, R.row, R.tab, R.nod, hm, R.pln, R.led, R.rom, R.few⟩
end
end NS

namespace NS
open PySem PySem.Spec PyProof.Rows L2
section
variable {P : Program} {w : World} {A : Around} {E : Value → Shared → Prop} {s : Shared}
theorem none_above {h : Heap} {b : Addr} (hb : h.objs.size ≤ b) : h.get? b = none := by
  cases q : h.get? b with
  | none => rfl
  | some o => exact absurd (Nat.lt_of_lt_of_le (Heap.lt_size q) hb) (Nat.lt_irrefl _)
end
end NS

namespace NS
open PySem PySem.Spec PyProof.Rows L2
mutual
theorem reads_key {h : Heap} : ∀ (k : NestedKey) (v : Value) (as : List Addr), Reads h v k.data as → nums k = true → NestedIs h k v ∧ as = []
  | .none, _, _, _, e => by cases e
  | .text _, _, _, _, e => by cases e
  | .num i, _, _, r, _ => by
    cases r
    exact ⟨.int _ _, rfl⟩
  | .tup ks, _, as, r, e => by
    rw [NestedKey.data] at r
    cases r with
    | tuple h1 h2 h3 h4 =>
      obtain ⟨q, z⟩ := reads_keys ks _ _ h4 e
      exact ⟨.tup h1 h2 h3 q, z⟩
theorem reads_keys {h : Heap} : ∀ (ks : List NestedKey) (vs : List Value) (as : List Addr), ReadsAll h vs (NestedKey.datas ks) as → numsAll ks = true → NestedAll h ks vs ∧ as = []
  | [], _, _, r, _ => by
    rw [NestedKey.datas] at r
    cases r
    exact ⟨.nil, rfl⟩
  | k :: ks, _, _, r, e => by
    rw [NestedKey.datas] at r
    obtain ⟨e1, e2⟩ := Bool.and_eq_true_iff.mp (show (nums k && numsAll ks) = true from e)
    cases r with
    | cons r1 r2 =>
      obtain ⟨q1, rfl⟩ := reads_key k _ _ r1 e1
      obtain ⟨q2, rfl⟩ := reads_keys ks _ _ r2 e2
      exact ⟨.cons q1 q2, rfl⟩
end
section
variable {P : Program} {w : World} {A : Around} {E : Value → Shared → Prop} {s : Shared}
end
end NS


/-! dicts by nested tuples of whole numbers -/
namespace DL
open PySem PySem.Spec PyProof.Rows L2 DLS
/-! ### data that may be such a key -/
mutual
def numKey : PyData → Option NestedKey
  | .int i => some (.num i)
  | .tuple xs => (numKeys xs).map .tup
  | _ => none
def numKeys : List PyData → Option (List NestedKey)
  | [] => some []
  | x :: xs => (numKey x).bind fun k => (numKeys xs).map fun ks => k :: ks
end
mutual
theorem numKey_data : ∀ (d : PyData) (k : NestedKey), numKey d = some k → k.data = d ∧ NS.nums k = true
  | .int i, k, h => by
    unfold numKey at h
    cases h
    exact ⟨rfl, rfl⟩
  | .tuple xs, k, h => by
    unfold numKey at h
    cases e : numKeys xs with
    | none => rw [e] at h; cases h
    | some ks =>
      rw [e] at h
      cases h
      obtain ⟨h1, h2⟩ := numKeys_data xs ks e
      refine ⟨?_, h2⟩
      rw [NestedKey.data, h1]
  | .none, k, h => by unfold numKey at h; cases h
  | .bool _, k, h => by unfold numKey at h; cases h
  | .str _, k, h => by unfold numKey at h; cases h
  | .list _, k, h => by unfold numKey at h; cases h
  | .dict _, k, h => by unfold numKey at h; cases h
theorem numKeys_data : ∀ (xs : List PyData) (ks : List NestedKey), numKeys xs = some ks → NestedKey.datas ks = xs ∧ NS.numsAll ks = true
  | [], ks, h => by
    unfold numKeys at h
    cases h
    exact ⟨by rw [NestedKey.datas], rfl⟩
  | x :: xs, ks, h => by
    unfold numKeys at h
    cases e1 : numKey x with
    | none => rw [e1] at h; cases h
    | some k =>
      rw [e1] at h
      simp only [Option.bind_some] at h
      cases e2 : numKeys xs with
      | none => rw [e2] at h; cases h
      | some l =>
        rw [e2] at h
        cases h
        obtain ⟨a1, a2⟩ := numKey_data x k e1
        obtain ⟨b1, b2⟩ := numKeys_data xs l e2
        refine ⟨by rw [NestedKey.datas, a1, b1], ?_⟩
        show (NS.nums k && NS.numsAll l) = true
        rw [a2, b2]
        rfl
end
mutual
theorem key_nums {H : Hp} : ∀ (k : NestedKey) (v : V), keyT H k v → NS.nums k = true
  | .none, _, h => h.elim
  | .text _, _, h => h.elim
  | .num _, _, _ => rfl
  | .tup ks, v, h => by
    obtain ⟨a, vs, _, _, h3⟩ := h
    exact key_numsA ks vs h3
theorem key_numsA {H : Hp} : ∀ (ks : List NestedKey) (vs : List V), keyT.keyTs H ks vs → NS.numsAll ks = true
  | [], _, _ => rfl
  | k :: ks, vs, h => by
    obtain ⟨v, us, _, h2, h3⟩ := h
    show (NS.nums k && NS.numsAll ks) = true
    rw [key_nums k v h2, key_numsA ks us h3]
    rfl
end
mutual
theorem dq_nkey {K : PySem.W.Frag} {H H' : Hp} (e : Same H H') : ∀ (d : PyData) (v : V) (k : NestedKey), Dq K H v d → numKey d = some k → keyT H' k v
  | .int i, v, k, h, hk => by
    unfold numKey at hk
    cases hk
    cases h
    rfl
  | .tuple xs, v, k, h, hk => by
    unfold numKey at hk
    cases en : numKeys xs with
    | none => rw [en] at hk; cases hk
    | some ks =>
      rw [en] at hk
      cases hk
      cases h with
      | tup h1 h2 => exact ⟨_, _, rfl, e _ _ h1, dq_nkeys e xs _ ks h2 en⟩
  | .none, _, k, _, hk => by unfold numKey at hk; cases hk
  | .bool _, _, k, _, hk => by unfold numKey at hk; cases hk
  | .str _, _, k, _, hk => by unfold numKey at hk; cases hk
  | .list _, _, k, _, hk => by unfold numKey at hk; cases hk
  | .dict _, _, k, _, hk => by unfold numKey at hk; cases hk
theorem dq_nkeys {K : PySem.W.Frag} {H H' : Hp} (e : Same H H') : ∀ (xs : List PyData) (vs : List V) (ks : List NestedKey), DqAll K H vs xs → numKeys xs = some ks → keyT.keyTs H' ks vs
  | [], vs, ks, h, hk => by
    unfold numKeys at hk
    cases hk
    cases h
    rfl
  | x :: xs, vs, ks, h, hk => by
    unfold numKeys at hk
    cases e1 : numKey x with
    | none => rw [e1] at hk; cases hk
    | some k =>
      rw [e1] at hk
      simp only [Option.bind_some] at hk
      cases e2 : numKeys xs with
      | none => rw [e2] at hk; cases hk
      | some l =>
        rw [e2] at hk
        cases hk
        cases h with
        | cons h1 h2 => exact ⟨_, _, rfl, dq_nkey e x _ k h1 e1, dq_nkeys e xs _ l h2 e2⟩
end
mutual
theorem key_is {X : Cx} {pins : List (Addr × Obj)} {σ : L2.St} {H : Hp} {s : Shared} (I : L2.Inv X pins σ H s) : ∀ (k : NestedKey) (v : V) (u : Value), keyT H k v → RelV v u → NestedIs s.heap k u
  | .none, _, _, h, _ => h.elim
  | .text _, _, _, h, _ => h.elim
  | .num i, v, u, h, r => by
    have h : v = .int i := h
    subst h
    obtain ⟨t, rfl⟩ := r
    exact .int _ _
  | .tup ks, v, u, h, r => by
    obtain ⟨a, vs, rfl, h2, h3⟩ := h
    obtain rfl : u = Value.ref a := r
    obtain ⟨its, rr, ⟨o, ho, hc, n, hd⟩, hz⟩ := I.tuple (.inl (.inl h2))
    exact .tup ho hc hd (by simpa using key_isA I ks vs its h3 rr)
theorem key_isA {X : Cx} {pins : List (Addr × Obj)} {σ : L2.St} {H : Hp} {s : Shared} (I : L2.Inv X pins σ H s) : ∀ (ks : List NestedKey) (vs : List V) (us : List Value), keyT.keyTs H ks vs → Vals vs us → NestedAll s.heap ks us
  | [], vs, us, h, r => by
    have h : vs = [] := h
    subst h
    cases r
    exact .nil
  | k :: ks, vs, us, h, r => by
    obtain ⟨v, ws, rfl, h2, h3⟩ := h
    cases r with
    | cons r1 r2 => exact .cons (key_is I k v _ h2 r1) (key_isA I ks ws _ h3 r2)
end
mutual
theorem hash_nums (w w' : World) : ∀ k : NestedKey, NS.nums k = true → k.hash w = k.hash w'
  | .none, h => by cases h
  | .text _, h => by cases h
  | .num i, _ => rfl
  | .tup ks, h => by
    rw [NestedKey.hash, NestedKey.hash, hash_numsA w w' ks h]
theorem hash_numsA (w w' : World) : ∀ ks : List NestedKey, NS.numsAll ks = true → NestedKey.hashes w ks = NestedKey.hashes w' ks
  | [], _ => rfl
  | k :: ks, h => by
    obtain ⟨h1, h2⟩ := Bool.and_eq_true_iff.mp (show (NS.nums k && NS.numsAll ks) = true from h)
    rw [NestedKey.hashes, NestedKey.hashes, hash_nums w w' k h1, hash_numsA w w' ks h2]
end
/-! ### the dict -/
abbrev MeL := List (Addr × NestedKey × V)
def meX (L : MeL) (us : List Value) : List (NestedKey × Addr × Value) := (L.zip us).map fun q => (q.1.2.1, q.1.1, q.2)
theorem meX_keys : ∀ {L : MeL} {us : List Value}, us.length = L.length → (meX L us).map (·.1) = L.map fun p => p.2.1
  | [], us, _ => rfl
  | p :: L, [], h => by cases h
  | p :: L, u :: us, h => by
    show p.2.1 :: (meX L us).map (·.1) = _
    rw [meX_keys (by simpa using h)]
    rfl
/-- what stands at d, read off the heap -/
theorem mem_at {X : Cx} {pins : List (Addr × Obj)} {σ : L2.St} {H : Hp} {s : Shared} (I : L2.Inv X pins σ H s) {d : Addr} {L : MeL} (h : H d = some (MemO d L)) (hk : ∀ p ∈ L, keyT H p.2.1 (.ref p.1)) :
    ∃ us, Vals (L.map fun p => p.2.2) us ∧ s.heap.DictOfH (nestedKind X.prog X.w) d (meX L us) ∧ (d == sysModules) = false ∧ (∀ p ∈ L, p.2.1.depth ≤ 8) ∧ L.length ≤ sizeLine ∧ (L.map fun p => p.2.1).Nodup := by
  have x : ObjOk X.prog X.w H s.heap d (.ext fun h => ∃ (w : World) (o : Obj) (es : Array DictEntry) (ep : Nat) (us : List Value), h.get? d = some o ∧ o.ExactDict ∧ o.data = .dict es ep ∧ Vals (L.map fun p => p.2.2) us ∧ es.toList = (L.zip us).map (fun q => (⟨q.1.2.1.hash w, .ref q.1.1, q.2⟩ : DictEntry)) ∧ (L.map fun p => p.2.1).Nodup ∧ (d == sysModules) = false ∧ (∀ p ∈ L, p.2.1.depth ≤ 8) ∧ L.length ≤ sizeLine) := I.hok d _ h
  obtain ⟨w, o, es, ep, us, h1, h2, h3, h4, h5, h6, h7, h8, h9⟩ := x.1
  have hl : us.length = L.length := by
    have := Paired.length h4
    rw [List.length_map] at this
    exact this.symm
  refine ⟨us, h4, ⟨o, es, ep, h1, h2, h3, ?_, fun q hq => ?_, by rw [meX_keys hl]; exact h6⟩, h7, h8, h9, h6⟩
  · rw [h5]
    unfold meX
    rw [List.map_map]
    refine List.map_congr_left fun q hq => ?_
    have hm : q.1 ∈ L := (List.of_mem_zip (a := q.1) (b := q.2) hq).1
    show (⟨q.1.2.1.hash w, .ref q.1.1, q.2⟩ : DictEntry) = ⟨q.1.2.1.hash X.w, .ref q.1.1, q.2⟩
    rw [hash_nums w X.w q.1.2.1 (key_nums _ _ (hk q.1 hm))]
  · obtain ⟨r, hr, rfl⟩ := List.mem_map.mp hq
    have hm : r.1 ∈ L := (List.of_mem_zip (a := r.1) (b := r.2) hr).1
    exact ⟨key_is I _ _ _ (hk r.1 hm) rfl, h8 r.1 hm⟩
/-- storing under a new key -/
def PutM : PutR := fun G D y v G' => ∃ (L : MeL) (a : Addr) (k : NestedKey), (G D = some (MemO D L) ∨ (G D = some (.dT []) ∨ G D = some (.dK [])) ∧ L = []) ∧ y = .ref a ∧ keyT G k (.ref a) ∧ k.depth ≤ 8 ∧ (∀ p ∈ L, keyT G p.2.1 (.ref p.1)) ∧ k ∉ L.map (fun p => p.2.1) ∧ L.length < sizeLine ∧ G' = upd G D (MemO D (L ++ [(a, k, v)]))
theorem empty_at {X : Cx} {pins : List (Addr × Obj)} {σ : L2.St} {H : Hp} {s : Shared} (I : L2.Inv X pins σ H s) {d : Addr} (h : H d = some (.dT []) ∨ H d = some (.dK [])) : s.heap.DictOfH (nestedKind X.prog X.w) d [] ∧ (d == sysModules) = false := by
  rcases h with h | h
  · obtain ⟨_, nm, xs, kt, dd⟩ := dt_of I.hok h
    cases kt
    obtain ⟨o, es, ep, a1, a2, a3, a4, _, _⟩ := dd
    exact ⟨⟨o, es, ep, a1, a2, a3, a4, fun x hx => (nomatch hx), List.nodup_nil⟩, nm⟩
  · have z : ObjOk X.prog X.w H s.heap d (.dK []) := I.hok d _ h
    obtain ⟨_, nm, vs, kv, dd⟩ := z
    cases kv
    obtain ⟨o, es, ep, a1, a2, a3, _, a5, _⟩ := dd
    have e0 : es.toList = [] := by
      generalize es.toList = l at a5
      cases a5
      rfl
    exact ⟨⟨o, es, ep, a1, a2, a3, e0, fun x hx => (nomatch hx), List.nodup_nil⟩, nm⟩
end DL

/-! known[key], known filled for good, the keys nested tuples -/
namespace DL
open PySem PySem.Spec PyProof.Rows L2 DLS
mutual
theorem keyT_inj {H : Hp} : ∀ (k k' : NestedKey) (v : V), keyT H k v → keyT H k' v → k = k'
  | .none, _, _, h, _ => h.elim
  | .text _, _, _, h, _ => h.elim
  | .num i, k', v, h, h' => by
    have h : v = .int i := h
    subst h
    cases k' with
    | none => exact h'.elim
    | text _ => exact h'.elim
    | num j =>
      have h' : V.int i = .int j := h'
      cases h'
      rfl
    | tup ks =>
      obtain ⟨a, vs, e, _⟩ := h'
      cases e
  | .tup ks, k', v, h, h' => by
    obtain ⟨a, vs, rfl, h2, h3⟩ := h
    cases k' with
    | none => exact h'.elim
    | text _ => exact h'.elim
    | num j =>
      have h' : V.ref a = .int j := h'
      cases h'
    | tup ks' =>
      obtain ⟨a', vs', e, h5, h6⟩ := h'
      cases e
      rw [h2] at h5
      cases h5
      rw [keyTs_inj ks ks' vs h3 h6]
theorem keyTs_inj {H : Hp} : ∀ (ks ks' : List NestedKey) (vs : List V), keyT.keyTs H ks vs → keyT.keyTs H ks' vs → ks = ks'
  | [], [], _, _, _ => rfl
  | [], _ :: _, _, h, h' => by
    have h : _ = [] := h
    subst h
    obtain ⟨v, us, e, _⟩ := h'
    cases e
  | _ :: _, [], _, h, h' => by
    have h' : _ = [] := h'
    subst h'
    obtain ⟨v, us, e, _⟩ := h
    cases e
  | k :: ks, k' :: ks', _, h, h' => by
    obtain ⟨v, us, rfl, h1, h2⟩ := h
    obtain ⟨v', us', e, h3, h4⟩ := h'
    cases e
    rw [keyT_inj k k' v h1 h3, keyTs_inj ks ks' us h2 h4]
end
/-- the value under a key -/
def rMGet : R2 := fun x y H Q => ∃ (d : Addr) (L : MeL) (a : Addr) (p : Addr × NestedKey × V), x = .ref d ∧ y = .ref a ∧ H d = some (MemO d L) ∧ (∀ p ∈ L, keyT H p.2.1 (.ref p.1)) ∧ p ∈ L ∧ keyT H p.2.1 (.ref a) ∧ Q p.2.2 H
section
variable {X : Cx} {o i : Expr} {pos : Pos} {td ty : TE}
end
variable [TB]
def lookM : List PyData → List PyData → NestedKey → Option PyData
  | q :: ks, x :: xs, k => if numKey q = some k then some x else lookM ks xs k
  | _, _, _ => none
def opMem (a b : S) : Option S := match a, b with
  | .d (.dict [(.int j, .list ks), (.none, .list xs)]), .d y => if j = konI then (numKey y).bind fun k => (lookM ks xs k).map fun x => .d x else none
  | _, _ => none
section
variable {X : Cx} {a b : Expr} {pos : Pos} {fp fq : PEV} {k : Nat}
end
end DL

/-! sorted(set(t)), t a tuple of nested tuples of whole numbers -/
namespace DL
open PySem PySem.Spec PyProof.Rows L2 DLS
def ltN (x y : NestedKey) : Bool := PySem.W.dataLt x.data y.data
def leN (x y : NestedKey) : Bool := !ltN y x
mutual
theorem eqv_nums : ∀ k k' : NestedKey, NS.nums k = true → NS.nums k' = true → PyData.eqv k.data k'.data = true → k = k'
  | .none, _, h, _, _ => by cases h
  | .text _, _, h, _, _ => by cases h
  | .num i, k', _, h', e => by
    cases k' with
    | none => cases h'
    | text _ => cases h'
    | num j =>
      have : (i == j) = true := e
      rw [eq_of_beq this]
    | tup ks =>
      rw [NestedKey.data, NestedKey.data] at e
      cases e
  | .tup ks, k', h, h', e => by
    cases k' with
    | none => cases h'
    | text _ => cases h'
    | num j =>
      rw [NestedKey.data, NestedKey.data] at e
      cases e
    | tup ks' =>
      rw [NestedKey.data, NestedKey.data] at e
      rw [eqv_numsA ks ks' h h' e]
theorem eqv_numsA : ∀ ks ks' : List NestedKey, NS.numsAll ks = true → NS.numsAll ks' = true → PyData.eqvAll (NestedKey.datas ks) (NestedKey.datas ks') = true → ks = ks'
  | [], [], _, _, _ => rfl
  | [], k :: ks, _, _, e => by
    rw [NestedKey.datas, NestedKey.datas] at e
    cases e
  | k :: ks, [], _, _, e => by
    rw [NestedKey.datas, NestedKey.datas] at e
    cases e
  | k :: ks, k' :: ks', h, h', e => by
    rw [NestedKey.datas, NestedKey.datas] at e
    obtain ⟨e1, e2⟩ := Bool.and_eq_true_iff.mp (show (PyData.eqv k.data k'.data && PyData.eqvAll (NestedKey.datas ks) (NestedKey.datas ks')) = true from e)
    obtain ⟨h1, h2⟩ := Bool.and_eq_true_iff.mp (show (NS.nums k && NS.numsAll ks) = true from h)
    obtain ⟨h3, h4⟩ := Bool.and_eq_true_iff.mp (show (NS.nums k' && NS.numsAll ks') = true from h')
    rw [eqv_nums k k' h1 h3 e1, eqv_numsA ks ks' h2 h4 e2]
end
def ddK : List NestedKey → List NestedKey
  | [] => []
  | k :: ks => if k ∈ ks then ddK ks else k :: ddK ks
def usortK (ks : List NestedKey) : List NestedKey := (ddK ks).mergeSort leN
end DL
namespace DL
open PySem PySem.Spec PyProof.Rows L2 DLS
variable [TB]
def tupK : NestedKey → Bool
  | .tup (_ :: _) => true
  | _ => false
def okKs (ks : List NestedKey) : Bool := (ks.all fun k => decide (k.data.depth ≤ 8) && decide (k.depth ≤ 8) && tupK k) && ks.all fun k => ks.all fun k' => PySem.W.alike k.data k'.data
def sortSetNE (fa : PEV) : EV := fun δ => (fa δ).bind fun x => match x.1 with
  | .v (.d (.tuple xs)) => (numKeys xs).bind fun ks => if ks.length < 64 ∧ okKs ks = true then some (.o (.l ((usortK ks).map NestedKey.data)), x.2) else none
  | _ => none
section
variable {X : Cx} {a : Expr} {p p2 q pos : Pos}
mutual
theorem lay_key : ∀ k : NestedKey, NS.nums k = true → k.data.canLay0 = true
  | .none, h => by cases h
  | .text _, h => by cases h
  | .num _, _ => rfl
  | .tup ks, h => by
    rw [NestedKey.data]
    exact lay_keys ks h
theorem lay_keys : ∀ ks : List NestedKey, NS.numsAll ks = true → PyData.canLayAll0 (NestedKey.datas ks) = true
  | [], _ => by rw [NestedKey.datas]; rfl
  | k :: ks, h => by
    obtain ⟨h1, h2⟩ := Bool.and_eq_true_iff.mp (show (NS.nums k && NS.numsAll ks) = true from h)
    rw [NestedKey.datas]
    show (k.data.canLay0 && PyData.canLayAll0 (NestedKey.datas ks)) = true
    rw [lay_key k h1, lay_keys ks h2]
    rfl
end
end
end DL

/-! {key: value for x in xs}, the keys nested tuples of whole numbers, each but once -/
namespace DL
open PySem PySem.Spec PyProof.Rows L2 DLS
variable [TB]
abbrev MeA := List (NestedKey × PyData)
def memA (acc : MeA) : PyData := memC (acc.map fun p => p.1.data) (acc.map fun p => p.2)
mutual
theorem key_dq {K : PySem.W.Frag} {G : Hp} : ∀ (k : NestedKey) (v : V), keyT G k v → Dq K G v k.data
  | .none, _, h => h.elim
  | .text _, _, h => h.elim
  | .num i, v, h => by
    have h : v = .int i := h
    subst h
    exact .int i
  | .tup ks, v, h => by
    obtain ⟨a, vs, rfl, h2, h3⟩ := h
    rw [NestedKey.data]
    exact .tup h2 (keys_dq ks vs h3)
theorem keys_dq {K : PySem.W.Frag} {G : Hp} : ∀ (ks : List NestedKey) (vs : List V), keyT.keyTs G ks vs → DqAll K G vs (NestedKey.datas ks)
  | [], vs, h => by
    have h : vs = [] := h
    subst h
    rw [NestedKey.datas]
    exact .nil
  | k :: ks, vs, h => by
    obtain ⟨v, us, rfl, h2, h3⟩ := h
    rw [NestedKey.datas]
    exact .cons (key_dq k v h2) (keys_dq ks us h3)
end
/-- what the dict in the making holds -/
structure MI (K : PySem.W.Frag) (G : Hp) (L : MeL) (acc : MeA) : Prop where
  keys : ∀ p ∈ L, keyT G p.2.1 (.ref p.1)
  same : (L.map fun p => p.2.1) = acc.map fun p => p.1
  vals : DqAll K G (L.map fun p => p.2.2) (acc.map fun p => p.2)
theorem MI.mono {K : PySem.W.Frag} {G G' : Hp} {L : MeL} {acc : MeA} (e : Same G G') (h : MI K G L acc) : MI K G' L acc := ⟨fun p hp => keyTM (fun _ _ z => e _ _ z) _ _ (h.keys p hp), h.same, dpAllM e _ h.vals⟩
/-- the object at D -/
def MOb (D : Addr) (L : MeL) (o : HO) : Prop := o = MemO D L ∨ (o = .dT [] ∨ o = .dK []) ∧ L = []
theorem MOb.nb {D : Addr} {L : MeL} {o : HO} (h : MOb D L o) : (∀ ps, o ≠ .tbl ps) ∧ NT o := by
  rcases h with rfl | ⟨rfl | rfl, _⟩
  · exact ⟨fun ps z => (by unfold MemO at z; cases z), nt_mem _ _⟩
  · exact ⟨fun ps z => (nomatch z), trivial⟩
  · exact ⟨fun ps z => (nomatch z), trivial⟩
def dmD (vs : List Nat) (g : GEV) (tk tv : EV) : List PyData → MeA → Ds → Option (MeA × Ds)
  | [], acc, δ => some (acc, δ)
  | x :: xs, acc, δ => (g x δ).bind fun δ1 => (tk δ1).bind fun y => match y.1 with
      | .d yk => (tv y.2).bind fun z => match frz z.1, numKey yk with
        | .d d, some k => if (tupK k = true ∧ k.depth ≤ 8 ∧ k ∉ acc.map fun p => p.1) ∧ acc.length < sizeLine ∧ noOwn vs z.2 = true then dmD vs g tk tv xs (acc ++ [(k, d)]) (wipeD z.2 vs) else none
        | _, _ => none
      | _ => none
def dmE (vs : List Nat) (fi : IEV) (g : GEV) (tk tv : EV) : EV := fun δ => (fi δ).bind fun x =>
  if noOwn vs x.2 then (dmD vs g tk tv x.1 [] (wipeD x.2 vs)).bind fun r => if r.1.isEmpty = false then some (.d (memA r.1), restD x.2 r.2 vs) else none else none
section
variable {K : PySem.W.Frag}
end
section
variable {X : Cx}
end
end DL

/-! for x in xs: if x not in d: d[x] = value, d a new dict, its keys nested tuples of whole numbers -/
namespace DL
open PySem PySem.Spec PyProof.Rows L2 LamX NdefX DLS
section
variable {X : Cx} {i o e : Expr} {pos : Pos} {td ty te : TE}
/-- the dict in the making, as a lookup wants it -/
def MAt (H : Hp) (d : Addr) (L : MeL) : Prop := (H d = some (MemO d L) ∨ (H d = some (.dT []) ∨ H d = some (.dK [])) ∧ L = []) ∧ ∀ p ∈ L, keyT H p.2.1 (.ref p.1)
theorem MAt.dict {pins : List (Addr × Obj)} {σ : L2.St} {H : Hp} {s : Shared} {d : Addr} {L : MeL} (I : L2.Inv X pins σ H s) (h : MAt H d L) : ∃ us, Vals (L.map fun p => p.2.2) us ∧ s.heap.DictOfH (nestedKind X.prog X.w) d (meX L us) ∧ (d == sysModules) = false ∧ us.length = L.length := by
  rcases h with ⟨h | ⟨h, rfl⟩, hk⟩
  · obtain ⟨us, a1, a2, a3, _⟩ := mem_at I h hk
    refine ⟨us, a1, a2, a3, ?_⟩
    have := Paired.length a1
    rw [List.length_map] at this
    exact this.symm
  · obtain ⟨a1, a2⟩ := empty_at I h
    exact ⟨[], .nil, a1, a2, rfl⟩
def tMNotIn (ty td : TE) : TE := fun σ H Q => ty σ H fun y H1 => td σ H1 fun x H2 => ∃ (d : Addr) (L : MeL) (a : Addr) (k : NestedKey), x = .ref d ∧ y = .ref a ∧ MAt H2 d L ∧ keyT H2 k (.ref a) ∧ k.depth ≤ 8 ∧ Q (.bl (!decide (k ∈ L.map fun p => p.2.1))) H2
def rSetM : TSet := fun o i v H Q => ∃ d H', o = .ref d ∧ PutM H d i v H' ∧ Q H'
end
variable [TB]
/-- a nested tuple as a key -/
def nkey (fk : PEV) (δ : Ds) : Option (NestedKey × Ds) := (fk δ).bind fun y => match y.1 with
  | .v (.d a) => (numKey a).bind fun k => if tupK k = true ∧ k.depth ≤ 8 then some (k, y.2) else none
  | _ => none
def turnMem (fk : PEV) (fe : EV) (acc : MeA) (δ : Ds) : Option (MeA × Ds) := (nkey fk δ).bind fun y => if y.1 ∈ acc.map (fun p => p.1) then some (acc, y.2) else (fe y.2).bind fun z => match frz z.1 with
  | .d d => (nkey fk z.2).bind fun w => if w.1 = y.1 ∧ acc.length < sizeLine then some (acc ++ [(y.1, d)], w.2) else none
  | _ => none
def memLp (fk : PEV) (fe : EV) (g : GEV) : List PyData → MeA → Ds → Option (MeA × Ds)
  | [], acc, δ => some (acc, δ)
  | x :: xs, acc, δ => (g x δ).bind fun δ1 => (turnMem fk fe acc δ1).bind fun r => memLp fk fe g xs r.1 r.2
def forMem (i : Nat) (fk : PEV) (fe : EV) (fi : IEV) (g : GEV) : SEV := fun δ => (fi δ).bind fun z => match slot z.2 i with
  | some (.o (.t t)) => if t.kvs.isEmpty = true then (memLp fk fe g z.1 [] (z.2.set i none)).bind fun r => if r.1.isEmpty = false then some (.nx (r.2.set i (some (.d (memA r.1))))) else none else none
  | _ => none
/-- the dict at d in the making, with what has become of everything else -/
structure NB (K : PySem.W.Frag) (T : List Addr) (d : Addr) (G H1 : Hp) (acc : MeA) (ρ : List (Option Addr)) (δ : Ds) (σ : L2.St) (H : Hp) : Prop where
  sim : Sim K (d :: T) ρ δ σ H
  ob : ∃ L o, H d = some o ∧ MOb d L o ∧ MI K (hid (d :: T) ρ H) L acc
  up : Same G (hid (d :: T) ρ H)
  kp : ∀ a ∈ T, Kp (H1 a) (H a)
section
variable {K : PySem.W.Frag} {T : List Addr} {ρ ρ' : List (Option Addr)} {δ δ' : Ds} {σ σ' : L2.St} {G H H1 H' : Hp} {d : Addr} {acc : MeA}
theorem NB.ext (h : NB K T d G H1 acc ρ δ σ H) (s : Sim K (d :: T) ρ' δ' σ' H') (x : Ext (d :: T) ρ H ρ' H') : NB K T d G H1 acc ρ' δ' σ' H' := by
  obtain ⟨L, o, a, b, c⟩ := h.ob
  exact ⟨s, ⟨L, o, x.at List.mem_cons_self a b.nb.1, b, c.mono x.same⟩, h.up.trans x.same, fun a ha => (h.kp a ha).trans (x.tmp a (List.mem_cons_of_mem _ ha))⟩
end
section
variable {X : Cx} {P : List Nat} {pos p1 p2 p3 p5 n1 n2 : Pos}
end
end DL

/-! d = [{} for m in range(n)]; for x, y in xs: d[y][x] = True -/
namespace DL
open PySem PySem.Spec PyProof.Rows L2 LamX NdefX DLS
variable [TB]
section
variable {K : PySem.W.Frag}
end
abbrev Ub := List (Addr × List Int)
def uAd (ab : Ub) : List Addr := ab.map fun p => p.1
def uKv (ks : List Int) : List (Key × V) := ks.map fun k => (Sum.inl k, V.bl true)
/-- the list at d, its dicts at their addresses, all of it in the making; with what has become of everything else -/
structure UI (K : PySem.W.Frag) (T : List Addr) (d : Addr) (G H1 : Hp) (ab : Ub) (ρ : List (Option Addr)) (δ : Ds) (σ : L2.St) (H : Hp) : Prop where
  sim : Sim K (uAd ab ++ d :: T) ρ δ σ H
  lst : H d = some (.lst ((uAd ab).map V.ref))
  dct : ∀ p ∈ ab, H p.1 = some (.dK (uKv p.2))
  nd : (uAd ab).Nodup
  fr : ∀ p ∈ ab, p.1 ≠ d ∧ p.1 ∉ T
  dT : d ∉ T
  up : Same G (hid (uAd ab ++ d :: T) ρ H)
  kp : ∀ a ∈ T, Kp (H1 a) (H a)
section
variable {K : PySem.W.Frag} {T : List Addr} {ρ ρ' : List (Option Addr)} {δ δ' : Ds} {σ σ' : L2.St} {G H H' H1 : Hp} {d : Addr} {ab : Ub}
theorem UI.dm : d ∈ uAd ab ++ d :: T := List.mem_append_right _ List.mem_cons_self
theorem UI.bm {p : Addr × List Int} (hp : p ∈ ab) : p.1 ∈ uAd ab ++ d :: T := List.mem_append_left _ (List.mem_map.mpr ⟨p, hp, rfl⟩)
theorem UI.ext (h : UI K T d G H1 ab ρ δ σ H) (s : Sim K (uAd ab ++ d :: T) ρ' δ' σ' H') (x : Ext (uAd ab ++ d :: T) ρ H ρ' H') : UI K T d G H1 ab ρ' δ' σ' H' where
  sim := s
  lst := x.at UI.dm h.lst
  dct := fun p hp => x.at (UI.bm hp) (h.dct p hp)
  nd := h.nd
  fr := h.fr
  dT := h.dT
  up := h.up.trans x.same
  kp := fun a ha => (h.kp a ha).trans (x.tmp a (List.mem_append_right _ (List.mem_cons_of_mem _ ha)))
theorem uAd_set (ab : Ub) (j : Nat) (p : Addr × List Int) (ks : List Int) (h : ab[j]? = some p) : uAd (ab.set j (p.1, ks)) = uAd ab := by
  unfold uAd
  apply List.ext_getElem?
  intro l
  rw [List.getElem?_map, List.getElem?_map]
  by_cases e : j = l
  · subst e
    rw [List.getElem?_set_self (List.getElem?_eq_some_iff.mp h).1, h]
    rfl
  · rw [List.getElem?_set_ne e]
/-- one dict grows -/
theorem UI.put {j : Nat} {p : Addr × List Int} {k : Int} (h : UI K T d G H1 ab ρ δ σ H) (hj : ab[j]? = some p) : UI K T d G H1 (ab.set j (p.1, if k ∈ p.2 then p.2 else p.2 ++ [k])) ρ δ σ (upd H p.1 (.dK (putK (uKv p.2) (Sum.inl k) (.bl true)))) := by
  have hp : p ∈ ab := List.mem_of_getElem? hj
  have hm : p.1 ∈ uAd ab ++ d :: T := UI.bm hp
  have ek : putK (uKv p.2) (Sum.inl k) (.bl true) = uKv (if k ∈ p.2 then p.2 else p.2 ++ [k]) := by
    have ea : (uKv p.2).any (fun kv => decide (kv.1 = Sum.inl k)) = decide (k ∈ p.2) := by
      unfold uKv
      rw [List.any_map, Bool.eq_iff_iff, List.any_eq_true, decide_eq_true_iff]
      constructor
      · rintro ⟨x, hx, e⟩
        have e : decide ((Sum.inl x : Key) = Sum.inl k) = true := e
        have := Sum.inl.inj (of_decide_eq_true e)
        rw [← this]
        exact hx
      · exact fun hk => ⟨k, hk, decide_eq_true rfl⟩
    unfold putK
    rw [ea]
    by_cases hk : k ∈ p.2
    · rw [decide_eq_true hk, if_pos rfl, if_pos hk]
      unfold uKv
      rw [List.map_map]
      apply List.map_congr_left
      intro x _
      show (if (Sum.inl x : Key) = Sum.inl k then (Sum.inl x, V.bl true) else (Sum.inl x, V.bl true)) = _
      split <;> rfl
    · rw [decide_eq_false hk, if_neg Bool.false_ne_true, if_neg hk]
      unfold uKv
      rw [List.map_append]
      rfl
  rw [ek]
  generalize (if k ∈ p.2 then p.2 else p.2 ++ [k]) = ks
  have hh : hid (uAd ab ++ d :: T) ρ (upd H p.1 (.dK (uKv ks))) = hid (uAd ab ++ d :: T) ρ H := hid_tmp hm
  have eS := uAd_set ab j p ks hj
  refine ⟨?_, ?_, ?_, by rw [eS]; exact h.nd, ?_, h.dT, ?_, ?_⟩
  · rw [eS]
    exact h.sim.tmpW hm (nb_of (h.dct p hp))
  · rw [eS, upd_ne (h.fr p hp).1.symm]
    exact h.lst
  · intro q hq
    rcases List.mem_iff_getElem?.mp hq with ⟨l, hl⟩
    by_cases e : j = l
    · subst e
      rw [List.getElem?_set_self (List.getElem?_eq_some_iff.mp hj).1] at hl
      cases hl
      exact upd_same
    · rw [List.getElem?_set_ne e] at hl
      have hq' := List.mem_of_getElem? hl
      rw [upd_ne, h.dct q hq']
      intro z
      have n1 : (uAd ab)[j]? = some p.1 := by unfold uAd; rw [List.getElem?_map, hj]; rfl
      have n2 : (uAd ab)[l]? = some q.1 := by unfold uAd; rw [List.getElem?_map, hl]; rfl
      rw [z] at n2
      have hjl := (List.getElem?_eq_some_iff.mp n1).1
      exact e ((List.getElem?_inj hjl h.nd).mp (n1.trans n2.symm))
  · intro q hq
    rcases List.mem_iff_getElem?.mp hq with ⟨l, hl⟩
    by_cases e : j = l
    · subst e
      rw [List.getElem?_set_self (List.getElem?_eq_some_iff.mp hj).1] at hl
      cases hl
      exact h.fr p hp
    · rw [List.getElem?_set_ne e] at hl
      exact h.fr q (List.mem_of_getElem? hl)
  · rw [eS, hh]
    exact h.up
  · intro b hb
    have ne : b ≠ p.1 := fun z => (h.fr p hp).2 (by rw [← z]; exact hb)
    rw [upd_ne ne]
    exact h.kp b hb
end
/-! the empty dicts -/
def upN (vs : List Nat) (g : GEV) : List PyData → Ds → Option Ds
  | [], δ => some δ
  | x :: xs, δ => (g x δ).bind fun δ1 => if noOwn vs δ1 = true then upN vs g xs (wipeD δ1 vs) else none
/-! the loop -/
def addK (ks : List Int) (k : Int) : List Int := if k ∈ ks then ks else ks ++ [k]
def upT (fy fx : PEV) (acc : List (List Int)) (δ : Ds) : Option (List (List Int) × Ds) := (fy δ).bind fun y => match y.1 with
  | .v (.d (.int j)) => (fx y.2).bind fun x => match x.1 with
    | .v (.d (.int k)) => if 0 ≤ j then match acc[j.toNat]? with
        | some ks => if ks.length < sizeLine then some (acc.set j.toNat (addK ks k), x.2) else none
        | none => none
      else none
    | _ => none
  | _ => none
def upL (fy fx : PEV) (g : GEV) : List PyData → List (List Int) → Ds → Option (List (List Int) × Ds)
  | [], acc, δ => some (acc, δ)
  | x :: xs, acc, δ => (g x δ).bind fun δ1 => (upT fy fx acc δ1).bind fun r => upL fy fx g xs r.1 r.2
/-- a dict of whole numbers, each True -/
def setC (ks : List Int) : PyData := tblC true (ks.map fun k => .tuple [.int k]) (ks.map fun _ => .bool true)
def isNo : Option (Option S) → Bool
  | some none => true
  | _ => false
def upsS (i : Nat) (vs : List Nat) (f1 : IEV) (g1 : GEV) (f2 : IEV) (g2 : GEV) (fy fx : PEV) : SEV := fun δ => (f1 δ).bind fun z1 => if noOwn vs z1.2 = true ∧ z1.1.length ≤ sizeLine then (upN vs g1 z1.1 (wipeD z1.2 vs)).bind fun δe => if isNo ((restD z1.2 δe vs)[i]?) = true then
    (f2 (restD z1.2 δe vs)).bind fun z2 => (upL fy fx g2 z2.1 (List.replicate z1.1.length []) z2.2).map fun r => .nx (r.2.set i (some (.o (.l (r.1.map setC))))) else none else none
section
variable {K : PySem.W.Frag} {T : List Addr} {ρ ρ' : List (Option Addr)} {δ δ' : Ds} {σ σ' : L2.St} {G H H' H1 : Hp} {d : Addr} {ab : Ub}
def uAcc (ab : Ub) : List (List Int) := ab.map fun p => p.2
end
section
variable {X : Cx} {P : List Nat} {rest : List Stmt}
end
end DL

/-! a dict that is filled for good, read as a table -/
namespace DL
open PySem PySem.Spec PyProof.Rows L2 LamX NdefX DLS
def keysC : List PyData → Option (List (List Key))
  | [] => some []
  | .tuple ds :: ks => (keyL ds).bind fun k => (keysC ks).map fun l => k :: l
  | _ => none
def tabOf : PyData → Option Tab
  | .dict [(.int j, .bool fl), (.list ks, .list xs)] => if j = konI then (keysC ks).map fun kk => ⟨fl, kk.zip xs⟩ else none
  | _ => none
variable [TB]
/-- read as a table -/
def castP (f : PEV) : PEV := fun δ => (f δ).bind fun x => match x.1 with
  | .v (.d c) => (tabOf c).map fun t => (.v (.t t), x.2)
  | _ => none
section
variable {X : Cx} {e : Expr} {f : PEV}
end
section
variable {X : Cx} {a b : Expr} {pos : Pos} {fp fq : PEV} {k : Nat}
end
end DL

/-! a new table told as data at once -/
namespace DL
open PySem PySem.Spec PyProof.Rows L2 LamX NdefX DLS
/-- a table as data -/
def dataT (t : Tab) : PyData := .dict [(.int konI, .bool t.fl), (.list (t.kvs.map fun p => .tuple (p.1.map kEnc)), .list (t.kvs.map fun p => p.2))]
def frzC : S → S
  | .o (.t t) => .d (dataT t)
  | s => frz s
def frzCP (f : EV) : PEV := fun δ => (f δ).map fun r => (PV.v (frzC r.1), r.2)
variable [TB]
section
variable {K : PySem.W.Frag} {G : Hp}
end
section
variable {X : Cx} {e : Expr} {f : EV}
end
end DL

/-! for x in xs: (if x not in d: d[x] = value); v = v * d[x] -/
namespace DL
open PySem PySem.Spec PyProof.Rows L2 LamX NdefX DLS
variable [TB]
def accAt : MeA → NestedKey → Option PyData
  | [], _ => none
  | p :: acc, k => if p.1 = k then some p.2 else accAt acc k
def mulMem (j : Nat) (fk : PEV) (acc : MeA) (δ : Ds) : Option Ds := match slot δ j with
  | some (.d (.int a)) => (nkey fk δ).bind fun y => match accAt acc y.1 with
    | some (.int b) => if a.natAbs.log2 + b.natAbs.log2 < 1000000 then some (y.2.set j (some (.d (.int (a * b))))) else none
    | _ => none
  | _ => none
section
variable {K : PySem.W.Frag} {T : List Addr} {ρ : List (Option Addr)} {δ δ' : Ds} {σ : L2.St} {G H H1 : Hp} {d : Addr} {acc : MeA}
end
def memLq (j : Nat) (fk : PEV) (fe : EV) (g : GEV) : List PyData → MeA → Ds → Option (MeA × Ds)
  | [], acc, δ => some (acc, δ)
  | x :: xs, acc, δ => (g x δ).bind fun δ1 => (turnMem fk fe acc δ1).bind fun r => (mulMem j fk r.1 r.2).bind fun δ2 => memLq j fk fe g xs r.1 δ2
def forMul (i j : Nat) (fk : PEV) (fe : EV) (fi : IEV) (g : GEV) : SEV := fun δ => (fi δ).bind fun z => match slot z.2 i with
  | some (.o (.t t)) => if t.kvs.isEmpty = true then (memLq j fk fe g z.1 [] (z.2.set i none)).bind fun r => if r.1.isEmpty = false then some (.nx (r.2.set i (some (.d (memA r.1))))) else none else none
  | _ => none
section
variable {X : Cx} {P : List Nat} {pos p1 p2 p3 p5 n1 n2 n3 n4 n5 p6 p7 p8 : Pos}
end
end DL

/-! n -= e, t += e (t a tuple) -/
namespace DL
open PySem PySem.Spec PyProof.Rows L2 HT DLS
section
variable {prog : Program} {w : World} {A : Around} {E : Value → Shared → Prop} {s : Shared}
end
section
variable {X : Cx}
end
variable [TB]
section
variable {X : Cx} {P : List Nat} {e : Expr} {pos : Pos} {fp : PEV}
def augSubS (i : Nat) (f : PEV) : SEV := fun δ => match slot δ i with
  | some (.d (.int m)) => (f δ).bind fun x => match x.1 with
    | .v (.d (.int n)) => some (.nx (x.2.set i (some (.d (.int (m - n))))))
    | _ => none
  | _ => none
def augTS (i : Nat) (f : PEV) : SEV := fun δ => match slot δ i with
  | some (.d (.tuple xs)) => (f δ).bind fun x => match x.1 with
    | .v (.d (.tuple ys)) => if xs.length + ys.length ≤ sizeLine then some (.nx (x.2.set i (some (.d (.tuple (xs ++ ys)))))) else none
    | _ => none
  | _ => none
end
end DL

namespace DLK
open PySem PySem.Spec PyProof.Rows PySem.W L2
/-! ### sorted(l, key=f), the keys pairs of whole numbers -/
section
variable {X : Cx} {pins : List (Addr × Obj)} {σ : L2.St} {H : Hp} {s : Shared}
abbrev tup2 (p : Int × Int) : PyData := .tuple [.int p.1, .int p.2]
/-- stable by pairs -/
def sortBy2 {α : Type} (ks : List (Int × Int)) (xs : List α) : List α := ((ks.zip xs).mergeSort fun a b => decide (a.1.1 < b.1.1 ∨ (a.1.1 = b.1.1 ∧ a.1.2 ≤ b.1.2))).map (·.2)
end
end DLK
namespace DL
open PySem PySem.Spec PyProof.Rows L2 LamX NdefX
variable [TB]
def keysOf2 (F : FN) (cs : List S) : List PyData → Option (List (Int × Int))
  | [] => some []
  | x :: xs => match F (.d x :: cs) with
    | some (.d (.tuple [.int j, .int k]), _) => (keysOf2 F cs xs).map ((j, k) :: ·)
    | _ => none
def sortKeyPE (F : FN) (js : List Nat) (fa : AEV) : EV := fun δ => (fa δ).bind fun x => match x.1 with
  | [.v (.d (.list xs))] => (capD (frzS x.2 js) js).bind fun cs => (keysOf2 F cs xs).bind fun ks => some (.o (.l (DLK.sortBy2 ks xs)), frzS x.2 js)
  | _ => none
section
variable {X : Cx} {e : Expr} {p pos lpos kpos : Pos}
end
end DL

/-! a name's own list or table leaves it at `return`: nobody's any more, the caller's own -/
namespace DL
open PySem PySem.Spec PyProof.Rows L2
variable [TB]
def vrO (i : Nat) : EV := fun δ => match slot δ i with
  | some (.o c) => some (.o c, δ.set i none)
  | _ => none
section
variable {K : PySem.W.Frag} {T : List Addr} {ρ : List (Option Addr)} {δ : Ds} {σ : L2.St} {H : Hp}
def outH (H : Hp) (a : Addr) : Hp := fun b => if b = a then none else H b
theorem outH_ne {a b : Addr} (h : b ≠ a) : outH H a b = H b := if_neg h
theorem set_none_mem {ρ : List (Option Addr)} {i : Nat} {b : Addr} (h : some b ∈ ρ.set i none) : some b ∈ ρ := by
  rcases List.mem_or_eq_of_mem_set h with h | h
  · exact h
  · cases h
theorem hid_out {i : Nat} {a : Addr} (ha : ρ[i]? = some (some a)) (inj : ∀ (i j : Nat) (a : Addr), ρ[i]? = some (some a) → ρ[j]? = some (some a) → i = j) : Same (hid T ρ H) (hid T (ρ.set i none) (outH H a)) := fun b o h => by
  obtain ⟨h1, h2, h3⟩ := hid_some.mp h
  have hne : b ≠ a := fun e => h3 (by rw [e]; exact ix_mem ha)
  exact hid_some.mpr ⟨by rw [outH_ne hne]; exact h1, h2, fun z => h3 (set_none_mem z)⟩
theorem Sim.leave {i : Nat} {c : C} (h : Sim K T ρ δ σ H) (hi : δ[i]? = some (some (.o c))) : ∃ a o, σ[i]? = some (some (.ref a)) ∧ H a = some o ∧ CO K (hid T ρ H) o c ∧ Sim K T (ρ.set i none) (δ.set i none) σ (outH H a) ∧ DL.Ext T ρ H (ρ.set i none) (outH H a) := by
  obtain ⟨a, ha, hσ⟩ := h.own i c hi
  obtain ⟨v, e1, e2⟩ := h.slot i _ hi
  rw [hσ] at e1
  cases e1
  obtain ⟨a', o, z, ho, hc⟩ := e2
  cases z
  have sm := hid_out (T := T) (H := H) ha h.inj
  have out : ∀ b, b ∈ T → outH H a b = H b := fun b hb => outH_ne fun e => h.nt i a ha (by rw [← e]; exact hb)
  have ext : DL.Ext T ρ H (ρ.set i none) (outH H a) := Ext.of h.trk sm out
  have nej : ∀ {j : Nat} {s : S}, (δ.set i none)[j]? = some (some s) → i ≠ j ∧ δ[j]? = some (some s) := fun {j s} hj => by
    by_cases e : i = j
    · subst e
      have hl : i < δ.length := (List.getElem?_eq_some_iff.mp hi).1
      rw [List.getElem?_set_self hl] at hj
      cases hj
    · rw [List.getElem?_set_ne e] at hj
      exact ⟨e, hj⟩
  have nea : ∀ {j : Nat} {b : Addr}, (ρ.set i none)[j]? = some (some b) → i ≠ j ∧ ρ[j]? = some (some b) := fun {j b} hj => by
    by_cases e : i = j
    · subst e
      have hl : i < ρ.length := (List.getElem?_eq_some_iff.mp ha).1
      rw [List.getElem?_set_self hl] at hj
      cases hj
    · rw [List.getElem?_set_ne e] at hj
      exact ⟨e, hj⟩
  refine ⟨a, o, hσ, ho, hc, ⟨by rw [List.length_set, List.length_set]; exact h.len, by rw [List.length_set]; exact h.slen, fun j s hj => ?_, fun j c' hj => ?_, fun j b hj => ?_, fun j k b hj hk => h.inj j k b (nea hj).2 (nea hk).2, fun j b hj => h.nt j b (nea hj).2, fun b hb => ?_, h.tabT, ext.tabs h.tabs⟩, ext⟩
  · obtain ⟨hne, hj⟩ := nej hj
    obtain ⟨v, v1, v2⟩ := h.slot j s hj
    refine ⟨v, v1, ?_⟩
    cases s with
    | o c' =>
      obtain ⟨b, o', rfl, hb, hc'⟩ := v2
      obtain ⟨b', hb', hσ'⟩ := h.own j c' hj
      rw [v1] at hσ'
      cases hσ'
      have hba : b ≠ a := fun e => hne (h.inj i j a ha (by rw [← e]; exact hb'))
      exact ⟨b, o', rfl, by rw [outH_ne hba]; exact hb, coM sm hc'⟩
    | d x => exact svM (s := .d x) sm v2
    | t x => exact svM (s := .t x) sm v2
    | z x => exact svM (s := .z x) sm v2
    | p x => exact svM (s := .p x) sm v2
  · obtain ⟨hne, hj⟩ := nej hj
    obtain ⟨b, b1, b2⟩ := h.own j c' hj
    exact ⟨b, by rw [List.getElem?_set_ne hne]; exact b1, b2⟩
  · obtain ⟨hne, hj⟩ := nea hj
    obtain ⟨c', hc'⟩ := h.own' j b hj
    exact ⟨c', by rw [List.getElem?_set_ne hne]; exact hc'⟩
  · obtain ⟨o', ho', hn⟩ := h.tmp b hb
    exact ⟨o', by rw [out b hb]; exact ho', hn⟩
end
section
variable {X : Cx}
end
end DL

/-! [.. for x in name if ..], the name's a table told as data, its keys tuples -/
namespace DL
open PySem PySem.Spec PyProof.Rows L2 LamX NdefX
variable [TB]
/-- only these slots -/
def pickS (ks : List Nat) : Nat → Ds → Ds
  | _, [] => []
  | j, s :: δ => (if ks.contains j then s else none) :: pickS ks (j + 1) δ
def layS : Option S → Bool
  | some (.d x) => x.canLay0
  | none => true
  | _ => false
abbrev pickT (i : Nat) (ks : List Nat) (t : Tab) (δ : Ds) : Ds := (pickS ks 0 δ).set i (some (.t t))
def lcDt (i : Nat) (ks vs : List Nat) (g : GEV) (tt : TEV) (te : EV) : EV := fun δ => match slot δ i with
  | some (.d c) => (tabOf c).bind fun t => if t.fl = false ∧ δ.all notOwn = true ∧ (pickS ks 0 δ).all layS = true ∧ (t.kvs.all fun p => p.2.canLay0) = true ∧ noOwn vs (pickT i ks t δ) = true then
      (lcD vs g tt te (t.kvs.map fun p => keyD p.1) (wipeD (pickT i ks t δ) vs)).bind fun r => if r.1.length ≤ sizeLine ∧ (restD (pickT i ks t δ) r.2 vs).all notOwn = true then some (.o (.l r.1), δ) else none
    else none
  | _ => none
omit [TB] in
/-- all but a table's address stays -/
theorem keepD {d : Addr} {G G' : Hp} {wt : List (List Key × V)} (st : ∀ b o, b ≠ d → G b = some o → G' b = some o) (hd : G d = some (.dT wt)) {b : Addr} {o : HO} (h : G b = some o) (n : ∀ ws, o ≠ .dT ws) : G' b = some o := st b o (fun z => by
  rw [z, hd] at h
  exact n wt (Option.some.inj h).symm) h
mutual
theorem dpL {K : PySem.W.Frag} {d : Addr} {G G' : Hp} {wt : List (List Key × V)} (st : ∀ b o, b ≠ d → G b = some o → G' b = some o) (hd : G d = some (.dT wt)) : ∀ {v : V} (x : PyData), x.canLay0 = true → Dq K G v x → Dq K G' v x
  | _, .none, _, h => by cases h; exact .non
  | _, .bool b, _, h => by cases h; exact .bl b
  | _, .int b, _, h => by cases h; exact .int b
  | _, .str b, _, h => by cases h; exact .str b
  | _, .list ds, l, h => by
    cases h with
    | lst hs ha => exact .lst (keepD st hd hs fun _ z => nomatch z) (dpAllL st hd ds l ha)
  | _, .tuple ds, l, h => by
    cases h with
    | tup hs ha => exact .tup (keepD st hd hs fun _ z => nomatch z) (dpAllL st hd ds l ha)
  | _, .dict _, l, _ => by cases l
theorem dpAllL {K : PySem.W.Frag} {d : Addr} {G G' : Hp} {wt : List (List Key × V)} (st : ∀ b o, b ≠ d → G b = some o → G' b = some o) (hd : G d = some (.dT wt)) : ∀ {vs : List V} (ds : List PyData), PyData.canLayAll0 ds = true → DqAll K G vs ds → DqAll K G' vs ds
  | _, [], _, h => by cases h; exact .nil
  | _, x :: ds, l, h => by
    cases h with
    | cons h1 h2 => exact .cons (dpL st hd x (Bool.and_eq_true_iff.mp l).1 h1) (dpAllL st hd ds (Bool.and_eq_true_iff.mp l).2 h2)
end
section
variable {X : Cx}
end
end DL

/-! for x in xs: (if t: s; name.append([])); name[-1].append(e): a list of lists that is made in place -/
namespace DL
open PySem PySem.Spec PyProof.Rows L2 LamX NdefX
variable [TB]
abbrev Wb := List (Addr × List PyData)
def wAd (ab : Wb) : List Addr := ab.map fun p => p.1
def wAcc (ab : Wb) : List (List PyData) := ab.map fun p => p.2
/-- the list at d, its lists at their addresses, all of it in the making; with what has become of everything else -/
structure WI (K : PySem.W.Frag) (T : List Addr) (d : Addr) (G H1 : Hp) (ab : Wb) (ρ : List (Option Addr)) (δ : Ds) (σ : L2.St) (H : Hp) : Prop where
  sim : Sim K (wAd ab ++ d :: T) ρ δ σ H
  lst : H d = some (.lst ((wAd ab).map V.ref))
  inn : ∀ p ∈ ab, ∃ vs, H p.1 = some (.lst vs) ∧ DqAll K (hid (wAd ab ++ d :: T) ρ H) vs p.2
  nd : (wAd ab).Nodup
  fr : ∀ p ∈ ab, p.1 ≠ d ∧ p.1 ∉ T
  dT : d ∉ T
  up : Same G (hid (wAd ab ++ d :: T) ρ H)
  kp : ∀ a ∈ T, Kp (H1 a) (H a)
section
variable {K : PySem.W.Frag} {T : List Addr} {ρ ρ' : List (Option Addr)} {δ δ' : Ds} {σ σ' : L2.St} {G H H' H1 : Hp} {d : Addr} {ab : Wb}
theorem WI.dm : d ∈ wAd ab ++ d :: T := List.mem_append_right _ List.mem_cons_self
theorem WI.bm {p : Addr × List PyData} (hp : p ∈ ab) : p.1 ∈ wAd ab ++ d :: T := List.mem_append_left _ (List.mem_map.mpr ⟨p, hp, rfl⟩)
theorem WI.ext (h : WI K T d G H1 ab ρ δ σ H) (s : Sim K (wAd ab ++ d :: T) ρ' δ' σ' H') (x : Ext (wAd ab ++ d :: T) ρ H ρ' H') : WI K T d G H1 ab ρ' δ' σ' H' where
  sim := s
  lst := x.at WI.dm h.lst
  inn := fun p hp => let ⟨vs, a, b⟩ := h.inn p hp; ⟨vs, x.at (WI.bm hp) a, dpAllM x.same _ b⟩
  nd := h.nd
  fr := h.fr
  dT := h.dT
  up := h.up.trans x.same
  kp := fun a ha => (h.kp a ha).trans (x.tmp a (List.mem_append_right _ (List.mem_cons_of_mem _ ha)))
theorem wAd_app (ab : Wb) (p : Addr × List PyData) : wAd (ab ++ [p]) = wAd ab ++ [p.1] := by
  unfold wAd
  rw [List.map_append]
  rfl
/-- the last list grows -/
theorem WI.push {p : Addr × List PyData} {vs : List V} {v : V} {x : PyData} (h : WI K T d G H1 (ab ++ [p]) ρ δ σ H) (hv : H p.1 = some (.lst vs)) (hvs : DqAll K (hid (wAd (ab ++ [p]) ++ d :: T) ρ H) vs p.2) (hx : Dq K (hid (wAd (ab ++ [p]) ++ d :: T) ρ H) v x) : WI K T d G H1 (ab ++ [(p.1, p.2 ++ [x])]) ρ δ σ (upd H p.1 (.lst (vs ++ [v]))) := by
  have eA : wAd (ab ++ [(p.1, p.2 ++ [x])]) = wAd (ab ++ [p]) := by rw [wAd_app, wAd_app]
  have hp : p ∈ ab ++ [p] := List.mem_append_right _ (List.mem_singleton_self _)
  have hm : p.1 ∈ wAd (ab ++ [p]) ++ d :: T := WI.bm hp
  have hh : hid (wAd (ab ++ [p]) ++ d :: T) ρ (upd H p.1 (.lst (vs ++ [v]))) = hid (wAd (ab ++ [p]) ++ d :: T) ρ H := hid_tmp hm
  refine ⟨?_, ?_, ?_, by rw [eA]; exact h.nd, ?_, h.dT, ?_, ?_⟩
  · rw [eA]
    exact h.sim.tmpW hm (nb_of hv)
  · rw [eA, upd_ne (h.fr p hp).1.symm]
    exact h.lst
  · intro q hq
    rw [eA, hh]
    rcases List.mem_append.mp hq with hq | hq
    · obtain ⟨ws, h1, h2⟩ := h.inn q (List.mem_append_left _ hq)
      refine ⟨ws, ?_, h2⟩
      rw [upd_ne]
      · exact h1
      · intro z
        have nd := h.nd
        rw [wAd_app, List.nodup_append] at nd
        exact nd.2.2 q.1 (List.mem_map.mpr ⟨q, hq, rfl⟩) p.1 (List.mem_singleton_self _) z
    · rw [List.mem_singleton.mp hq]
      exact ⟨_, upd_same, dpAll_app hvs (.cons hx .nil)⟩
  · intro q hq
    rcases List.mem_append.mp hq with hq | hq
    · exact h.fr q (List.mem_append_left _ hq)
    · rw [List.mem_singleton.mp hq]
      exact h.fr p hp
  · rw [eA, hh]
    exact h.up
  · intro b hb
    have ne : b ≠ p.1 := fun z => (h.fr p hp).2 (by rw [← z]; exact hb)
    rw [upd_ne ne]
    exact h.kp b hb
/-- a new empty list is the last one -/
theorem WI.add {b : Addr} (h : WI K T d G H1 ab ρ δ σ H) (hb : H b = none) : WI K T d G H1 (ab ++ [(b, [])]) ρ δ σ (upd (upd H b (.lst [])) d (.lst ((wAd ab).map V.ref ++ [.ref b]))) := by
  have nb : b ∉ wAd ab ++ d :: T := (h.sim.trk.fresh hb).1
  have bd : b ≠ d := fun z => nb (by rw [z]; exact WI.dm)
  have hD5 : (upd H b (.lst [])) d = some (.lst ((wAd ab).map V.ref)) := by rw [upd_ne bd.symm]; exact h.lst
  have mem : ∀ a, a ∈ b :: (wAd ab ++ d :: T) ↔ a ∈ wAd (ab ++ [(b, [])]) ++ d :: T := fun a => by
    rw [wAd_app]
    simp only [List.mem_cons, List.mem_append, List.not_mem_nil, or_false]
    constructor
    · rintro (z | z | z)
      · exact .inl (.inr z)
      · exact .inl (.inl z)
      · exact .inr z
    · rintro ((z | z) | z)
      · exact .inr (.inl z)
      · exact .inl z
      · exact .inr (.inr z)
  have s7 := (h.sim.addTmp (o := .lst []) hb trivial).tEq mem
  have hDm : d ∈ wAd (ab ++ [(b, [])]) ++ d :: T := (mem d).mp (List.mem_cons_of_mem _ WI.dm)
  have hh : hid (wAd (ab ++ [(b, [])]) ++ d :: T) ρ (upd (upd H b (.lst [])) d (.lst ((wAd ab).map V.ref ++ [.ref b]))) = hid (wAd ab ++ d :: T) ρ H := by
    rw [hid_tmp hDm, ← hid_tEq mem, hid_new hb]
  refine ⟨s7.tmpW hDm (nb_of hD5), ?_, ?_, ?_, ?_, h.dT, by rw [hh]; exact h.up, fun a ha => ?_⟩
  · rw [upd_same, wAd_app, List.map_append]
    rfl
  · intro q hq
    rw [hh]
    rcases List.mem_append.mp hq with hq | hq
    · obtain ⟨vs, q1, q2⟩ := h.inn q hq
      have n1 : q.1 ≠ b := fun z => nb (by rw [← z]; exact WI.bm hq)
      refine ⟨vs, ?_, q2⟩
      rw [upd_ne (h.fr q hq).1, upd_ne n1]
      exact q1
    · rw [List.mem_singleton.mp hq]
      exact ⟨[], by rw [upd_ne bd]; exact upd_same, .nil⟩
  · rw [wAd_app, List.nodup_append]
    refine ⟨h.nd, List.nodup_cons.mpr ⟨(fun h => nomatch h), List.nodup_nil⟩, fun a ha c hc => ?_⟩
    rw [List.mem_singleton.mp hc]
    exact fun z => nb (by
      have z : a = b := z
      rw [← z]
      exact List.mem_append_left _ ha)
  · intro q hq
    rcases List.mem_append.mp hq with hq | hq
    · exact h.fr q hq
    · rw [List.mem_singleton.mp hq]
      exact ⟨bd, fun z => nb (List.mem_append_right _ (List.mem_cons_of_mem _ z))⟩
  · have n1 : a ≠ d := fun z => h.dT (z ▸ ha)
    have n2 : a ≠ b := fun z => nb (by rw [← z]; exact List.mem_append_right _ (List.mem_cons_of_mem _ ha))
    rw [upd_ne n1, upd_ne n2]
    exact h.kp a ha
end
/-! one turn -/
def pushL (acc : List (List PyData)) (x : PyData) : List (List PyData) := acc.dropLast ++ [acc.getLast?.getD [] ++ [x]]
def spG (fk : PEV) (fa : AEV) (acc : List (List PyData)) (δ : Ds) : Option (List (List PyData) × Ds) := (fk δ).bind fun y => match y.1 with
  | .v (.d (.int j)) => if j = -1 ∧ acc ≠ [] then (fa y.2).bind fun z => match z.1 with
      | [.v (.d x)] => if (acc.all fun l => decide (l.length < sizeLine)) = true then some (pushL acc x, z.2) else none
      | _ => none
    else none
  | _ => none
def spT (tt : TEV) (s1 : SEV) (fk : PEV) (fa : AEV) (acc : List (List PyData)) (δ : Ds) : Option (List (List PyData) × Ds) := (tt δ).bind fun b => if b.1 = true then match s1 b.2 with
    | some (.nx δ2) => if acc.length < sizeLine then spG fk fa (acc ++ [[]]) δ2 else none
    | _ => none
  else spG fk fa acc b.2
def spD (tt : TEV) (s1 : SEV) (fk : PEV) (fa : AEV) (g : GEV) : List PyData → List (List PyData) → Ds → Option (List (List PyData) × Ds)
  | [], acc, δ => some (acc, δ)
  | x :: xs, acc, δ => (g x δ).bind fun δ1 => (spT tt s1 fk fa acc δ1).bind fun r => spD tt s1 fk fa g xs r.1 r.2
def forSpl (i : Nat) (tt : TEV) (s1 : SEV) (fk : PEV) (fa : AEV) (fi : IEV) (g : GEV) : SEV := fun δ => (fi δ).bind fun z => match slot z.2 i with
  | some (.o (.l [])) => (spD tt s1 fk fa g z.1 [] (z.2.set i none)).map fun r => .nx (r.2.set i (some (.o (.l (r.1.map PyData.list)))))
  | _ => none
abbrev tApp (K : PySem.W.Frag) (i : Nat) : TS := tDrop (tBM K "list" rAppend (tVar i) (tCons (tLst tNil) tNil))
abbrev tPsh (K : PySem.W.Frag) (i : Nat) (fk : PEV) (fa : AEV) : TS := tDrop (tBM K "list" rAppend (tOp (rIxL K) (tVar i) (liftP K fk)) (liftA K fa))
abbrev tSpl (K : PySem.W.Frag) (P : List Nat) (i : Nat) (tt : TEV) (s1 : SEV) (fk : PEV) (fa : AEV) : TS := tSeq (tIfS (liftT K tt) (tSeq (liftS K (i :: P) s1) (tApp K i)) tNext) (tPsh K i fk fa)
section
variable {K : PySem.W.Frag} {T : List Addr} {ρ ρ' : List (Option Addr)} {δ δ' : Ds} {σ σ' : L2.St} {G H H' H1 : Hp} {d : Addr} {ab : Wb}
end
section
variable {X : Cx} {P : List Nat}
end
end DL

/-! exceptions with a field: a class of the program with an __init__ of its own (Base.__init__(self, text); self.f = x),
raised in the middle of a def, kept by except .. as, asked for its class and its field -/
namespace DL
open PySem PySem.Spec PyProof.Rows L2
/-- what the base class says of its __init__ -/
structure BaseI (K : PySem.W.Frag) (C0 : Addr) : Prop where
  rd : PySem.W.readsIn K C0 (.type "type") = true
  ga : PySem.W.specialIn K (.ref C0) "__getattribute__" = some (some (.builtin "type.__getattribute__"))
  fi : PySem.W.findCls K (.ref C0) (.type "type") "__init__" = some (.val (.builtin "ValueError.__init__"))
section
variable {X : Cx} {e : Expr} {es : List Expr} {ta : TA} {p1 p2 pos : Pos} {b : Str} {C0 : Addr}
theorem pe_meinit {pl : Sem Bool} (B : BaseI X.K C0) (hg : Gl X b) (hm : X.mg b = some (.ref C0)) (ha : PA X (e :: es) ta) (hdb : (b == ("__debug__" : Str)) = false := by decide)
    (hc : eval (.Call (.Attribute (.Name b p1) "__init__" p2) (e :: es) [] pos) X.env = (do
      let ov ← eval (.Name b p1) X.env
      standAt p2.atName
      let (f, first) ← holding [ov] (getMethod ov "__init__" pl)
      callWith pos f first (backTo pos (starEach (e :: es) X.env)) (backToKw pos (keywordEach [] X.env))) := by rfl)
    (he : starEach (e :: es) X.env = (false, eval e X.env) :: starEach es X.env := by rfl) (hpl : (backTo pos (starEach es X.env)).any (·.1) = false := by rfl) :
    PE X (.Call (.Attribute (.Name b p1) "__init__" p2) (e :: es) [] pos) (tVeI X.K ta) := by
  constructor
  intro pins s σ H Q I h
  apply PySem.W.methodCall_KW (ld_glob I hg hm ?_ hdb) hc
  refine PySem.W.method_cls I.kIn B.ga (PySem.W.cls_value I.kIn B.rd B.fi (by decide +kernel) ?_)
  show wpAny _ _ (callWith pos (Value.builtin "ValueError.__init__") [] (backTo pos (starEach (e :: es) X.env)) []) _ _ _
  apply PyProof.Rows.callWith_method1 (thn (ha.run pos pins _ σ H _ (I.tok _) h) ?_) he hpl
  rintro us s1 ⟨vs, H1, I1, r1, a, C, ws, rfl, hl, T, ea, q⟩
  cases r1 with
  | @cons _ u0 _ ur ra rw' =>
    obtain rfl : u0 = Value.ref a := ra
    refine oinit_ok T I1 ea ?_ fun s' J => ⟨.non, H1, J, rfl, q⟩
    rw [← Paired.length rw', sizeLine_eq]
    omega
end
/-- what C.__init__(self, x) does: self.f is x -/
def spI (C : Addr) (f : Str) : Sp := fun vs H Q _ => ∃ (a : Addr) (v : V), vs = [.ref a, v] ∧ H a = some (exo a C none) ∧ ∀ dx, H dx = none → dx ≠ a → Q .non (upd (upd H dx (exd dx [(f, v)])) a (exo a C (some dx)))
theorem init_ok {P : Program} {w : World} {K : PySem.W.Frag} {mg : Str → Option Value} {base : Heap} {x qual b sf xf f m : Str} {st : Stmt} {fI C0 C : Addr} {fd : FuncData} {N ps : List Str} {j : Nat} {p1 p2 p3 p4 p5 p6 p7 p8 p9 p10 : Pos} (F : Fun K x qual st fI fd) (Sc : FnScope N ps (defScope st)) (B : BaseI K C0)
    (T : OexC K C) (hno : PySem.W.findIn K (.ref C) f = some none) (hps : ps.length = 2)
    (hb : defBody st = [.Expr (.Call (.Attribute (.Name b p1) "__init__" p2) [.Name sf p3, .Constant (.str m) j p4] [] p5) p6, .Assign [.Attribute (.Name sf p7) f p8] (.Name xf p9) p10])
    (h : ∀ (cdv : Value) (A : Around) (outer : List Env) (s : Shared) (H : Hp) (E : XK), ∀ X : Cx, X = (cxOf CX0 P w K mg base N qual (defScope st) fI cdv A outer s H E).nox → Gl X b ∧ X.mg b = some (.ref C0) ∧ PE X (.Name sf p3) (tVar 0) ∧ PE X (.Name sf p7) (tVar 0) ∧ PE X (.Name xf p9) (tVar 1) ∧
      (∃ pl : Sem Bool, eval (.Call (.Attribute (.Name b p1) "__init__" p2) [.Name sf p3, .Constant (.str m) j p4] [] p5) X.env = (do
      let ov ← eval (.Name b p1) X.env
      standAt p2.atName
      let (f, first) ← holding [ov] (getMethod ov "__init__" pl)
      callWith p5 f first (backTo p5 (starEach [.Name sf p3, .Constant (.str m) j p4] X.env)) (backToKw p5 (keywordEach [] X.env)))) ∧ starEach [.Name sf p3, .Constant (.str m) j p4] X.env = (false, eval (.Name sf p3) X.env) :: starEach [.Constant (.str m) j p4] X.env ∧
      swapsWith (.Call (.Attribute (.Name b p1) "__init__" p2) [.Name sf p3, .Constant (.str m) j p4] [] p5) none p6.line X.env = pure false ∧ swapsWith (.Name xf p9) (some (.Attribute (.Name sf p7) f p8)) p10.line X.env = pure false)
    (hdb : (b == ("__debug__" : Str)) = false := by decide) : FnOk P w K mg base CX0 1 fI fd ps (spI C f) := by
  refine F.ok Sc (fun vs H Q E ⟨a, v, e, _⟩ => by rw [e, hps]; rfl) fun cdv A outer s H vs Q E hr hsp => ?_
  obtain ⟨a, v, rfl, ha, hq⟩ := hsp
  obtain ⟨h1, h2, h3, h4, h5, ⟨pl, h6⟩, h7, h8, h9⟩ := h cdv A outer s H E _ rfl
  rw [hb]
  refine ⟨_, pss_cons (ps_expr (pe_meinit (pl := pl) B h1 h2 (pa_cons h3 (pa_cons pe_str pa_nil) h7) hdb h6 h7) h8) (pss_cons (ps_ost h4 h5 h9) pss_nil), ?_⟩
  have e0 : (L2.start N [V.ref a, v])[0]? = some (some (V.ref a)) := rfl
  have e1 : (L2.start N [V.ref a, v])[1]? = some (some v) := rfl
  refine ⟨_, e0, a, C, [.str m], rfl, (show 1 ≤ 1000 by decide), T, ha, ?_⟩
  refine ⟨_, e1, _, e0, a, C, rfl, T, hno, .inl ⟨ha, fun dx h1 h2 => hq dx h1 h2⟩⟩
/-- a class of the program whose __init__ keeps its value in the field f -/
structure ClsY (P : Program) (w : World) (K : PySem.W.Frag) (mg : Str → Option Value) (base : Heap) (n f : Str) : Prop where
  at' : ∃ (C fI : Addr) (fd : FuncData) (ps : List Str), mg n = some (.ref C) ∧ OexC K C ∧ PySem.W.findIn K (.ref C) "__init__" = some (some (.ref fI)) ∧ PySem.W.typeIn K (.ref fI) = some (.type "function") ∧ Binds K fd ps [] ∧ FnOk P w K mg base CX0 1 fI fd ps (spI C f)
variable [TB]
section
variable {X : Cx} {W : WX} {e : Expr} {te : TE} {p pos pos2 : Pos} {n f : Str}
/-- raise n(e) -/
theorem ps_raiseY {fp : PEV} (c : ClsY X.prog X.w X.K X.mg X.base n f) (hc : X.calm = true) (tk : Takes X W) (hr : Room 2 X.A) (hg : Gl X n) (he : DP X e fp) (hdb : (n == ("__debug__" : Str)) = false := by decide) (hs : starEach [e] X.env = (false, eval e X.env) :: starEach [] X.env := by rfl) :
    PS X (.Raise (some (.Call (.Name n p) [e] [] pos)) none pos2) (fun _ σ H => liftP X.K fp σ H fun v H1 => ∀ C, X.mg n = some C → ∀ dx, H1 dx = none → W C (some dx) σ (upd H1 dx (.xd [(f, v)]))) := by
  obtain ⟨C, fI, fd, ps, gC, T, iC, tI, hb, F⟩ := c.at'
  refine ps_imp (ps_raise (pos := pos2) hc tk (pmk_oex (p := p) (pos := pos) (dvs := []) T iC tI F hr hb .nil pass0 hg gC (pa_cons he pa_nil hs) hdb hs rfl)) fun D σ H h => ?_
  show liftP X.K fp σ H _
  obtain ⟨T', ρ, δ, pv, δ', hsm, hf, hq⟩ := h
  refine ⟨T', ρ, δ, pv, δ', hsm, hf, fun ρ' v H1 s1 x1 p1 => ?_⟩
  have q := hq ρ' v H1 s1 x1 p1
  refine ⟨show 1 ≤ 1000 by decide, fun a ha => ⟨a, v, rfl, upd_same, fun dx h1 h2 => ⟨rfl, dx, [(f, v)], upd_same, ?_, ?_, ?_⟩⟩⟩
  · rw [upd_ne h2, upd_same]
  · rw [upd_ne h2] at h1
    exact h1
  · have hd : H1 dx = none := by
      rw [upd_ne h2] at h1
      exact h1
    have e : upd (del (upd (upd (upd H1 a (exo a C none)) dx (exd dx [(f, v)])) a (exo a C (some dx))) a) dx (.xd [(f, v)]) = upd H1 dx (.xd [(f, v)]) := by
      funext b
      by_cases hb : b = dx
      · rw [hb, upd_same, upd_same]
      · rw [upd_ne hb, upd_ne hb]
        by_cases hba : b = a
        · rw [hba, del_same, ha]
        · rw [del_ne hba, upd_ne hba, upd_ne hb, upd_ne hba]
    rw [e]
    exact q _ gC dx hd
end
/-! ### statements that may raise such a one -/
inductive OY where
  | go (o : Out) | ex (n f : Str) (x : PyData) (δ : Ds)
abbrev SYV := Ds → Option OY
abbrev FY := List S → Option ((S × List (Option C)) ⊕ (Str × Str × PyData))
section
variable (K : PySem.W.Frag) (mg : Str → Option Value) (T : List Addr) (ρ : List (Option Addr)) (H : Hp) (σ : L2.St) (P : List Nat)
def PostY (D : Ends) (W : WX) : OY → Prop
  | .go o => PostS K T ρ H σ P D o
  | .ex n f x δ' => ∀ c, mg n = some c → ∀ ρ' σ' H' dd v, Sim K T ρ' δ' σ' H' → Ext T ρ H ρ' H' → Keep P σ σ' → H' dd = none → Dq K (hid T ρ' H') v x → W c (some dd) σ' (upd H' dd (.xd [(f, v)]))
end
def liftY (K : PySem.W.Frag) (mg : Str → Option Value) (P : List Nat) (f : SYV) (W : WX) : TS := fun D σ H => ∃ T ρ δ o, Sim K T ρ δ σ H ∧ f δ = some o ∧ PostY K mg T ρ H σ P D W o
section
variable {K : PySem.W.Frag} {mg : Str → Option Value} {T : List Addr} {ρ ρ1 : List (Option Addr)} {H H1 : Hp} {σ σ1 : L2.St} {P : List Nat}
theorem postY_step {D : Ends} {W : WX} {o : OY} (e : Ext T ρ H ρ1 H1) (k : Keep P σ σ1) (h : PostY K mg T ρ H σ P D W o) : PostY K mg T ρ1 H1 σ1 P D W o := by
  cases o with
  | go o => exact postS_step e k h
  | ex n f x δ => exact fun c hc ρ' σ' H' dd v s x y => h c hc ρ' σ' H' dd v s (e.trans x) (k.trans y)
end
section
variable {X : Cx} {P : List Nat} {W : WX} {pos pos2 p : Pos}
def goY (f : SEV) : SYV := fun δ => (f δ).map .go
theorem dys_go {st : List Stmt} {f : SEV} (h : DSs X.nox P st f) : PSs X st (liftY X.K X.mg P (goY f) W) := pss_imp h.nox fun D σ H ⟨T, ρ, δ, o, hs, hf, hq⟩ => by
  unfold goY at hf
  cases ea : f δ with
  | none => rw [ea] at hf; cases hf
  | some o1 =>
    rw [ea] at hf
    cases hf
    exact ⟨T, ρ, δ, o1, hs, ea, hq⟩
theorem ps_nox {st : Stmt} {t : TS} (h : PS X.nox st t) : PS X st t := ⟨fun pins s σ H D I hw => wpAny_mono (h.run pins s σ H D (I.wish _) hw) (fun _ _ q => q.unwish) fun _ _ z => z.elim⟩
def seqY (f : SEV) (g : SYV) : SYV := fun δ => (f δ).bind fun
  | .nx δ' => g δ'
  | o => some (.go o)
theorem dys_cons {st : Stmt} {rest : List Stmt} {f : SEV} {g : SYV} (h1 : DS X.nox P st f) (h2 : PSs X rest (liftY X.K X.mg P g W)) : PSs X (st :: rest) (liftY X.K X.mg P (seqY f g) W) := pss_imp (pss_cons (ps_nox h1) h2) fun D σ H ⟨T, ρ, δ, o, hs, hf, hq⟩ => by
  unfold seqY at hf
  cases ea : f δ with
  | none => rw [ea] at hf; cases hf
  | some x =>
    rw [ea] at hf
    simp only [Option.bind_some] at hf
    refine ⟨T, ρ, δ, x, hs, ea, ?_⟩
    cases x with
    | nx δ1 => exact fun ρ' σ' H' s1 x1 k1 => ⟨T, ρ', δ1, o, s1, hf, postY_step x1 k1 hq⟩
    | bk δ1 => cases hf; exact hq
    | ct δ1 => cases hf; exact hq
    | rt s δ1 => cases hf; exact hq
def raiseYS (n f : Str) (fp : PEV) : SYV := fun δ => (fp δ).bind fun r => match r.1 with
  | .v (.d x) => some (.ex n f x r.2)
  | _ => none
theorem dys_raise {e : Expr} {n f : Str} {fp : PEV} (c : ClsY X.prog X.w X.K X.mg X.base n f) (hc : X.calm = true) (tk : Takes X W) (hr : Room 2 X.A) (hg : Gl X n) (he : DP X e fp) (hdb : (n == ("__debug__" : Str)) = false := by decide) (hs : starEach [e] X.env = (false, eval e X.env) :: starEach [] X.env := by rfl) :
    PS X (.Raise (some (.Call (.Name n p) [e] [] pos)) none pos2) (liftY X.K X.mg P (raiseYS n f fp) W) := ps_imp (ps_raiseY (p := p) (pos := pos) (pos2 := pos2) c hc tk hr hg he hdb hs) fun D σ H ⟨T, ρ, δ, o, hsm, hf, hq⟩ => by
  unfold raiseYS at hf
  cases ea : fp δ with
  | none => rw [ea] at hf; cases hf
  | some r =>
    obtain ⟨pv, δ1⟩ := r
    rw [ea] at hf
    simp only [Option.bind_some] at hf
    split at hf
    case h_2 => cases hf
    rename_i x
    cases hf
    exact ⟨T, ρ, δ, _, δ1, hsm, ea, fun ρ' v H1 s1 x1 p1 C hC dx hdx => hq C hC ρ' σ H1 dx v s1 x1 .refl hdx p1⟩
def guardY (t : TEV) (r g : SYV) : SYV := fun δ => (t δ).bind fun x => if x.1 then r x.2 else g x.2
/-- if t: raise n(e), and what stands behind it -/
theorem dys_guard {t : Expr} {tv : TEV} {r g : SYV} {s : Stmt} {rest : List Stmt} {p3 : Pos} (ht : DT X.nox t tv) (h1 : PS X s (liftY X.K X.mg P r W)) (hrs : ∀ δ o, r δ ≠ some (.go o)) (h2 : PSs X rest (liftY X.K X.mg P g W)) : PSs X (.If t [s] [] p3 :: rest) (liftY X.K X.mg P (guardY tv r g) W) := by
  refine pss_imp (pss_cons (ps_if ht.nox (pss_one h1) pss_nil) h2) fun D σ H h => ?_
  obtain ⟨T, ρ, δ, o, hs, hf, hq⟩ := h
  unfold guardY at hf
  cases ea : tv δ with
  | none => rw [ea] at hf; cases hf
  | some x =>
    obtain ⟨k, δ1⟩ := x
    rw [ea] at hf
    simp only [Option.bind_some] at hf
    refine ⟨T, ρ, δ, k, δ1, hs, ea, fun ρ' H' s1 x1 => ?_⟩
    cases k with
    | true =>
      rw [if_pos rfl] at hf
      rw [if_pos rfl]
      refine ⟨T, ρ', δ1, o, s1, hf, ?_⟩
      cases o with
      | go o => exact absurd hf (hrs _ _)
      | ex n f x δ2 => exact postY_step x1 .refl hq
    | false =>
      rw [if_neg Bool.false_ne_true] at hf
      rw [if_neg Bool.false_ne_true]
      exact ⟨T, ρ', δ1, o, s1, hf, postY_step x1 .refl hq⟩
theorem raiseYS_no {n f : Str} {fp : PEV} (δ : Ds) (o : Out) : raiseYS n f fp δ ≠ some (.go o) := fun h => by
  unfold raiseYS at h
  cases ea : fp δ with
  | none => rw [ea] at h; cases h
  | some r =>
    rw [ea] at h
    simp only [Option.bind_some] at h
    split at h <;> cases h
end
/-! ### the def -/
def runY (P : List Nat) (n : Nat) (body : SYV) : FY := fun ss => match body (ss.map some ++ List.replicate (n - ss.length) none) with
  | some (.go o) => (finF P ss (some o)).map .inl
  | some (.ex m f x _) => if ss.all notO then some (.inr (m, f, x)) else none
  | none => none
def goFY (F : FY) : FN := fun ss => match F ss with
  | some (.inl r) => some r
  | _ => none
def spY (K : PySem.W.Frag) (mg : Str → Option Value) (m : Nat) (F : FY) : Sp := fun vs H Q E => ∃ T as ss, Sim K T as (ss.map some) (vs.map some) H ∧ ss.length = m ∧
  ((∃ r cs, F ss = some (.inl (r, cs)) ∧ PostF K T as H Q cs r) ∨ ∃ n f x, F ss = some (.inr (n, f, x)) ∧ ∀ c, mg n = some c → ∀ H' dd v, Ext T as H as H' → H' dd = none → Dq K (hid T as H') v x → E c (some dd) (upd H' dd (.xd [(f, v)])))
theorem fnY_ok {Pr : Program} {w : World} {K : PySem.W.Frag} {mg : Str → Option Value} {base : Heap} {x qual : Str} {st : Stmt} {f : Addr} {fd : FuncData} {N ps : List Str} {k : Nat} {P : List Nat} {body : SYV} (F : Fun K x qual st f fd) (Sc : FnScope N ps (defScope st))
    (hbody : ∀ (cdv : Value) (A : Around) (outer : List Env) (s : Shared) (H : Hp) (E : XK) (W : WX), A.guards = some [] → Room k (A.deeper (envOfC qual (defScope st) s.heap.objs.size f cdv)) → Takes (cxOf (CX Pr w) Pr w K mg base N qual (defScope st) f cdv A outer s H E) W →
      PSs (cxOf (CX Pr w) Pr w K mg base N qual (defScope st) f cdv A outer s H E) (defBody st) (liftY K mg P body W)) :
    FnXG Pr w K mg base (k + 1) f fd ps (spY K mg ps.length (runY P N.length body)) := by
  refine gfnX_of F Sc (fun vs H Q E h => ?_) (fun cdv A outer s H vs Q E hG hr h => ?_)
  · obtain ⟨T, as, ss, hs, hl, _⟩ := h
    have := hs.slen
    simp at this
    omega
  · obtain ⟨T, as, ss, hs, hl, hq⟩ := h
    refine ⟨_, hbody cdv A outer s H E (fun c d _ H => E c d H) hG hr (takes_of rfl rfl rfl rfl), ?_⟩
    have hvl : vs.length = ss.length := by have := hs.slen; simpa using this
    have hst := hs.start (N.length - ss.length)
    have hst' : Sim K T (as ++ List.replicate (N.length - ss.length) none) (ss.map some ++ List.replicate (N.length - ss.length) none) (L2.start N vs) H := by
      unfold L2.start
      rw [hvl]
      exact hst
    unfold runY at hq
    cases eb : body (ss.map some ++ List.replicate (N.length - ss.length) none) with
    | none =>
      rw [eb] at hq
      rcases hq with ⟨_, _, z, _⟩ | ⟨_, _, _, z, _⟩ <;> cases z
    | some o =>
      rw [eb] at hq
      refine ⟨T, _, _, o, hst', eb, ?_⟩
      cases o with
      | go o =>
        simp only at hq
        cases ef : finF P ss (some o) with
        | none =>
          rw [ef] at hq
          rcases hq with ⟨_, _, z, _⟩ | ⟨_, _, _, z, _⟩ <;> cases z
        | some rc =>
          rw [ef] at hq
          rcases hq with ⟨r, cs, z, hp⟩ | ⟨_, _, _, z, _⟩
          · cases z
            exact fn_end hs hst' ef hp
          · cases z
      | ex n f x δ =>
        simp only at hq
        split at hq
        case isFalse => rcases hq with ⟨_, _, z, _⟩ | ⟨_, _, _, z, _⟩ <;> cases z
        rename_i hno
        rcases hq with ⟨_, _, z, _⟩ | ⟨m, f', x', z, hE⟩
        · cases z
        cases z
        intro c hc ρ' σ' H' dd v s1 x1 k1 hdd hv
        have less : Same (hid T ρ' H') (hid T as H') := hid_less fun b hb => hb.elim .inl fun z => by
          obtain ⟨j, hj⟩ := mem_ix z
          obtain ⟨c0, hc0⟩ := hs.own' j b hj
          rw [List.getElem?_map] at hc0
          cases e : ss[j]? with
          | none => rw [e] at hc0; cases hc0
          | some y =>
            rw [e] at hc0
            cases hc0
            have := List.all_eq_true.mp hno _ (ix_mem e)
            cases this
        refine hE c hc H' dd v ⟨?_, x1.tmp, x1.tabs⟩ hdd (dpM less _ hv)
        have := x1.same
        rw [hid_app] at this
        exact this.trans less
theorem FnXG.toGY {Pr : Program} {w : World} {K : PySem.W.Frag} {mg : Str → Option Value} {base : Heap} {k m : Nat} {f : Addr} {fd : FuncData} {ps : List Str} {F : FY} (h : FnXG Pr w K mg base k f fd ps (spY K mg m F)) : FnG Pr w K mg base k f fd ps (spF K m (goFY F)) := by
  have to : ∀ vs H Q E, spF K m (goFY F) vs H Q E → spY K mg m F vs H Q E0 := fun vs H Q E hsp => by
    obtain ⟨T, as, ss, r, cs, hs, hl, hF, hq⟩ := hsp
    refine ⟨T, as, ss, hs, hl, .inl ⟨r, cs, ?_, hq⟩⟩
    unfold goFY at hF
    cases e : F ss with
    | none => rw [e] at hF; cases hF
    | some y =>
      rw [e] at hF
      cases y with
      | inl y => cases hF; rfl
      | inr y => cases hF
  refine ⟨fun vs H Q E hsp => h.len vs H Q _ (to _ _ _ _ hsp), fun A outer s H args us vs Q E hG hr e0 hb r hsp => ?_⟩
  refine codeAny_mono (h.run A outer s H args us vs Q E0 hG hr e0 hb r (to _ _ _ _ hsp)) fun rs s' hq => ?_
  cases rs with
  | error e =>
    obtain ⟨_, _, _, _, _, _, _, _, _, _, _, _, z⟩ := hq
    exact z.elim
  | ok fl => cases fl <;> exact hq
structure DefY (Pr : Program) (w : World) (K : PySem.W.Frag) (mg : Str → Option Value) (base : Heap) (k : Nat) (x : Str) (ps : List Str) (F : FY) : Prop where
  at' : ∃ f fd, mg x = some (.ref f) ∧ PySem.W.keepIn K (.ref f) = true ∧ Binds K fd ps [] ∧ FnXG Pr w K mg base k f fd ps (spY K mg ps.length F)
theorem DefY.toDef {Pr : Program} {w : World} {K : PySem.W.Frag} {mg : Str → Option Value} {base : Heap} {k : Nat} {x : Str} {ps : List Str} {F : FY} (h : DefY Pr w K mg base k x ps F) : Def Pr w K mg base k x ps (goFY F) := by
  obtain ⟨f, fd, h1, h2, h3, h4⟩ := h.at'
  exact ⟨f, fd, h1, h2, h3, h4.toGY⟩
theorem defY_mk {Pr : Program} {w : World} {K : PySem.W.Frag} {mg : Str → Option Value} {base : Heap} {x : Str} {st : Stmt} {f : Addr} {fd : FuncData} {N ps : List Str} {k : Nat} {P : List Nat} {body : SYV} (F : Fun K x x st f fd) (gm : mg x = some (.ref f)) (b : Binds K fd ps []) (Sc : FnScope N ps (defScope st))
    (hbody : ∀ (cdv : Value) (A : Around) (outer : List Env) (s : Shared) (H : Hp) (E : XK) (W : WX), A.guards = some [] → Room k (A.deeper (envOfC x (defScope st) s.heap.objs.size f cdv)) → Takes (cxOf (CX Pr w) Pr w K mg base N x (defScope st) f cdv A outer s H E) W →
      PSs (cxOf (CX Pr w) Pr w K mg base N x (defScope st) f cdv A outer s H E) (defBody st) (liftY K mg P body W)) :
    DefY Pr w K mg base (k + 1) x ps (runY P N.length body) := ⟨f, fd, gm, F.kp, b, fnY_ok F Sc hbody⟩
/-! ### its call, as a statement -/
def excAtY (F : FY) (m : Nat) (fa : AEV) : Ds → Option ((Str × Str × PyData) × Ds) := fun δ => (fa δ).bind fun x => (resA x.2 x.1).bind fun ss => if (x.1.filterMap PV.ix).Nodup ∧ ss.length = m ∧ ss.all notO = true then (match F ss with
  | some (.inr n) => some (n, x.2)
  | _ => none) else none
def stY (mk : EV → SEV) (F : FY) (m : Nat) (fa : AEV) : SYV := fun δ => match excAtY F m fa δ with
  | some (n, δ1) => some (.ex n.1 n.2.1 n.2.2 δ1)
  | none => (mk (callE (goFY F) m fa) δ).map .go
section
variable {X : Cx} {P : List Nat} {W : WX} {pos p : Pos} {e : Expr} {es : List Expr} {x : Str}
theorem callY_go {K : PySem.W.Frag} {mg : Str → Option Value} {F : FY} {m : Nat} {fa : AEV} {σ : L2.St} {H : Hp} {Q : VK} {E : L2.St → XK} (h : lift K (callE (goFY F) m fa) σ H Q) : tCallS (spY K mg m F) E (liftA K fa) σ H Q := by
  refine liftA_imp (call_ok σ H Q h) fun vs H1 hsp => ?_
  rw [List.append_nil] at hsp
  obtain ⟨T, as, ss, r, cs, hs, hl, hF, hq⟩ := hsp
  refine ⟨T, as, ss, hs, hl, .inl ⟨r, cs, ?_, hq⟩⟩
  unfold goFY at hF
  cases e : F ss with
  | none => rw [e] at hF; cases hF
  | some y =>
    rw [e] at hF
    cases y with
    | inl y => cases hF; rfl
    | inr y => cases hF
theorem callY_ex {K : PySem.W.Frag} {mg : Str → Option Value} {F : FY} {m : Nat} {fa : AEV} {σ : L2.St} {H : Hp} {Q : VK} {E : L2.St → XK} {T : List Addr} {ρ : List (Option Addr)} {δ δ1 : Ds} {n : Str × Str × PyData} (hs : Sim K T ρ δ σ H) (he : excAtY F m fa δ = some (n, δ1))
    (hq : ∀ c, mg n.1 = some c → ∀ ρ' H' dd v, Sim K T ρ' δ1 σ H' → Ext T ρ H ρ' H' → H' dd = none → Dq K (hid T ρ' H') v n.2.2 → E σ c (some dd) (upd H' dd (.xd [(n.2.1, v)]))) : tCallS (spY K mg m F) E (liftA K fa) σ H Q := by
  let G : FN := fun ss => if ss.all notO = true then (match F ss with
    | some (.inr k) => if k.1 = n.1 ∧ k.2.1 = n.2.1 then some (.d k.2.2, List.replicate m none) else none
    | _ => none) else none
  unfold excAtY at he
  cases ea : fa δ with
  | none => rw [ea] at he; cases he
  | some y =>
    obtain ⟨ps, δ2⟩ := y
    rw [ea] at he
    simp only [Option.bind_some] at he
    cases eb : resA δ2 ps with
    | none => rw [eb] at he; cases he
    | some ss =>
      rw [eb] at he
      simp only [Option.bind_some] at he
      split at he
      case isFalse => cases he
      rename_i hc
      have hF : F ss = some (.inr n) ∧ δ2 = δ1 := by
        cases e : F ss with
        | none => rw [e] at he; cases he
        | some z =>
          rw [e] at he
          cases z with
          | inl z => cases he
          | inr z => cases he; exact ⟨rfl, rfl⟩
      obtain ⟨hF, rfl⟩ := hF
      have hG : G ss = some (.d n.2.2, List.replicate m none) := by
        show (if ss.all notO = true then (match F ss with
          | some (.inr k) => if k.1 = n.1 ∧ k.2.1 = n.2.1 then some (S.d k.2.2, List.replicate m none) else none
          | _ => none) else none) = _
        rw [if_pos hc.2.2, hF]
        exact if_pos ⟨rfl, rfl⟩
      have hlen := (resA_get eb).1
      have hl : lift K (callE G m fa) σ H (fun v H' => ∀ c, mg n.1 = some c → ∀ dd, H' dd = none → E σ c (some dd) (upd H' dd (.xd [(n.2.1, v)]))) := by
        refine ⟨T, ρ, δ, .d n.2.2, δ2, hs, ?_, fun ρ' v H' s1 x1 hv c hcc dd hd => hq c hcc ρ' H' dd v s1 x1 hd hv⟩
        unfold callE
        rw [ea]
        simp only [Option.bind_some]
        rw [eb]
        simp only [Option.bind_some]
        rw [if_pos ⟨hc.1, hc.2.1⟩, hG]
        simp only [Option.bind_some]
        rw [wb_nones ps m (by have := hc.2.1; omega)]
        rfl
      refine liftA_imp (call_ok σ H _ hl) fun vs H1 hsp => ?_
      rw [List.append_nil] at hsp
      obtain ⟨T', as, ss', r, cs, hs', hl', hG', hp⟩ := hsp
      have hG2 : (if ss'.all notO = true then (match F ss' with
          | some (.inr k) => if k.1 = n.1 ∧ k.2.1 = n.2.1 then some (S.d k.2.2, List.replicate m none) else none
          | _ => none) else none) = some (r, cs) := hG'
      split at hG2
      case isFalse => cases hG2
      rename_i hno
      have hF' : ∃ x', F ss' = some (.inr (n.1, n.2.1, x')) ∧ r = .d x' := by
        cases e : F ss' with
        | none => rw [e] at hG2; cases hG2
        | some z =>
          rw [e] at hG2
          cases z with
          | inl z => cases hG2
          | inr z =>
            simp only at hG2
            split at hG2
            case isFalse => cases hG2
            rename_i ez
            cases hG2
            exact ⟨z.2.2, by rw [← ez.1, ← ez.2], rfl⟩
      obtain ⟨x', hF', rfl⟩ := hF'
      refine ⟨T', as, ss', hs', hl', .inr ⟨n.1, n.2.1, x', hF', fun c hcc H' dd v hext hdd hv => ?_⟩⟩
      refine hp v H' (fun j a hj => ?_) hext hv c hcc dd hdd
      obtain ⟨c0, hc0⟩ := hs'.own' j a hj
      rw [List.getElem?_map] at hc0
      cases e : ss'[j]? with
      | none => rw [e] at hc0; cases hc0
      | some y =>
        rw [e] at hc0
        cases hc0
        have := List.all_eq_true.mp hno _ (ix_mem e)
        cases this
section
variable {k j m : Nat} {ps : List Str} {F : FY} {fa : AEV}
end
end
/-! ### try: .. except x as n: m = n -/
def tryKY (f : SYV) (hit : Str → Bool) (i m : Nat) : SEV := fun δ => (f δ).bind fun o => match o with
  | .go o => some o
  | .ex n f x δ' => if hit n = true ∧ isNn (δ'[i]?) = true then some (.nx (δ'.set m (some (.d (exfC n f x))))) else none
section
variable {X : Cx} {P : List Nat} {pos : Pos} {x : Str}
theorem ds_tryKY {body : List Stmt} {np pos' p1 p2 p3 : Pos} {f : SYV} {i m : Nat} {n y : Str} (hits : List Str) (hne : hits ≠ []) (hg : Gl X x) (he : ∀ k ∈ hits, ExmX X.K X.mg k x) (hns : ∀ k ∈ hits, ∃ C : Addr, X.mg k = some (.ref C) ∧ PySem.W.nsIn X.K mainGlobals k = some (some (.ref C)))
    (hN : X.N.Nodup) (hi : X.N[i]? = some n) (hln : X.env.kindOf n = some .local) (hvn : Vis X.env.scope n) (hm : X.N[m]? = some y) (hlm : Loc X.env.scope y) (him : i ≠ m) (hPi : i ∉ P) (hPm : m ∉ P)
    (hb : ∀ (W : WX) (pn : List (Addr × Obj)) (xe : Value → Shared → Prop), Takes (X.tr pn xe) W → PSs (X.tr pn xe) body (liftY X.K X.mg P f W))
    (hfn : X.fn y = true ∨ X.env.scope.names.lookup y = some .local := by first | exact .inl rfl | exact .inr rfl | assumption) (hdb : (x == ("__debug__" : Str)) = false := by decide)
    (hdn : (n == ("__debug__" : Str)) = false := by decide) (hcn : (n == ("__classdict__" : Str)) = false := by decide) (hsw : swapsWith (.Name n p2) (some (.Name y p1)) p3.line X.env = pure false := by rfl)
    (hs : X.stack = X.env :: X.outer := by rfl) (hf : X.env.frame = some X.env.locals := by rfl) (hex : X.ex = [] := by rfl) :
    DS X P (.Try body [.ExceptHandler (some (.Name x np)) (some n) [.Assign [.Name y p1] (.Name n p2) p3] pos'] [] [] pos) (tryKY f (fun k => hits.contains k) i m) := by
  obtain ⟨n0, hn0⟩ := List.exists_mem_of_ne_nil hits hne
  obtain ⟨c0, d, _, e2, _⟩ := he n0 hn0
  refine ps_imp (ps_tryKeep (c := d) (i := i) (tb := fun W => liftY X.K X.mg P f W) (ts := fun _ _ _ => tAsg (tVar i) (gName m)) (Wout := fun _ _ _ _ => False) hs hf hex hN hi hln ⟨hg, hdb, .inl e2⟩ takes_none5 (fun _ _ _ _ z => z) (fun W pn xe tk _ => hb W pn xe tk)
    fun a oe cl dd pn _ _ => pss_one (ps_set (X := X.suite a ((a, oe) :: pn)) hN hm hlm (pe_var (X := X.suite a ((a, oe) :: pn)) hi hvn hdn hcn) hsw hfn)) fun D σ H h => ?_
  obtain ⟨T, ρ, δ, o, hsm, hfo, hq⟩ := h
  unfold tryKY at hfo
  cases ea : f δ with
  | none => rw [ea] at hfo; cases hfo
  | some r =>
    rw [ea] at hfo
    simp only [Option.bind_some] at hfo
    refine ⟨T, ρ, δ, r, hsm, ea, ?_⟩
    cases r with
    | go o' => cases hfo; exact hq
    | ex k fl w δ' =>
      simp only at hfo
      split at hfo
      case isFalse => cases hfo
      rename_i hk
      obtain ⟨hk, hδn⟩ := hk
      have hδi := isNn_eq hδn
      cases hfo
      have hk' : k ∈ hits := by simpa using hk
      intro v hv ρ' σ' H0 dd u s0 x0 k1 hdd hu
      obtain ⟨c1, d1, e3, e4, e5⟩ := he k hk'
      obtain ⟨C, e6, e7⟩ := hns k hk'
      rw [hv] at e3 e6
      cases e3
      rw [e2] at e4
      cases e4
      cases e6
      have s1 := s0.mono (same_new (o := .xd [(fl, u)]) hdd)
      have x1 := x0.trans (s0.trk.extT (same_new (o := .xd [(fl, u)]) hdd))
      obtain ⟨g1, g2⟩ := s0.trk.fresh hdd
      refine ⟨true, e5, fun _ a na => ?_, fun z => nomatch z⟩
      have il : i < σ'.length := by
        rw [s1.slen]
        exact (List.getElem?_eq_some_iff.mp hδi).1
      refine ⟨.ref a, List.getElem?_set_self il, ?_⟩
      show D.nx (((σ'.set i (some (.ref a))).set m (some (.ref a))).set i none) (upd (upd H0 dd (.xd [(fl, u)])) a (ExV (.ref C) (some dd) a))
      have hda : dd ≠ a := fun z => by
        rw [← z, upd_same] at na
        cases na
      have s2 := (s1.mono (same_new (o := ExV (.ref C) (some dd) a) na)).setN0 (y := some (.ref a)) hδi
      have x2 := x1.trans (s1.trk.extT (same_new (o := ExV (.ref C) (some dd) a) na))
      obtain ⟨f1, f2⟩ := s1.trk.fresh na
      have hv2 : SV X.K (hid T ρ' (upd (upd H0 dd (.xd [(fl, u)])) a (ExV (.ref C) (some dd) a))) (.ref a) (.d (exfC k fl w)) := by
        refine Dq.exf (dd := dd) (v := u) e7 ?_ ?_ ?_
        · show (if a ∈ T ∨ some a ∈ ρ' then none else upd (upd H0 dd (.xd [(fl, u)])) a (ExV (.ref C) (some dd) a) a) = _
          rw [if_neg (fun z => z.elim f1 f2), upd_same]
        · show (if dd ∈ T ∨ some dd ∈ ρ' then none else upd (upd H0 dd (.xd [(fl, u)])) a (ExV (.ref C) (some dd) a) dd) = _
          rw [if_neg (fun z => z.elim g1 g2), upd_ne hda, upd_same]
        · exact dpM (hid_mono ((same_new (o := .xd [(fl, u)]) hdd).trans (same_new (o := ExV (.ref C) (some dd) a) na))) _ hu
      obtain ⟨s3, x3⟩ := s2.setD (i := m) hv2
      have hδ2 : (δ'.set m (some (.d (exfC k fl w))))[i]? = some none := by
        rw [List.getElem?_set_ne (Ne.symm him)]
        exact hδi
      have s4 := s3.setN0 (y := none) hδ2
      refine hq _ _ _ s4 (x2.trans x3) fun j hj => ?_
      have ji : i ≠ j := fun z => hPi (by rw [z]; exact hj)
      have jm : m ≠ j := fun z => hPm (by rw [z]; exact hj)
      rw [List.getElem?_set_ne ji, List.getElem?_set_ne jm, List.getElem?_set_ne ji]
      exact k1 j hj
end
/-! ### isinstance of one that is kept, and its field -/
section
variable {prog : Program} {w : World} {A : Around} {E : Value → Shared → Prop} {s : Shared} {K : PySem.W.Frag} {x D : Addr} {ox : Obj} {od : Option Obj}
open PySem.W in
/-- x.__class__, whatever x's own dict is -/
theorem class_of {Q : Option Value → Shared → Prop} (C : ExcC K D) (X : K.In s.heap) (I : InstAt s.heap x ox D od) (h : Q (some (.ref D)) { s with toks := s.toks + 1 }) : wpAny (model prog w) A (getAttr? (.ref x) "__class__") Q E s := by
  have isC : (clsIn K D).isSome = true := by
    obtain ⟨cd, hc, _⟩ := any_some C.hd
    rw [hc]
    rfl
  obtain ⟨cd, hcd⟩ := Option.isSome_iff_exists.mp isC
  have hf : findObj K D od "__class__" = some (.bind (.builtin "getset_descriptor.__get__") (.builtin "object.__class__")) := by
    unfold findObj
    rw [hcd, Option.bind_some, C.ha, Option.bind_some]
    simp [C.hn, C.ht]
  obtain ⟨hp, g, d, t, os⟩ := s
  have L0 := I.type (M := model prog w)
  have plain : (Value.builtin "BaseException.__getattribute__" == Value.builtin "object.__getattribute__") = false := by decide +kernel
  unfold getAttr? getAttrBy? getAttrBy
  apply wpAny_bind
  apply wpAny_mkText
  refine wpAny_bind (wpAny_attempt (wpAny_holding (wpAny_bind (L0.at (wpAny_bind ((looks_findIn X C.hg).at ?_))))))
  show wpAny _ _ (if (onTheHeap (Value.ref D) && Value.builtin "BaseException.__getattribute__" == Value.builtin "object.__getattribute__") = true then _ else _) _ _ _
  rw [plain, Bool.and_false, if_neg Bool.false_ne_true]
  unfold getAttrByItsOwn hookBefore
  refine wpAny_bind ?_
  rw [if_pos (show onTheHeap (Value.ref D) = true from rfl)]
  refine (looks_findIn X C.hk).at (wpAny_bind (wpAny_attempt (wpAny_holding ?_)))
  unfold callGetattribute
  rw [show (false && onTheHeap (Value.builtin "BaseException.__getattribute__")) = false from rfl, if_neg Bool.false_ne_true]
  unfold boundAndCalled
  rw [PySem.F.excAttr_ValueError.ga.bind (.ref x)]
  refine wpAny_bind (wpAny_pure ?_)
  show wpAny _ _ (call (.builtin "BaseException.__getattribute__") [.ref x, .str "__class__" t]) _ _ _
  refine wpAny_call (codeAny_call_builtin PySem.F.excAttr_ValueError.ga.plain PySem.F.entry_bexc_ga ?_)
  refine @check_slot (model prog w) _ _ ⟨hp, g, d, t + 1, os⟩ "BaseException.__getattribute__" "BaseException" "__getattribute__" (.ref x) [.str "__class__" t] [] _ (by decide +kernel) (by decide +kernel) (L0.andThen (looks_subIn X C.hs)) (PySem.F.args_bexc_ga (.ref x) (.str "__class__" t)) ?_
  unfold Builtin.«object.__getattribute__»
  refine wpAny_bind (wpAny_of_eq (a := ((Value.ref x : Value), [Value.str "__class__" t])) (by first | rfl | (simp only [slotArgs]; rfl)) ?_)
  refine wpAny_bind (wpAny_pure (wpAny_bind (L0.at (wpAny_bind ((looks_find X I hf).at ?_)))))
  show wpAny _ _ (holding [Value.builtin "object.__class__"] (call (.builtin "getset_descriptor.__get__") [.builtin "object.__class__", .ref x, .ref D]) >>= ret) _ _ _
  refine wpAny_bind (wpAny_holding (wpAny_call (class_get (s := ⟨hp, g, d, t + 1, os⟩) (ox := ox) (od := od) X I C.hm ?_)))
  apply wpAny_pure
  show wpAny _ _ (handedOut (.ref D)) _ _ _
  rw [handedOut_of (v := .ref D) rfl]
  first
    | exact wpAny_pure (wpAny_pure h)
    | exact wpAny_pure h
    | exact wpAny_pure (wpAny_bind (wpAny_pure (wpAny_pure h)))
open PySem.W in
theorem kitY (C : ExcC K D) : KitX K (.ref x) (.ref D) (fun h => ∃ od, InstAt h x ox D od) := by
  have cls : ∀ {h : Heap}, K.In h → ∃ c dd cd sl, h.get? D = some ⟨c, dd, .cls cd, sl⟩ := fun {h} X => by
    obtain ⟨cd, hc, _⟩ := any_some C.hd
    unfold clsIn at hc
    split at hc
    · rename_i c' d' cd' sl' ho
      exact ⟨c', d', _, sl', X _ _ ho⟩
    · cases hc
  constructor
  · exact fun _ _ _ ⟨_, I⟩ => I.type
  · intro M h X _ A' Q' E' s' k q
    obtain ⟨c, dd, cd, sl, e⟩ := cls X
    unfold isType loadHead
    exact wpAny_bind (wpAny_loadPart (k _ _ e) (wpAny_pure q))
  · intro h tp dd its n sl X htp
    refine Bool.eq_false_iff.mpr fun q => ?_
    have e : D = tp := Value.ref.inj (beq_iff_eq.mp q)
    subst e
    obtain ⟨c, dd, cd, sl, e⟩ := cls X
    rw [htp] at e
    cases e
  · intro _ _ _ _ _ _ X ⟨_, I⟩ k
    exact class_of C X I k
end
/-- an exception's object that has a dict -/
theorem exv_instY {X : Cx} {pins : List (Addr × Obj)} {σ : L2.St} {H : Hp} {s : Shared} {a D dd : Addr} {fs : List (Str × V)} (I : L2.Inv X pins σ H s) (h : H a = some (ExV (.ref D) (some dd) a)) (hd : H dd = some (.xd fs)) :
    ∃ (oe od : Obj) (mA : Str → Option Value), PySem.W.InstAt s.heap a oe D (some od) ∧ (∀ f, RelO (fs.lookup f) (mA f)) ∧ ∀ f, PySem.W.lookIn f od = some (mA f) := by
  obtain ⟨⟨oe, vs, hget, h1, h2, hv⟩, _, _⟩ := I.hok a _ h
  have hx : ObjOk X.prog X.w H s.heap dd (.xd fs) := I.hok dd _ hd
  obtain ⟨mA, hns, hr⟩ := hx
  obtain ⟨od, ho, hl⟩ := lookIn_ns hns
  exact ⟨oe, od, mA, ⟨hget, h1, by unfold PySem.W.notCls; rw [hv] <;> rfl, by rw [h2]; exact ho⟩, hr, hl⟩
def rIsY (K : PySem.W.Frag) : List V → Hp → VK → Prop := fun xs H Q => ∃ (a D dd : Addr) (fs : List (Str × V)) (c : V) (cv : Value) (b : Bool), xs = [.ref a, c] ∧ H a = some (ExV (.ref D) (some dd) a) ∧ H dd = some (.xd fs) ∧ ExcC K D ∧ (∀ u, RelV c u → u = cv) ∧ PySem.W.kitOne K (.ref D) cv = some b ∧ Q (.bl b) H
def rIsYT (K : PySem.W.Frag) : List V → Hp → VK → Prop := fun xs H Q => ∃ (a D dd t : Addr) (fs : List (Str × V)) (cs : List Addr) (b : Bool), xs = [.ref a, .ref t] ∧ H a = some (ExV (.ref D) (some dd) a) ∧ H dd = some (.xd fs) ∧ ExcC K D ∧ H t = some (.tup (cs.map V.ref)) ∧ PySem.W.kitAny K (.ref D) (cs.map Value.ref) = some b ∧ Q (.bl b) H
section
variable {X : Cx}
theorem call_isY : CallR X (.builtin "isinstance") (rIsY X.K) := by
  intro pins s σ H xs us Q I r h
  obtain ⟨a, D, dd, fs, c, cv, b, rfl, ha, hd, C, hcv, e, q⟩ := h
  cases r with
  | cons rx rr =>
    cases rr with
    | cons rt rr =>
      cases rr
      cases rx
      have ec := hcv _ rt
      subst ec
      obtain ⟨oe, od, _, J, _⟩ := exv_instY I ha hd
      apply PySem.W.kia_one (kitY C) I.kIn ⟨_, J⟩ e (fun z => nomatch z)
      intro tk
      exact ⟨.bl b, H, I.kept (t' := tk) fun _ _ z => z, rfl, q⟩
theorem call_isYT : CallR X (.builtin "isinstance") (rIsYT X.K) := by
  intro pins s σ H xs us Q I r h
  obtain ⟨a, D, dd, t, fs, cs, b, rfl, ha, hd, C, ht, e, q⟩ := h
  cases r with
  | cons rx rr =>
    cases rr with
    | cons rt rr =>
      cases rr
      cases rx
      cases rt
      obtain ⟨oe, od, _, J, _⟩ := exv_instY I ha hd
      obtain ⟨_, its, rv, o, ho, hc, n, hd'⟩ := I.hok t _ ht
      have := refs_vals rv
      subst this
      obtain ⟨oc, odd, oda, osl⟩ := o
      dsimp only at hc hd'
      subst hc hd'
      apply PySem.W.kia_tup (kitY C) I.kIn ⟨_, J⟩ ho e (fun z => nomatch z)
      intro tk
      exact ⟨.bl b, H, I.kept (t' := tk) fun _ _ z => z, rfl, q⟩
def isYE (R hits : List Str) (f : PEV) : EV := fun δ => (f δ).bind fun x => match x.1 with
  | .v (.d (.dict [(.int k, .str n), (.str _, _)])) => if k = konI ∧ R.contains n = true then some (.d (.bool (hits.contains n)), x.2) else none
  | _ => none
theorem isy_inv {R hits : List Str} {fa : PEV} {K : PySem.W.Frag} {σ : L2.St} {H : Hp} {Q : VK} (h : lift K (isYE R hits fa) σ H Q) :
    liftP K fa σ H fun x H1 => ∃ (a C dd : Addr) (fs : List (Str × V)) (n : Str), x = .ref a ∧ n ∈ R ∧ PySem.W.nsIn K mainGlobals n = some (some (.ref C)) ∧ H1 a = some (ExV (.ref C) (some dd) a) ∧ H1 dd = some (.xd fs) ∧ ∀ H2, Same H1 H2 → Q (.bl (hits.contains n)) H2 := by
  obtain ⟨T, ρ, δ, s, δ', hs, hf, hq⟩ := h
  unfold isYE at hf
  cases ea : fa δ with
  | none => rw [ea] at hf; cases hf
  | some q =>
    obtain ⟨pv, δ1⟩ := q
    rw [ea] at hf
    simp only [Option.bind_some] at hf
    split at hf
    case h_2 => cases hf
    rename_i k n f y
    split at hf
    case isFalse => cases hf
    rename_i hk
    obtain ⟨rfl, hR⟩ := hk
    cases hf
    refine ⟨T, ρ, δ, _, δ', hs, ea, fun ρ1 v H1 s1 x1 p1 => ?_⟩
    have hd : Dq K (hid T ρ1 H1) v (.dict [(.int konI, .str n), (.str f, y)]) := p1
    cases hd with
    | exf g h1 h2 h3 =>
      refine ⟨_, _, _, _, n, rfl, by simpa using hR, g, hid_same _ _ h1, hid_same _ _ h2, fun H2 sm => ?_⟩
      exact hq ρ1 _ H2 (s1.mono sm) (x1.trans (s1.trk.extT sm)) (Dq.bl _)
variable {a : Expr} {fa : PEV} {pos p1 p2 : Pos}
theorem de_isY {x y : Str} {R hits : List Str} {c : Addr} (hx : x = "isinstance") (hm : X.mg x = none) (hg : Gl X x) (hg2 : Gl X y) (hm2 : X.mg y = some (.ref c)) (hr : ∀ n ∈ R, ∀ C : Addr, PySem.W.nsIn X.K mainGlobals n = some (some (.ref C)) → ExcC X.K C ∧ PySem.W.kitOne X.K (.ref C) (.ref c) = some (hits.contains n)) (ha : DP X a fa)
    (hd : (y == ("__debug__" : Str)) = false := by decide) (he : starEach [a, .Name y p2] X.env = (false, eval a X.env) :: starEach [.Name y p2] X.env := by rfl) (he2 : starEach [.Name y p2] X.env = (false, eval (.Name y p2) X.env) :: starEach [] X.env := by rfl) (hpl : (backTo pos (starEach [.Name y p2] X.env)).any (·.1) = false := by rfl) :
    DE X (.Call (.Name x p1) [a, .Name y p2] [] pos) (isYE R hits fa) := by
  subst hx
  refine pe_imp (pe_callB call_isY hg hm (by decide +kernel) (pa_cons ha (pa_cons (pe_glob (v := .ref c) hg2 hm2 rfl hd) pa_nil he2) he) (by decide) (by decide) he hpl) fun σ H Q h => ?_
  obtain ⟨T, ρ, δ, pv, δ', hs, hf, hq⟩ := isy_inv h
  refine ⟨T, ρ, δ, pv, δ', hs, hf, fun ρ1 v H1 s1 x1 p => ?_⟩
  obtain ⟨ad, C, dd, fs, n, rfl, hn, g, h1, h2, q⟩ := hq ρ1 v H1 s1 x1 p
  obtain ⟨e1, e2⟩ := hr n hn C g
  exact ⟨ad, C, dd, fs, .ref c, .ref c, _, rfl, h1, h2, e1, fun u ru => ru, e2, q H1 (Same.refl _)⟩
theorem de_isYB {x y : Str} {cn : String} {R hits : List Str} (hx : x = "isinstance") (hm : X.mg x = none) (hg : Gl X x) (hm2 : X.mg y = none) (hg2 : Gl X y) (hv : bootBuiltins y = some (.type cn)) (hn : y ≠ "__name__") (hr : ∀ n ∈ R, ∀ C : Addr, PySem.W.nsIn X.K mainGlobals n = some (some (.ref C)) → ExcC X.K C ∧ PySem.W.kitOne X.K (.ref C) (.type cn) = some (hits.contains n)) (ha : DP X a fa)
    (hd : (y == ("__debug__" : Str)) = false := by decide) (he : starEach [a, .Name y p2] X.env = (false, eval a X.env) :: starEach [.Name y p2] X.env := by rfl) (he2 : starEach [.Name y p2] X.env = (false, eval (.Name y p2) X.env) :: starEach [] X.env := by rfl) (hpl : (backTo pos (starEach [.Name y p2] X.env)).any (·.1) = false := by rfl) :
    DE X (.Call (.Name x p1) [a, .Name y p2] [] pos) (isYE R hits fa) := by
  subst hx
  refine pe_imp (pe_callB call_isY hg hm (by decide +kernel) (pa_cons ha (pa_cons (pe_bltn (v := .ty cn) hg2 hm2 hv rfl hn hd) pa_nil he2) he) (by decide) (by decide) he hpl) fun σ H Q h => ?_
  obtain ⟨T, ρ, δ, pv, δ', hs, hf, hq⟩ := isy_inv h
  refine ⟨T, ρ, δ, pv, δ', hs, hf, fun ρ1 v H1 s1 x1 p => ?_⟩
  obtain ⟨ad, C, dd, fs, n, rfl, hn, g, h1, h2, q⟩ := hq ρ1 v H1 s1 x1 p
  obtain ⟨e1, e2⟩ := hr n hn C g
  exact ⟨ad, C, dd, fs, .ty cn, .type cn, _, rfl, h1, h2, e1, fun u ru => ru, e2, q H1 (Same.refl _)⟩
theorem de_isYT {x : Str} {es : List Expr} {k : Nat} {R hits : List Str} {cs : List Addr} (hx : x = "isinstance") (hm : X.mg x = none) (hg : Gl X x) (hA : GlbA X es cs) (hz : cs.length ≤ 100) (hr : ∀ n ∈ R, ∀ C : Addr, PySem.W.nsIn X.K mainGlobals n = some (some (.ref C)) → ExcC X.K C ∧ PySem.W.kitAny X.K (.ref C) (cs.map Value.ref) = some (hits.contains n)) (ha : DP X a fa)
    (he : starEach [a, .Tuple es k p2] X.env = (false, eval a X.env) :: starEach [.Tuple es k p2] X.env := by rfl) (he2 : starEach [.Tuple es k p2] X.env = (false, eval (.Tuple es k p2) X.env) :: starEach [] X.env := by rfl) (hpl : (backTo pos (starEach [.Tuple es k p2] X.env)).any (·.1) = false := by rfl) :
    DE X (.Call (.Name x p1) [a, .Tuple es k p2] [] pos) (isYE R hits fa) := by
  subst hx
  refine pe_imp (pe_callB call_isYT hg hm (by decide +kernel) (pa_cons ha (pa_cons (pe_tup hA) pa_nil he2) he) (by decide) (by decide) he hpl) fun σ H Q h => ?_
  obtain ⟨T, ρ, δ, pv, δ', hs, hf, hq⟩ := isy_inv h
  refine ⟨T, ρ, δ, pv, δ', hs, hf, fun ρ1 v H1 s1 x1 p => ?_⟩
  obtain ⟨ad, C, dd, fs, n, rfl, hn, g, h1, h2, q⟩ := hq ρ1 v H1 s1 x1 p
  obtain ⟨e1, e2⟩ := hr n hn C g
  refine ⟨by rw [List.length_map]; exact Nat.le_trans hz (by decide), fun t ht => ?_⟩
  exact ⟨ad, C, dd, t, fs, cs, _, rfl, (same_new ht) _ _ h1, (same_new ht) _ _ h2, e1, upd_same, e2, q _ (same_new ht)⟩
/-- e.f of one that is kept -/
def fldY (R : List Str) (f : Str) (fa : PEV) : PEV := fun δ => (fa δ).bind fun x => match x.1 with
  | .v (.d (.dict [(.int k, .str n), (.str g, y)])) => if k = konI ∧ R.contains n = true ∧ g = f then some (.v (.d y), x.2) else none
  | _ => none
theorem dp_fldY {R : List Str} {f : Str} (hr : ∀ n ∈ R, ∀ C : Addr, PySem.W.nsIn X.K mainGlobals n = some (some (.ref C)) → XfC X.K C ∧ PySem.W.findIn X.K (.ref C) f = some none) (ha : DP X a fa) (hb : attributeBase a f X.env (eval a X.env) = eval a X.env := by rfl) :
    DP X (.Attribute a f pos) (fldY R f fa) := by
  constructor
  intro pins s σ H Q I h
  obtain ⟨T, ρ, δ, pv, δ', hs, hf, hq⟩ := h
  unfold fldY at hf
  cases ea : fa δ with
  | none => rw [ea] at hf; cases hf
  | some q =>
    obtain ⟨pv1, δ1⟩ := q
    rw [ea] at hf
    simp only [Option.bind_some] at hf
    split at hf
    case h_2 => cases hf
    rename_i k n g y
    split at hf
    case isFalse => cases hf
    rename_i hk
    obtain ⟨rfl, hR, rfl⟩ := hk
    cases hf
    refine attr_of hb (thn (ha.run pins s σ H (fun x H1 => ∃ (a C dd : Addr) (v : V), x = .ref a ∧ PySem.W.nsIn X.K mainGlobals n = some (some (.ref C)) ∧ H1 a = some (ExV (.ref C) (some dd) a) ∧ H1 dd = some (.xd [(g, v)]) ∧ Q v H1) I
      ⟨T, ρ, δ, _, δ', hs, ea, fun ρ1 v H1 s1 x1 p1 => ?_⟩) fun u s1 hh => ?_)
    · have hd : Dq X.K (hid T ρ1 H1) v (.dict [(.int konI, .str n), (.str g, y)]) := p1
      cases hd with
      | exf e1 h1 h2 h3 => exact ⟨_, _, _, _, rfl, e1, hid_same _ _ h1, hid_same _ _ h2, hq ρ1 _ H1 s1 x1 h3⟩
    · obtain ⟨x, H1, I1, rx, ad, C, dd, v, rfl, e1, h1, h2, q⟩ := hh
      obtain rfl : u = Value.ref ad := rx
      obtain ⟨T', hno⟩ := hr n (by simpa using hR) C e1
      obtain ⟨oe, od, mA, J, hrel, hl⟩ := exv_instY I1 h1 h2
      have hrg := hrel g
      have eg : ([(g, v)] : List (Str × V)).lookup g = some v := by simp [List.lookup]
      rw [eg] at hrg
      obtain ⟨w, hw, rw'⟩ := RelO.some_of (v := v) (o := mA g) hrg
      exact HandSPX.exc_get I1.kIn J T'.ga T'.gg T'.exC (PySem.W.findObj_own T'.hdC hno rfl (by rw [hl, hw])) (handed_of rw') ⟨v, H1, I1.tok _, rw', q⟩
def fldYE (R : List Str) (f : Str) (fa : PEV) : EV := fun δ => (fldY R f fa δ).bind fun x => match x.1 with
  | .v (.d y) => some (.d y, x.2)
  | _ => none
theorem de_fldY {R : List Str} {f : Str} (hr : ∀ n ∈ R, ∀ C : Addr, PySem.W.nsIn X.K mainGlobals n = some (some (.ref C)) → XfC X.K C ∧ PySem.W.findIn X.K (.ref C) f = some none) (ha : DP X a fa) (hb : attributeBase a f X.env (eval a X.env) = eval a X.env := by rfl) :
    DE X (.Attribute a f pos) (fldYE R f fa) := pe_imp (dp_fldY (pos := pos) hr ha hb) fun σ H Q ⟨T, ρ, δ, s, δ', hs, hf, hq⟩ => by
  unfold fldYE at hf
  cases ea : fldY R f fa δ with
  | none => rw [ea] at hf; cases hf
  | some r =>
    obtain ⟨pv, δ1⟩ := r
    rw [ea] at hf
    simp only [Option.bind_some] at hf
    split at hf
    case h_2 => cases hf
    cases hf
    exact ⟨T, ρ, δ, _, _, hs, ea, fun ρ1 v H1 s1 x1 p1 => hq ρ1 v H1 s1 x1 p1⟩
end
end DL

/-! statements that may raise, seen from the data -/
namespace DL
open PySem PySem.Spec PyProof.Rows L2
section
variable {δ δ1 δ2 : Ds}
theorem guardY_t {t : TEV} {r g : SYV} {o : OY} (h : t δ = some (true, δ1)) (k : r δ1 = some o) : guardY t r g δ = some o := by unfold guardY; rw [h]; exact k
theorem guardY_f {t : TEV} {r g : SYV} {o : OY} (h : t δ = some (false, δ1)) (k : g δ1 = some o) : guardY t r g δ = some o := by unfold guardY; rw [h]; exact k
theorem seqY_of {f : SEV} {g : SYV} {o : OY} (h : f δ = some (.nx δ1)) (k : g δ1 = some o) : seqY f g δ = some o := by unfold seqY; rw [h]; exact k
theorem goY_of {f : SEV} {o : Out} (h : f δ = some o) : goY f δ = some (.go o) := by unfold goY; rw [h]; rfl
theorem raiseYS_of {n f : Str} {fp : PEV} {x : PyData} (h : fp δ = some (.v (.d x), δ1)) : raiseYS n f fp δ = some (.ex n f x δ1) := by unfold raiseYS; rw [h]; rfl
theorem runY_go {P : List Nat} {n : Nat} {body : SYV} {ss : List S} {s : S} {cs : List (Option C)} (h : body (ss.map some ++ List.replicate (n - ss.length) none) = some (.go (.rt s δ))) (k : ownC P 0 ss δ = some cs) : runY P n body ss = some (.inl (s, cs)) := by
  unfold runY
  rw [h]
  show ((ownC P 0 ss δ).map fun cs => (s, cs)).map Sum.inl = _
  rw [k]
  rfl
theorem runY_ex {P : List Nat} {n : Nat} {body : SYV} {ss : List S} {m f : Str} {x : PyData} (h : body (ss.map some ++ List.replicate (n - ss.length) none) = some (.ex m f x δ)) (k : ss.all notO = true) : runY P n body ss = some (.inr (m, f, x)) := by
  unfold runY
  rw [h]
  show (if ss.all notO = true then _ else _) = _
  rw [if_pos k]
theorem goFY_of {F : FY} {ss : List S} {r : S × List (Option C)} (h : F ss = some (.inl r)) : goFY F ss = some r := by unfold goFY; rw [h]
theorem resA_vals : ∀ (ss : List S), resA δ (ss.map PV.v) = some ss
  | [] => rfl
  | s :: ss => by
    show (res δ (.v s)).bind (fun x => (resA δ (ss.map PV.v)).map (x :: ·)) = _
    rw [resA_vals ss]
    rfl
theorem ix_vals : ∀ (ss : List S), (ss.map PV.v).filterMap PV.ix = []
  | [] => rfl
  | s :: ss => by
    rw [List.map_cons, List.filterMap_cons_none rfl]
    exact ix_vals ss
theorem excAtY_go {F : FY} {m : Nat} {fa : AEV} (ss : List S) {r : S × List (Option C)} (ha : fa δ = some (ss.map PV.v, δ1)) (h : F ss = some (.inl r)) : excAtY F m fa δ = none := by
  unfold excAtY
  rw [ha]
  simp only [Option.bind_some]
  rw [resA_vals]
  simp only [Option.bind_some]
  rw [h]
  split <;> rfl
theorem stY_set {F : FY} {m i : Nat} {fa : AEV} (ss : List S) {s : S} {cs : List (Option C)} (ha : fa δ = some (ss.map PV.v, δ1)) (hl : ss.length = m) (h : F ss = some (.inl (s, cs))) (hc : ss.length ≤ cs.length) : stY (setS i) F m fa δ = some (.go (.nx (δ1.set i (some s)))) := by
  have k : callE (goFY F) m fa δ = some (s, δ1) := callE_data ss ha hl (goFY_of h) hc
  unfold stY
  rw [excAtY_go ss ha h, setS_of k]
  rfl
theorem stY_ex {mk : EV → SEV} {F : FY} {m : Nat} {fa : AEV} (ss : List S) {n f : Str} {x : PyData} (ha : fa δ = some (ss.map PV.v, δ1)) (hl : ss.length = m) (ho : ss.all notO = true) (h : F ss = some (.inr (n, f, x))) : stY mk F m fa δ = some (.ex n f x δ1) := by
  have k : excAtY F m fa δ = some ((n, f, x), δ1) := by
    unfold excAtY
    rw [ha]
    simp only [Option.bind_some]
    rw [resA_vals]
    simp only [Option.bind_some]
    rw [if_pos ⟨by rw [ix_vals]; exact List.nodup_nil, hl, ho⟩, h]
  unfold stY
  rw [k]
theorem tryKY_go {f : SYV} {hit : Str → Bool} {i m : Nat} {o : Out} (h : f δ = some (.go o)) : tryKY f hit i m δ = some o := by unfold tryKY; rw [h]; rfl
theorem tryKY_ex {f : SYV} {hit : Str → Bool} {i m : Nat} {n g : Str} {x : PyData} (h : f δ = some (.ex n g x δ1)) (hn : hit n = true) (hi : isNn (δ1[i]?) = true) : tryKY f hit i m δ = some (.nx (δ1.set m (some (.d (exfC n g x))))) := by
  unfold tryKY
  rw [h]
  show (if hit n = true ∧ isNn (δ1[i]?) = true then _ else _) = _
  rw [if_pos ⟨hn, hi⟩]
theorem isYE_of {R hits : List Str} {f : PEV} {n g : Str} {x : PyData} (h : f δ = some (.v (.d (exfC n g x)), δ1)) (hR : R.contains n = true) : isYE R hits f δ = some (.d (.bool (hits.contains n)), δ1) := by
  unfold isYE
  rw [h]
  show (if konI = konI ∧ R.contains n = true then _ else _) = _
  rw [if_pos ⟨rfl, hR⟩]
theorem fldYE_of {R : List Str} {fa : PEV} {n g : Str} {x : PyData} (h : fa δ = some (.v (.d (exfC n g x)), δ1)) (hR : R.contains n = true) : fldYE R g fa δ = some (.d x, δ1) := by
  have k : fldY R g fa δ = some (.v (.d x), δ1) := by
    unfold fldY
    rw [h]
    show (if konI = konI ∧ R.contains n = true ∧ g = g then _ else _) = _
    rw [if_pos ⟨rfl, hR, rfl⟩]
  unfold fldYE
  rw [k]
  rfl
end
end DL

namespace DL
open PySem PySem.Spec PyProof.Rows L2
variable [TB]

/-! ### texts: split, join, int(text), f-strings, signsD -/
section
variable {X : Cx} {a b e o : Expr} {es : List Expr} {pos p : Pos} {fa fb fo fe : PEV} {fs : AEV}
/-- a method of a text with one argument -/
def m1E (g : Str → S → Option S) (fo fe : PEV) : EV := fun δ => (fo δ).bind fun x => match x.1 with
  | .v (.d (.str a)) => (fe x.2).bind fun y => (res y.2 y.1).bind fun u => (g a u).map fun z => (z, y.2)
  | _ => none
def M1D (K : PySem.W.Frag) (r : V → List V → Hp → VK → Prop) (g : Str → S → Option S) : Prop :=
  ∀ (T : List Addr) (ρ : List (Option Addr)) (H : Hp) (a : Str) (y : V) (u s : S) (Q : VK), Trk T ρ H → At K T ρ H y u → g a u = some s → PostO K T ρ H Q s → r (.str a) [y] H Q
def strsOf : List PyData → Option (List Str)
  | [] => some []
  | .str y :: r => (strsOf r).map (y :: ·)
  | _ => none
def gJoin (a : Str) (u : S) : Option S := (asS u).bind fun ds => (strsOf ds).bind fun ys => if (ys.map (·.length)).sum + ys.length * a.length ≤ 16777216 then some (.d (.str (Txt.join a ys))) else none
def gSplit (a : Str) (u : S) : Option S := match u with
  | .d (.str b) => if (b.length == 0) = false ∧ a.length + 2 ≤ sizeLine then some (.o (.l ((Txt.split a b).map PyData.str))) else none
  | _ => none
/-! a sign of a text -/
def opIxS (a b : S) : Option S := match a, b with
  | .d (.str z), .d (.int i) => if z.length ≤ sizeLine then (atI z.cps.toList i).map fun c => .d (.str ⟨#[c]⟩) else none
  | _, _ => none
/-! one sign in a text -/
def opInG (neg : Bool) (a b : S) : Option S := match a, b with
  | .d (.str ⟨⟨[c]⟩⟩), .d (.str z) => some (.d (.bool (neg ^^ decide (c ∈ z.cps.toList))))
  | _, _ => none
/-! + of texts -/
def opAddT (a b : S) : Option S := match a, b with
  | .d (.str x), .d (.str y) => if x.length + y.length ≤ sizeLine then some (.d (.str (x ++ y))) else none
  | _, _ => none
/-! len of a text -/
def fLenT : List S → Option S
  | [.d (.str z)] => if z.length ≤ sizeLine then some (.d (.int z.length)) else none
  | _ => none
/-! int(text) -/
def fIntT : List S → Option S
  | [.d (.str z)] => if z.length ≤ 640 then (PySem.intText? z).map fun n => .d (.int n) else none
  | _ => none
/-! for c in a text -/
def signsD (x : Str) : List PyData := x.cps.toList.map fun c => .str ⟨#[c]⟩
def strI (f : EV) : IEV := fun δ => (f δ).bind fun r => match r.1 with
  | .d (.str x) => some (signsD x, r.2)
  | _ => none
/-! f-strings -/
def litF (x : Str) : EV := fun δ => some (.d (.str x), δ)
def fmtF (f : EV) : EV := fun δ => (f δ).bind fun r => match r.1 with
      | .d (.str y) => if y.length ≤ sizeLine then some (.d (.str y), r.2) else none
      | .d (.int i) => if i.natAbs.log2 < 1920 then some (.d (.str (toString i)), r.2) else none
      | _ => none
inductive FJ (X : Cx) : List Expr → List EV → Prop where
  | nil : FJ X [] []
  | lit {x : Str} {j : Nat} {p : Pos} {es : List Expr} {fs : List EV} (r : FJ X es fs) : FJ X (.Constant (.str x) j p :: es) (litF x :: fs)
  | fmt {e : Expr} {f : EV} {p : Pos} {es : List Expr} {fs : List EV} (h : DE X e f) (r : FJ X es fs) : FJ X (.FormattedValue e (-1) none p :: es) (fmtF f :: fs)
def joinF : List EV → Str → Ds → Option (Str × Ds)
  | [], acc, δ => some (acc, δ)
  | f :: fs, acc, δ => (f δ).bind fun r => match r.1 with
    | .d (.str y) => if (acc ++ y).length ≤ sizeLine then joinF fs (acc ++ y) r.2 else none
    | _ => none
def fstrE (fs : List EV) : EV := fun δ => (joinF fs Str.empty δ).map fun r => (.d (.str r.1), r.2)
end
end DL

/-! a lambda without parameters that is handed on to a def of one's own, which calls it under try -/
namespace DL
open PySem PySem.Spec PyProof.Rows L2 LamX NdefX
variable [TB]
section
omit [TB]
/-- a greater ground -/
structure Gr (K : PySem.W.Frag) (mg : Str → Option Value) (base B : Heap) : Prop where
  mod : Mod K mg base
  keep : ∀ b o, base.get? b = some o → B.get? b = some o
  size : base.objs.size ≤ B.objs.size
theorem Gr.env0 {Pr : Program} {w : World} {K : PySem.W.Frag} {mg : Str → Option Value} {base B : Heap} {A : Around} {outer : List Env} {s : Shared} {H : Hp} (g : Gr K mg base B) (e : Env0 Pr w K mg B A outer s H) : Env0 Pr w K mg base A outer s H := by
  refine ⟨e.frames, g.mod, fun b o q => e.bs b o (g.keep b o q), Nat.le_trans g.size e.bsz, funFrames_none e.funs fun L hL => ?_, e.frf, e.hok, e.bare⟩
  cases hg : base.get? L with
  | none => rfl
  | some o =>
    have h1 := g.keep L o hg
    rw [(e.funs.mem hL).1] at h1
    cases h1
theorem Gr.sm {K : PySem.W.Frag} {mg : Str → Option Value} {base B : Heap} (g : Gr K mg base B) (h : ∃ o, base.get? sysModules = some o) : ∃ o, B.get? sysModules = some o := h.elim fun o q => ⟨o, g.keep _ o q⟩
end
theorem DefY.up {Pr : Program} {w : World} {K : PySem.W.Frag} {mg : Str → Option Value} {base B : Heap} {k : Nat} {x : Str} {ps : List Str} {F : FY} (h : DefY Pr w K mg base k x ps F) (g : Gr K mg base B) : DefY Pr w K mg B k x ps F := by
  obtain ⟨f, fd, h1, h2, h3, h4⟩ := h.at'
  exact ⟨f, fd, h1, h2, h3, ⟨h4.len, fun A outer s H args us vs Q E hG hr e0 => h4.run A outer s H args us vs Q E hG hr (g.env0 e0)⟩⟩
theorem Def.up {Pr : Program} {w : World} {K : PySem.W.Frag} {mg : Str → Option Value} {base B : Heap} {k : Nat} {x : Str} {ps : List Str} {F : FN} (h : Def Pr w K mg base k x ps F) (g : Gr K mg base B) : Def Pr w K mg B k x ps F := by
  obtain ⟨f, fd, h1, h2, h3, h4⟩ := h
  exact ⟨f, fd, h1, h2, h3, ⟨h4.len, fun A outer s H args us vs Q E hG hr e0 => h4.run A outer s H args us vs Q E hG hr (g.env0 e0)⟩⟩
/-! what stands in the parameter's slot -/
structure Zf where
  f : Addr
  c : Addr
  q : Str
  ws : List V
  xs : List PyData
structure HasZ (K : PySem.W.Frag) (T : List Addr) (ρ : List (Option Addr)) (H : Hp) (σ : L2.St) (z : Zf) : Prop where
  at0 : σ[0]? = some (some (.ref z.f))
  co : hid T ρ H z.c = some (CodeO z.c z.q)
  da : DqAll K (hid T ρ H) z.ws z.xs
theorem HasZ.step {K : PySem.W.Frag} {T : List Addr} {ρ ρ1 : List (Option Addr)} {H H1 : Hp} {σ σ1 : L2.St} {z : Zf} (h : HasZ K T ρ H σ z) (x : Ext T ρ H ρ1 H1) (k : Keep [0] σ σ1) : HasZ K T ρ1 H1 σ1 z :=
  ⟨(k 0 List.mem_cons_self).trans h.at0, x.same _ _ h.co, dpAllM x.same _ h.da⟩
def liftSZ (K : PySem.W.Frag) (f : SEV) (z : Zf) : TS := fun D σ H => ∃ T ρ δ o, Sim K T ρ δ σ H ∧ HasZ K T ρ H σ z ∧ f δ = some o ∧ PostS K T ρ H σ [0] D o
def liftYZ (K : PySem.W.Frag) (mg : Str → Option Value) (f : SYV) (z : Zf) (W : WX) : TS := fun D σ H => ∃ T ρ δ o, Sim K T ρ δ σ H ∧ HasZ K T ρ H σ z ∧ f δ = some o ∧ PostY K mg T ρ H σ [0] D W o
section
variable {X : Cx} {z : Zf} {pos : Pos}
end
/-! the lambda's meaning: a raising def is called -/
def thY (F : FY) (m : Nat) (fa : AEV) (nn : Nat) : FY := fun ss => match excAtY F m fa (ss.map some ++ List.replicate (nn - ss.length) none) with
  | some (n, _) => if ss.all notO = true then some (.inr n) else none
  | none => (runF [] nn (retS (callE (goFY F) m fa)) ss).map .inl
/-- the lambda stands in the ground, as do the cells that it captured -/
structure FnZ (B : Heap) (z : Zf) (params : Arguments) (body : Expr) (scope : Scope) (cl : List (Str × Addr)) (pm ctv : Value) (fr : List Str) : Prop where
  get : B.get? z.f = some (PySem.W.kla_obj "<lambda>" z.q params body scope cl pm z.c ctv)
  len : (z.ws.map some).length = fr.length
  all : ∀ y a, cl.lookup y = some a → ∃ v, B.IsCell a v
  inj : ∀ x y a, cl.lookup x = some a → cl.lookup y = some a → x = y
  has : ∀ (i : Nat) (y : Str), fr[i]? = some y → ∃ a, cl.lookup y = some a ∧ ∀ v, (z.ws.map some)[i]? = some (some v) → ∃ u, L2.RelV v u ∧ B.IsCell a (some u)
theorem FnZ.at' {X : Cx} {z : Zf} {params : Arguments} {body : Expr} {scope : Scope} {cl : List (Str × Addr)} {pm ctv : Value} {fr : List Str} (Φ : FnZ X.base z params body scope cl pm ctv fr) {pins : List (Addr × Obj)} {σ : L2.St} {H : Hp} {s : Shared} (I : Inv X pins σ H s) :
    s.heap.get? z.f = some (PySem.W.kla_obj "<lambda>" z.q params body scope cl pm z.c ctv) ∧ CellsAt cl fr (z.ws.map some) s.heap H := by
  have kp : ∀ {a : Addr} {v : Option Value}, X.base.IsCell a v → H a = none ∧ s.heap.IsCell a v := fun {a v} ⟨o, ho, hd⟩ => ⟨(I.bs a o ho).2, o, (I.bs a o ho).1, hd⟩
  refine ⟨(I.bs z.f _ Φ.get).1, Φ.len, fun y a e => ?_, Φ.inj, fun i y e => ?_⟩
  · obtain ⟨v, z⟩ := Φ.all y a e
    exact ⟨(kp z).1, v, (kp z).2⟩
  · obtain ⟨a, e1, e2⟩ := Φ.has i y e
    exact ⟨a, e1, fun v hv => let ⟨u, r, z⟩ := e2 v hv; ⟨u, r, (kp z).2⟩⟩
/-- what the call of the lambda gives: its value, or what it raises -/
abbrev TR := Option (PyData ⊕ (Str × Str × PyData))
def thR (G : FY) (xs : List PyData) : TR := match G (xs.map S.d) with
  | some (.inl (.d y, _)) => some (.inl y)
  | some (.inr n) => some (.inr n)
  | _ => none
def stZ (mk : PyData → SEV) (r : TR) : SYV := fun δ => match r with
  | some (.inl y) => (mk y δ).map .go
  | some (.inr n) => some (.ex n.1 n.2.1 n.2.2 δ)
  | none => none
section
variable {X : Cx} {k m : Nat} {x : Str} {p pos : Pos} {z : Zf} {params : Arguments} {body : Expr} {scope : Scope} {cl : List (Str × Addr)} {pm ctv : Value} {N fr : List Str} {G : FY} {W : WX}
/-- the lambda's body -/
def BodyZ (X : Cx) (k : Nat) (z : Zf) (body : Expr) (scope : Scope) (cl : List (Str × Addr)) (N fr : List Str) (G : FY) : Prop :=
  ∀ (A : Around) (outer : List Env) (s : Shared) (H : Hp) (E : XK), A.guards = some [] → Room k (A.deeper (PySem.W.envX z.q scope s.heap.objs.size z.f (.ref z.c) (cellsFrom (s.heap.objs.size + 1) scope.names cl))) →
    ∃ te : TE, PE (ccx (CX X.prog X.w) X.prog X.w X.K X.mg X.base N z.q scope z.f (.ref z.c) cl A outer s H E) body te ∧ ∀ vs Q, spY X.K X.mg fr.length G vs H Q E → te (L2.start N vs) H Q
end
section
variable {X : Cx} {pos : Pos} {x : Str} {z : Zf}
end
/-! g(lambda: ..) -/
def capX (δ : Ds) : List Nat → Option (List PyData)
  | [] => some []
  | i :: is => match slot δ i with
    | some (.d x) => (capX δ is).map (x :: ·)
    | _ => none
def thE (js : List Nat) (n : Nat) (Bg : List PyData → SEV) : EV := fun δ => (capX (DL.frzS δ js) js).bind fun xs => match Bg xs (List.replicate n none) with
  | some (.rt (.d y) _) => some (.d y, DL.frzS δ js)
  | _ => none
section
variable {X : Cx} {kg : Nat} {g : Str} {stg : Stmt} {Ng psg : List Str} {c P : Addr} {N fr : List Str} {js : List Nat} {params : Arguments} {body : Expr} {scope : Scope} {p pos lpos : Pos} {Bg : List PyData → SEV}
end
end DL

/-! defs that may raise, put together: what is raised by a call goes on through the def that called, also out of a while -/
namespace DL
open PySem PySem.Spec PyProof.Rows L2 LamX NdefX
def seqYY (f g : SYV) : SYV := fun δ => (f δ).bind fun
  | .go (.nx δ') => g δ'
  | o => some o
def whY (t : TEV) (body : SYV) : Nat → SYV
  | 0, _ => none
  | n + 1, δ => (t δ).bind fun r => if r.1 then (body r.2).bind fun
      | .go (.nx δ2) => whY t body n δ2
      | .go (.ct δ2) => whY t body n δ2
      | .go (.bk δ2) => some (.go (.nx δ2))
      | .go (.rt s δ2) => some (.go (.rt s δ2))
      | .ex a b c d => some (.ex a b c d)
    else some (.go (.nx r.2))
/-! from the data -/
section
variable {δ δ1 δ2 : Ds}
end
variable [TB]
section
variable {X : Cx} {P : List Nat} {W : WX} {pos p : Pos} {e : Expr} {es : List Expr} {x : Str}
variable {k j m : Nat} {ps : List Str} {F : FY} {fa : AEV}
end
end DL

/-! a text by a number -/
namespace DL
open PySem PySem.Spec PyProof.Rows L2
def repS (x : Str) (n : Nat) : Str := ⟨(List.replicate n x.cps).foldl (· ++ ·) #[]⟩
def opMulS (a b : S) : Option S := match a, b with
  | .d (.str x), .d (.int n) => if 2 ≤ n ∧ n ≤ 1000 ∧ 1 ≤ x.length ∧ x.length ≤ 1000 then some (.d (.str (repS x n.toNat))) else none
  | _, _ => none
section
variable [TB] {X : Cx} {a b : Expr} {fa fb : PEV} {pos : Pos}
end
end DL

/-! a part of a text -/
namespace DL
open PySem PySem.Spec PyProof.Rows L2
def slTE (f : PEV) (fl fh : Ds → Option (Option Int × Ds)) : EV := fun δ => (f δ).bind fun x => (fl x.2).bind fun l => (fh l.2).bind fun h => match x.1 with
  | .v (.d (.str z)) => if z.length ≤ sizeLine then some (.d (.str (Txt.slice z l.1 h.1)), h.2) else none
  | _ => none
section
variable [TB] {X : Cx} {e : Expr}
end
end DL

/-! o[a:c] = another list, o owned -/
namespace DL
open PySem PySem.Spec PyProof.Rows L2
/-- what a store into a slice is, by values -/
def PSlc (X : Cx) (t : V → Option Int → Option Int → V → Hp → (Hp → Prop) → Prop) : Prop :=
  ∀ (pins : List (Addr × Obj)) (s : Shared) (σ : L2.St) (H : Hp) (o v : V) (lo hi : Option Int) (ov vl vu u : Value) (sl : Addr) (Q : Hp → Prop), Inv X pins σ H s → RelV o ov → s.heap.IsSliceOf sl vl vu .none → IsPart vl lo → IsPart vu hi → RelV v u → t o lo hi v H Q →
    wpAny (model X.prog X.w) X.A (setItem ov (.ref sl) u) (fun _ s' => ∃ H', Inv X pins σ H' s' ∧ Q H') X.xe s
def rSlc : V → Option Int → Option Int → V → Hp → (Hp → Prop) → Prop := fun o lo hi v H Q => ∃ a xs b ys x y, o = .ref a ∧ lo = some x ∧ hi = some y ∧ v = .ref b ∧ H a = some (.lst xs) ∧ H b = some (.lst ys) ∧ a ≠ b ∧ 0 ≤ x ∧ x ≤ y ∧ y ≤ xs.length ∧
  xs.length + ys.length ≤ sizeLine ∧ Q (upd H a (.lst (xs.take x.toNat ++ ys ++ xs.drop y.toNat)))
def gSlc (to : TE) (tl th : TO) (t : V → Option Int → Option Int → V → Hp → (Hp → Prop) → Prop) : TG := fun v σ H Q => to σ H fun o H1 => tl σ H1 fun l H2 => th σ H2 fun u H3 => t o l u v H3 fun H4 => Q σ H4
/-- the slice's own rule over the data -/
def setSl (i : Nat) (fe : PEV) (fl fh : Ds → Option (Option Int × Ds)) : SEV := fun δ => (fe δ).bind fun x => match x.1, slot x.2 i with
  | .v (.d (.list ys)), some (.o _) => (fl x.2).bind fun l => (fh l.2).bind fun h => match l.1, h.1, slot h.2 i with
    | some a, some c, some (.o (.l xs)) => if 0 ≤ a ∧ a ≤ c ∧ c ≤ (xs.length : Int) ∧ xs.length + ys.length ≤ sizeLine then some (.nx (h.2.set i (some (.o (.l (xs.take a.toNat ++ ys ++ xs.drop c.toNat)))))) else none
    | _, _, _ => none
  | _, _ => none
section
variable [TB] {X : Cx} {P : List Nat}
end
end DL

/-! for x, y in zip(a, b), a list and a tuple -/
namespace DL
open PySem PySem.Spec PyProof.Rows L2
def ItzM (K : PySem.W.Frag) (a b : Addr) (n : Nat) : L2.It :=
  ⟨fun i H => i < n ∧ ∃ (xs ys : List V) (x y : V), SqL K H a xs ∧ SqT K H b ys ∧ xs[i]? = some x ∧ ys[i]? = some y,
    fun i H v H' => ∃ T x y, v = .ref T ∧ H T = none ∧ H' = upd H T (.tup [x, y]) ∧ (∀ xs, SqL K H a xs → xs[i]? = some x) ∧ ∀ ys, SqT K H b ys → ys[i]? = some y,
    fun i H => n ≤ i ∧ ∃ xs ys : List V, SqL K H a xs ∧ SqT K H b ys ∧ min xs.length ys.length = n⟩
structure SepM (z TI TO i1 i2 a b : Nat) : Prop where
  sep : ZipSep2 z TI TO i1 i2 [i1, a] [i2, b]
  ta : a ≠ i1
  tb : b ≠ i2
def iZipM (K : PySem.W.Frag) (ta : TA) : TI := fun σ H R => ta σ H fun vs H1 => ∃ a b xs ys, vs = [.ref a, .ref b] ∧ SqL K H1 a xs ∧ SqT K H1 b ys ∧ R (ItzM K a b (min xs.length ys.length)) H1
/-! the same over data -/
variable [TB]
def zipM (fa : AEV) : IEV := fun δ => (fa δ).bind fun x => match x.1 with
  | [.v (.d (.list xs)), .v (.d (.tuple ys))] => some (zipD xs ys, x.2)
  | _ => none
end DL

/-! x[i] and len(x) where x is a text at one call, a list or a tuple at another -/
namespace DL
open PySem PySem.Spec PyProof.Rows L2
def orU (x y : Option S) : Option S := match x with
  | some s => some s
  | none => y
def opIxU (a b : S) : Option S := orU (opIxS a b) (opIx a b)
def fLenU (ss : List S) : Option S := orU (fLenT ss) (fLen ss)
theorem OpD.or [TB] {K : PySem.W.Frag} {r r' : R2} {g g' : S → S → Option S} (h : OpD K r g) (h' : OpD K r' g') : OpD K (fun x y H Q => r x y H Q ∨ r' x y H Q) (fun a b => orU (g a b) (g' a b)) := fun T ρ H x y a b s Q k ha hb hg hq => by
  have hg2 : orU (g a b) (g' a b) = some s := hg
  cases e : g a b with
  | none =>
    rw [e] at hg2
    exact .inr (h' T ρ H x y a b s Q k ha hb hg2 hq)
  | some z =>
    rw [e] at hg2
    cases hg2
    exact .inl (h T ρ H x y a b _ Q k ha hb e hq)
theorem CallD.or [TB] {K : PySem.W.Frag} {r r' : List V → Hp → VK → Prop} {g g' : List S → Option S} (h : CallD K r g) (h' : CallD K r' g') : CallD K (fun xs H Q => r xs H Q ∨ r' xs H Q) (fun ss => orU (g ss) (g' ss)) := fun T ρ H vs ss s Q k hp hg hq => by
  have hg2 : orU (g ss) (g' ss) = some s := hg
  cases e : g ss with
  | none =>
    rw [e] at hg2
    exact .inr (h' T ρ H vs ss s Q k hp hg2 hq)
  | some z =>
    rw [e] at hg2
    cases hg2
    exact .inl (h T ρ H vs ss _ Q k hp e hq)
section
variable [TB] {X : Cx} {a b : Expr} {fa fb : PEV} {pos p : Pos} {e : Expr} {es : List Expr} {fs : AEV}
end
end DL

/-! a def of the module that is handed on as a value and called by its parameter's name; a def that may raise with a def of its own in it -/
namespace DL
open PySem PySem.Spec PyProof.Rows L2 LamX NdefX
variable [TB]
theorem gfnX_ofM {Pr : Program} {w : World} {K : PySem.W.Frag} {mg : Str → Option Value} {base : Heap} {x qual : Str} {st : Stmt} {f c : Addr} {fd : FuncData} {N ps : List Str} {k : Nat} {sp : Sp} (F : FunM K x qual st f fd c) (Sc : FnScope N ps (defScope st))
    (hlen : ∀ vs H Q E, sp vs H Q E → vs.length = ps.length)
    (hbody : ∀ (A : Around) (outer : List Env) (s : Shared) (H : Hp) (vs : List V) (Q : VK) (E : XK), A.guards = some [] → Room k (A.deeper (envOfC qual (defScope st) s.heap.objs.size f (.ref c))) → sp vs H Q E →
      ∃ t, PSs (cxOf (CX Pr w) Pr w K mg base N qual (defScope st) f (.ref c) A outer s H E) (defBody st) t ∧ t { nx := fun _ H' => Q .non H', rt := Q } (L2.start N vs) H) :
    FnXG Pr w K mg base (k + 1) f fd ps sp := by
  obtain ⟨oc, od, kV, doc, pm, an, ct, osl, efd, lk, hcd⟩ := F.ex
  subst efd
  constructor
  · exact hlen
  intro A outer s H args us vs Q E hG hr e0 hb r hsp
  have vl := hlen _ _ _ _ hsp
  have kept : ∀ b o, base.get? b = some o → s.heap.get? b = some o := fun b o e => (e0.bs b o e).1
  have KX : K.In s.heap := e0.mod.kin.keeps kept
  have nl : s.heap.NoLimit := e0.mod.nolimit.keeps kept
  have kinds : ∀ y ∈ ps.zip us, (defScope st).names.lookup y.1 = some .local ∨
      ((defScope st).names.lookup y.1 = some .cell ∧
        ((cellsFrom (s.heap.objs.size + 1) (defScope st).names []).lookup y.1).isSome = true) := by
    intro y hy
    have hm : y.1 ∈ ps := (List.of_mem_zip (a := y.1) (b := y.2) hy).1
    rcases Sc.par y.1 hm with q | q
    · exact .inl q
    · refine .inr ⟨q, ?_⟩
      exact PySem.W.cellsFrom_some _ _ _ (.inl q)
  refine codeAny_call_function hr.depth (KX _ _ lk) rfl Sc.co Sc.gen rfl ?_ (hb _ _ _ _ ?_)
  · exact PySem.W.codeRec_of KX hcd
  refine wpAny_newFunctionEnv_cells Sc.kind kinds ?_
  intro env henv s1 x1
  subst henv
  refine ⟨nl.keeps x1.toInCall.keep, ?_⟩
  apply codeAny_func
  obtain ⟨t, ht, hq⟩ := hbody A outer s H vs Q E hG (hr.deeper _) hsp
  have I0 := inv_start (CX := CX Pr w) (E := E) Sc hr.hd e0 vl r x1
  have W := ht.run [] s1 (L2.start N vs) H _ I0 hq
  refine wpAny_mono W ?_ (fun _ _ z => z)
  intro fl s' hs
  cases fl with
  | ret u =>
    obtain ⟨v, σ', H', J, rv, q⟩ := hs
    exact ⟨v, H', J.os, J.bare, J.base, J.hok, rv, q⟩
  | next =>
    obtain ⟨σ', H', J, q⟩ := hs
    exact ⟨V.non, H', J.os, J.bare, J.base, J.hok, rfl, q⟩
  | brk => exact hs.elim fun _ z => z.elim fun _ z => z.2.elim
  | cont => exact hs.elim fun _ z => z.elim fun _ z => z.2.elim
theorem fnY_okM {Pr : Program} {w : World} {K : PySem.W.Frag} {mg : Str → Option Value} {base : Heap} {x qual : Str} {st : Stmt} {f c : Addr} {fd : FuncData} {N ps : List Str} {k : Nat} {P : List Nat} {body : SYV} (F : FunM K x qual st f fd c) (Sc : FnScope N ps (defScope st))
    (hbody : ∀ (A : Around) (outer : List Env) (s : Shared) (H : Hp) (E : XK) (W : WX), A.guards = some [] → Room k (A.deeper (envOfC qual (defScope st) s.heap.objs.size f (.ref c))) → Takes (cxOf (CX Pr w) Pr w K mg base N qual (defScope st) f (.ref c) A outer s H E) W →
      PSs (cxOf (CX Pr w) Pr w K mg base N qual (defScope st) f (.ref c) A outer s H E) (defBody st) (liftY K mg P body W)) :
    FnXG Pr w K mg base (k + 1) f fd ps (spY K mg ps.length (runY P N.length body)) := by
  refine gfnX_ofM F Sc (fun vs H Q E h => ?_) (fun A outer s H vs Q E hG hr h => ?_)
  · obtain ⟨T, as, ss, hs, hl, _⟩ := h
    have := hs.slen
    simp at this
    omega
  · obtain ⟨T, as, ss, hs, hl, hq⟩ := h
    refine ⟨_, hbody A outer s H E (fun c d _ H => E c d H) hG hr (takes_of rfl rfl rfl rfl), ?_⟩
    have hvl : vs.length = ss.length := by have := hs.slen; simpa using this
    have hst := hs.start (N.length - ss.length)
    have hst' : Sim K T (as ++ List.replicate (N.length - ss.length) none) (ss.map some ++ List.replicate (N.length - ss.length) none) (L2.start N vs) H := by
      unfold L2.start
      rw [hvl]
      exact hst
    unfold runY at hq
    cases eb : body (ss.map some ++ List.replicate (N.length - ss.length) none) with
    | none =>
      rw [eb] at hq
      rcases hq with ⟨_, _, z, _⟩ | ⟨_, _, _, z, _⟩ <;> cases z
    | some o =>
      rw [eb] at hq
      refine ⟨T, _, _, o, hst', eb, ?_⟩
      cases o with
      | go o =>
        simp only at hq
        cases ef : finF P ss (some o) with
        | none =>
          rw [ef] at hq
          rcases hq with ⟨_, _, z, _⟩ | ⟨_, _, _, z, _⟩ <;> cases z
        | some rc =>
          rw [ef] at hq
          rcases hq with ⟨r, cs, z, hp⟩ | ⟨_, _, _, z, _⟩
          · cases z
            exact fn_end hs hst' ef hp
          · cases z
      | ex n f x δ =>
        simp only at hq
        split at hq
        case isFalse => rcases hq with ⟨_, _, z, _⟩ | ⟨_, _, _, z, _⟩ <;> cases z
        rename_i hno
        rcases hq with ⟨_, _, z, _⟩ | ⟨m, f', x', z, hE⟩
        · cases z
        cases z
        intro c hc ρ' σ' H' dd v s1 x1 k1 hdd hv
        have less : Same (hid T ρ' H') (hid T as H') := hid_less fun b hb => hb.elim .inl fun z => by
          obtain ⟨j, hj⟩ := mem_ix z
          obtain ⟨c0, hc0⟩ := hs.own' j b hj
          rw [List.getElem?_map] at hc0
          cases e : ss[j]? with
          | none => rw [e] at hc0; cases hc0
          | some y =>
            rw [e] at hc0
            cases hc0
            have := List.all_eq_true.mp hno _ (ix_mem e)
            cases this
        refine hE c hc H' dd v ⟨?_, x1.tmp, x1.tabs⟩ hdd (dpM less _ hv)
        have := x1.same
        rw [hid_app] at this
        exact this.trans less
theorem defY_mkM {Pr : Program} {w : World} {K : PySem.W.Frag} {mg : Str → Option Value} {base : Heap} {x : Str} {st : Stmt} {f c : Addr} {fd : FuncData} {N ps : List Str} {k : Nat} {P : List Nat} {body : SYV} (F : FunM K x x st f fd c) (gm : mg x = some (.ref f)) (b : Binds K fd ps []) (Sc : FnScope N ps (defScope st))
    (hbody : ∀ (A : Around) (outer : List Env) (s : Shared) (H : Hp) (E : XK) (W : WX), A.guards = some [] → Room k (A.deeper (envOfC x (defScope st) s.heap.objs.size f (.ref c))) → Takes (cxOf (CX Pr w) Pr w K mg base N x (defScope st) f (.ref c) A outer s H E) W →
      PSs (cxOf (CX Pr w) Pr w K mg base N x (defScope st) f (.ref c) A outer s H E) (defBody st) (liftY K mg P body W)) :
    DefY Pr w K mg base (k + 1) x ps (runY P N.length body) := ⟨f, fd, gm, F.kp, b, fnY_okM F Sc hbody⟩
section
variable {X : Cx} {x : Str} {p : Pos}
theorem de_fn (V : ∃ C : Addr, X.mg x = some (.ref C) ∧ PySem.W.nsIn X.K mainGlobals x = some (some (.ref C))) (hg : Gl X x) (hd : (x == ("__debug__" : Str)) = false := by decide) : DE X (.Name x p) (cst (fnC x)) := by
  obtain ⟨C, h1, h2⟩ := V
  exact de_cst (pe_glob (v := .ref C) hg h1 rfl hd) fun _ => Dq.fn h2
end
section
variable {X : Cx} {W : WX} {k i : Nat} {x : Str} {p pos : Pos} {e : Expr} {es : List Expr} {t : TA}
/-- one of the defs that a slot may hold is called; what it raises goes on -/
theorem pe_callXL (hG : X.A.guards = some []) (hr : Room k X.A) (hN : X.N[i]? = some x) (hv : Vis X.env.scope x) (tk : Takes X W) (ha : PA X (e :: es) t)
    (hdb : (x == ("__debug__" : Str)) = false := by decide) (hcd : (x == ("__classdict__" : Str)) = false := by decide)
    (he : starEach (e :: es) X.env = (false, eval e X.env) :: starEach es X.env := by rfl) (hpl : (backTo pos (starEach es X.env)).any (·.1) = false := by rfl) :
    PE X (.Call (.Name x p) (e :: es) [] pos) (fun σ H Q => ∃ (f : Addr) (fd : FuncData) (ps : List Str) (sp : Sp), FnXG X.prog X.w X.K X.mg X.base k f fd ps sp ∧ PySem.W.keepIn X.K (.ref f) = true ∧ Binds X.K fd ps [] ∧ σ[i]? = some (some (.ref f)) ∧ tCallS sp (WE W) t σ H Q) := by
  refine ⟨fun pins s σ H Q I h => ?_⟩
  obtain ⟨f, fd, ps, sp, F, hk, hb, hs, ht⟩ := h
  refine wpAny_Call_Name_kw (thn ((pe_var (pos := p) hN hv hdb hcd).run pins s σ H (fun v H1 => v = .ref f ∧ H1 = H) I ⟨.ref f, hs, rfl, rfl⟩) fun u s1 ⟨v, H1, I1, r1, q1⟩ => ?_)
  obtain ⟨rfl, rfl⟩ := q1
  cases r1
  refine PySem.W.callWith_K (h₀ := X.base) I.ok.mod.kin hk (thn (ha.run pos pins s1 σ _ _ I1 ht) fun us s2 ⟨vs, H2, I2, r, q⟩ => ⟨I2.kIn, ?_⟩) he hpl
  have hl : us.length = ps.length := r.length.symm.trans (F.len _ _ _ _ q)
  have bt := hb s2 us I2.kIn (by rw [List.append_nil]; exact hl)
  rw [List.append_nil] at bt
  refine wpAny_call (codeAny_mono (F.run X.A X.stack s2 H2 ⟨us, []⟩ us vs Q (WE W σ) hG hr I2.env0 bt r q) ?_)
  intro rs s3 hq
  cases rs with
  | error e => exact passAt tk σ pins H2 s2 e s3 I2 hq
  | ok fl =>
    cases fl with
    | ret u => exact I2.after hq
    | next => exact hq.elim
    | brk => exact hq.elim
    | cont => exact hq.elim
end
theorem FnXG.mono {Pr : Program} {w : World} {K : PySem.W.Frag} {mg : Str → Option Value} {base : Heap} {j k : Nat} {f : Addr} {fd : FuncData} {ps : List Str} {sp : Sp} (F : FnXG Pr w K mg base j f fd ps sp) (h : j ≤ k) : FnXG Pr w K mg base k f fd ps sp :=
  ⟨F.len, fun A outer s H args us vs Q E hG hr => F.run A outer s H args us vs Q E hG (hr.mono h)⟩
theorem DefY.mono {Pr : Program} {w : World} {K : PySem.W.Frag} {mg : Str → Option Value} {base : Heap} {j k : Nat} {x : Str} {ps : List Str} {F : FY} (D : DefY Pr w K mg base j x ps F) (h : j ≤ k) : DefY Pr w K mg base k x ps F := by
  obtain ⟨f, fd, h1, h2, h3, h4⟩ := D.at'
  exact ⟨f, fd, h1, h2, h3, h4.mono h⟩
def allR (R : Str → FY → Prop) : List (Str × FY) → Prop
  | [] => True
  | p :: l => R p.1 p.2 ∧ allR R l
omit [TB] in
theorem lookup_all {R : Str → FY → Prop} : ∀ {l : List (Str × FY)}, allR R l → ∀ q F, l.lookup q = some F → R q F
  | [], _, q, F, e => by cases e
  | (y, G) :: l, ⟨h1, h2⟩, q, F, e => by
    unfold List.lookup at e
    split at e
    · rename_i hq
      cases e
      have : q = y := by simpa using hq
      rw [this]
      exact h1
    · exact lookup_all h2 q F e
/-- the def that stands in the slot, by its name -/
def stP (j : Nat) (Fs : List (Str × FY)) (mk : EV → SEV) (m : Nat) (fa : AEV) : SYV := fun δ => match slot δ j with
  | some (.d (.dict [(.int k, .str n), (.bool false, .none)])) => if k = konI then (match Fs.lookup n with
    | some F => stY mk F m fa δ
    | none => none) else none
  | _ => none
section
variable {X : Cx} {P : List Nat} {W : WX} {pos p : Pos} {e : Expr} {es : List Expr} {x : Str} {k j m : Nat} {fa : AEV} {Fs : List (Str × FY)}
/-- n = p(..), where p holds a def of the module -/
theorem dyp_set {i l : Nat} {n : Str} {pos' p2 : Pos} (D : ∀ q F, Fs.lookup q = some F → ∃ ps, ps.length = m ∧ DefY X.prog X.w X.K X.mg X.base k q ps F) (V : ∀ q F, Fs.lookup q = some F → ∃ C : Addr, X.mg q = some (.ref C) ∧ PySem.W.nsIn X.K mainGlobals q = some (some (.ref C)))
    (hG : X.A.guards = some []) (hr : Room j X.A) (hk : k ≤ j) (hl : X.N[l]? = some x) (hv : Vis X.env.scope x) (tk : Takes X W) (hN : X.N.Nodup) (hi : X.N[i]? = some n) (hx : Loc X.env.scope n) (hP : i ∉ P) (ha : DA X (e :: es) fa)
    (hs : swapsWith (.Call (.Name x p) (e :: es) [] p2) (some (.Name n pos')) pos.line X.env = pure false := by rfl) (hfn : X.fn n = true ∨ X.env.scope.names.lookup n = some .local := by first | exact .inl rfl | exact .inr rfl | assumption)
    (hdb : (x == ("__debug__" : Str)) = false := by decide) (hcd : (x == ("__classdict__" : Str)) = false := by decide) (he : starEach (e :: es) X.env = (false, eval e X.env) :: starEach es X.env := by rfl) (hpl : (backTo p2 (starEach es X.env)).any (·.1) = false := by rfl) :
    PS X (.Assign [.Name n pos'] (.Call (.Name x p) (e :: es) [] p2) pos) (liftY X.K X.mg P (stP l Fs (setS i) m fa) W) := by
  refine ps_imp (ps_set hN hi hx (pe_callXL (k := k) hG (hr.mono hk) hl hv tk ha hdb hcd he hpl) hs hfn) fun D' σ H h => ?_
  obtain ⟨T, ρ, δ, o, hsm, hf, hq⟩ := h
  unfold stP at hf
  split at hf
  case h_2 => cases hf
  rename_i c q eq
  split at hf
  case isFalse => cases hf
  rename_i hc
  subst hc
  split at hf
  case h_2 => cases hf
  rename_i F eF
  obtain ⟨ps, hm, DY⟩ := D q F eF
  subst hm
  obtain ⟨f, fd, h1, h2, h3, h4⟩ := DY.at'
  obtain ⟨C, v1, v2⟩ := V q F eF
  rw [h1] at v1
  cases v1
  obtain ⟨v, w1, w2⟩ := hsm.slot l _ (slot_some eq)
  have w3 : Dq X.K (hid T ρ H) v (fnC q) := w2
  cases w3 with
  | fn g =>
    rw [v2] at g
    cases g
    refine ⟨f, fd, ps, _, h4, h2, h3, w1, ?_⟩
    unfold stY at hf
    cases ex : excAtY F ps.length fa δ with
    | some nd =>
      obtain ⟨n, δ1⟩ := nd
      rw [ex] at hf
      cases hf
      exact callY_ex hsm ex fun c hc ρ' H' dd v s1 x1 hd hv => hq c hc ρ' σ H' dd v s1 x1 .refl hd hv
    | none =>
      rw [ex] at hf
      simp only at hf
      cases em : setS i (callE (goFY F) ps.length fa) δ with
      | none => rw [em] at hf; cases hf
      | some o1 =>
        rw [em] at hf
        cases hf
        exact callY_go (set_ok hP ⟨T, ρ, δ, o1, hsm, em, hq⟩)
end
theorem stP_of {δ : Ds} {j : Nat} {Fs : List (Str × FY)} {mk : EV → SEV} {m : Nat} {fa : AEV} {n : Str} {F : FY} (h : slot δ j = some (.d (fnC n))) (hF : Fs.lookup n = some F) : stP j Fs mk m fa δ = stY mk F m fa δ := by
  unfold stP
  rw [h]
  simp only [if_true, hF]
end DL

namespace K13
open PySem PySem.Spec PyProof.Rows L2 DL
def topS (i : Nat) : Stmt := PySem.Challenge.pw_everlater_k13_beside_and_within.main.body.getD i (.Pass ⟨0, 0, 0, 0⟩)
/-! _law_circle -/
abbrev st__law_circle : Stmt := topS 19
abbrev N__law_circle : List Str := ["_law_size", "_law_steps", "_law_found", "_law_x", "_law_y"]
def B__law_circle : SEV := (seqS (setS 2 (lstE nilA))
  (seqS (forS (rngI1 (consA (pk 0) nilA)) (nameG 3) (exprS (mutL 2 gExt (consA (frzP (lcE [4] (rngI1 (consA (pk 0) nilA)) (nameG 4) (bl (bin (opIn false) (frzP (bin (opI2 iMod) (frzP (bin (opI2 iSub) (pk 3) (pk 4))) (pk 0))) (pk 1))) (tupE (consA (frzP (vr 3)) (consA (frzP (vr 4)) nilA))))) nilA))))
  (retS (tupE (consA (frzP (vr 0)) (consA (frzP (callB fTuple (consA (pk 2) nilA))) nilA))))))
def F__law_circle : FN := runF [0, 1] (List.length N__law_circle) B__law_circle
/-! _law_line -/
abbrev st__law_line : Stmt := topS 20
abbrev N__law_line : List Str := ["_law_size", "_law_found", "_law_x", "_law_y"]
def B__law_line : SEV := (seqS (setS 1 (lstE nilA))
  (seqS (forS (rngI1 (consA (pk 0) nilA)) (nameG 2) (exprS (mutL 1 gExt (consA (frzP (lcE [3] (rngI1 (consA (pk 2) nilA)) (nameG 3) yesT (tupE (consA (frzP (vr 2)) (consA (frzP (vr 3)) nilA))))) nilA))))
  (retS (tupE (consA (frzP (vr 0)) (consA (frzP (callB fTuple (consA (pk 1) nilA))) nilA))))))
def F__law_line : FN := runF [0] (List.length N__law_line) B__law_line
/-! _law_behind -/
abbrev st__law_behind : Stmt := topS 23
abbrev N__law_behind : List Str := ["_law_one", "_law_two", "_law_x", "_law_found", "_law_first", "_law_y"]
def B__law_behind : SEV := (seqS (parS [3, 4] (consF (lstE nilA) (consF (bin opIx (pk 0) (frzP (cst (.int 0)))) nilF)))
  (seqS (forS (rngI1 (consA (frzP (bin opAdd (pk 4) (frzP (bin opIx (pk 1) (frzP (cst (.int 0))))))) nilA)) (nameG 2) (forS (rngI1 (consA (frzP (bin opAdd (pk 4) (frzP (bin opIx (pk 1) (frzP (cst (.int 0))))))) nilA)) (nameG 5) (ifS (orT (bl (chn (cmpI pGe) (cmpI pGt) (pk 2) (pk 4) (pk 5))) (orT (andT (bl (bin (cmpI pLt) (pk 2) (pk 4))) (bl (bin (opIn false) (frzP (tupE (consA (frzP (vr 2)) (consA (frzP (vr 5)) nilA)))) (frzP (bin opIx (pk 0) (frzP (cst (.int 1)))))))) (andT (bl (bin (cmpI pGe) (pk 5) (pk 4))) (bl (bin (opIn false) (frzP (tupE (consA (frzP (bin (opI2 iSub) (pk 2) (pk 4))) (consA (frzP (bin (opI2 iSub) (pk 5) (pk 4))) nilA)))) (frzP (bin opIx (pk 1) (frzP (cst (.int 1)))))))))) (exprS (mutL 3 gApp (consA (frzP (tupE (consA (frzP (vr 2)) (consA (frzP (vr 5)) nilA)))) nilA))) nxS)))
  (retS (tupE (consA (frzP (bin opAdd (pk 4) (frzP (bin opIx (pk 1) (frzP (cst (.int 0))))))) (consA (frzP (callB fTuple (consA (pk 3) nilA))) nilA))))))
def F__law_behind : FN := runF [0, 1] (List.length N__law_behind) B__law_behind
/-! _law_nest -/
abbrev st__law_nest : Stmt := topS 21
abbrev N__law_nest : List Str := ["_law_one", "_law_two", "_law_x", "_law_found", "_law_size", "_law_y", "_law_outer"]
def B__law_nest : SEV := (seqS (parS [3, 4] (consF (lstE nilA) (consF (bin opIx (pk 1) (frzP (cst (.int 0)))) nilF)))
  (seqS (forS (rngI1 (consA (frzP (bin opMul (frzP (bin opIx (pk 0) (frzP (cst (.int 0))))) (pk 4))) nilA)) (nameG 2) (forS (rngI1 (consA (frzP (bin opMul (frzP (bin opIx (pk 0) (frzP (cst (.int 0))))) (pk 4))) nilA)) (nameG 5) (seqS (setS 6 (tupE (consA (frzP (bin (opI2 iDiv) (pk 2) (pk 4))) (consA (frzP (bin (opI2 iDiv) (pk 5) (pk 4))) nilA))))
  (ifS (orT (bl (bin (opIn false) (pk 6) (frzP (bin opIx (pk 0) (frzP (cst (.int 1))))))) (andT (bl (bin opEq (frzP (bin opIx (pk 6) (frzP (cst (.int 0))))) (frzP (bin opIx (pk 6) (frzP (cst (.int 1))))))) (bl (bin (opIn false) (frzP (tupE (consA (frzP (bin (opI2 iMod) (pk 2) (pk 4))) (consA (frzP (bin (opI2 iMod) (pk 5) (pk 4))) nilA)))) (frzP (bin opIx (pk 1) (frzP (cst (.int 1))))))))) (exprS (mutL 3 gApp (consA (frzP (tupE (consA (frzP (vr 2)) (consA (frzP (vr 5)) nilA)))) nilA))) nxS))))
  (retS (tupE (consA (frzP (bin opMul (frzP (bin opIx (pk 0) (frzP (cst (.int 0))))) (pk 4))) (consA (frzP (callB fTuple (consA (pk 3) nilA))) nilA))))))
def F__law_nest : FN := runF [0, 1] (List.length N__law_nest) B__law_nest
/-! beside -/
abbrev st_beside : Stmt := topS 12
abbrev N_beside : List Str := ["lot", "other", "first", "many", "behind", "between", "x", "y"]
def B_beside : SYV := (seqY (setS 2 (bin opIx (pk 0) (frzP (cst (.int 0)))))
  (seqY (setS 3 (bin opAdd (pk 2) (frzP (bin opIx (pk 1) (frzP (cst (.int 0)))))))
  (guardY (bl (bin (cmpI pGt) (pk 3) (frzP (cst (.int 24))))) (raiseYS "TooMany" "many" (pk 3))
  (goY (seqS (setS 4 (lcE [6, 7] (seqI (bin opIx (pk 1) (frzP (cst (.int 1))))) (tupG 2 (consG (nameG 6) (consG (nameG 7) nilG))) yesT (tupE (consA (frzP (bin opAdd (pk 6) (pk 2))) (consA (frzP (bin opAdd (pk 7) (pk 2))) nilA)))))
  (seqS (setS 5 (lc2E [6, 7] [7] (rngI2 (consA (pk 2) (consA (pk 3) nilA))) (nameG 6) yesT (rngI1 (consA (pk 2) nilA)) (nameG 7) yesT (tupE (consA (frzP (vr 6)) (consA (frzP (vr 7)) nilA)))))
  (retS (tupE (consA (frzP (vr 3)) (consA (frzP (callB fTuple (consA (frzP (callB fSorted (consA (frzP (bin opAdd (frzP (bin opAdd (frzP (callB fList (consA (frzP (bin opIx (pk 0) (frzP (cst (.int 1))))) nilA))) (pk 4))) (pk 5))) nilA))) nilA))) nilA))))))))))
def X_beside : FY := runY [0, 1] (List.length N_beside) B_beside
def F_beside : FN := goFY X_beside
/-! later_table -/
abbrev st_later_table : Stmt := topS 9
abbrev N_later_table : List Str := ["lot", "pair"]
def B_later_table : SEV := (retS (dcE false [1] (seqI (bin opIx (pk 0) (frzP (cst (.int 1))))) (nameG 1) yesT (vr 1) (cst (.bool true))))
def F_later_table : FN := runF [0] (List.length N_later_table) B_later_table
/-! lot_by -/
abbrev st_lot_by : Stmt := topS 11
abbrev N_lot_by : List Str := ["many", "later", "x", "y"]
noncomputable def B_lot_by (FL : FN) (d0 : PyData) (css : List S) : SEV := (retS (tupE (consA (frzP (vr 0)) (consA (frzP (callB fTuple (consA (frzP (lc2E [2, 3] [3] (rngI1 (consA (pk 0) nilA)) (nameG 2) yesT (rngI1 (consA (pk 0) nilA)) (nameG 3) (bl (callFn 1 d0 css FL (consA (pk 2) (consA (pk 3) nilA)))) (tupE (consA (frzP (vr 2)) (consA (frzP (vr 3)) nilA))))) nilA))) nilA))))
theorem res_lot_by_ok (FL : FN) : ∀ (d0 : PyData) (css : List S) (n y : PyData), resLot FL css n = some y → ∃ zs, runF [0, 1] (List.length N_lot_by) (B_lot_by FL d0 css) [.d n, .d d0] = some (.d y, zs) := fun d0 css n y h => DL.lot_res h
/-! within -/
abbrev st_within : Stmt := topS 13
abbrev N_within : List Str := ["lot", "other", "size", "many", "outer", "inner", "later"]
def B_within : SYV := (seqY (setS 2 (bin opIx (pk 1) (frzP (cst (.int 0)))))
  (seqY (setS 3 (bin opMul (frzP (bin opIx (pk 0) (frzP (cst (.int 0))))) (pk 2)))
  (guardY (bl (bin (cmpI pGt) (pk 3) (frzP (cst (.int 24))))) (raiseYS "TooMany" "many" (pk 3))
  (goY (seqS (setS 4 (callE F_later_table 1 (consA (frzP (vr 0)) nilA)))
  (seqS (setS 5 (callE F_later_table 1 (consA (frzP (vr 1)) nilA)))
  (retS (lotN 6 [2, 4, 5] (resLot (ndF (List.length (α := Str) ["x", "y"]) (List.length (α := Str) ["size", "outer", "inner"]) (List.length (α := Str) ["x", "y", "size", "outer", "inner", "a", "b", "c", "d"]) (seqS (unpS (frzP (callB fDivmod (consA (pk 0) (consA (pk 2) nilA)))) (tupG 2 (consG (nameG 5) (consG (nameG 6) nilG))))
  (seqS (unpS (frzP (callB fDivmod (consA (pk 1) (consA (pk 2) nilA)))) (tupG 2 (consG (nameG 7) (consG (nameG 8) nilG))))
  (retS (orV (bin (opInX false) (frzP (tupE (consA (frzP (vr 5)) (consA (frzP (vr 7)) nilA)))) (pk 3)) (andV (bin opEq (pk 5) (pk 7)) (bin (opInX false) (frzP (tupE (consA (frzP (vr 6)) (consA (frzP (vr 8)) nilA)))) (pk 4))))))))) (pk 3)))))))))
def X_within : FY := runY [0, 1] (List.length N_within) B_within
def F_within : FN := goFY X_within
/-! _law_asked -/
abbrev st__law_asked : Stmt := topS 24
abbrev N__law_asked : List Str := ["_law_make", "_law_one", "_law_two", "error", "_law_others", "_law_found", "_law_caught"]
def B__law_asked : SEV := (seqS (unpS (frzP (tupE (consA (frzP (cst .none)) (consA (frzP (cst .none)) nilA)))) (tupG 2 (consG (nameG 5) (consG (nameG 6) nilG))))
  (seqS (tryKY (stP 0 [("beside", X_beside), ("within", X_within)] (setS 5) 2 (consA (pk 1) (consA (pk 2) nilA))) (fun n => List.contains (["TooMany"] : List Str) n) 3 6)
  (seqS (ifS (bl (bin (opIs false) (pk 6) (frzP (cst .none)))) (retS (vr 5)) nxS)
  (seqS (setS 4 (isYE ["TooMany"] [] (pk 6)))
  (retS (ifE (andT (bl (isYE ["TooMany"] ["TooMany"] (pk 6))) (andT (bl (isYE ["TooMany"] ["TooMany"] (pk 6))) (notT (bl (vr 4))))) (fldYE ["TooMany"] "many" (pk 6)) (cst (.str "other"))))))))
def F__law_asked : FN := runF [0, 1, 2] (List.length N__law_asked) B__law_asked
/-! _law_right -/
abbrev st__law_right : Stmt := topS 25
abbrev N__law_right : List Str := ["_law_one", "_law_two", "_law_held", "_law_due", "_law_inner", "_law_found"]
def B__law_right : SEV := (seqS (setS 2 (callB fReprD (consA (frzP (tupE (consA (frzP (vr 0)) (consA (frzP (vr 1)) nilA)))) nilA)))
  (seqS (setS 3 (ifE (bl (bin (cmpI pLt) (frzP (bin opAdd (frzP (bin opIx (pk 0) (frzP (cst (.int 0))))) (frzP (bin opIx (pk 1) (frzP (cst (.int 0))))))) (frzP (cst (.int 25))))) (callE F__law_behind 2 (consA (frzP (vr 0)) (consA (frzP (vr 1)) nilA))) (bin opAdd (frzP (bin opIx (pk 0) (frzP (cst (.int 0))))) (frzP (bin opIx (pk 1) (frzP (cst (.int 0))))))))
  (seqS (setS 4 (ifE (bl (bin (cmpI pLt) (frzP (bin opMul (frzP (bin opIx (pk 0) (frzP (cst (.int 0))))) (frzP (bin opIx (pk 1) (frzP (cst (.int 0))))))) (frzP (cst (.int 25))))) (callE F__law_nest 2 (consA (frzP (vr 0)) (consA (frzP (vr 1)) nilA))) (bin opMul (frzP (bin opIx (pk 0) (frzP (cst (.int 0))))) (frzP (bin opIx (pk 1) (frzP (cst (.int 0))))))))
  (seqS (setS 5 (lstE (consA (frzP (callE F__law_asked 3 (consA (frzP (cst (fnC "beside"))) (consA (frzP (vr 0)) (consA (frzP (vr 1)) nilA))))) (consA (frzP (callE F__law_asked 3 (consA (frzP (cst (fnC "within"))) (consA (frzP (vr 0)) (consA (frzP (vr 1)) nilA))))) nilA))))
  (retS (andV (bin opEq (frzP (callB fReprD (consA (pk 5) nilA))) (frzP (callB fReprD (consA (frzP (lstE (consA (frzP (vr 3)) (consA (frzP (vr 4)) nilA)))) nilA)))) (bin opEq (frzP (callB fReprD (consA (frzP (tupE (consA (frzP (vr 0)) (consA (frzP (vr 1)) nilA)))) nilA))) (pk 2))))))))
def F__law_right : FN := runF [0, 1] (List.length N__law_right) B__law_right
/-! _law_pot -/
abbrev st__law_pot : Stmt := topS 15
abbrev N__law_pot : List Str := ["_law_script", "_law_k", "_law_cell", "_law_own"]
def B__law_pot : SEV := (seqS (setS 2 (ifE (bl (bin (cmpI pLt) (pk 1) (frzP (callB fLen (consA (pk 0) nilA))))) (bin opIx (pk 0) (pk 1)) (cst (.int 0))))
  (seqS (setS 3 (bin opMul (frzP (bin (opI2 iMod) (frzP (callB fAbs (consA (pk 2) nilA))) (frzP (bin (opI2 iPow) (frzP (bin (opI2 iPow) (frzP (cst (.int 10))) (frzP (cst (.int 60))))) (frzP (cst (.int 5))))))) (frzP (callB fInt (consA (frzP (bin (cmpI pGe) (frzP (callB fAbs (consA (pk 2) nilA))) (frzP (bin (opI2 iPow) (frzP (cst (.int 10))) (frzP (cst (.int 18))))))) nilA)))))
  (retS (lstE (consA (frzP (vr 3)) (consA (frzP (bin (opI2 iMod) (frzP (bin opMul (frzP (bin opAdd (frzP (bin opAdd (frzP (bin (opI2 iMod) (pk 2) (frzP (cst (.int 2305843009213693951))))) (frzP (bin opMul (frzP (bin opMul (frzP (cst (.int 104729))) (pk 1))) (pk 1))))) (frzP (cst (.int 19))))) (frzP (cst (.int 48271))))) (frzP (cst (.int 2305843009213693921))))) (consA (frzP (cst (.int 0))) nilA)))))))
def F__law_pot : FN := runF [0, 1] (List.length N__law_pot) B__law_pot
/-! _law_take -/
abbrev st__law_take : Stmt := topS 16
abbrev N__law_take : List Str := ["_law_pot_here", "_law_size", "_law_turn", "_law_prime", "_law_mixed", "_law_digit"]
def B__law_take : SEV := (seqS (ifS (bl (bin (cmpI pGt) (frzP (bin opIx (pk 0) (frzP (cst (.int 0))))) (frzP (cst (.int 0))))) (seqS (setS 5 (bin (opI2 iMod) (frzP (bin opIx (pk 0) (frzP (cst (.int 0))))) (pk 1)))
  (seqS (setI 0 (frzP (bin (opI2 iDiv) (frzP (bin opIx (pk 0) (frzP (cst (.int 0))))) (pk 1))) (frzP (cst (.int 0))))
  (retS (vr 5)))) nxS)
  (seqS (setS 2 (bin opAdd (frzP (bin opIx (pk 0) (frzP (cst (.int 2))))) (frzP (cst (.int 1)))))
  (seqS (setI 0 (frzP (vr 2)) (frzP (cst (.int 2))))
  (seqS (setS 3 (bin opIx (frzP (lstE (consA (frzP (cst (.int 2305843009213693951))) (consA (frzP (cst (.int 2305843009213693921))) (consA (frzP (cst (.int 2305843009213693907))) (consA (frzP (cst (.int 67280421310721))) nilA)))))) (frzP (bin (opI2 iMod) (pk 2) (frzP (cst (.int 4)))))))
  (seqS (setS 4 (bin (opI2 iMod) (frzP (bin (opI2 iPow) (frzP (bin opAdd (frzP (bin opAdd (frzP (bin opIx (pk 0) (frzP (cst (.int 1))))) (frzP (bin opMul (frzP (bin opMul (frzP (cst (.int 7919))) (pk 2))) (pk 2))))) (frzP (bin opMul (frzP (cst (.int 65537))) (pk 2))))) (frzP (cst (.int 3))))) (pk 3)))
  (retS (bin (opI2 iMod) (frzP (bin (opI2 iDiv) (frzP (bin (opI2 iMod) (frzP (bin opMul (pk 4) (frzP (bin opAdd (frzP (bin (opI2 iMod) (pk 4) (frzP (cst (.int 10007))))) (frzP (bin opMul (frzP (cst (.int 97))) (pk 2))))))) (frzP (cst (.int 2305843009213693669))))) (frzP (cst (.int 4099))))) (pk 1))))))))
def F__law_take : FN := runF [0, 1] (List.length N__law_take) B__law_take
/-! _law_of -/
abbrev st__law_of : Stmt := topS 17
abbrev N__law_of : List Str := ["_law_pot_here", "_law_some"]
def B__law_of : SEV := (retS (bin opIx (pk 1) (frzP (callE F__law_take 2 (consA (pk 0) (consA (frzP (callB fLen (consA (pk 1) nilA))) nilA))))))
def F__law_of : FN := runF [0, 1] (List.length N__law_of) B__law_of
/-! _law_drawn -/
abbrev st__law_drawn : Stmt := topS 18
abbrev N__law_drawn : List Str := ["_law_pot_here", "_law_most", "_law_x", "_law_size", "_law_share", "_law_found", "_law_y", "_law_way"]
def B__law_drawn : SEV := (seqS (parS [3, 4, 5] (consF (callE F__law_take 2 (consA (pk 0) (consA (frzP (bin opAdd (pk 1) (frzP (cst (.int 1))))) nilA))) (consF (bin opAdd (frzP (cst (.int 2))) (frzP (callE F__law_take 2 (consA (pk 0) (consA (frzP (cst (.int 3))) nilA))))) (consF (lstE nilA) nilF))))
  (seqS (forS (rngI1 (consA (pk 3) nilA)) (nameG 2) (forS (rngI1 (consA (pk 2) nilA)) (nameG 6) (seqS (setS 7 (callE F__law_take 2 (consA (pk 0) (consA (frzP (vr 4)) nilA))))
  (exprS (mutL 5 gExt (consA (frzP (bin opAdd (frzP (bin opMul (frzP (lstE (consA (frzP (tupE (consA (frzP (vr 2)) (consA (frzP (vr 6)) nilA)))) nilA))) (frzP (callB fInt (consA (frzP (bin opEq (pk 7) (frzP (cst (.int 0))))) nilA))))) (frzP (bin opMul (frzP (lstE (consA (frzP (tupE (consA (frzP (vr 6)) (consA (frzP (vr 2)) nilA)))) nilA))) (frzP (callB fInt (consA (frzP (bin opEq (pk 7) (frzP (cst (.int 1))))) nilA))))))) nilA))))))
  (retS (tupE (consA (frzP (vr 3)) (consA (frzP (callB fTuple (consA (frzP (callB fSorted (consA (pk 5) nilA))) nilA))) nilA))))))
def F__law_drawn : FN := runF [0, 1] (List.length N__law_drawn) B__law_drawn
/-! _law_lot -/
abbrev st__law_lot : Stmt := topS 22
abbrev N__law_lot : List Str := ["_law_pot_here", "_law_most", "_law_known", "_law_lot_here"]
def B__law_lot : SEV := (seqS (setS 2 (lstE (consA (frzP (callE F__law_circle 2 (consA (frzP (cst (.int 3))) (consA (frzP (lstE (consA (frzP (cst (.int 1))) nilA))) nilA)))) (consA (frzP (callE F__law_circle 2 (consA (frzP (cst (.int 5))) (consA (frzP (lstE (consA (frzP (cst (.int 1))) (consA (frzP (cst (.int 2))) nilA)))) nilA)))) (consA (frzP (callE F__law_circle 2 (consA (frzP (cst (.int 7))) (consA (frzP (lstE (consA (frzP (cst (.int 1))) (consA (frzP (cst (.int 2))) (consA (frzP (cst (.int 4))) nilA))))) nilA)))) nilA)))))
  (seqS (exprS (mutL 2 gApp (consA (frzP (callE F__law_line 1 (consA (frzP (callE F__law_take 2 (consA (pk 0) (consA (frzP (bin opAdd (pk 1) (frzP (cst (.int 1))))) nilA)))) nilA))) nilA)))
  (seqS (setS 2 (lcE [3] (seqI (vr 2)) (nameG 3) (bl (bin (cmpI pLe) (frzP (bin opIx (pk 3) (frzP (cst (.int 0))))) (pk 1))) (vr 3)))
  (retS (callE F__law_of 2 (consA (pk 0) (consA (frzP (bin opAdd (frzP (bin opMul (frzP (lstE (consA (frzP (callE F__law_drawn 2 (consA (pk 0) (consA (frzP (vr 1)) nilA)))) nilA))) (frzP (cst (.int 4))))) (pk 2))) nilA)))))))
def F__law_lot : FN := runF [0, 1] (List.length N__law_lot) B__law_lot
/-! law -/
abbrev st_law : Stmt := topS 26
abbrev N_law : List Str := ["_law_script", "_law_some", "_law_k", "_law_three", "_law_lone", "_law_none", "_law_pot_here", "_law_turn", "_law_one", "_law_two", "_law_side"]
def B_law : SEV := (seqS (parS [3, 4, 5] (consF (callE F__law_circle 2 (consA (frzP (cst (.int 3))) (consA (frzP (lstE (consA (frzP (cst (.int 1))) nilA))) nilA))) (consF (tupE (consA (frzP (cst (.int 1))) (consA (frzP (tupE nilA)) nilA))) (consF (tupE (consA (frzP (cst (.int 0))) (consA (frzP (tupE nilA)) nilA))) nilF))))
  (seqS (setS 1 (lstE (consA (frzP (tupE (consA (frzP (vr 5)) (consA (frzP (vr 5)) nilA)))) (consA (frzP (tupE (consA (frzP (vr 5)) (consA (frzP (vr 3)) nilA)))) (consA (frzP (tupE (consA (frzP (vr 3)) (consA (frzP (vr 5)) nilA)))) (consA (frzP (tupE (consA (frzP (vr 4)) (consA (frzP (vr 3)) nilA)))) (consA (frzP (tupE (consA (frzP (vr 3)) (consA (frzP (vr 4)) nilA)))) (consA (frzP (tupE (consA (frzP (callE F__law_line 1 (consA (frzP (cst (.int 24))) nilA))) (consA (frzP (vr 5)) nilA)))) nilA))))))))
  (seqS (setS 1 (bin opAdd (pk 1) (frzP (lstE (consA (frzP (tupE (consA (frzP (callE F__law_line 1 (consA (frzP (cst (.int 24))) nilA))) (consA (frzP (vr 4)) nilA)))) (consA (frzP (tupE (consA (frzP (vr 4)) (consA (frzP (callE F__law_line 1 (consA (frzP (cst (.int 24))) nilA))) nilA)))) (consA (frzP (tupE (consA (frzP (callE F__law_line 1 (consA (frzP (cst (.int 12))) nilA))) (consA (frzP (callE F__law_line 1 (consA (frzP (cst (.int 2))) nilA))) nilA)))) (consA (frzP (tupE (consA (frzP (callE F__law_line 1 (consA (frzP (cst (.int 5))) nilA))) (consA (frzP (tupE (consA (frzP (cst (.int 5))) (consA (frzP (tupE nilA)) nilA)))) nilA)))) nilA))))))))
  (seqS (setS 1 (bin opAdd (pk 1) (frzP (lstE (consA (frzP (tupE (consA (frzP (callE F__law_line 1 (consA (frzP (cst (.int 6))) nilA))) (consA (frzP (callE F__law_line 1 (consA (frzP (cst (.int 4))) nilA))) nilA)))) (consA (frzP (tupE (consA (frzP (tupE (consA (frzP (cst (.int 12))) (consA (frzP (tupE nilA)) nilA)))) (consA (frzP (tupE (consA (frzP (cst (.int 12))) (consA (frzP (tupE nilA)) nilA)))) nilA)))) (consA (frzP (tupE (consA (frzP (callE F__law_line 1 (consA (frzP (cst (.int 12))) nilA))) (consA (frzP (tupE (consA (frzP (cst (.int 13))) (consA (frzP (tupE nilA)) nilA)))) nilA)))) (consA (frzP (tupE (consA (frzP (vr 3)) (consA (frzP (tupE (consA (frzP (cst (.int 8))) (consA (frzP (tupE nilA)) nilA)))) nilA)))) nilA))))))))
  (seqS (ifS (notT (bl (callB fAll (consA (frzP (lcE [8, 9] (seqI (vr 1)) (tupG 2 (consG (nameG 8) (consG (nameG 9) nilG))) yesT (callE F__law_right 2 (consA (frzP (vr 8)) (consA (frzP (vr 9)) nilA))))) nilA)))) (retS (cst (.bool false))) nxS)
  (seqS (forS (rngI1 (consA (frzP (callB fMax (consA (frzP (cst (.int 1))) (consA (frzP (callB fMin (consA (frzP (cst (.int 3))) (consA (frzP (callB fLen (consA (pk 0) nilA))) nilA)))) nilA)))) nilA)) (nameG 2) (seqS (setS 6 (callE F__law_pot 2 (consA (frzP (vr 0)) (consA (frzP (vr 2)) nilA))))
  (forS (rngI1 (consA (frzP (cst (.int 4))) nilA)) (nameG 7) (seqS (unpS (frzP (lcE [10] (rngI1 (consA (frzP (cst (.int 2))) nilA)) (nameG 10) yesT (callE F__law_lot 2 (consA (pk 6) (consA (frzP (callE F__law_of 2 (consA (pk 6) (consA (frzP (lstE (consA (frzP (cst (.int 2))) (consA (frzP (cst (.int 3))) (consA (frzP (cst (.int 4))) (consA (frzP (cst (.int 6))) (consA (frzP (cst (.int 12))) (consA (frzP (cst (.int 24))) nilA)))))))) nilA)))) nilA))))) (lstG 2 (consG (nameG 8) (consG (nameG 9) nilG))))
  (ifS (notT (bl (callE F__law_right 2 (consA (frzP (vr 8)) (consA (frzP (vr 9)) nilA))))) (retS (cst (.bool false))) nxS)))))
  (retS (cst (.bool true)))))))))
def F_law : FN := runF [0] (List.length N_law) B_law
section
variable [TB] {Pr : Program} {w : World} {K : PySem.W.Frag} {mg : Str → Option Value} {base : Heap}
abbrev sti_TooMany : Stmt := inClass (topS 4) 0
omit [TB] in
theorem sci_TooMany : FnScope ["self", "many"] ["self", "many"] (defScope sti_TooMany) := ⟨rfl, rfl, rfl, by decide +kernel, rfl, by decide +kernel, by decide +kernel⟩
theorem sc__law_circle : FnScope N__law_circle ["_law_size", "_law_steps"] (defScope st__law_circle) := ⟨rfl, rfl, rfl, by decide +kernel, rfl, by decide +kernel, by decide +kernel⟩
theorem ok__law_circle {f : Addr} {fd : FuncData} (F : Fun K "_law_circle" "_law_circle" st__law_circle f fd) (gm : mg "_law_circle" = some (.ref f)) (b : Binds K fd ["_law_size", "_law_steps"] []) (hsm : ∃ o, base.get? sysModules = some o) (m_range : mg "range" = none) (m_tuple : mg "tuple" = none) : Def Pr w K mg base 1 "_law_circle" ["_law_size", "_law_steps"] F__law_circle := by
  have H : ∀ (cdv : Value) (A : Around) (outer : List Env) (s : Shared) (H : Hp) (E : XK), A.guards = some [] → Room 0 (A.deeper (envOfC "_law_circle" (defScope st__law_circle) s.heap.objs.size f cdv)) →
      DSs (cxOf CX0 Pr w K mg base N__law_circle "_law_circle" (defScope st__law_circle) f cdv A outer s H E).nox [0, 1] (defBody st__law_circle) B__law_circle := by
    intro cdv A outer s H E hG hr
    have nd := sc__law_circle.nd
    exact (dss_cons (ds_set (i := 2) nd rfl (by first | exact Or.inl rfl | exact Or.inr rfl) (by decide) (de_lst da_nil))
      (dss_cons (ds_for PassesOwn.never rfl (by decide) (di_range1 (by rfl) (by exact m_range) (da_cons (dp_var (pv 0)) da_nil)) (dg_name (i := 3) nd rfl (by first | exact Or.inl rfl | exact Or.inr rfl)) (dss_one (ds_expr (de_extend (pv 2) (da_cons (dp_of (de_lc (own := [("_law_y", 4)]) rfl nd (di_range1 (by rfl) (by exact m_range) (da_cons (dp_var (pv 0)) da_nil)) (blkOk_by (own := [("_law_y", 4)]) (N := N__law_circle) (sc := defScope st__law_circle) (by decide +kernel)) (by decide) (fun _ _ _ _ _ => (dg_name (i := 4) nd rfl (by first | exact Or.inl rfl | exact Or.inr rfl))) (fun _ _ _ _ _ => (dts_one (dt_in (by exact hr) (dp_of (de_mod (dp_of (de_sub (dp_var (pv 3)) (dp_var (pv 4)))) (dp_var (pv 0)))) (dp_var (pv 1))))) (fun _ _ _ _ _ => (de_tup (da_cons (dp_of (de_var (pv 3))) (da_cons (dp_of (de_var (pv 4))) da_nil)))))) da_nil)))))
      (dss_one (ds_ret (de_tup (da_cons (dp_of (de_var (pv 0))) (da_cons (dp_of (de_tuple (by exact m_tuple) (by rfl) (da_cons (dp_var (pv 2)) da_nil))) da_nil)))))))
  exact def_mk F gm b sc__law_circle H
theorem sc__law_line : FnScope N__law_line ["_law_size"] (defScope st__law_line) := ⟨rfl, rfl, rfl, by decide +kernel, rfl, by decide +kernel, by decide +kernel⟩
theorem ok__law_line {f : Addr} {fd : FuncData} (F : Fun K "_law_line" "_law_line" st__law_line f fd) (gm : mg "_law_line" = some (.ref f)) (b : Binds K fd ["_law_size"] []) (hsm : ∃ o, base.get? sysModules = some o) (m_range : mg "range" = none) (m_tuple : mg "tuple" = none) : Def Pr w K mg base 1 "_law_line" ["_law_size"] F__law_line := by
  have H : ∀ (cdv : Value) (A : Around) (outer : List Env) (s : Shared) (H : Hp) (E : XK), A.guards = some [] → Room 0 (A.deeper (envOfC "_law_line" (defScope st__law_line) s.heap.objs.size f cdv)) →
      DSs (cxOf CX0 Pr w K mg base N__law_line "_law_line" (defScope st__law_line) f cdv A outer s H E).nox [0] (defBody st__law_line) B__law_line := by
    intro cdv A outer s H E hG hr
    have nd := sc__law_line.nd
    exact (dss_cons (ds_set (i := 1) nd rfl (by first | exact Or.inl rfl | exact Or.inr rfl) (by decide) (de_lst da_nil))
      (dss_cons (ds_for PassesOwn.never rfl (by decide) (di_range1 (by rfl) (by exact m_range) (da_cons (dp_var (pv 0)) da_nil)) (dg_name (i := 2) nd rfl (by first | exact Or.inl rfl | exact Or.inr rfl)) (dss_one (ds_expr (de_extend (pv 1) (da_cons (dp_of (de_lc (own := [("_law_y", 3)]) rfl nd (di_range1 (by rfl) (by exact m_range) (da_cons (dp_var (pv 2)) da_nil)) (blkOk_by (own := [("_law_y", 3)]) (N := N__law_line) (sc := defScope st__law_line) (by decide +kernel)) (by decide) (fun _ _ _ _ _ => (dg_name (i := 3) nd rfl (by first | exact Or.inl rfl | exact Or.inr rfl))) (fun _ _ _ _ _ => dts_nil) (fun _ _ _ _ _ => (de_tup (da_cons (dp_of (de_var (pv 2))) (da_cons (dp_of (de_var (pv 3))) da_nil)))))) da_nil)))))
      (dss_one (ds_ret (de_tup (da_cons (dp_of (de_var (pv 0))) (da_cons (dp_of (de_tuple (by exact m_tuple) (by rfl) (da_cons (dp_var (pv 1)) da_nil))) da_nil)))))))
  exact def_mk F gm b sc__law_line H
theorem sc__law_behind : FnScope N__law_behind ["_law_one", "_law_two"] (defScope st__law_behind) := ⟨rfl, rfl, rfl, by decide +kernel, rfl, by decide +kernel, by decide +kernel⟩
theorem ok__law_behind {f : Addr} {fd : FuncData} (F : Fun K "_law_behind" "_law_behind" st__law_behind f fd) (gm : mg "_law_behind" = some (.ref f)) (b : Binds K fd ["_law_one", "_law_two"] []) (hsm : ∃ o, base.get? sysModules = some o) (m_range : mg "range" = none) (m_tuple : mg "tuple" = none) : Def Pr w K mg base 1 "_law_behind" ["_law_one", "_law_two"] F__law_behind := by
  have H : ∀ (cdv : Value) (A : Around) (outer : List Env) (s : Shared) (H : Hp) (E : XK), A.guards = some [] → Room 0 (A.deeper (envOfC "_law_behind" (defScope st__law_behind) s.heap.objs.size f cdv)) →
      DSs (cxOf CX0 Pr w K mg base N__law_behind "_law_behind" (defScope st__law_behind) f cdv A outer s H E).nox [0, 1] (defBody st__law_behind) B__law_behind := by
    intro cdv A outer s H E hG hr
    have nd := sc__law_behind.nd
    exact (dss_cons (ds_par2 rfl nd rfl rfl (by decide) rfl rfl (by decide) (df_cons (de_lst da_nil) (df_cons (de_item (dp_var (pv 0)) (dp_of de_int) (fun _ _ => rfl)) df_nil)) rfl)
      (dss_cons (ds_for PassesOwn.never rfl (by decide) (di_range1 (by rfl) (by exact m_range) (da_cons (dp_of (de_add (dp_var (pv 4)) (dp_of (de_item (dp_var (pv 1)) (dp_of de_int) (fun _ _ => rfl))))) da_nil)) (dg_name (i := 2) nd rfl (by first | exact Or.inl rfl | exact Or.inr rfl)) (dss_one (ds_for PassesOwn.never rfl (by decide) (di_range1 (by rfl) (by exact m_range) (da_cons (dp_of (de_add (dp_var (pv 4)) (dp_of (de_item (dp_var (pv 1)) (dp_of de_int) (fun _ _ => rfl))))) da_nil)) (dg_name (i := 5) nd rfl (by first | exact Or.inl rfl | exact Or.inr rfl)) (dss_one (ds_if (PW.pt (dw_or (dt_chain or_ge od_cmp or_gt od_cmp (dp_var (pv 2)) (dp_var (pv 4)) (dp_var (pv 5))) (dw_or (PW.pt (dw_and (dt_lt (dp_var (pv 2)) (dp_var (pv 4))) (dw_and1 (dt_in (by exact hr) (dp_of (de_tup (da_cons (dp_of (de_var (pv 2))) (da_cons (dp_of (de_var (pv 5))) da_nil)))) (dp_of (de_item (dp_var (pv 0)) (dp_of de_int) (fun _ _ => rfl))))))) (dw_or1 (PW.pt (dw_and (dt_ge (dp_var (pv 5)) (dp_var (pv 4))) (dw_and1 (dt_in (by exact hr) (dp_of (de_tup (da_cons (dp_of (de_sub (dp_var (pv 2)) (dp_var (pv 4)))) (da_cons (dp_of (de_sub (dp_var (pv 5)) (dp_var (pv 4)))) da_nil)))) (dp_of (de_item (dp_var (pv 1)) (dp_of de_int) (fun _ _ => rfl))))))))))) (dss_one (ds_expr (de_append (pv 3) (da_cons (dp_of (de_tup (da_cons (dp_of (de_var (pv 2))) (da_cons (dp_of (de_var (pv 5))) da_nil)))) da_nil)))) dss_nil)))))
      (dss_one (ds_ret (de_tup (da_cons (dp_of (de_add (dp_var (pv 4)) (dp_of (de_item (dp_var (pv 1)) (dp_of de_int) (fun _ _ => rfl))))) (da_cons (dp_of (de_tuple (by exact m_tuple) (by rfl) (da_cons (dp_var (pv 3)) da_nil))) da_nil)))))))
  exact def_mk F gm b sc__law_behind H
theorem sc__law_nest : FnScope N__law_nest ["_law_one", "_law_two"] (defScope st__law_nest) := ⟨rfl, rfl, rfl, by decide +kernel, rfl, by decide +kernel, by decide +kernel⟩
theorem ok__law_nest {f : Addr} {fd : FuncData} (F : Fun K "_law_nest" "_law_nest" st__law_nest f fd) (gm : mg "_law_nest" = some (.ref f)) (b : Binds K fd ["_law_one", "_law_two"] []) (hsm : ∃ o, base.get? sysModules = some o) (m_range : mg "range" = none) (m_tuple : mg "tuple" = none) : Def Pr w K mg base 1 "_law_nest" ["_law_one", "_law_two"] F__law_nest := by
  have H : ∀ (cdv : Value) (A : Around) (outer : List Env) (s : Shared) (H : Hp) (E : XK), A.guards = some [] → Room 0 (A.deeper (envOfC "_law_nest" (defScope st__law_nest) s.heap.objs.size f cdv)) →
      DSs (cxOf CX0 Pr w K mg base N__law_nest "_law_nest" (defScope st__law_nest) f cdv A outer s H E).nox [0, 1] (defBody st__law_nest) B__law_nest := by
    intro cdv A outer s H E hG hr
    have nd := sc__law_nest.nd
    exact (dss_cons (ds_par2 rfl nd rfl rfl (by decide) rfl rfl (by decide) (df_cons (de_lst da_nil) (df_cons (de_item (dp_var (pv 1)) (dp_of de_int) (fun _ _ => rfl)) df_nil)) rfl)
      (dss_cons (ds_for PassesOwn.never rfl (by decide) (di_range1 (by rfl) (by exact m_range) (da_cons (dp_of (de_mul (dp_of (de_item (dp_var (pv 0)) (dp_of de_int) (fun _ _ => rfl))) (dp_var (pv 4)))) da_nil)) (dg_name (i := 2) nd rfl (by first | exact Or.inl rfl | exact Or.inr rfl)) (dss_one (ds_for PassesOwn.never rfl (by decide) (di_range1 (by rfl) (by exact m_range) (da_cons (dp_of (de_mul (dp_of (de_item (dp_var (pv 0)) (dp_of de_int) (fun _ _ => rfl))) (dp_var (pv 4)))) da_nil)) (dg_name (i := 5) nd rfl (by first | exact Or.inl rfl | exact Or.inr rfl)) (dss_cons (ds_set (i := 6) nd rfl (by first | exact Or.inl rfl | exact Or.inr rfl) (by decide) (de_tup (da_cons (dp_of (de_div (dp_var (pv 2)) (dp_var (pv 4)))) (da_cons (dp_of (de_div (dp_var (pv 5)) (dp_var (pv 4)))) da_nil))))
      (dss_one (ds_if (PW.pt (dw_or (dt_in (by exact hr) (dp_var (pv 6)) (dp_of (de_item (dp_var (pv 0)) (dp_of de_int) (fun _ _ => rfl)))) (dw_or1 (PW.pt (dw_and (dt_eq (by exact hr) (dp_of (de_item (dp_var (pv 6)) (dp_of de_int) (fun _ _ => rfl))) (dp_of (de_item (dp_var (pv 6)) (dp_of de_int) (fun _ _ => rfl)))) (dw_and1 (dt_in (by exact hr) (dp_of (de_tup (da_cons (dp_of (de_mod (dp_var (pv 2)) (dp_var (pv 4)))) (da_cons (dp_of (de_mod (dp_var (pv 5)) (dp_var (pv 4)))) da_nil)))) (dp_of (de_item (dp_var (pv 1)) (dp_of de_int) (fun _ _ => rfl)))))))))) (dss_one (ds_expr (de_append (pv 3) (da_cons (dp_of (de_tup (da_cons (dp_of (de_var (pv 2))) (da_cons (dp_of (de_var (pv 5))) da_nil)))) da_nil)))) dss_nil))))))
      (dss_one (ds_ret (de_tup (da_cons (dp_of (de_mul (dp_of (de_item (dp_var (pv 0)) (dp_of de_int) (fun _ _ => rfl))) (dp_var (pv 4)))) (da_cons (dp_of (de_tuple (by exact m_tuple) (by rfl) (da_cons (dp_var (pv 3)) da_nil))) da_nil)))))))
  exact def_mk F gm b sc__law_nest H
theorem sc_beside : FnScope N_beside ["lot", "other"] (defScope st_beside) := ⟨rfl, rfl, rfl, by decide +kernel, rfl, by decide +kernel, by decide +kernel⟩
theorem ok_beside {f : Addr} {fd : FuncData} (F : Fun K "beside" "beside" st_beside f fd) (gm : mg "beside" = some (.ref f)) (b : Binds K fd ["lot", "other"] []) (hsm : ∃ o, base.get? sysModules = some o) (k_TooMany : ClsY Pr w K mg base "TooMany" "many") (m_list : mg "list" = none) (m_range : mg "range" = none) (m_sorted : mg "sorted" = none) (m_tuple : mg "tuple" = none) (c_MOST_MARKS : Con mg "MOST_MARKS" (.int 24)) : DefY Pr w K mg base 3 "beside" ["lot", "other"] X_beside := by
  have H : ∀ (cdv : Value) (A : Around) (outer : List Env) (s : Shared) (H : Hp) (E : XK) (W : WX), A.guards = some [] → Room 2 (A.deeper (envOfC "beside" (defScope st_beside) s.heap.objs.size f cdv)) → Takes (cxOf (CX Pr w) Pr w K mg base N_beside "beside" (defScope st_beside) f cdv A outer s H E) W →
      PSs (cxOf (CX Pr w) Pr w K mg base N_beside "beside" (defScope st_beside) f cdv A outer s H E) (defBody st_beside) (liftY K mg [0, 1] B_beside W) := by
    intro cdv A outer s H E W hG hr tk
    have nd := sc_beside.nd
    exact (dys_cons (ds_set (i := 2) nd rfl (by first | exact Or.inl rfl | exact Or.inr rfl) (by decide) (de_item (dp_var (pv 0)) (dp_of de_int) (fun _ _ => rfl)))
      (dys_cons (ds_set (i := 3) nd rfl (by first | exact Or.inl rfl | exact Or.inr rfl) (by decide) (de_add (dp_var (pv 2)) (dp_of (de_item (dp_var (pv 1)) (dp_of de_int) (fun _ _ => rfl)))))
      (dys_guard (dt_gt (dp_var (pv 3)) (dp_of (de_conI (by rfl) (by exact c_MOST_MARKS)))) (dys_raise (by exact k_TooMany) rfl tk (hr.mono (by decide)) (by rfl) (dp_var (pv 3))) raiseYS_no
      (dys_go (dss_cons (ds_setLc (own := [("x", 6), ("y", 7)]) rfl nd rfl rfl (by decide) (sw_true rfl rfl rfl (by decide +kernel)) (di_seq (de_item (dp_var (pv 1)) (dp_of de_int) (fun _ _ => rfl))) (blkOk_by (own := [("x", 6), ("y", 7)]) (N := N_beside) (sc := defScope st_beside) (by decide +kernel)) (by decide) (fun _ _ _ _ _ => (dg_tup rfl (dgs_cons (dg_name (i := 6) nd rfl (by first | exact Or.inl rfl | exact Or.inr rfl)) (dgs_cons (dg_name (i := 7) nd rfl (by first | exact Or.inl rfl | exact Or.inr rfl)) dgs_nil)))) (fun _ _ _ _ _ => dts_nil) (fun _ _ _ _ _ => (de_tup (da_cons (dp_of (de_add (dp_var (pv 6)) (dp_var (pv 2)))) (da_cons (dp_of (de_add (dp_var (pv 7)) (dp_var (pv 2)))) da_nil)))))
      (dss_cons (ds_setLc2 (own := [("x", 6), ("y", 7)]) (vs1 := [7]) rfl nd rfl rfl (by decide) (sw_true rfl rfl rfl (by decide +kernel)) (di_range2 (by rfl) (by exact m_range) (da_cons (dp_var (pv 2)) (da_cons (dp_var (pv 3)) da_nil))) (blkOk_by (own := [("x", 6), ("y", 7)]) (N := N_beside) (sc := defScope st_beside) (by decide +kernel)) (by decide) (by decide) (by decide) (fun _ _ _ _ _ => (dg_name (i := 6) nd rfl (by first | exact Or.inl rfl | exact Or.inr rfl))) (fun _ _ _ _ _ => dts_nil) (fun _ _ _ _ _ => (di_range1 (by rfl) (by exact m_range) (da_cons (dp_var (pv 2)) da_nil))) (fun _ _ _ _ _ => (dg_name (i := 7) nd rfl (by first | exact Or.inl rfl | exact Or.inr rfl))) (fun _ _ _ _ _ => dts_nil) (fun _ _ _ _ _ => (de_tup (da_cons (dp_of (de_var (pv 6))) (da_cons (dp_of (de_var (pv 7))) da_nil)))))
      (dss_one (ds_ret (de_tup (da_cons (dp_of (de_var (pv 3))) (da_cons (dp_of (de_tuple (by exact m_tuple) (by rfl) (da_cons (dp_of (de_sorted (by exact m_sorted) (by rfl) (da_cons (dp_of (de_add (dp_of (de_add (dp_of (de_list (by exact m_list) (by rfl) (da_cons (dp_of (de_item (dp_var (pv 0)) (dp_of de_int) (fun _ _ => rfl))) da_nil))) (dp_var (pv 4)))) (dp_var (pv 5)))) da_nil))) da_nil))) da_nil)))))))))))
  exact defY_mk F gm b sc_beside H
theorem sc_later_table : FnScope N_later_table ["lot"] (defScope st_later_table) := ⟨rfl, rfl, rfl, by decide +kernel, rfl, by decide +kernel, by decide +kernel⟩
theorem ok_later_table {f : Addr} {fd : FuncData} (F : Fun K "later_table" "later_table" st_later_table f fd) (gm : mg "later_table" = some (.ref f)) (b : Binds K fd ["lot"] []) (hsm : ∃ o, base.get? sysModules = some o) : Def Pr w K mg base 1 "later_table" ["lot"] F_later_table := by
  have H : ∀ (cdv : Value) (A : Around) (outer : List Env) (s : Shared) (H : Hp) (E : XK), A.guards = some [] → Room 0 (A.deeper (envOfC "later_table" (defScope st_later_table) s.heap.objs.size f cdv)) →
      DSs (cxOf CX0 Pr w K mg base N_later_table "later_table" (defScope st_later_table) f cdv A outer s H E).nox [0] (defBody st_later_table) B_later_table := by
    intro cdv A outer s H E hG hr
    have nd := sc_later_table.nd
    exact (dss_one (ds_ret (de_dc false (own := [("pair", 1)]) (by exact hr) rfl nd (di_seq (de_item (dp_var (pv 0)) (dp_of de_int) (fun _ _ => rfl))) (blkOk_by (own := [("pair", 1)]) (N := N_later_table) (sc := defScope st_later_table) (by decide +kernel)) (by decide) (fun _ _ _ _ _ => (dg_name (i := 1) nd rfl (by first | exact Or.inl rfl | exact Or.inr rfl))) (fun _ _ _ _ _ => dts_nil) (fun _ _ _ _ _ => (de_var (pv 1))) (fun _ _ _ _ _ => de_bl))))
  exact def_mk F gm b sc_later_table H
theorem sc_lot_by : FnScope N_lot_by ["many", "later"] (defScope st_lot_by) := ⟨rfl, rfl, rfl, by decide +kernel, rfl, by decide +kernel, by decide +kernel⟩
theorem sc_within : FnScope N_within ["lot", "other"] (defScope st_within) := ⟨rfl, rfl, rfl, by decide +kernel, rfl, by decide +kernel, by decide +kernel⟩
theorem ok_within {f c P : Addr} {fd : FuncData} (F : FunM K "within" "within" st_within f fd c) (tb : LamX.TabB base mg c P) (me : (P, ((("within" : Str) ++ (".<locals>." : Str)) ++ ("later" : Str))) ∈ TB.tb) (un : ∀ p ∈ TB.tb, p.1 = P → p.2 = ((("within" : Str) ++ (".<locals>." : Str)) ++ ("later" : Str))) (gm : mg "within" = some (.ref f)) (b : Binds K fd ["lot", "other"] []) (hsm : ∃ o, base.get? sysModules = some o) (D_later_table : Def Pr w K mg base 1 "later_table" ["lot"] F_later_table) (U_lot_by : RawDef K mg "lot_by" st_lot_by ["many", "later"]) (k_TooMany : ClsY Pr w K mg base "TooMany" "many") (m_divmod : mg "divmod" = none) (m_range : mg "range" = none) (m_tuple : mg "tuple" = none) (c_MOST_MARKS : Con mg "MOST_MARKS" (.int 24)) : DefY Pr w K mg base 4 "within" ["lot", "other"] X_within := by
  have H : ∀ (A : Around) (outer : List Env) (s : Shared) (H : Hp) (E : XK) (W : WX), A.guards = some [] → Room 3 (A.deeper (envOfC "within" (defScope st_within) s.heap.objs.size f (.ref c))) → Takes (cxOf (CX Pr w) Pr w K mg base N_within "within" (defScope st_within) f (.ref c) A outer s H E) W →
      PSs (cxOf (CX Pr w) Pr w K mg base N_within "within" (defScope st_within) f (.ref c) A outer s H E) (defBody st_within) (liftY K mg [0, 1] B_within W) := by
    intro A outer s H E W hG hr tk
    have nd := sc_within.nd
    exact (dys_cons (ds_set (i := 2) nd rfl (by first | exact Or.inl rfl | exact Or.inr rfl) (by decide) (de_item (dp_var (pv 1)) (dp_of de_int) (fun _ _ => rfl)))
      (dys_cons (ds_set (i := 3) nd rfl (by first | exact Or.inl rfl | exact Or.inr rfl) (by decide) (de_mul (dp_of (de_item (dp_var (pv 0)) (dp_of de_int) (fun _ _ => rfl))) (dp_var (pv 2))))
      (dys_guard (dt_gt (dp_var (pv 3)) (dp_of (de_conI (by rfl) (by exact c_MOST_MARKS)))) (dys_raise (by exact k_TooMany) rfl tk (hr.mono (by decide)) (by rfl) (dp_var (pv 3))) raiseYS_no
      (dys_go (dss_cons (ds_set (i := 4) nd rfl (by first | exact Or.inl rfl | exact Or.inr rfl) (by decide) (de_own (by exact D_later_table) (by rfl) (by exact hG) (by exact hr) (by decide) (by rfl) (da_cons (dp_of (de_var (pv 0))) da_nil)))
      (dss_cons (ds_set (i := 5) nd rfl (by first | exact Or.inl rfl | exact Or.inr rfl) (by decide) (de_own (by exact D_later_table) (by rfl) (by exact hG) (by exact hr) (by decide) (by rfl) (da_cons (dp_of (de_var (pv 1))) da_nil)))
      (dss_ndefRetR (N := ["x", "y", "size", "outer", "inner", "a", "b", "c", "d"]) (ps := ["x", "y"]) (fr := ["size", "outer", "inner"]) (js := [2, 4, 5]) (kg := 0 + 1) (i := 6) (Pg := [0, 1]) (Bg := fun d0 css => B_lot_by (ndF (List.length (α := Str) ["x", "y"]) (List.length (α := Str) ["size", "outer", "inner"]) (List.length (α := Str) ["x", "y", "size", "outer", "inner", "a", "b", "c", "d"]) (seqS (unpS (frzP (callB fDivmod (consA (pk 0) (consA (pk 2) nilA)))) (tupG 2 (consG (nameG 5) (consG (nameG 6) nilG))))
  (seqS (unpS (frzP (callB fDivmod (consA (pk 1) (consA (pk 2) nilA)))) (tupG 2 (consG (nameG 7) (consG (nameG 8) nilG))))
  (retS (orV (bin (opInX false) (frzP (tupE (consA (frzP (vr 5)) (consA (frzP (vr 7)) nilA)))) (pk 3)) (andV (bin opEq (pk 5) (pk 7)) (bin (opInX false) (frzP (tupE (consA (frzP (vr 6)) (consA (frzP (vr 8)) nilA)))) (pk 4)))))))) d0 css) ⟨by exact tb, rfl, by exact me, by exact un⟩ ⟨NdefX.nscope_by (by decide +kernel), rfl, rfl, rfl, fun _ _ _ _ _ _ us hl => match us, hl with | [_, _], _ => rfl, NdefX.ndef_free (sc := defScope st_within) (fr := ["size", "outer", "inner"]) (by decide +kernel), NdefX.ndef_fr (sc := defScope st_within) (by decide +kernel), rfl⟩ (by exact U_lot_by) sc_lot_by (by rfl) rfl (by exact hG) (by exact hr) (by decide) (fun _ => rfl) (dp_var (pv 3)) nd rfl (by first | exact Or.inl rfl | exact Or.inr rfl) (fun fg B f c' cs cdv s H Φ Scl hbl hr => by
        have nd := sc_lot_by.nd
        exact (dss_one (ds_ret (de_tup (da_cons (dp_of (de_var (pv 0))) (da_cons (dp_of (de_tuple (by exact m_tuple) (by rfl) (da_cons (dp_of (de_lc2 (own := [("x", 2), ("y", 3)]) (vs1 := [3]) rfl nd (di_range1 (by rfl) (by exact m_range) (da_cons (dp_var (pv 0)) da_nil)) (blkOk_by (own := [("x", 2), ("y", 3)]) (N := N_lot_by) (sc := defScope st_lot_by) (by decide +kernel)) (by decide) (by decide) (by decide) (fun _ _ _ _ _ => (dg_name (i := 2) nd rfl (by first | exact Or.inl rfl | exact Or.inr rfl))) (fun _ _ _ _ _ => dts_nil) (fun _ _ _ _ _ => (di_range1 (by rfl) (by exact m_range) (da_cons (dp_var (pv 0)) da_nil))) (fun _ _ _ _ _ => (dg_name (i := 3) nd rfl (by first | exact Or.inl rfl | exact Or.inr rfl))) (fun _ _ _ _ _ => (dts_one (dt_val (de_callFnN (ps := ["x", "y"]) (fr := ["size", "outer", "inner"]) (N := ["x", "y", "size", "outer", "inner", "a", "b", "c", "d"]) Φ Scl hbl (fun A outer s H hG hr => by
        have nd : List.Nodup (["x", "y", "size", "outer", "inner", "a", "b", "c", "d"] : List Str) := by decide
        exact (dss_cons (ds_unp (by decide) (dp_of (de_divmod (by exact m_divmod) (by rfl) (da_cons (dp_var (pv 0)) (da_cons (dp_var (pv 2)) da_nil)))) (dg_tup rfl (dgs_cons (dg_name (i := 5) nd rfl (by first | exact Or.inl rfl | exact Or.inr rfl)) (dgs_cons (dg_name (i := 6) nd rfl (by first | exact Or.inl rfl | exact Or.inr rfl)) dgs_nil))))
      (dss_cons (ds_unp (by decide) (dp_of (de_divmod (by exact m_divmod) (by rfl) (da_cons (dp_var (pv 1)) (da_cons (dp_var (pv 2)) da_nil)))) (dg_tup rfl (dgs_cons (dg_name (i := 7) nd rfl (by first | exact Or.inl rfl | exact Or.inr rfl)) (dgs_cons (dg_name (i := 8) nd rfl (by first | exact Or.inl rfl | exact Or.inr rfl)) dgs_nil))))
      (dss_one (ds_ret (de_or (de_inX (by exact hr) (dp_of (de_tup (da_cons (dp_of (de_var (pv 5))) (da_cons (dp_of (de_var (pv 7))) da_nil)))) (dp_var (pv 3))) (de_one (de_and (de_eq (by exact hr) (dp_var (pv 5)) (dp_var (pv 7))) (de_one (de_inX (by exact hr) (dp_of (de_tup (da_cons (dp_of (de_var (pv 6))) (da_cons (dp_of (de_var (pv 8))) da_nil)))) (dp_var (pv 4)))))))))))) (by exact hG) (by exact hr) rfl (by first | exact Or.inl rfl | exact Or.inr (Or.inl rfl) | exact Or.inr (Or.inr rfl)) (da_cons (dp_var (pv 2)) (da_cons (dp_var (pv 3)) da_nil)) rfl)))) (fun _ _ _ _ _ => (de_tup (da_cons (dp_of (de_var (pv 2))) (da_cons (dp_of (de_var (pv 3))) da_nil)))))) da_nil))) da_nil)))))) (res_lot_by_ok (ndF (List.length (α := Str) ["x", "y"]) (List.length (α := Str) ["size", "outer", "inner"]) (List.length (α := Str) ["x", "y", "size", "outer", "inner", "a", "b", "c", "d"]) (seqS (unpS (frzP (callB fDivmod (consA (pk 0) (consA (pk 2) nilA)))) (tupG 2 (consG (nameG 5) (consG (nameG 6) nilG))))
  (seqS (unpS (frzP (callB fDivmod (consA (pk 1) (consA (pk 2) nilA)))) (tupG 2 (consG (nameG 7) (consG (nameG 8) nilG))))
  (retS (orV (bin (opInX false) (frzP (tupE (consA (frzP (vr 5)) (consA (frzP (vr 7)) nilA)))) (pk 3)) (andV (bin opEq (pk 5) (pk 7)) (bin (opInX false) (frzP (tupE (consA (frzP (vr 6)) (consA (frzP (vr 8)) nilA)))) (pk 4))))))))))))))))
  exact defY_mkM F gm b sc_within H
theorem sc__law_asked : FnScope N__law_asked ["_law_make", "_law_one", "_law_two"] (defScope st__law_asked) := ⟨rfl, rfl, rfl, by decide +kernel, rfl, by decide +kernel, by decide +kernel⟩
theorem ok__law_asked {f : Addr} {fd : FuncData} (F : Fun K "_law_asked" "_law_asked" st__law_asked f fd) (gm : mg "_law_asked" = some (.ref f)) (b : Binds K fd ["_law_make", "_law_one", "_law_two"] []) (hsm : ∃ o, base.get? sysModules = some o) (E_beside : DefY Pr w K mg base 3 "beside" ["lot", "other"] X_beside) (E_within : DefY Pr w K mg base 4 "within" ["lot", "other"] X_within) (w_many : ∀ n ∈ (["TooMany"] : List Str), ∀ C : Addr, PySem.W.nsIn K mainGlobals n = some (some (.ref C)) → XfC K C ∧ PySem.W.findIn K (.ref C) "many" = some none) (x_TooMany_MarkError : ExmX K mg "TooMany" "MarkError") (y_TooMany : ∃ C : Addr, mg "TooMany" = some (.ref C) ∧ PySem.W.nsIn K mainGlobals "TooMany" = some (some (.ref C))) (V_beside : ∃ C : Addr, mg "beside" = some (.ref C) ∧ PySem.W.nsIn K mainGlobals "beside" = some (some (.ref C))) (V_within : ∃ C : Addr, mg "within" = some (.ref C) ∧ PySem.W.nsIn K mainGlobals "within" = some (some (.ref C))) {c_Fails : Addr} (g_Fails : mg "Fails" = some (.ref c_Fails)) {c_NotHeld : Addr} (g_NotHeld : mg "NotHeld" = some (.ref c_NotHeld)) {c_NotKept : Addr} (g_NotKept : mg "NotKept" = some (.ref c_NotKept)) {c_Serves : Addr} (g_Serves : mg "Serves" = some (.ref c_Serves)) {c_TooMany : Addr} (g_TooMany : mg "TooMany" = some (.ref c_TooMany)) (o_0 : ∀ n ∈ (["TooMany"] : List Str), ∀ C : Addr, PySem.W.nsIn K mainGlobals n = some (some (.ref C)) → ExcC K C ∧ PySem.W.kitAny K (.ref C) (List.map Value.ref [c_Fails, c_NotHeld, c_NotKept, c_Serves]) = some (List.contains ([] : List Str) n)) (o_1 : ∀ n ∈ (["TooMany"] : List Str), ∀ C : Addr, PySem.W.nsIn K mainGlobals n = some (some (.ref C)) → ExcC K C ∧ PySem.W.kitOne K (.ref C) (.ref c_TooMany) = some (List.contains (["TooMany"] : List Str) n)) (o_2 : ∀ n ∈ (["TooMany"] : List Str), ∀ C : Addr, PySem.W.nsIn K mainGlobals n = some (some (.ref C)) → ExcC K C ∧ PySem.W.kitOne K (.ref C) (.type "ValueError") = some (List.contains (["TooMany"] : List Str) n)) (m_ValueError : mg "ValueError" = none) (m_isinstance : mg "isinstance" = none) : Def Pr w K mg base 5 "_law_asked" ["_law_make", "_law_one", "_law_two"] F__law_asked := by
  have H : ∀ (cdv : Value) (A : Around) (outer : List Env) (s : Shared) (H : Hp) (E : XK), A.guards = some [] → Room 4 (A.deeper (envOfC "_law_asked" (defScope st__law_asked) s.heap.objs.size f cdv)) →
      DSs (cxOf CX0 Pr w K mg base N__law_asked "_law_asked" (defScope st__law_asked) f cdv A outer s H E).nox [0, 1, 2] (defBody st__law_asked) B__law_asked := by
    intro cdv A outer s H E hG hr
    have nd := sc__law_asked.nd
    exact (dss_cons (ds_unp (by decide) (dp_of (de_tup (da_cons (dp_of de_non) (da_cons (dp_of de_non) da_nil)))) (dg_tup rfl (dgs_cons (dg_name (i := 5) nd rfl (by first | exact Or.inl rfl | exact Or.inr rfl)) (dgs_cons (dg_name (i := 6) nd rfl (by first | exact Or.inl rfl | exact Or.inr rfl)) dgs_nil))))
      (dss_cons (ds_tryKY (i := 3) (m := 6) ["TooMany"] (by decide) (by rfl) (fun n hn => (List.mem_cons.mp hn).elim (fun e => by rw [e]; exact x_TooMany_MarkError) ((fun n hn => nomatch hn) n)) (fun n hn => (List.mem_cons.mp hn).elim (fun e => by rw [e]; exact y_TooMany) ((fun n hn => nomatch hn) n)) nd rfl (by rfl) (Or.inl rfl) rfl (by first | exact Or.inl rfl | exact Or.inr rfl) (by decide) (by decide) (by decide) (fun W pn xe tk => pss_one (dyp_set (i := 5) (l := 0) (k := 4) (Fs := [("beside", X_beside), ("within", X_within)]) (fun q F hF => DL.lookup_all (l := [("beside", X_beside), ("within", X_within)]) (R := fun q F => ∃ ps, List.length (α := Str) ps = 2 ∧ DefY _ _ _ _ _ 4 q ps F) (And.intro (⟨_, rfl, DefY.mono (by exact E_beside) (by decide)⟩) (And.intro (⟨_, rfl, DefY.mono (by exact E_within) (by decide)⟩) (trivial))) q F hF) (fun q F hF => DL.lookup_all (l := [("beside", X_beside), ("within", X_within)]) (R := fun q F => ∃ C : Addr, mg q = some (.ref C) ∧ PySem.W.nsIn K mainGlobals q = some (some (.ref C))) (And.intro (V_beside) (And.intro (V_within) (trivial))) q F hF) (by exact hG) (by exact hr) (by decide) rfl (by first | exact Or.inl rfl | exact Or.inr (Or.inl rfl) | exact Or.inr (Or.inr rfl)) tk nd rfl (by first | exact Or.inl rfl | exact Or.inr rfl) (by decide) (da_cons (dp_var (pv 1)) (da_cons (dp_var (pv 2)) da_nil)))))
      (dss_cons (ds_if (dt_is (dp_var (pv 6)) (dp_of de_non)) (dss_one (ds_ret (de_var (pv 5)))) dss_nil)
      (dss_cons (ds_set (i := 4) nd rfl (by first | exact Or.inl rfl | exact Or.inr rfl) (by decide) (de_isYT (R := ["TooMany"]) (hits := []) rfl (by exact m_isinstance) (by rfl) (glb_cons (by rfl) (by exact g_Fails) (glb_cons (by rfl) (by exact g_NotHeld) (glb_cons (by rfl) (by exact g_NotKept) (glb_cons (by rfl) (by exact g_Serves) glb_nil)))) (by simp) (by exact o_0) (dp_var (pv 6))))
      (dss_one (ds_ret (de_ifE (PW.pt (dw_and (dt_val (de_isY (R := ["TooMany"]) (hits := ["TooMany"]) rfl (by exact m_isinstance) (by rfl) (by rfl) (by exact g_TooMany) (by exact o_1) (dp_var (pv 6)))) (dw_and (dt_val (de_isYB (cn := "ValueError") (R := ["TooMany"]) (hits := ["TooMany"]) rfl (by exact m_isinstance) (by rfl) (by exact m_ValueError) (by rfl) (by decide +kernel) (by decide) (by exact o_2) (dp_var (pv 6)))) (dw_and1 (dt_not (dt_val (de_var (pv 4)))))))) (de_fldY (by exact w_many) (dp_var (pv 6))) de_str)))))))
  exact def_mk F gm b sc__law_asked H
theorem sc__law_right : FnScope N__law_right ["_law_one", "_law_two"] (defScope st__law_right) := ⟨rfl, rfl, rfl, by decide +kernel, rfl, by decide +kernel, by decide +kernel⟩
theorem ok__law_right {f : Addr} {fd : FuncData} (F : Fun K "_law_right" "_law_right" st__law_right f fd) (gm : mg "_law_right" = some (.ref f)) (b : Binds K fd ["_law_one", "_law_two"] []) (hsm : ∃ o, base.get? sysModules = some o) (D__law_behind : Def Pr w K mg base 1 "_law_behind" ["_law_one", "_law_two"] F__law_behind) (D__law_nest : Def Pr w K mg base 1 "_law_nest" ["_law_one", "_law_two"] F__law_nest) (D__law_asked : Def Pr w K mg base 5 "_law_asked" ["_law_make", "_law_one", "_law_two"] F__law_asked) (V_beside : ∃ C : Addr, mg "beside" = some (.ref C) ∧ PySem.W.nsIn K mainGlobals "beside" = some (some (.ref C))) (V_within : ∃ C : Addr, mg "within" = some (.ref C) ∧ PySem.W.nsIn K mainGlobals "within" = some (some (.ref C))) (m_repr : mg "repr" = none) : Def Pr w K mg base 6 "_law_right" ["_law_one", "_law_two"] F__law_right := by
  have H : ∀ (cdv : Value) (A : Around) (outer : List Env) (s : Shared) (H : Hp) (E : XK), A.guards = some [] → Room 5 (A.deeper (envOfC "_law_right" (defScope st__law_right) s.heap.objs.size f cdv)) →
      DSs (cxOf CX0 Pr w K mg base N__law_right "_law_right" (defScope st__law_right) f cdv A outer s H E).nox [0, 1] (defBody st__law_right) B__law_right := by
    intro cdv A outer s H E hG hr
    have nd := sc__law_right.nd
    exact (dss_cons (ds_set (i := 2) nd rfl (by first | exact Or.inl rfl | exact Or.inr rfl) (by decide) (de_reprD (by exact hsm) (by exact hG) (by exact hr) (by exact m_repr) (by rfl) (da_cons (dp_of (de_tup (da_cons (dp_of (de_var (pv 0))) (da_cons (dp_of (de_var (pv 1))) da_nil)))) da_nil)))
      (dss_cons (ds_set (i := 3) nd rfl (by first | exact Or.inl rfl | exact Or.inr rfl) (by decide) (de_ifE (dt_lt (dp_of (de_add (dp_of (de_item (dp_var (pv 0)) (dp_of de_int) (fun _ _ => rfl))) (dp_of (de_item (dp_var (pv 1)) (dp_of de_int) (fun _ _ => rfl))))) (dp_of de_int)) (de_own (by exact D__law_behind) (by rfl) (by exact hG) (by exact hr) (by decide) (by rfl) (da_cons (dp_of (de_var (pv 0))) (da_cons (dp_of (de_var (pv 1))) da_nil))) (de_add (dp_of (de_item (dp_var (pv 0)) (dp_of de_int) (fun _ _ => rfl))) (dp_of (de_item (dp_var (pv 1)) (dp_of de_int) (fun _ _ => rfl))))))
      (dss_cons (ds_set (i := 4) nd rfl (by first | exact Or.inl rfl | exact Or.inr rfl) (by decide) (de_ifE (dt_lt (dp_of (de_mul (dp_of (de_item (dp_var (pv 0)) (dp_of de_int) (fun _ _ => rfl))) (dp_of (de_item (dp_var (pv 1)) (dp_of de_int) (fun _ _ => rfl))))) (dp_of de_int)) (de_own (by exact D__law_nest) (by rfl) (by exact hG) (by exact hr) (by decide) (by rfl) (da_cons (dp_of (de_var (pv 0))) (da_cons (dp_of (de_var (pv 1))) da_nil))) (de_mul (dp_of (de_item (dp_var (pv 0)) (dp_of de_int) (fun _ _ => rfl))) (dp_of (de_item (dp_var (pv 1)) (dp_of de_int) (fun _ _ => rfl))))))
      (dss_cons (ds_set (i := 5) nd rfl (by first | exact Or.inl rfl | exact Or.inr rfl) (by decide) (de_lst (da_cons (dp_of (de_own (by exact D__law_asked) (by rfl) (by exact hG) (by exact hr) (by decide) (by rfl) (da_cons (dp_of (de_fn (by exact V_beside) (by rfl))) (da_cons (dp_of (de_var (pv 0))) (da_cons (dp_of (de_var (pv 1))) da_nil))))) (da_cons (dp_of (de_own (by exact D__law_asked) (by rfl) (by exact hG) (by exact hr) (by decide) (by rfl) (da_cons (dp_of (de_fn (by exact V_within) (by rfl))) (da_cons (dp_of (de_var (pv 0))) (da_cons (dp_of (de_var (pv 1))) da_nil))))) da_nil))))
      (dss_one (ds_ret (de_and (de_eq (by exact hr) (dp_of (de_reprD (by exact hsm) (by exact hG) (by exact hr) (by exact m_repr) (by rfl) (da_cons (dp_var (pv 5)) da_nil))) (dp_of (de_reprD (by exact hsm) (by exact hG) (by exact hr) (by exact m_repr) (by rfl) (da_cons (dp_of (de_lst (da_cons (dp_of (de_var (pv 3))) (da_cons (dp_of (de_var (pv 4))) da_nil)))) da_nil)))) (de_one (de_eq (by exact hr) (dp_of (de_reprD (by exact hsm) (by exact hG) (by exact hr) (by exact m_repr) (by rfl) (da_cons (dp_of (de_tup (da_cons (dp_of (de_var (pv 0))) (da_cons (dp_of (de_var (pv 1))) da_nil)))) da_nil))) (dp_var (pv 2)))))))))))
  exact def_mk F gm b sc__law_right H
theorem sc__law_pot : FnScope N__law_pot ["_law_script", "_law_k"] (defScope st__law_pot) := ⟨rfl, rfl, rfl, by decide +kernel, rfl, by decide +kernel, by decide +kernel⟩
theorem ok__law_pot {f : Addr} {fd : FuncData} (F : Fun K "_law_pot" "_law_pot" st__law_pot f fd) (gm : mg "_law_pot" = some (.ref f)) (b : Binds K fd ["_law_script", "_law_k"] []) (hsm : ∃ o, base.get? sysModules = some o) (m_abs : mg "abs" = none) (m_int : mg "int" = none) (m_len : mg "len" = none) : Def Pr w K mg base 1 "_law_pot" ["_law_script", "_law_k"] F__law_pot := by
  have H : ∀ (cdv : Value) (A : Around) (outer : List Env) (s : Shared) (H : Hp) (E : XK), A.guards = some [] → Room 0 (A.deeper (envOfC "_law_pot" (defScope st__law_pot) s.heap.objs.size f cdv)) →
      DSs (cxOf CX0 Pr w K mg base N__law_pot "_law_pot" (defScope st__law_pot) f cdv A outer s H E).nox [0, 1] (defBody st__law_pot) B__law_pot := by
    intro cdv A outer s H E hG hr
    have nd := sc__law_pot.nd
    exact (dss_cons (ds_set (i := 2) nd rfl (by first | exact Or.inl rfl | exact Or.inr rfl) (by decide) (de_ifE (dt_lt (dp_var (pv 1)) (dp_of (de_len (by exact m_len) (by rfl) (da_cons (dp_var (pv 0)) da_nil)))) (de_item (dp_var (pv 0)) (dp_var (pv 1)) (fun _ _ => rfl)) de_int))
      (dss_cons (ds_set (i := 3) nd rfl (by first | exact Or.inl rfl | exact Or.inr rfl) (by decide) (de_mul (dp_of (de_mod (dp_of (de_abs (by exact m_abs) (by rfl) (da_cons (dp_var (pv 2)) da_nil))) (dp_of (de_pow (dp_of (de_pow (dp_of de_int) (dp_of de_int))) (dp_of de_int))))) (dp_of (de_int1 (by exact m_int) (by rfl) (da_cons (dp_of (de_ge (dp_of (de_abs (by exact m_abs) (by rfl) (da_cons (dp_var (pv 2)) da_nil))) (dp_of (de_pow (dp_of de_int) (dp_of de_int))))) da_nil)))))
      (dss_one (ds_ret (de_lst (da_cons (dp_of (de_var (pv 3))) (da_cons (dp_of (de_mod (dp_of (de_mul (dp_of (de_add (dp_of (de_add (dp_of (de_mod (dp_var (pv 2)) (dp_of de_int))) (dp_of (de_mul (dp_of (de_mul (dp_of de_int) (dp_var (pv 1)))) (dp_var (pv 1)))))) (dp_of de_int))) (dp_of de_int))) (dp_of de_int))) (da_cons (dp_of de_int) da_nil))))))))
  exact def_mk F gm b sc__law_pot H
theorem sc__law_take : FnScope N__law_take ["_law_pot_here", "_law_size"] (defScope st__law_take) := ⟨rfl, rfl, rfl, by decide +kernel, rfl, by decide +kernel, by decide +kernel⟩
theorem ok__law_take {f : Addr} {fd : FuncData} (F : Fun K "_law_take" "_law_take" st__law_take f fd) (gm : mg "_law_take" = some (.ref f)) (b : Binds K fd ["_law_pot_here", "_law_size"] []) (hsm : ∃ o, base.get? sysModules = some o) : Def Pr w K mg base 1 "_law_take" ["_law_pot_here", "_law_size"] F__law_take := by
  have H : ∀ (cdv : Value) (A : Around) (outer : List Env) (s : Shared) (H : Hp) (E : XK), A.guards = some [] → Room 0 (A.deeper (envOfC "_law_take" (defScope st__law_take) s.heap.objs.size f cdv)) →
      DSs (cxOf CX0 Pr w K mg base N__law_take "_law_take" (defScope st__law_take) f cdv A outer s H E).nox [0, 1] (defBody st__law_take) B__law_take := by
    intro cdv A outer s H E hG hr
    have nd := sc__law_take.nd
    exact (dss_cons (ds_if (dt_gt (dp_of (de_item (dp_var (pv 0)) (dp_of de_int) (fun _ _ => rfl))) (dp_of de_int)) (dss_cons (ds_set (i := 5) nd rfl (by first | exact Or.inl rfl | exact Or.inr rfl) (by decide) (de_mod (dp_of (de_item (dp_var (pv 0)) (dp_of de_int) (fun _ _ => rfl))) (dp_var (pv 1))))
      (dss_cons (ds_setI (dp_of (de_div (dp_of (de_item (dp_var (pv 0)) (dp_of de_int) (fun _ _ => rfl))) (dp_var (pv 1)))) (pv 0) (dp_of de_int))
      (dss_one (ds_ret (de_var (pv 5)))))) dss_nil)
      (dss_cons (ds_set (i := 2) nd rfl (by first | exact Or.inl rfl | exact Or.inr rfl) (by decide) (de_add (dp_of (de_item (dp_var (pv 0)) (dp_of de_int) (fun _ _ => rfl))) (dp_of de_int)))
      (dss_cons (ds_setI (dp_of (de_var (pv 2))) (pv 0) (dp_of de_int))
      (dss_cons (ds_set (i := 3) nd rfl (by first | exact Or.inl rfl | exact Or.inr rfl) (by decide) (de_item (dp_of (de_lst (da_cons (dp_of de_int) (da_cons (dp_of de_int) (da_cons (dp_of de_int) (da_cons (dp_of de_int) da_nil)))))) (dp_of (de_mod (dp_var (pv 2)) (dp_of de_int))) (fun _ _ => rfl)))
      (dss_cons (ds_set (i := 4) nd rfl (by first | exact Or.inl rfl | exact Or.inr rfl) (by decide) (de_mod (dp_of (de_pow (dp_of (de_add (dp_of (de_add (dp_of (de_item (dp_var (pv 0)) (dp_of de_int) (fun _ _ => rfl))) (dp_of (de_mul (dp_of (de_mul (dp_of de_int) (dp_var (pv 2)))) (dp_var (pv 2)))))) (dp_of (de_mul (dp_of de_int) (dp_var (pv 2)))))) (dp_of de_int))) (dp_var (pv 3))))
      (dss_one (ds_ret (de_mod (dp_of (de_div (dp_of (de_mod (dp_of (de_mul (dp_var (pv 4)) (dp_of (de_add (dp_of (de_mod (dp_var (pv 4)) (dp_of de_int))) (dp_of (de_mul (dp_of de_int) (dp_var (pv 2)))))))) (dp_of de_int))) (dp_of de_int))) (dp_var (pv 1))))))))))
  exact def_mk F gm b sc__law_take H
theorem sc__law_of : FnScope N__law_of ["_law_pot_here", "_law_some"] (defScope st__law_of) := ⟨rfl, rfl, rfl, by decide +kernel, rfl, by decide +kernel, by decide +kernel⟩
theorem ok__law_of {f : Addr} {fd : FuncData} (F : Fun K "_law_of" "_law_of" st__law_of f fd) (gm : mg "_law_of" = some (.ref f)) (b : Binds K fd ["_law_pot_here", "_law_some"] []) (hsm : ∃ o, base.get? sysModules = some o) (D__law_take : Def Pr w K mg base 1 "_law_take" ["_law_pot_here", "_law_size"] F__law_take) (m_len : mg "len" = none) : Def Pr w K mg base 2 "_law_of" ["_law_pot_here", "_law_some"] F__law_of := by
  have H : ∀ (cdv : Value) (A : Around) (outer : List Env) (s : Shared) (H : Hp) (E : XK), A.guards = some [] → Room 1 (A.deeper (envOfC "_law_of" (defScope st__law_of) s.heap.objs.size f cdv)) →
      DSs (cxOf CX0 Pr w K mg base N__law_of "_law_of" (defScope st__law_of) f cdv A outer s H E).nox [0, 1] (defBody st__law_of) B__law_of := by
    intro cdv A outer s H E hG hr
    have nd := sc__law_of.nd
    exact (dss_one (ds_ret (de_item (dp_var (pv 1)) (dp_of (de_own (by exact D__law_take) (by rfl) (by exact hG) (by exact hr) (by decide) (by rfl) (da_cons (dp_var (pv 0)) (da_cons (dp_of (de_len (by exact m_len) (by rfl) (da_cons (dp_var (pv 1)) da_nil))) da_nil)))) (fun _ _ => rfl))))
  exact def_mk F gm b sc__law_of H
theorem sc__law_drawn : FnScope N__law_drawn ["_law_pot_here", "_law_most"] (defScope st__law_drawn) := ⟨rfl, rfl, rfl, by decide +kernel, rfl, by decide +kernel, by decide +kernel⟩
theorem ok__law_drawn {f : Addr} {fd : FuncData} (F : Fun K "_law_drawn" "_law_drawn" st__law_drawn f fd) (gm : mg "_law_drawn" = some (.ref f)) (b : Binds K fd ["_law_pot_here", "_law_most"] []) (hsm : ∃ o, base.get? sysModules = some o) (D__law_take : Def Pr w K mg base 1 "_law_take" ["_law_pot_here", "_law_size"] F__law_take) (m_int : mg "int" = none) (m_range : mg "range" = none) (m_sorted : mg "sorted" = none) (m_tuple : mg "tuple" = none) : Def Pr w K mg base 2 "_law_drawn" ["_law_pot_here", "_law_most"] F__law_drawn := by
  have H : ∀ (cdv : Value) (A : Around) (outer : List Env) (s : Shared) (H : Hp) (E : XK), A.guards = some [] → Room 1 (A.deeper (envOfC "_law_drawn" (defScope st__law_drawn) s.heap.objs.size f cdv)) →
      DSs (cxOf CX0 Pr w K mg base N__law_drawn "_law_drawn" (defScope st__law_drawn) f cdv A outer s H E).nox [0, 1] (defBody st__law_drawn) B__law_drawn := by
    intro cdv A outer s H E hG hr
    have nd := sc__law_drawn.nd
    exact (dss_cons (ds_par3 rfl nd rfl rfl rfl (by decide) (by decide) (by decide) rfl rfl rfl (by decide) (df_cons (de_own (by exact D__law_take) (by rfl) (by exact hG) (by exact hr) (by decide) (by rfl) (da_cons (dp_var (pv 0)) (da_cons (dp_of (de_add (dp_var (pv 1)) (dp_of de_int))) da_nil))) (df_cons (de_add (dp_of de_int) (dp_of (de_own (by exact D__law_take) (by rfl) (by exact hG) (by exact hr) (by decide) (by rfl) (da_cons (dp_var (pv 0)) (da_cons (dp_of de_int) da_nil))))) (df_cons (de_lst da_nil) df_nil))) rfl)
      (dss_cons (ds_for PassesOwn.never rfl (by decide) (di_range1 (by rfl) (by exact m_range) (da_cons (dp_var (pv 3)) da_nil)) (dg_name (i := 2) nd rfl (by first | exact Or.inl rfl | exact Or.inr rfl)) (dss_one (ds_for PassesOwn.never rfl (by decide) (di_range1 (by rfl) (by exact m_range) (da_cons (dp_var (pv 2)) da_nil)) (dg_name (i := 6) nd rfl (by first | exact Or.inl rfl | exact Or.inr rfl)) (dss_cons (ds_set (i := 7) nd rfl (by first | exact Or.inl rfl | exact Or.inr rfl) (by decide) (de_own (by exact D__law_take) (by rfl) (by exact hG) (by exact hr) (by decide) (by rfl) (da_cons (dp_var (pv 0)) (da_cons (dp_of (de_var (pv 4))) da_nil))))
      (dss_one (ds_expr (de_extend (pv 5) (da_cons (dp_of (de_add (dp_of (de_mul (dp_of (de_lst (da_cons (dp_of (de_tup (da_cons (dp_of (de_var (pv 2))) (da_cons (dp_of (de_var (pv 6))) da_nil)))) da_nil))) (dp_of (de_int1 (by exact m_int) (by rfl) (da_cons (dp_of (de_eq (by exact hr) (dp_var (pv 7)) (dp_of de_int))) da_nil))))) (dp_of (de_mul (dp_of (de_lst (da_cons (dp_of (de_tup (da_cons (dp_of (de_var (pv 6))) (da_cons (dp_of (de_var (pv 2))) da_nil)))) da_nil))) (dp_of (de_int1 (by exact m_int) (by rfl) (da_cons (dp_of (de_eq (by exact hr) (dp_var (pv 7)) (dp_of de_int))) da_nil))))))) da_nil))))))))
      (dss_one (ds_ret (de_tup (da_cons (dp_of (de_var (pv 3))) (da_cons (dp_of (de_tuple (by exact m_tuple) (by rfl) (da_cons (dp_of (de_sorted (by exact m_sorted) (by rfl) (da_cons (dp_var (pv 5)) da_nil))) da_nil))) da_nil)))))))
  exact def_mk F gm b sc__law_drawn H
theorem sc__law_lot : FnScope N__law_lot ["_law_pot_here", "_law_most"] (defScope st__law_lot) := ⟨rfl, rfl, rfl, by decide +kernel, rfl, by decide +kernel, by decide +kernel⟩
theorem ok__law_lot {f : Addr} {fd : FuncData} (F : Fun K "_law_lot" "_law_lot" st__law_lot f fd) (gm : mg "_law_lot" = some (.ref f)) (b : Binds K fd ["_law_pot_here", "_law_most"] []) (hsm : ∃ o, base.get? sysModules = some o) (D__law_circle : Def Pr w K mg base 1 "_law_circle" ["_law_size", "_law_steps"] F__law_circle) (D__law_line : Def Pr w K mg base 1 "_law_line" ["_law_size"] F__law_line) (D__law_take : Def Pr w K mg base 1 "_law_take" ["_law_pot_here", "_law_size"] F__law_take) (D__law_of : Def Pr w K mg base 2 "_law_of" ["_law_pot_here", "_law_some"] F__law_of) (D__law_drawn : Def Pr w K mg base 2 "_law_drawn" ["_law_pot_here", "_law_most"] F__law_drawn) : Def Pr w K mg base 3 "_law_lot" ["_law_pot_here", "_law_most"] F__law_lot := by
  have H : ∀ (cdv : Value) (A : Around) (outer : List Env) (s : Shared) (H : Hp) (E : XK), A.guards = some [] → Room 2 (A.deeper (envOfC "_law_lot" (defScope st__law_lot) s.heap.objs.size f cdv)) →
      DSs (cxOf CX0 Pr w K mg base N__law_lot "_law_lot" (defScope st__law_lot) f cdv A outer s H E).nox [0, 1] (defBody st__law_lot) B__law_lot := by
    intro cdv A outer s H E hG hr
    have nd := sc__law_lot.nd
    exact (dss_cons (ds_set (i := 2) nd rfl (by first | exact Or.inl rfl | exact Or.inr rfl) (by decide) (de_lst (da_cons (dp_of (de_own (by exact D__law_circle) (by rfl) (by exact hG) (by exact hr) (by decide) (by rfl) (da_cons (dp_of de_int) (da_cons (dp_of (de_lst (da_cons (dp_of de_int) da_nil))) da_nil)))) (da_cons (dp_of (de_own (by exact D__law_circle) (by rfl) (by exact hG) (by exact hr) (by decide) (by rfl) (da_cons (dp_of de_int) (da_cons (dp_of (de_lst (da_cons (dp_of de_int) (da_cons (dp_of de_int) da_nil)))) da_nil)))) (da_cons (dp_of (de_own (by exact D__law_circle) (by rfl) (by exact hG) (by exact hr) (by decide) (by rfl) (da_cons (dp_of de_int) (da_cons (dp_of (de_lst (da_cons (dp_of de_int) (da_cons (dp_of de_int) (da_cons (dp_of de_int) da_nil))))) da_nil)))) da_nil)))))
      (dss_cons (ds_expr (de_append (pv 2) (da_cons (dp_of (de_own (by exact D__law_line) (by rfl) (by exact hG) (by exact hr) (by decide) (by rfl) (da_cons (dp_of (de_own (by exact D__law_take) (by rfl) (by exact hG) (by exact hr) (by decide) (by rfl) (da_cons (dp_var (pv 0)) (da_cons (dp_of (de_add (dp_var (pv 1)) (dp_of de_int))) da_nil)))) da_nil))) da_nil)))
      (dss_cons (ds_setLc (own := [("_law_lot_here", 3)]) rfl nd rfl rfl (by decide) (sw_true rfl rfl rfl (by decide +kernel)) (di_seq (de_var (pv 2))) (blkOk_by (own := [("_law_lot_here", 3)]) (N := N__law_lot) (sc := defScope st__law_lot) (by decide +kernel)) (by decide) (fun _ _ _ _ _ => (dg_name (i := 3) nd rfl (by first | exact Or.inl rfl | exact Or.inr rfl))) (fun _ _ _ _ _ => (dts_one (dt_le (dp_of (de_item (dp_var (pv 3)) (dp_of de_int) (fun _ _ => rfl))) (dp_var (pv 1))))) (fun _ _ _ _ _ => (de_var (pv 3))))
      (dss_one (ds_ret (de_own (by exact D__law_of) (by rfl) (by exact hG) (by exact hr) (by decide) (by rfl) (da_cons (dp_var (pv 0)) (da_cons (dp_of (de_add (dp_of (de_mul (dp_of (de_lst (da_cons (dp_of (de_own (by exact D__law_drawn) (by rfl) (by exact hG) (by exact hr) (by decide) (by rfl) (da_cons (dp_var (pv 0)) (da_cons (dp_of (de_var (pv 1))) da_nil)))) da_nil))) (dp_of de_int))) (dp_var (pv 2)))) da_nil))))))))
  exact def_mk F gm b sc__law_lot H
theorem sc_law : FnScope N_law ["_law_script"] (defScope st_law) := ⟨rfl, rfl, rfl, by decide +kernel, rfl, by decide +kernel, by decide +kernel⟩
theorem ok_law {f : Addr} {fd : FuncData} (F : Fun K "law" "law" st_law f fd) (hsm : ∃ o, base.get? sysModules = some o) (D__law_circle : Def Pr w K mg base 1 "_law_circle" ["_law_size", "_law_steps"] F__law_circle) (D__law_line : Def Pr w K mg base 1 "_law_line" ["_law_size"] F__law_line) (D__law_right : Def Pr w K mg base 6 "_law_right" ["_law_one", "_law_two"] F__law_right) (D__law_pot : Def Pr w K mg base 1 "_law_pot" ["_law_script", "_law_k"] F__law_pot) (D__law_lot : Def Pr w K mg base 3 "_law_lot" ["_law_pot_here", "_law_most"] F__law_lot) (D__law_of : Def Pr w K mg base 2 "_law_of" ["_law_pot_here", "_law_some"] F__law_of) (m_all : mg "all" = none) (m_len : mg "len" = none) (m_max : mg "max" = none) (m_min : mg "min" = none) (m_range : mg "range" = none) : FnG Pr w K mg base 7 f fd ["_law_script"] (spF K 1 F_law) := by
  have H : ∀ (cdv : Value) (A : Around) (outer : List Env) (s : Shared) (H : Hp) (E : XK), A.guards = some [] → Room 6 (A.deeper (envOfC "law" (defScope st_law) s.heap.objs.size f cdv)) →
      DSs (cxOf CX0 Pr w K mg base N_law "law" (defScope st_law) f cdv A outer s H E).nox [0] (defBody st_law) B_law := by
    intro cdv A outer s H E hG hr
    have nd := sc_law.nd
    exact (dss_cons (ds_par3 rfl nd rfl rfl rfl (by decide) (by decide) (by decide) rfl rfl rfl (by decide) (df_cons (de_own (by exact D__law_circle) (by rfl) (by exact hG) (by exact hr) (by decide) (by rfl) (da_cons (dp_of de_int) (da_cons (dp_of (de_lst (da_cons (dp_of de_int) da_nil))) da_nil))) (df_cons (de_tup (da_cons (dp_of de_int) (da_cons (dp_of (de_tup da_nil)) da_nil))) (df_cons (de_tup (da_cons (dp_of de_int) (da_cons (dp_of (de_tup da_nil)) da_nil))) df_nil))) rfl)
      (dss_cons (ds_set (i := 1) nd rfl (by first | exact Or.inl rfl | exact Or.inr rfl) (by decide) (de_lst (da_cons (dp_of (de_tup (da_cons (dp_of (de_var (pv 5))) (da_cons (dp_of (de_var (pv 5))) da_nil)))) (da_cons (dp_of (de_tup (da_cons (dp_of (de_var (pv 5))) (da_cons (dp_of (de_var (pv 3))) da_nil)))) (da_cons (dp_of (de_tup (da_cons (dp_of (de_var (pv 3))) (da_cons (dp_of (de_var (pv 5))) da_nil)))) (da_cons (dp_of (de_tup (da_cons (dp_of (de_var (pv 4))) (da_cons (dp_of (de_var (pv 3))) da_nil)))) (da_cons (dp_of (de_tup (da_cons (dp_of (de_var (pv 3))) (da_cons (dp_of (de_var (pv 4))) da_nil)))) (da_cons (dp_of (de_tup (da_cons (dp_of (de_own (by exact D__law_line) (by rfl) (by exact hG) (by exact hr) (by decide) (by rfl) (da_cons (dp_of de_int) da_nil))) (da_cons (dp_of (de_var (pv 5))) da_nil)))) da_nil))))))))
      (dss_cons (ds_set (i := 1) nd rfl (by first | exact Or.inl rfl | exact Or.inr rfl) (by decide) (de_add (dp_var (pv 1)) (dp_of (de_lst (da_cons (dp_of (de_tup (da_cons (dp_of (de_own (by exact D__law_line) (by rfl) (by exact hG) (by exact hr) (by decide) (by rfl) (da_cons (dp_of de_int) da_nil))) (da_cons (dp_of (de_var (pv 4))) da_nil)))) (da_cons (dp_of (de_tup (da_cons (dp_of (de_var (pv 4))) (da_cons (dp_of (de_own (by exact D__law_line) (by rfl) (by exact hG) (by exact hr) (by decide) (by rfl) (da_cons (dp_of de_int) da_nil))) da_nil)))) (da_cons (dp_of (de_tup (da_cons (dp_of (de_own (by exact D__law_line) (by rfl) (by exact hG) (by exact hr) (by decide) (by rfl) (da_cons (dp_of de_int) da_nil))) (da_cons (dp_of (de_own (by exact D__law_line) (by rfl) (by exact hG) (by exact hr) (by decide) (by rfl) (da_cons (dp_of de_int) da_nil))) da_nil)))) (da_cons (dp_of (de_tup (da_cons (dp_of (de_own (by exact D__law_line) (by rfl) (by exact hG) (by exact hr) (by decide) (by rfl) (da_cons (dp_of de_int) da_nil))) (da_cons (dp_of (de_tup (da_cons (dp_of de_int) (da_cons (dp_of (de_tup da_nil)) da_nil)))) da_nil)))) da_nil))))))))
      (dss_cons (ds_set (i := 1) nd rfl (by first | exact Or.inl rfl | exact Or.inr rfl) (by decide) (de_add (dp_var (pv 1)) (dp_of (de_lst (da_cons (dp_of (de_tup (da_cons (dp_of (de_own (by exact D__law_line) (by rfl) (by exact hG) (by exact hr) (by decide) (by rfl) (da_cons (dp_of de_int) da_nil))) (da_cons (dp_of (de_own (by exact D__law_line) (by rfl) (by exact hG) (by exact hr) (by decide) (by rfl) (da_cons (dp_of de_int) da_nil))) da_nil)))) (da_cons (dp_of (de_tup (da_cons (dp_of (de_tup (da_cons (dp_of de_int) (da_cons (dp_of (de_tup da_nil)) da_nil)))) (da_cons (dp_of (de_tup (da_cons (dp_of de_int) (da_cons (dp_of (de_tup da_nil)) da_nil)))) da_nil)))) (da_cons (dp_of (de_tup (da_cons (dp_of (de_own (by exact D__law_line) (by rfl) (by exact hG) (by exact hr) (by decide) (by rfl) (da_cons (dp_of de_int) da_nil))) (da_cons (dp_of (de_tup (da_cons (dp_of de_int) (da_cons (dp_of (de_tup da_nil)) da_nil)))) da_nil)))) (da_cons (dp_of (de_tup (da_cons (dp_of (de_var (pv 3))) (da_cons (dp_of (de_tup (da_cons (dp_of de_int) (da_cons (dp_of (de_tup da_nil)) da_nil)))) da_nil)))) da_nil))))))))
      (dss_cons (ds_if (dt_not (dt_val (de_all rfl (by exact m_all) (by rfl) (da_cons (dp_of (de_lc (own := [("_law_one", 8), ("_law_two", 9)]) rfl nd (di_seq (de_var (pv 1))) (blkOk_by (own := [("_law_one", 8), ("_law_two", 9)]) (N := N_law) (sc := defScope st_law) (by decide +kernel)) (by decide) (fun _ _ _ _ _ => (dg_tup rfl (dgs_cons (dg_name (i := 8) nd rfl (by first | exact Or.inl rfl | exact Or.inr rfl)) (dgs_cons (dg_name (i := 9) nd rfl (by first | exact Or.inl rfl | exact Or.inr rfl)) dgs_nil)))) (fun _ _ _ _ _ => dts_nil) (fun _ _ _ _ _ => (de_own (by exact D__law_right) (by rfl) (by exact hG) (by exact hr) (by decide) (by rfl) (da_cons (dp_of (de_var (pv 8))) (da_cons (dp_of (de_var (pv 9))) da_nil)))))) da_nil)))) (dss_one (ds_ret de_bl)) dss_nil)
      (dss_cons (ds_for PassesOwn.never rfl (by decide) (di_range1 (by rfl) (by exact m_range) (da_cons (dp_of (de_max rfl (by exact m_max) (by rfl) (da_cons (dp_of de_int) (da_cons (dp_of (de_min rfl (by exact m_min) (by rfl) (da_cons (dp_of de_int) (da_cons (dp_of (de_len (by exact m_len) (by rfl) (da_cons (dp_var (pv 0)) da_nil))) da_nil)))) da_nil)))) da_nil)) (dg_name (i := 2) nd rfl (by first | exact Or.inl rfl | exact Or.inr rfl)) (dss_cons (ds_set (i := 6) nd rfl (by first | exact Or.inl rfl | exact Or.inr rfl) (by decide) (de_own (by exact D__law_pot) (by rfl) (by exact hG) (by exact hr) (by decide) (by rfl) (da_cons (dp_of (de_var (pv 0))) (da_cons (dp_of (de_var (pv 2))) da_nil))))
      (dss_one (ds_for PassesOwn.never rfl (by decide) (di_range1 (by rfl) (by exact m_range) (da_cons (dp_of de_int) da_nil)) (dg_name (i := 7) nd rfl (by first | exact Or.inl rfl | exact Or.inr rfl)) (dss_cons (ds_unp (by decide) (dp_of (de_lc (own := [("_law_side", 10)]) rfl nd (di_range1 (by rfl) (by exact m_range) (da_cons (dp_of de_int) da_nil)) (blkOk_by (own := [("_law_side", 10)]) (N := N_law) (sc := defScope st_law) (by decide +kernel)) (by decide) (fun _ _ _ _ _ => (dg_name (i := 10) nd rfl (by first | exact Or.inl rfl | exact Or.inr rfl))) (fun _ _ _ _ _ => dts_nil) (fun _ _ _ _ _ => (de_own (by exact D__law_lot) (by rfl) (by exact hG) (by exact hr) (by decide) (by rfl) (da_cons (dp_var (pv 6)) (da_cons (dp_of (de_own (by exact D__law_of) (by rfl) (by exact hG) (by exact hr) (by decide) (by rfl) (da_cons (dp_var (pv 6)) (da_cons (dp_of (de_lst (da_cons (dp_of de_int) (da_cons (dp_of de_int) (da_cons (dp_of de_int) (da_cons (dp_of de_int) (da_cons (dp_of de_int) (da_cons (dp_of de_int) da_nil)))))))) da_nil)))) da_nil)))))) (dg_lst rfl (dgs_cons (dg_name (i := 8) nd rfl (by first | exact Or.inl rfl | exact Or.inr rfl)) (dgs_cons (dg_name (i := 9) nd rfl (by first | exact Or.inl rfl | exact Or.inr rfl)) dgs_nil))))
      (dss_one (ds_if (dt_not (dt_val (de_own (by exact D__law_right) (by rfl) (by exact hG) (by exact hr) (by decide) (by rfl) (da_cons (dp_of (de_var (pv 8))) (da_cons (dp_of (de_var (pv 9))) da_nil))))) (dss_one (ds_ret de_bl)) dss_nil)))))))
      (dss_one (ds_ret de_bl))))))))
  exact fn_ok F sc_law H
omit [TB] in
theorem all_mk {cs : List (Addr × Addr × Str)} {h : Heap} {fa : Addr} (X : K.In h) (G : h.Ns mainGlobals mg) (hfa : mg "law" = some (.ref fa))
    {f0 : Addr} {od0 an0 : Option Addr} {sl0 : Array (Option Value)} {oc0 kV0 dc0 pm0 cd0 ct0 : Value}
    (a0 : PySem.W.nsIn K mainGlobals "_law_circle" = some (some (.ref f0)))
    (l0 : K.lookup f0 = some ⟨oc0, od0, .func (PySem.W.fnOf "_law_circle" "_law_circle" (defArgs st__law_circle) (defBody st__law_circle) (defScope st__law_circle) .none kV0 dc0 pm0 an0 cd0 ct0), sl0⟩)
    (c0 : PySem.W.codeIn K cd0 "_law_circle" = true) (k0 : PySem.W.keepIn K (.ref f0) = true)
    {f1 : Addr} {od1 an1 : Option Addr} {sl1 : Array (Option Value)} {oc1 kV1 dc1 pm1 cd1 ct1 : Value}
    (a1 : PySem.W.nsIn K mainGlobals "_law_line" = some (some (.ref f1)))
    (l1 : K.lookup f1 = some ⟨oc1, od1, .func (PySem.W.fnOf "_law_line" "_law_line" (defArgs st__law_line) (defBody st__law_line) (defScope st__law_line) .none kV1 dc1 pm1 an1 cd1 ct1), sl1⟩)
    (c1 : PySem.W.codeIn K cd1 "_law_line" = true) (k1 : PySem.W.keepIn K (.ref f1) = true)
    {f2 : Addr} {od2 an2 : Option Addr} {sl2 : Array (Option Value)} {oc2 kV2 dc2 pm2 cd2 ct2 : Value}
    (a2 : PySem.W.nsIn K mainGlobals "_law_behind" = some (some (.ref f2)))
    (l2 : K.lookup f2 = some ⟨oc2, od2, .func (PySem.W.fnOf "_law_behind" "_law_behind" (defArgs st__law_behind) (defBody st__law_behind) (defScope st__law_behind) .none kV2 dc2 pm2 an2 cd2 ct2), sl2⟩)
    (c2 : PySem.W.codeIn K cd2 "_law_behind" = true) (k2 : PySem.W.keepIn K (.ref f2) = true)
    {f3 : Addr} {od3 an3 : Option Addr} {sl3 : Array (Option Value)} {oc3 kV3 dc3 pm3 cd3 ct3 : Value}
    (a3 : PySem.W.nsIn K mainGlobals "_law_nest" = some (some (.ref f3)))
    (l3 : K.lookup f3 = some ⟨oc3, od3, .func (PySem.W.fnOf "_law_nest" "_law_nest" (defArgs st__law_nest) (defBody st__law_nest) (defScope st__law_nest) .none kV3 dc3 pm3 an3 cd3 ct3), sl3⟩)
    (c3 : PySem.W.codeIn K cd3 "_law_nest" = true) (k3 : PySem.W.keepIn K (.ref f3) = true)
    {f4 : Addr} {od4 an4 : Option Addr} {sl4 : Array (Option Value)} {oc4 kV4 dc4 pm4 cd4 ct4 : Value}
    (a4 : PySem.W.nsIn K mainGlobals "beside" = some (some (.ref f4)))
    (l4 : K.lookup f4 = some ⟨oc4, od4, .func (PySem.W.fnOf "beside" "beside" (defArgs st_beside) (defBody st_beside) (defScope st_beside) .none kV4 dc4 pm4 an4 cd4 ct4), sl4⟩)
    (c4 : PySem.W.codeIn K cd4 "beside" = true) (k4 : PySem.W.keepIn K (.ref f4) = true)
    {f5 : Addr} {od5 an5 : Option Addr} {sl5 : Array (Option Value)} {oc5 kV5 dc5 pm5 cd5 ct5 : Value}
    (a5 : PySem.W.nsIn K mainGlobals "later_table" = some (some (.ref f5)))
    (l5 : K.lookup f5 = some ⟨oc5, od5, .func (PySem.W.fnOf "later_table" "later_table" (defArgs st_later_table) (defBody st_later_table) (defScope st_later_table) .none kV5 dc5 pm5 an5 cd5 ct5), sl5⟩)
    (c5 : PySem.W.codeIn K cd5 "later_table" = true) (k5 : PySem.W.keepIn K (.ref f5) = true)
    {f6 : Addr} {od6 an6 : Option Addr} {sl6 : Array (Option Value)} {oc6 kV6 dc6 pm6 cd6 ct6 : Value}
    (a6 : PySem.W.nsIn K mainGlobals "lot_by" = some (some (.ref f6)))
    (l6 : K.lookup f6 = some ⟨oc6, od6, .func (PySem.W.fnOf "lot_by" "lot_by" (defArgs st_lot_by) (defBody st_lot_by) (defScope st_lot_by) .none kV6 dc6 pm6 an6 cd6 ct6), sl6⟩)
    (c6 : PySem.W.codeIn K cd6 "lot_by" = true) (k6 : PySem.W.keepIn K (.ref f6) = true)
    {f7 : Addr} {od7 an7 : Option Addr} {sl7 : Array (Option Value)} {oc7 kV7 dc7 pm7 cd7 ct7 : Value}
    (a7 : PySem.W.nsIn K mainGlobals "within" = some (some (.ref f7)))
    (l7 : K.lookup f7 = some ⟨oc7, od7, .func (PySem.W.fnOf "within" "within" (defArgs st_within) (defBody st_within) (defScope st_within) .none kV7 dc7 pm7 an7 cd7 ct7), sl7⟩)
    (c7 : PySem.W.codeIn K cd7 "within" = true) (k7 : PySem.W.keepIn K (.ref f7) = true)
    (t7 : (PySem.W.tabIn K "within").isSome = true) (y7 : (tabC K "within", tabP K "within", ((("within" : Str) ++ (".<locals>." : Str)) ++ ("later" : Str))) ∈ cs) (u7 : ∀ p ∈ cs, p.2.1 = tabP K "within" → p.2.2 = ((("within" : Str) ++ (".<locals>." : Str)) ++ ("later" : Str)))
    {f8 : Addr} {od8 an8 : Option Addr} {sl8 : Array (Option Value)} {oc8 kV8 dc8 pm8 cd8 ct8 : Value}
    (a8 : PySem.W.nsIn K mainGlobals "_law_asked" = some (some (.ref f8)))
    (l8 : K.lookup f8 = some ⟨oc8, od8, .func (PySem.W.fnOf "_law_asked" "_law_asked" (defArgs st__law_asked) (defBody st__law_asked) (defScope st__law_asked) .none kV8 dc8 pm8 an8 cd8 ct8), sl8⟩)
    (c8 : PySem.W.codeIn K cd8 "_law_asked" = true) (k8 : PySem.W.keepIn K (.ref f8) = true)
    {f9 : Addr} {od9 an9 : Option Addr} {sl9 : Array (Option Value)} {oc9 kV9 dc9 pm9 cd9 ct9 : Value}
    (a9 : PySem.W.nsIn K mainGlobals "_law_right" = some (some (.ref f9)))
    (l9 : K.lookup f9 = some ⟨oc9, od9, .func (PySem.W.fnOf "_law_right" "_law_right" (defArgs st__law_right) (defBody st__law_right) (defScope st__law_right) .none kV9 dc9 pm9 an9 cd9 ct9), sl9⟩)
    (c9 : PySem.W.codeIn K cd9 "_law_right" = true) (k9 : PySem.W.keepIn K (.ref f9) = true)
    {f10 : Addr} {od10 an10 : Option Addr} {sl10 : Array (Option Value)} {oc10 kV10 dc10 pm10 cd10 ct10 : Value}
    (a10 : PySem.W.nsIn K mainGlobals "_law_pot" = some (some (.ref f10)))
    (l10 : K.lookup f10 = some ⟨oc10, od10, .func (PySem.W.fnOf "_law_pot" "_law_pot" (defArgs st__law_pot) (defBody st__law_pot) (defScope st__law_pot) .none kV10 dc10 pm10 an10 cd10 ct10), sl10⟩)
    (c10 : PySem.W.codeIn K cd10 "_law_pot" = true) (k10 : PySem.W.keepIn K (.ref f10) = true)
    {f11 : Addr} {od11 an11 : Option Addr} {sl11 : Array (Option Value)} {oc11 kV11 dc11 pm11 cd11 ct11 : Value}
    (a11 : PySem.W.nsIn K mainGlobals "_law_take" = some (some (.ref f11)))
    (l11 : K.lookup f11 = some ⟨oc11, od11, .func (PySem.W.fnOf "_law_take" "_law_take" (defArgs st__law_take) (defBody st__law_take) (defScope st__law_take) .none kV11 dc11 pm11 an11 cd11 ct11), sl11⟩)
    (c11 : PySem.W.codeIn K cd11 "_law_take" = true) (k11 : PySem.W.keepIn K (.ref f11) = true)
    {f12 : Addr} {od12 an12 : Option Addr} {sl12 : Array (Option Value)} {oc12 kV12 dc12 pm12 cd12 ct12 : Value}
    (a12 : PySem.W.nsIn K mainGlobals "_law_of" = some (some (.ref f12)))
    (l12 : K.lookup f12 = some ⟨oc12, od12, .func (PySem.W.fnOf "_law_of" "_law_of" (defArgs st__law_of) (defBody st__law_of) (defScope st__law_of) .none kV12 dc12 pm12 an12 cd12 ct12), sl12⟩)
    (c12 : PySem.W.codeIn K cd12 "_law_of" = true) (k12 : PySem.W.keepIn K (.ref f12) = true)
    {f13 : Addr} {od13 an13 : Option Addr} {sl13 : Array (Option Value)} {oc13 kV13 dc13 pm13 cd13 ct13 : Value}
    (a13 : PySem.W.nsIn K mainGlobals "_law_drawn" = some (some (.ref f13)))
    (l13 : K.lookup f13 = some ⟨oc13, od13, .func (PySem.W.fnOf "_law_drawn" "_law_drawn" (defArgs st__law_drawn) (defBody st__law_drawn) (defScope st__law_drawn) .none kV13 dc13 pm13 an13 cd13 ct13), sl13⟩)
    (c13 : PySem.W.codeIn K cd13 "_law_drawn" = true) (k13 : PySem.W.keepIn K (.ref f13) = true)
    {f14 : Addr} {od14 an14 : Option Addr} {sl14 : Array (Option Value)} {oc14 kV14 dc14 pm14 cd14 ct14 : Value}
    (a14 : PySem.W.nsIn K mainGlobals "_law_lot" = some (some (.ref f14)))
    (l14 : K.lookup f14 = some ⟨oc14, od14, .func (PySem.W.fnOf "_law_lot" "_law_lot" (defArgs st__law_lot) (defBody st__law_lot) (defScope st__law_lot) .none kV14 dc14 pm14 an14 cd14 ct14), sl14⟩)
    (c14 : PySem.W.codeIn K cd14 "_law_lot" = true) (k14 : PySem.W.keepIn K (.ref f14) = true)
    {f15 : Addr} {od15 an15 : Option Addr} {sl15 : Array (Option Value)} {oc15 kV15 dc15 pm15 cd15 ct15 : Value}
    (a15 : PySem.W.nsIn K mainGlobals "law" = some (some (.ref f15)))
    (l15 : K.lookup f15 = some ⟨oc15, od15, .func (PySem.W.fnOf "law" "law" (defArgs st_law) (defBody st_law) (defScope st_law) .none kV15 dc15 pm15 an15 cd15 ct15), sl15⟩)
    (c15 : PySem.W.codeIn K cd15 "law" = true) (k15 : PySem.W.keepIn K (.ref f15) = true)
    (z_range : PySem.W.nsIn K mainGlobals "range" = some none)
    (z_tuple : PySem.W.nsIn K mainGlobals "tuple" = some none)
    (z_list : PySem.W.nsIn K mainGlobals "list" = some none)
    (z_sorted : PySem.W.nsIn K mainGlobals "sorted" = some none)
    (z_divmod : PySem.W.nsIn K mainGlobals "divmod" = some none)
    (z_ValueError : PySem.W.nsIn K mainGlobals "ValueError" = some none)
    (z_isinstance : PySem.W.nsIn K mainGlobals "isinstance" = some none)
    (z_repr : PySem.W.nsIn K mainGlobals "repr" = some none)
    (z_abs : PySem.W.nsIn K mainGlobals "abs" = some none)
    (z_int : PySem.W.nsIn K mainGlobals "int" = some none)
    (z_len : PySem.W.nsIn K mainGlobals "len" = some none)
    (z_all : PySem.W.nsIn K mainGlobals "all" = some none)
    (z_max : PySem.W.nsIn K mainGlobals "max" = some none)
    (z_min : PySem.W.nsIn K mainGlobals "min" = some none)
    {ck_MarkError : Addr} (zk_MarkError : PySem.W.nsIn K mainGlobals "MarkError" = some (some (.ref ck_MarkError))) (qk_MarkError : PySem.W.excIn K ck_MarkError veT "ValueError.__new__" = true) (kk_MarkError : PySem.W.keepIn K (.ref ck_MarkError) = true) (sk_MarkError : PySem.W.subIn K (.ref ck_MarkError) (.type "BaseException") = some true) (tk_MarkError : PySem.W.typeIn K (.ref ck_MarkError) = some (.type "type"))
    {ck_TooMany fi_TooMany N_TooMany : Addr} {nm_TooMany qq_TooMany : Str} {bs_TooMany bm_TooMany sub_TooMany : List Value} {sn_TooMany : List Str} {ab_TooMany : Bool} {col_TooMany : Option Bool} {dd_TooMany odi_TooMany ani_TooMany : Option Addr} {q0_TooMany q1_TooMany q2_TooMany q3_TooMany q5_TooMany : Option Value} {sli_TooMany : Array (Option Value)} {oci_TooMany kVi_TooMany dci_TooMany pmi_TooMany cdi_TooMany cti_TooMany : Value}
    (zk_TooMany : PySem.W.nsIn K mainGlobals "TooMany" = some (some (.ref ck_TooMany))) (xl_TooMany : K.lookup ck_TooMany = some (excClassObj nm_TooMany qq_TooMany ck_TooMany N_TooMany bs_TooMany bm_TooMany true sn_TooMany sub_TooMany ab_TooMany col_TooMany dd_TooMany q0_TooMany q1_TooMany q2_TooMany q3_TooMany q5_TooMany "ValueError.__new__")) (rv_TooMany : PySem.HandSPX.refsVE bm_TooMany = true)
    (sa_TooMany : PySem.W.findIn K (.ref ck_TooMany) "__setattr__" = some (some (.builtin "object.__setattr__"))) (no_TooMany : PySem.W.findIn K (.ref ck_TooMany) "many" = some none) (ii_TooMany : PySem.W.findIn K (.ref ck_TooMany) "__init__" = some (some (.ref fi_TooMany))) (ti_TooMany : PySem.W.typeIn K (.ref fi_TooMany) = some (.type "function"))
    (li_TooMany : K.lookup fi_TooMany = some ⟨oci_TooMany, odi_TooMany, .func (PySem.W.fnOf "__init__" "TooMany.__init__" (defArgs sti_TooMany) (defBody sti_TooMany) (defScope sti_TooMany) .none kVi_TooMany dci_TooMany pmi_TooMany ani_TooMany cdi_TooMany cti_TooMany), sli_TooMany⟩) (ci_TooMany : PySem.W.codeIn K cdi_TooMany "TooMany.__init__" = true) (ki_TooMany : PySem.W.keepIn K (.ref fi_TooMany) = true)
    (kk_TooMany : PySem.W.keepIn K (.ref ck_TooMany) = true) (sk_TooMany : PySem.W.subIn K (.ref ck_TooMany) (.type "BaseException") = some true) (tk_TooMany : PySem.W.typeIn K (.ref ck_TooMany) = some (.type "type"))
    (br_MarkError : PySem.W.readsIn K ck_MarkError (.type "type") = true) (bg_MarkError : PySem.W.specialIn K (.ref ck_MarkError) "__getattribute__" = some (some (.builtin "type.__getattribute__"))) (bi_MarkError : PySem.W.findCls K (.ref ck_MarkError) (.type "type") "__init__" = some (.val (.builtin "ValueError.__init__")))
    {ck_Fails : Addr} (zk_Fails : PySem.W.nsIn K mainGlobals "Fails" = some (some (.ref ck_Fails)))
    {ck_NotHeld : Addr} (zk_NotHeld : PySem.W.nsIn K mainGlobals "NotHeld" = some (some (.ref ck_NotHeld)))
    {ck_NotKept : Addr} (zk_NotKept : PySem.W.nsIn K mainGlobals "NotKept" = some (some (.ref ck_NotKept)))
    {ck_Serves : Addr} (zk_Serves : PySem.W.nsIn K mainGlobals "Serves" = some (some (.ref ck_Serves)))
    (xc_TooMany : ExcC K ck_TooMany)
    (xf0_TooMany : XfC K ck_TooMany) (xg0_TooMany : PySem.W.findIn K (.ref ck_TooMany) "many" = some none)
    (oj0_TooMany : PySem.W.kitAny K (.ref ck_TooMany) (List.map Value.ref [ck_Fails, ck_NotHeld, ck_NotKept, ck_Serves]) = some false)
    (oj1_TooMany : PySem.W.kitOne K (.ref ck_TooMany) (.ref ck_TooMany) = some true)
    (oj2_TooMany : PySem.W.kitOne K (.ref ck_TooMany) (.type "ValueError") = some true)
    (em_TooMany_MarkError : PySem.W.exmOne K (.ref ck_TooMany) (.ref ck_MarkError) = some true)
    {vc_MOST_MARKS : Value} (zc_MOST_MARKS : PySem.W.nsIn K mainGlobals "MOST_MARKS" = some (some vc_MOST_MARKS)) (rc_MOST_MARKS : RelV (.int 24) vc_MOST_MARKS)
    : ∃ fd : FuncData, (∀ (s : Shared) (u : Value), BindsTo s fd ⟨[u], []⟩ [("_law_script", u)]) ∧ ∀ base : Heap, K.In base → base.Ns mainGlobals mg → (∃ o, base.get? sysModules = some o) → (∀ p ∈ cs, LamX.TabB base mg p.1 p.2.1) → FnG Pr w K mg base 7 fa fd ["_law_script"] (@spF (tbOf cs) K 1 F_law) := by
  letI : TB := tbOf cs
  have m_range := PySem.W.mg_none_of X G z_range
  have m_tuple := PySem.W.mg_none_of X G z_tuple
  have m_list := PySem.W.mg_none_of X G z_list
  have m_sorted := PySem.W.mg_none_of X G z_sorted
  have m_divmod := PySem.W.mg_none_of X G z_divmod
  have m_ValueError := PySem.W.mg_none_of X G z_ValueError
  have m_isinstance := PySem.W.mg_none_of X G z_isinstance
  have m_repr := PySem.W.mg_none_of X G z_repr
  have m_abs := PySem.W.mg_none_of X G z_abs
  have m_int := PySem.W.mg_none_of X G z_int
  have m_len := PySem.W.mg_none_of X G z_len
  have m_all := PySem.W.mg_none_of X G z_all
  have m_max := PySem.W.mg_none_of X G z_max
  have m_min := PySem.W.mg_none_of X G z_min
  have k_MarkError : ClsX K mg "MarkError" veT := ⟨ck_MarkError, PySem.W.mg_of X G zk_MarkError, qk_MarkError, kk_MarkError, sk_MarkError, tk_MarkError⟩
  have y_MarkError : ∃ C : Addr, mg "MarkError" = some (.ref C) ∧ PySem.W.nsIn K mainGlobals "MarkError" = some (some (.ref C)) := ⟨ck_MarkError, PySem.W.mg_of X G zk_MarkError, zk_MarkError⟩
  have y_TooMany : ∃ C : Addr, mg "TooMany" = some (.ref C) ∧ PySem.W.nsIn K mainGlobals "TooMany" = some (some (.ref C)) := ⟨ck_TooMany, PySem.W.mg_of X G zk_TooMany, zk_TooMany⟩
  have g_MarkError : mg "MarkError" = some (.ref ck_MarkError) := PySem.W.mg_of X G zk_MarkError
  have g_TooMany : mg "TooMany" = some (.ref ck_TooMany) := PySem.W.mg_of X G zk_TooMany
  have g_Fails : mg "Fails" = some (.ref ck_Fails) := PySem.W.mg_of X G zk_Fails
  have g_NotHeld : mg "NotHeld" = some (.ref ck_NotHeld) := PySem.W.mg_of X G zk_NotHeld
  have g_NotKept : mg "NotKept" = some (.ref ck_NotKept) := PySem.W.mg_of X G zk_NotKept
  have g_Serves : mg "Serves" = some (.ref ck_Serves) := PySem.W.mg_of X G zk_Serves
  have V_beside : ∃ C : Addr, mg "beside" = some (.ref C) ∧ PySem.W.nsIn K mainGlobals "beside" = some (some (.ref C)) := ⟨f4, PySem.W.mg_of X G a4, a4⟩
  have V_within : ∃ C : Addr, mg "within" = some (.ref C) ∧ PySem.W.nsIn K mainGlobals "within" = some (some (.ref C)) := ⟨f7, PySem.W.mg_of X G a7, a7⟩
  have o_0 : ∀ n ∈ (["TooMany"] : List Str), ∀ C : Addr, PySem.W.nsIn K mainGlobals n = some (some (.ref C)) → ExcC K C ∧ PySem.W.kitAny K (.ref C) (List.map Value.ref [ck_Fails, ck_NotHeld, ck_NotKept, ck_Serves]) = some (List.contains ([] : List Str) n) := fun n hn C hC => (List.mem_cons.mp hn).elim (fun e => by subst e; rw [zk_TooMany] at hC; cases hC; exact ⟨xc_TooMany, oj0_TooMany⟩) (fun hn => nomatch hn)
  have o_1 : ∀ n ∈ (["TooMany"] : List Str), ∀ C : Addr, PySem.W.nsIn K mainGlobals n = some (some (.ref C)) → ExcC K C ∧ PySem.W.kitOne K (.ref C) (.ref ck_TooMany) = some (List.contains (["TooMany"] : List Str) n) := fun n hn C hC => (List.mem_cons.mp hn).elim (fun e => by subst e; rw [zk_TooMany] at hC; cases hC; exact ⟨xc_TooMany, oj1_TooMany⟩) (fun hn => nomatch hn)
  have o_2 : ∀ n ∈ (["TooMany"] : List Str), ∀ C : Addr, PySem.W.nsIn K mainGlobals n = some (some (.ref C)) → ExcC K C ∧ PySem.W.kitOne K (.ref C) (.type "ValueError") = some (List.contains (["TooMany"] : List Str) n) := fun n hn C hC => (List.mem_cons.mp hn).elim (fun e => by subst e; rw [zk_TooMany] at hC; cases hC; exact ⟨xc_TooMany, oj2_TooMany⟩) (fun hn => nomatch hn)
  have w_many : ∀ n ∈ (["TooMany"] : List Str), ∀ C : Addr, PySem.W.nsIn K mainGlobals n = some (some (.ref C)) → XfC K C ∧ PySem.W.findIn K (.ref C) "many" = some none := fun n hn C hC => (List.mem_cons.mp hn).elim (fun e => by subst e; rw [zk_TooMany] at hC; cases hC; exact ⟨xf0_TooMany, xg0_TooMany⟩) (fun hn => nomatch hn)
  have x_TooMany_MarkError : ExmX K mg "TooMany" "MarkError" := ⟨_, _, PySem.W.mg_of X G zk_TooMany, PySem.W.mg_of X G zk_MarkError, em_TooMany_MarkError⟩
  have c_MOST_MARKS : Con mg "MOST_MARKS" (.int 24) := ⟨_, PySem.W.mg_of X G zc_MOST_MARKS, rc_MOST_MARKS⟩
  have g0 := PySem.W.mg_of X G a0
  have F0 := fun_mk (st := st__law_circle) l0 c0 k0
  have b0 := F0.binds (ps := ["_law_size", "_law_steps"]) fun _ _ _ _ _ _ us hl => match us, hl with | [_, _], _ => rfl
  have g1 := PySem.W.mg_of X G a1
  have F1 := fun_mk (st := st__law_line) l1 c1 k1
  have b1 := F1.binds (ps := ["_law_size"]) fun _ _ _ _ _ _ us hl => match us, hl with | [_], _ => rfl
  have g2 := PySem.W.mg_of X G a2
  have F2 := fun_mk (st := st__law_behind) l2 c2 k2
  have b2 := F2.binds (ps := ["_law_one", "_law_two"]) fun _ _ _ _ _ _ us hl => match us, hl with | [_, _], _ => rfl
  have g3 := PySem.W.mg_of X G a3
  have F3 := fun_mk (st := st__law_nest) l3 c3 k3
  have b3 := F3.binds (ps := ["_law_one", "_law_two"]) fun _ _ _ _ _ _ us hl => match us, hl with | [_, _], _ => rfl
  have g4 := PySem.W.mg_of X G a4
  have F4 := fun_mk (st := st_beside) l4 c4 k4
  have b4 := F4.binds (ps := ["lot", "other"]) fun _ _ _ _ _ _ us hl => match us, hl with | [_, _], _ => rfl
  have g5 := PySem.W.mg_of X G a5
  have F5 := fun_mk (st := st_later_table) l5 c5 k5
  have b5 := F5.binds (ps := ["lot"]) fun _ _ _ _ _ _ us hl => match us, hl with | [_], _ => rfl
  have g6 := PySem.W.mg_of X G a6
  have F6 := fun_mk (st := st_lot_by) l6 c6 k6
  have b6 := F6.binds (ps := ["many", "later"]) fun _ _ _ _ _ _ us hl => match us, hl with | [_, _], _ => rfl
  have g7 := PySem.W.mg_of X G a7
  have F7 := fun_mk (st := st_within) l7 c7 k7
  have b7 := F7.binds (ps := ["lot", "other"]) fun _ _ _ _ _ _ us hl => match us, hl with | [_, _], _ => rfl
  have g8 := PySem.W.mg_of X G a8
  have F8 := fun_mk (st := st__law_asked) l8 c8 k8
  have b8 := F8.binds (ps := ["_law_make", "_law_one", "_law_two"]) fun _ _ _ _ _ _ us hl => match us, hl with | [_, _, _], _ => rfl
  have g9 := PySem.W.mg_of X G a9
  have F9 := fun_mk (st := st__law_right) l9 c9 k9
  have b9 := F9.binds (ps := ["_law_one", "_law_two"]) fun _ _ _ _ _ _ us hl => match us, hl with | [_, _], _ => rfl
  have g10 := PySem.W.mg_of X G a10
  have F10 := fun_mk (st := st__law_pot) l10 c10 k10
  have b10 := F10.binds (ps := ["_law_script", "_law_k"]) fun _ _ _ _ _ _ us hl => match us, hl with | [_, _], _ => rfl
  have g11 := PySem.W.mg_of X G a11
  have F11 := fun_mk (st := st__law_take) l11 c11 k11
  have b11 := F11.binds (ps := ["_law_pot_here", "_law_size"]) fun _ _ _ _ _ _ us hl => match us, hl with | [_, _], _ => rfl
  have g12 := PySem.W.mg_of X G a12
  have F12 := fun_mk (st := st__law_of) l12 c12 k12
  have b12 := F12.binds (ps := ["_law_pot_here", "_law_some"]) fun _ _ _ _ _ _ us hl => match us, hl with | [_, _], _ => rfl
  have g13 := PySem.W.mg_of X G a13
  have F13 := fun_mk (st := st__law_drawn) l13 c13 k13
  have b13 := F13.binds (ps := ["_law_pot_here", "_law_most"]) fun _ _ _ _ _ _ us hl => match us, hl with | [_, _], _ => rfl
  have g14 := PySem.W.mg_of X G a14
  have F14 := fun_mk (st := st__law_lot) l14 c14 k14
  have b14 := F14.binds (ps := ["_law_pot_here", "_law_most"]) fun _ _ _ _ _ _ us hl => match us, hl with | [_, _], _ => rfl
  have g15 := PySem.W.mg_of X G a15
  have F15 := fun_mk (st := st_law) l15 c15 k15
  have b15 := F15.binds (ps := ["_law_script"]) fun _ _ _ _ _ _ us hl => match us, hl with | [_], _ => rfl
  cases hfa.symm.trans g15
  refine ⟨PySem.W.fnOf "law" "law" (defArgs st_law) (defBody st_law) (defScope st_law) .none kV15 dc15 pm15 an15 cd15 ct15, fun s v => .of_eq rfl, fun base _ _ hsm hT => ?_⟩
  have T_TooMany : OexC K ck_TooMany := ⟨⟨_, _, _, _, _, _, _, _, _, _, _, _, _, _, _, xl_TooMany, rv_TooMany⟩, sa_TooMany, sk_TooMany, tk_TooMany, kk_TooMany⟩
  have FI_TooMany := fun_mk (st := sti_TooMany) li_TooMany ci_TooMany ki_TooMany
  have bI_TooMany := FI_TooMany.binds (ps := ["self", "many"]) fun _ _ _ _ _ _ us hl => match us, hl with | [_, _], _ => rfl
  have k_TooMany : ClsY Pr w K mg base "TooMany" "many" := ⟨ck_TooMany, fi_TooMany, _, _, g_TooMany, T_TooMany, ii_TooMany, ti_TooMany, bI_TooMany, init_ok FI_TooMany sci_TooMany ⟨br_MarkError, bg_MarkError, bi_MarkError⟩ T_TooMany no_TooMany rfl rfl (fun _ _ _ _ _ _ X e => by subst e; exact ⟨rfl, g_MarkError, pv 0, pv 0, pv 1, ⟨_, rfl⟩, rfl, rfl, rfl⟩)⟩
  have D__law_circle : Def Pr w K mg base 1 "_law_circle" ["_law_size", "_law_steps"] F__law_circle := ok__law_circle F0 g0 b0 hsm m_range m_tuple
  have D__law_line : Def Pr w K mg base 1 "_law_line" ["_law_size"] F__law_line := ok__law_line F1 g1 b1 hsm m_range m_tuple
  have D__law_behind : Def Pr w K mg base 1 "_law_behind" ["_law_one", "_law_two"] F__law_behind := ok__law_behind F2 g2 b2 hsm m_range m_tuple
  have D__law_nest : Def Pr w K mg base 1 "_law_nest" ["_law_one", "_law_two"] F__law_nest := ok__law_nest F3 g3 b3 hsm m_range m_tuple
  have E_beside : DefY Pr w K mg base 3 "beside" ["lot", "other"] X_beside := ok_beside F4 g4 b4 hsm k_TooMany m_list m_range m_sorted m_tuple c_MOST_MARKS
  have D_beside : Def Pr w K mg base 3 "beside" ["lot", "other"] F_beside := E_beside.toDef
  have D_later_table : Def Pr w K mg base 1 "later_table" ["lot"] F_later_table := ok_later_table F5 g5 b5 hsm
  have U_lot_by : RawDef K mg "lot_by" st_lot_by ["many", "later"] := ⟨_, _, F6, g6, b6⟩
  have FM7 := funM_mk (st := st_within) l7 (maker_code (tab_some t7) a7 l7) c7 k7
  have E_within : DefY Pr w K mg base 4 "within" ["lot", "other"] X_within := ok_within FM7 (hT _ y7) (tb_mem y7) (tb_uniq u7) g7 b7 hsm D_later_table U_lot_by k_TooMany m_divmod m_range m_tuple c_MOST_MARKS
  have D_within : Def Pr w K mg base 4 "within" ["lot", "other"] F_within := E_within.toDef
  have D__law_asked : Def Pr w K mg base 5 "_law_asked" ["_law_make", "_law_one", "_law_two"] F__law_asked := ok__law_asked F8 g8 b8 hsm E_beside E_within w_many x_TooMany_MarkError y_TooMany V_beside V_within g_Fails g_NotHeld g_NotKept g_Serves g_TooMany o_0 o_1 o_2 m_ValueError m_isinstance
  have D__law_right : Def Pr w K mg base 6 "_law_right" ["_law_one", "_law_two"] F__law_right := ok__law_right F9 g9 b9 hsm D__law_behind D__law_nest D__law_asked V_beside V_within m_repr
  have D__law_pot : Def Pr w K mg base 1 "_law_pot" ["_law_script", "_law_k"] F__law_pot := ok__law_pot F10 g10 b10 hsm m_abs m_int m_len
  have D__law_take : Def Pr w K mg base 1 "_law_take" ["_law_pot_here", "_law_size"] F__law_take := ok__law_take F11 g11 b11 hsm
  have D__law_of : Def Pr w K mg base 2 "_law_of" ["_law_pot_here", "_law_some"] F__law_of := ok__law_of F12 g12 b12 hsm D__law_take m_len
  have D__law_drawn : Def Pr w K mg base 2 "_law_drawn" ["_law_pot_here", "_law_most"] F__law_drawn := ok__law_drawn F13 g13 b13 hsm D__law_take m_int m_range m_sorted m_tuple
  have D__law_lot : Def Pr w K mg base 3 "_law_lot" ["_law_pot_here", "_law_most"] F__law_lot := ok__law_lot F14 g14 b14 hsm D__law_circle D__law_line D__law_take D__law_of D__law_drawn
  exact ok_law F15 hsm D__law_circle D__law_line D__law_right D__law_pot D__law_lot D__law_of m_all m_len m_max m_min m_range
end
end K13

namespace K13
open PySem PySem.Spec PyProof.Rows L2 DL

/-! pairs that rise -/
def ltP (p q : Int × Int) : Prop := p.1 < q.1 ∨ (p.1 = q.1 ∧ p.2 < q.2)
def Asc (ps : List (Int × Int)) : Prop := ps.Pairwise ltP
theorem ltP_irr (p : Int × Int) : ¬ ltP p p := by unfold ltP; omega
theorem ltP_as {p q : Int × Int} (h : ltP p q) : ¬ ltP q p := by unfold ltP at *; omega
theorem asc_ext : ∀ {as bs : List (Int × Int)}, Asc as → Asc bs → (∀ p, p ∈ as ↔ p ∈ bs) → as = bs
  | [], [], _, _, _ => rfl
  | [], b :: bs, _, _, h => absurd ((h b).mpr List.mem_cons_self) (by simp)
  | a :: as, [], _, _, h => absurd ((h a).mp List.mem_cons_self) (by simp)
  | a :: as, b :: bs, h1, h2, h => by
    obtain ⟨p1, q1⟩ := List.pairwise_cons.mp h1
    obtain ⟨p2, q2⟩ := List.pairwise_cons.mp h2
    have e : a = b := by
      rcases List.mem_cons.mp ((h a).mp List.mem_cons_self) with e | e
      · exact e
      · rcases List.mem_cons.mp ((h b).mpr List.mem_cons_self) with e' | e'
        · exact e'.symm
        · exact absurd (p1 b e') (ltP_as (p2 a e))
    subst e
    rw [asc_ext q1 q2 fun p => ⟨fun hp => ?_, fun hp => ?_⟩]
    · rcases List.mem_cons.mp ((h p).mp (List.mem_cons_of_mem _ hp)) with e | e
      · rw [e] at hp
        exact absurd (p1 a hp) (ltP_irr a)
      · exact e
    · rcases List.mem_cons.mp ((h p).mpr (List.mem_cons_of_mem _ hp)) with e | e
      · rw [e] at hp
        exact absurd (p2 a hp) (ltP_irr a)
      · exact e
theorem mem_sort (ps : List (Int × Int)) (p : Int × Int) : p ∈ sortP ps ↔ p ∈ ps := (isort_perm ps).mem_iff
theorem sort_asc {ps : List (Int × Int)} (h : ps.Nodup) : Asc (sortP ps) := by
  have h1 := isort_sorted lexB_as lexB_tr ps
  have h2 : (sortP ps).Nodup := (isort_perm ps).nodup_iff.mpr h
  refine List.Pairwise.imp₂ (fun a b h3 h4 => ?_) h1 h2
  have h5 := SrtO.lexB_no.mp h3
  have h6 : ¬ (a.1 = b.1 ∧ a.2 = b.2) := fun z => h4 (Prod.ext z.1 z.2)
  unfold ltP
  omega
theorem asc_nodup {ps : List (Int × Int)} (h : Asc ps) : ps.Nodup := by
  refine List.Pairwise.imp (S := fun a b => a ≠ b) (fun {a b} h e => ?_) h
  subst e
  exact ltP_irr a h
abbrev swp (p : Int × Int) : Int × Int := (p.2, p.1)
def sw (ps : List (Int × Int)) : List (Int × Int) := sortP (ps.map swp)
theorem swp_nodup {ps : List (Int × Int)} (h : ps.Nodup) : (ps.map swp).Nodup := by
  refine List.Pairwise.map swp (fun a b e z => e ?_) h
  have z1 := congrArg Prod.fst z
  have z2 := congrArg Prod.snd z
  exact Prod.ext z2 z1
theorem mem_swp {ps : List (Int × Int)} (p : Int × Int) : p ∈ ps.map swp ↔ swp p ∈ ps := by
  rw [List.mem_map]
  constructor
  · rintro ⟨q, hq, rfl⟩
    exact hq
  · intro h
    exact ⟨_, h, rfl⟩
theorem mem_sw {ps : List (Int × Int)} (p : Int × Int) : p ∈ sw ps ↔ swp p ∈ ps := (mem_sort _ _).trans (mem_swp p)
theorem sw_asc {ps : List (Int × Int)} (h : Asc ps) : Asc (sw ps) := sort_asc (swp_nodup (asc_nodup h))
theorem sw_len (ps : List (Int × Int)) : (sw ps).length = ps.length := by
  unfold sw
  rw [(isort_perm _).length_eq, List.length_map]
/-- a lot, as it is told -/
structure Lot (n : Int) (ps : List (Int × Int)) : Prop where
  n0 : 0 ≤ n
  n1 : n ≤ 24
  asc : Asc ps
  rng : ∀ p ∈ ps, 0 ≤ p.1 ∧ p.1 < n ∧ 0 ≤ p.2 ∧ p.2 < n
  anti : ∀ p ∈ ps, (p.2, p.1) ∉ ps
  len : ps.length ≤ 1000
theorem Lot.ne {n : Int} {ps : List (Int × Int)} (h : Lot n ps) {p : Int × Int} (hp : p ∈ ps) : p.1 ≠ p.2 := fun e => h.anti p hp (by
  have : (p.2, p.1) = p := Prod.ext e.symm e
  rw [this]
  exact hp)
theorem Lot.sw {n : Int} {ps : List (Int × Int)} (h : Lot n ps) : Lot n (sw ps) := ⟨h.n0, h.n1, sw_asc h.asc, fun p hp => by
  have := h.rng _ ((mem_sw p).mp hp)
  exact ⟨this.2.2.1, this.2.2.2, this.1, this.2.1⟩, fun p hp hq => h.anti _ ((mem_sw p).mp hp) ((mem_sw _).mp hq), by
  rw [sw_len]
  exact h.len⟩
/-! marks that rise, and where each stands -/
structure Up (n : Int) (ms : List Int) : Prop where
  asc : ms.Pairwise (· < ·)
  rng : ∀ m ∈ ms, 0 ≤ m ∧ m < n
def ix (ms : List Int) (m : Int) : Int := (ms.idxOf m : Nat)
theorem Up.nodup {n : Int} {ms : List Int} (h : Up n ms) : ms.Nodup := List.Pairwise.imp (fun {a b} h e => by omega) h.asc
theorem ix_get {ms : List Int} {a : Int} (h : a ∈ ms) : ms[ms.idxOf a]? = some a := by
  have hl := List.idxOf_lt_length_iff.mpr h
  rw [List.getElem?_eq_getElem hl]
  exact congrArg some (List.getElem_idxOf hl)
theorem get_ix {ms : List Int} (hn : ms.Nodup) {k : Nat} {a : Int} (h : ms[k]? = some a) : ms.idxOf a = k := by
  obtain ⟨hk, e⟩ := List.getElem?_eq_some_iff.mp h
  rw [← e]
  exact hn.idxOf_getElem k hk
theorem get_mono {ms : List Int} (h : ms.Pairwise (· < ·)) {i j : Nat} {a b : Int} (ha : ms[i]? = some a) (hb : ms[j]? = some b) (hij : i < j) : a < b := by
  obtain ⟨h1, rfl⟩ := List.getElem?_eq_some_iff.mp ha
  obtain ⟨h2, rfl⟩ := List.getElem?_eq_some_iff.mp hb
  exact List.pairwise_iff_getElem.mp h i j h1 h2 hij
theorem ix_lt {ms : List Int} (h : ms.Pairwise (· < ·)) {a b : Int} (ha : a ∈ ms) (hb : b ∈ ms) (hab : a < b) : ix ms a < ix ms b := by
  unfold ix
  have h1 := ix_get ha
  have h2 := ix_get hb
  rcases Nat.lt_trichotomy (ms.idxOf a) (ms.idxOf b) with c | c | c
  · omega
  · rw [c, h2] at h1
    cases h1
    omega
  · have := get_mono h h2 h1 c
    omega
/-! the part of a lot -/
def inP (ms : List Int) (p : Int × Int) : Bool := ms.contains p.1 && ms.contains p.2
def cutP (ps : List (Int × Int)) (ms : List Int) : List (Int × Int) := (ps.filter (inP ms)).map fun p => (ix ms p.1, ix ms p.2)
theorem inP_iff {ms : List Int} {p : Int × Int} : inP ms p = true ↔ p.1 ∈ ms ∧ p.2 ∈ ms := by
  unfold inP
  rw [Bool.and_eq_true, List.contains_iff_mem, List.contains_iff_mem]
theorem mem_cut {ps : List (Int × Int)} {ms : List Int} {p : Int × Int} : p ∈ cutP ps ms ↔ ∃ q ∈ ps, q.1 ∈ ms ∧ q.2 ∈ ms ∧ p = (ix ms q.1, ix ms q.2) := by
  unfold cutP
  rw [List.mem_map]
  constructor
  · rintro ⟨q, hq, rfl⟩
    obtain ⟨h1, h2⟩ := List.mem_filter.mp hq
    obtain ⟨h3, h4⟩ := inP_iff.mp h2
    exact ⟨q, h1, h3, h4, rfl⟩
  · rintro ⟨q, h1, h3, h4, rfl⟩
    exact ⟨q, List.mem_filter.mpr ⟨h1, inP_iff.mpr ⟨h3, h4⟩⟩, rfl⟩
theorem cut_asc {ps : List (Int × Int)} {ms : List Int} (h : Asc ps) (hm : ms.Pairwise (· < ·)) : Asc (cutP ps ms) := by
  have h1 : (ps.filter (inP ms)).Pairwise ltP := h.filter _
  unfold cutP Asc
  rw [List.pairwise_map]
  refine List.Pairwise.imp_of_mem (fun {a b} ha hb hab => ?_) h1
  obtain ⟨a1, a2⟩ := inP_iff.mp (List.mem_filter.mp ha).2
  obtain ⟨b1, b2⟩ := inP_iff.mp (List.mem_filter.mp hb).2
  rcases hab with c | ⟨c, d⟩
  · exact .inl (ix_lt hm a1 b1 c)
  · exact .inr ⟨congrArg (ix ms) c, ix_lt hm a2 b2 d⟩
def gt (ms : List Int) (i : Int) : Int := (ms[i.toNat]?).getD 0
theorem gt_some {ms : List Int} {i : Int} (h : 0 ≤ i ∧ i < ms.length) : ms[i.toNat]? = some (gt ms i) := by
  have hl : i.toNat < ms.length := by omega
  unfold gt
  rw [List.getElem?_eq_getElem hl]
  rfl
theorem gt_mem {ms : List Int} {i : Int} (h : 0 ≤ i ∧ i < ms.length) : gt ms i ∈ ms := List.mem_of_getElem? (gt_some h)
theorem gt_lt {ms : List Int} (h : ms.Pairwise (· < ·)) {i j : Int} (hi : 0 ≤ i ∧ i < ms.length) (hj : 0 ≤ j ∧ j < ms.length) (hij : i < j) : gt ms i < gt ms j := get_mono h (gt_some hi) (gt_some hj) (by omega)
theorem Up.map {n : Int} {ms is : List Int} (h : Up n ms) (hi : Up ms.length is) : Up n (is.map (gt ms)) := ⟨by
  rw [List.pairwise_map]
  exact List.Pairwise.imp_of_mem (fun {a b} ha hb hab => gt_lt h.asc (hi.rng a ha) (hi.rng b hb) hab) hi.asc, fun m hm => by
  obtain ⟨i, h1, rfl⟩ := List.mem_map.mp hm
  exact h.rng _ (gt_mem (hi.rng i h1))⟩
def upto (n : Int) : List Int := (List.range n.toNat).map fun k => (0 : Int) + (k : Nat)
theorem upto_mem {n m : Int} : m ∈ upto n ↔ 0 ≤ m ∧ m < n := by
  unfold upto
  rw [List.mem_map]
  constructor
  · rintro ⟨k, hk, rfl⟩
    have := List.mem_range.mp hk
    omega
  · intro h
    exact ⟨m.toNat, List.mem_range.mpr (by omega), by omega⟩
theorem upto_asc (n : Int) : (upto n).Pairwise (· < ·) := by
  unfold upto
  rw [List.pairwise_map]
  exact List.pairwise_lt_range.imp fun h => by omega
theorem upto_up (n : Int) : Up n (upto n) := ⟨upto_asc n, fun m h => upto_mem.mp h⟩
theorem upto_len (n : Int) : (upto n).length = n.toNat := by
  unfold upto
  rw [List.length_map, List.length_range]
theorem ix_upto {n m : Int} (h : 0 ≤ m ∧ m < n) : ix (upto n) m = m := by
  have h1 : (upto n)[m.toNat]? = some m := by
    unfold upto
    rw [List.getElem?_map, List.getElem?_range (by omega)]
    show some ((0 : Int) + (m.toNat : Nat)) = _
    congr 1
    omega
  have := get_ix (upto_up n).nodup h1
  unfold ix
  omega
theorem cut_all {n : Int} {ps : List (Int × Int)} (h : Lot n ps) : cutP ps (upto n) = ps := asc_ext (cut_asc h.asc (upto_asc n)) h.asc fun p => by
  rw [mem_cut]
  constructor
  · rintro ⟨q, h1, h2, h3, rfl⟩
    rw [ix_upto (upto_mem.mp h2), ix_upto (upto_mem.mp h3)]
    exact h1
  · intro hp
    have := h.rng p hp
    exact ⟨p, hp, upto_mem.mpr ⟨this.1, this.2.1⟩, upto_mem.mpr this.2.2, by rw [ix_upto ⟨this.1, this.2.1⟩, ix_upto this.2.2]⟩
end K13

namespace K13
open PySem PySem.Spec PyProof.Rows L2 DL DLS

abbrev pot (a b c : Int) : C := .l [.int a, .int b, .int c]
theorem prime_at (t : Int) (h : 0 ≤ t) : ∃ p : Int, 0 < p ∧ p < 2 ^ 61 ∧ opIx (.d (.list [.int 2305843009213693951, .int 2305843009213693921, .int 2305843009213693907, .int 67280421310721])) (.d (.int (t % 4))) = some (.d (.int p)) := by
  have h1 : t % 4 = 0 ∨ t % 4 = 1 ∨ t % 4 = 2 ∨ t % 4 = 3 := by omega
  rcases h1 with e | e | e | e <;> rw [e]
  · exact ⟨2305843009213693951, by decide, by decide, rfl⟩
  · exact ⟨2305843009213693921, by decide, by decide, rfl⟩
  · exact ⟨2305843009213693907, by decide, by decide, rfl⟩
  · exact ⟨67280421310721, by decide, by decide, rfl⟩
theorem take_spec {n a b c : Int} (hn : 0 < n) (hn2 : n < 2 ^ 60) (ha : 0 ≤ a) (hb : 0 ≤ b) (hb2 : b < 2 ^ 62) (hc : 0 ≤ c) (hc2 : c < 2 ^ 40) :
    ∃ r a' c', F__law_take [.o (pot a b c), .d (.int n)] = some (.d (.int r), [some (pot a' b c'), none]) ∧ 0 ≤ r ∧ r < n ∧ 0 ≤ a' ∧ 0 ≤ c' ∧ c' ≤ c + 1 := by
  by_cases h : a > 0
  · refine ⟨a % n, a / n, c, runF_rt (δ := [some (.o (pot (a / n) b c)), some (.d (.int n)), none, none, none, some (.d (.int (a % n)))]) ?_ rfl, Int.emod_nonneg _ (by omega), Int.emod_lt_of_pos _ hn, Int.ediv_nonneg ha (by omega), hc, by omega⟩
    refine seqS_rt (ifS_t (δ1 := [some (.o (pot a b c)), some (.d (.int n)), none, none, none, none]) ?_ ?_)
    · refine bl_of ?_
      have : pGt a 0 = true := decide_eq_true h
      rw [← this]
      exact bin_cmp rfl rfl
    · refine seqS_of (setS_of (bin_I rfl rfl (iMod_ok hn))) ?_
      refine seqS_of (setI_of (frzP_of (bin_I rfl rfl (iDiv_ok hn (lt_pow_of (n := 60) (by omega) hn2) (by decide) (by decide)))) rfl rfl rfl rfl) ?_
      rfl
  · have ht : 0 ≤ c + 1 := by omega
    obtain ⟨p, p0, p1, pe⟩ := prime_at (c + 1) ht
    generalize et : c + 1 = t at pe ht
    have t1 : t < 2 ^ 41 := by omega
    have x0 : (7919 * t * t : Int) < 2 ^ 96 := by
      have := Int.mul_le_mul_of_nonneg_left (a := t) (b := 2 ^ 41) (c := 7919 * t) (by omega) (by omega)
      omega
    have x00 : (0 : Int) ≤ 7919 * t * t := Int.mul_nonneg (by omega) ht
    generalize ex : b + 7919 * t * t + 65537 * t = x
    have xb : x < 2 ^ 100 := by omega
    have xn : 0 ≤ x := by omega
    generalize em : x ^ (3 : Int).toNat % p = m
    have m0 : 0 ≤ m := by rw [← em]; exact Int.emod_nonneg _ (by omega)
    have m1 : m < 2 ^ 61 := by
      have := Int.emod_lt_of_pos (x ^ (3 : Int).toNat) p0
      omega
    have q0 : 0 ≤ m % 10007 + 97 * t := by
      have := Int.emod_nonneg m (b := 10007) (by decide)
      omega
    have q1 : m % 10007 + 97 * t < 2 ^ 60 := by
      have := Int.emod_lt_of_pos m (b := 10007) (by decide)
      omega
    refine ⟨m * (m % 10007 + 97 * t) % 2305843009213693669 / 4099 % n, a, t, runF_rt (δ := [some (.o (pot a b t)), some (.d (.int n)), some (.d (.int t)), some (.d (.int p)), some (.d (.int m)), none]) ?_ rfl, Int.emod_nonneg _ (by omega), Int.emod_lt_of_pos _ hn, ha, ht, by omega⟩
    refine seqS_of (δ1 := [some (.o (pot a b c)), some (.d (.int n)), none, none, none, none]) (ifS_f (δ1 := [some (.o (pot a b c)), some (.d (.int n)), none, none, none, none]) ?_ rfl) ?_
    · refine bl_of ?_
      have : pGt a 0 = false := decide_eq_false h
      rw [← this]
      exact bin_cmp rfl rfl
    · refine seqS_of (setS_of (bin_add rfl rfl)) ?_
      rw [et]
      refine seqS_of (setI_of rfl rfl rfl rfl rfl) ?_
      show seqS _ _ [some (.o (pot a b t)), some (.d (.int n)), some (.d (.int t)), none, none, none] = _
      refine seqS_of (setS_of (bin_of rfl (frzP_of (bin_I rfl rfl (iMod_ok (by decide)))) rfl rfl pe)) ?_
      show seqS _ _ [some (.o (pot a b t)), some (.d (.int n)), some (.d (.int t)), some (.d (.int p)), none, none] = _
      have hm : setS 4 (bin (opI2 iMod) (frzP (bin (opI2 iPow) (frzP (bin opAdd (frzP (bin opAdd (frzP (bin opIx (pk 0) (frzP (cst (.int 1))))) (frzP (bin opMul (frzP (bin opMul (frzP (cst (.int 7919))) (pk 2))) (pk 2))))) (frzP (bin opMul (frzP (cst (.int 65537))) (pk 2))))) (frzP (cst (.int 3))))) (pk 3)) [some (.o (pot a b t)), some (.d (.int n)), some (.d (.int t)), some (.d (.int p)), none, none] = some (.nx (List.set [some (.o (pot a b t)), some (.d (.int n)), some (.d (.int t)), some (.d (.int p)), none, none] 4 (some (.d (.int m))))) := by
        have hx : frzP (bin opAdd (frzP (bin opAdd (frzP (bin opIx (pk 0) (frzP (cst (.int 1))))) (frzP (bin opMul (frzP (bin opMul (frzP (cst (.int 7919))) (pk 2))) (pk 2))))) (frzP (bin opMul (frzP (cst (.int 65537))) (pk 2)))) [some (.o (pot a b t)), some (.d (.int n)), some (.d (.int t)), some (.d (.int p)), none, none] = some (.v (.d (.int x)), [some (.o (pot a b t)), some (.d (.int n)), some (.d (.int t)), some (.d (.int p)), none, none]) := by
          rw [← ex]
          exact frzP_of (bin_add (frzP_of (bin_add rfl (frzP_of (bin_mul (frzP_of (bin_mul rfl rfl (iMul_ok (a := 13) (b := 41) (by decide) (lt_pow_of ht t1) (by decide) (by decide) (by decide)))) rfl (iMul_ok (a := 54) (b := 41) (lt_pow_of (by omega) (by omega)) (lt_pow_of ht t1) (by decide) (by decide) (by decide)))))) (frzP_of (bin_mul rfl rfl (iMul_ok (a := 17) (b := 41) (by decide) (lt_pow_of ht t1) (by decide) (by decide) (by decide)))))
        rw [← em]
        exact setS_of (bin_I (frzP_of (bin_I hx rfl (iPow_ok (i := x) (j := 3) (a := 100) (lt_pow_of xn xb) (by decide) (by decide) (by decide)))) rfl (iMod_ok p0))
      refine seqS_of hm ?_
      show retS _ [some (.o (pot a b t)), some (.d (.int n)), some (.d (.int t)), some (.d (.int p)), some (.d (.int m)), none] = _
      · refine retS_of (bin_I (frzP_of (bin_I (frzP_of (bin_I (frzP_of (bin_mul rfl (frzP_of (bin_add (frzP_of (bin_I rfl rfl (iMod_ok (by decide)))) (frzP_of (bin_mul rfl rfl (iMul_ok (a := 7) (b := 41) (by decide) (lt_pow_of ht t1) (by decide) (by decide) (by decide)))))) (iMul_ok (a := 61) (b := 60) (lt_pow_of m0 m1) (lt_pow_of q0 q1) (by decide) (by decide) (by decide)))) rfl (iMod_ok (by decide)))) rfl (iDiv_ok (b := 13) (by decide) (by decide) (by decide) (by decide)))) rfl (iMod_ok hn))

/-! what a pot may hold, after at most m draws -/
structure Pot (m : Nat) (c : C) : Prop where
  ex : ∃ a b t : Int, c = pot a b t ∧ 0 ≤ a ∧ 0 ≤ b ∧ b < 2 ^ 62 ∧ 0 ≤ t ∧ t ≤ m
theorem Pot.mono {m n : Nat} {c : C} (h : Pot m c) (e : m ≤ n) : Pot n c := by
  obtain ⟨a, b, t, h1, h2, h3, h4, h5, h6⟩ := h.ex
  exact ⟨a, b, t, h1, h2, h3, h4, h5, by omega⟩
theorem take_pot {n : Int} {m : Nat} {c : C} (hp : Pot m c) (hm : m < 2 ^ 39) (hn : 0 < n) (hn2 : n < 2 ^ 60) : ∃ r c', F__law_take [.o c, .d (.int n)] = some (.d (.int r), [some c', none]) ∧ 0 ≤ r ∧ r < n ∧ Pot (m + 1) c' := by
  obtain ⟨a, b, t, rfl, h2, h3, h4, h5, h6⟩ := hp.ex
  obtain ⟨r, a', t', e, r0, r1, a0, t0, t1⟩ := take_spec (n := n) (a := a) (b := b) (c := t) hn hn2 h2 h3 h4 h5 (by omega)
  exact ⟨r, _, e, r0, r1, ⟨a', b, t', rfl, a0, h3, h4, t0, by omega⟩⟩
theorem get_cell (ns : List Int) (k : Nat) (h : k < ns.length) : ∃ v : Int, opIx (.z ns) (.d (.int k)) = some (.d (.int v)) := by
  refine ⟨ns[k], ?_⟩
  show (atI ns (k : Int)).map _ = _
  have : atI ns (k : Int) = some ns[k] := atI_nat (List.getElem?_eq_getElem h)
  rw [this]
  rfl
theorem pot_spec (ns : List Int) (k : Nat) (hk : k ≤ 2) : ∃ c, F__law_pot [.z ns, .d (.int k)] = some (.o c, [none, none]) ∧ Pot 0 c := by
  have hcell : ∃ v : Int, ifE (bl (bin (cmpI pLt) (pk 1) (frzP (callB fLen (consA (pk 0) nilA))))) (bin opIx (pk 0) (pk 1)) (cst (.int 0)) [some (.z ns), some (.d (.int k)), none, none] = some (.d (.int v), [some (.z ns), some (.d (.int k)), none, none]) := by
    by_cases h : k < ns.length
    · obtain ⟨v, hv⟩ := get_cell ns k h
      refine ⟨v, ifE_t (δ1 := [some (.z ns), some (.d (.int k)), none, none]) (bl_of ?_) (bin_ix rfl rfl hv)⟩
      have : pLt (k : Int) (ns.length : Int) = true := decide_eq_true (by omega)
      rw [← this]
      exact bin_cmp rfl (frzP_d (callB_of rfl rfl rfl))
    · refine ⟨0, ifE_f (bl_of ?_) rfl⟩
      have : pLt (k : Int) (ns.length : Int) = false := decide_eq_false (by omega)
      rw [← this]
      exact bin_cmp rfl (frzP_d (callB_of rfl rfl rfl))
  obtain ⟨v, hv⟩ := hcell
  generalize eN : ((10 : Int) ^ (60 : Int).toNat) ^ (5 : Int).toNat = N
  have N0 : 0 < N := by rw [← eN]; decide
  have N1 : N < 2 ^ 1000 := by rw [← eN]; decide +kernel
  have hN : bin (opI2 iPow) (frzP (bin (opI2 iPow) (frzP (cst (.int 10))) (frzP (cst (.int 60))))) (frzP (cst (.int 5))) [some (.z ns), some (.d (.int k)), some (.d (.int v)), none] = some (.d (.int N), [some (.z ns), some (.d (.int k)), some (.d (.int v)), none]) := by
    rw [← eN]
    exact bin_I (frzP_d (bin_I rfl rfl (iPow_ok (i := 10) (j := 60) (a := 4) (by decide) (by decide) (by decide) (by decide)))) rfl (iPow_ok (i := 10 ^ (60 : Int).toNat) (j := 5) (a := 200) (by decide) (by decide) (by decide) (by decide))
  generalize ev : (if v < 0 then -v else v) = av
  have av0 : 0 ≤ av := by rw [← ev]; split <;> omega
  generalize eo : av % N = o
  have o0 : 0 ≤ o := by rw [← eo]; exact Int.emod_nonneg _ (by omega)
  have o1 : o < 2 ^ 1000 := by
    have := Int.emod_lt_of_pos av N0
    omega
  generalize ef : (if decide ((10 : Int) ^ (18 : Int).toNat ≤ av) = true then (1 : Int) else 0) = fl
  have f0 : 0 ≤ fl ∧ fl ≤ 1 := by rw [← ef]; split <;> omega
  generalize ek : (k : Int) = kk at *
  have kk0 : 0 ≤ kk ∧ kk ≤ 2 := by omega
  have k2 : 0 ≤ 104729 * kk * kk ∧ 104729 * kk * kk ≤ 500000 := by
    have : kk = 0 ∨ kk = 1 ∨ kk = 2 := by omega
    rcases this with e | e | e <;> rw [e] <;> decide
  generalize ew : v % 2305843009213693951 = w at *
  have w0 : 0 ≤ w := by rw [← ew]; exact Int.emod_nonneg _ (by decide)
  have w1 : w < 2305843009213693951 := by rw [← ew]; exact Int.emod_lt_of_pos _ (by decide)
  refine ⟨pot (o * fl) ((w + 104729 * kk * kk + 19) * 48271 % 2305843009213693921) 0, runF_rt (δ := [some (.z ns), some (.d (.int kk)), some (.d (.int v)), some (.d (.int (o * fl)))]) ?_ rfl, ⟨_, _, _, rfl, Int.mul_nonneg o0 f0.1, Int.emod_nonneg _ (by decide), ?_, by decide, by decide⟩⟩
  · refine seqS_of (setS_of hv) ?_
    show seqS _ _ [some (.z ns), some (.d (.int kk)), some (.d (.int v)), none] = _
    have ho : setS 3 (bin opMul (frzP (bin (opI2 iMod) (frzP (callB fAbs (consA (pk 2) nilA))) (frzP (bin (opI2 iPow) (frzP (bin (opI2 iPow) (frzP (cst (.int 10))) (frzP (cst (.int 60))))) (frzP (cst (.int 5))))))) (frzP (callB fInt (consA (frzP (bin (cmpI pGe) (frzP (callB fAbs (consA (pk 2) nilA))) (frzP (bin (opI2 iPow) (frzP (cst (.int 10))) (frzP (cst (.int 18))))))) nilA)))) [some (.z ns), some (.d (.int kk)), some (.d (.int v)), none] = some (.nx (List.set [some (.z ns), some (.d (.int kk)), some (.d (.int v)), none] 3 (some (.d (.int (o * fl)))))) := by
      rw [← eo, ← ef, ← ev]
      refine setS_of (bin_mul (frzP_d (bin_I (frzP_d (callB_of rfl rfl rfl)) (frzP_d hN) (iMod_ok N0))) (frzP_d (callB_of (consA_of (frzP_d (bin_cmp (frzP_d (callB_of rfl rfl rfl)) (frzP_d (bin_I rfl rfl (iPow_ok (i := 10) (j := 18) (a := 4) (by decide) (by decide) (by decide) (by decide)))))) rfl) rfl rfl)) ?_)
      rw [ev, eo]
      have : (if pGe av (10 ^ (18 : Int).toNat) = true then (1 : Int) else 0) = fl := ef
      rw [this]
      exact iMul_ok (a := 1000) (b := 1) (lt_pow_of o0 o1) (lt_pow_of f0.1 (by omega)) (by decide) (by decide) (by decide)
    refine seqS_of ho ?_
    show retS _ [some (.z ns), some (.d (.int kk)), some (.d (.int v)), some (.d (.int (o * fl)))] = _
    rw [← ew]
    refine retS_of (lstE_of (consA_of rfl (consA_of (frzP_d (bin_I (frzP_d (bin_mul (frzP_d (bin_add (frzP_d (bin_add (frzP_d (bin_I rfl rfl (iMod_ok (by decide)))) (frzP_d (bin_mul (frzP_d (bin_mul rfl rfl (iMul_ok (a := 17) (b := 2) (by decide) (lt_pow_of kk0.1 (by omega)) (by decide) (by decide) (by decide)))) rfl (iMul_ok (a := 20) (b := 2) (lt_pow_of (by omega) (by omega)) (lt_pow_of kk0.1 (by omega)) (by decide) (by decide) (by decide)))))) rfl)) rfl (iMul_ok (a := 63) (b := 16) (lt_pow_of ?_ ?_) (by decide) (by decide) (by decide) (by decide)))) rfl (iMod_ok (by decide)))) rfl)) rfl (show 3 ≤ sizeLine by decide))
    · rw [ew]; omega
    · rw [ew]; omega
  · have := Int.emod_lt_of_pos ((w + 104729 * kk * kk + 19) * 48271) (b := 2305843009213693921) (by decide)
    omega
/-! pairs as they are drawn, one of each two marks at the most -/
structure OkP (x y : Int) (ps : List (Int × Int)) : Prop where
  mem : ∀ p ∈ ps, ∃ a b : Int, b < a ∧ (a < x ∨ (a = x ∧ b < y)) ∧ (p = (a, b) ∨ p = (b, a))
  anti : ∀ p ∈ ps, (p.2, p.1) ∉ ps
  lo : ∀ p ∈ ps, 0 ≤ p.1 ∧ 0 ≤ p.2
  nd : ps.Nodup
theorem OkP.nil (x y : Int) : OkP x y [] := ⟨(fun p hp => nomatch hp), (fun p hp => nomatch hp), (fun p hp => nomatch hp), List.nodup_nil⟩
theorem OkP.next {x : Int} {ps : List (Int × Int)} (h : OkP x x ps) : OkP (x + 1) 0 ps := ⟨fun p hp => by
  obtain ⟨a, b, h1, h2, h3⟩ := h.mem p hp
  exact ⟨a, b, h1, .inl (by omega), h3⟩, h.anti, h.lo, h.nd⟩
def OneOf (x y : Int) (qs : List (Int × Int)) : Prop := qs = [] ∨ qs = [(x, y)] ∨ qs = [(y, x)]
theorem OkP.add {x y : Int} {ps qs : List (Int × Int)} (h : OkP x y ps) (hy : y < x) (y0 : 0 ≤ y) (hq : OneOf x y qs) : OkP x (y + 1) (ps ++ qs) := by
  have old : ∀ p ∈ ps, ∃ a b : Int, b < a ∧ (a < x ∨ (a = x ∧ b < y + 1)) ∧ (p = (a, b) ∨ p = (b, a)) := fun p hp => by
    obtain ⟨a, b, h1, h2, h3⟩ := h.mem p hp
    exact ⟨a, b, h1, by omega, h3⟩
  have nw : ∀ p ∈ ps, p ≠ (x, y) ∧ p ≠ (y, x) := fun p hp => by
    obtain ⟨a, b, h1, h2, h3⟩ := h.mem p hp
    rcases h3 with rfl | rfl
    · constructor
      · intro z
        have z1 := congrArg Prod.fst z
        have z2 := congrArg Prod.snd z
        simp only at z1 z2
        omega
      · intro z
        have z1 := congrArg Prod.fst z
        have z2 := congrArg Prod.snd z
        simp only at z1 z2
        omega
    · constructor
      · intro z
        have z1 := congrArg Prod.fst z
        have z2 := congrArg Prod.snd z
        simp only at z1 z2
        omega
      · intro z
        have z1 := congrArg Prod.fst z
        have z2 := congrArg Prod.snd z
        simp only at z1 z2
        omega
  have one : ∀ e : Int × Int, (e = (x, y) ∨ e = (y, x)) → OkP x (y + 1) (ps ++ [e]) := fun e he => by
    have hs : (e.2, e.1) = (x, y) ∨ (e.2, e.1) = (y, x) := by
      rcases he with rfl | rfl
      · exact .inr rfl
      · exact .inl rfl
    have ne : ∀ p ∈ ps, p ≠ e := fun p hp z => by
      rcases he with rfl | rfl
      · exact (nw p hp).1 z
      · exact (nw p hp).2 z
    refine ⟨fun p hp => ?_, fun p hp hm => ?_, fun p hp => ?_, ?_⟩
    · rcases List.mem_append.mp hp with hp | hp
      · exact old p hp
      · rw [List.mem_singleton.mp hp]
        exact ⟨x, y, hy, .inr ⟨rfl, by omega⟩, he⟩
    · rcases List.mem_append.mp hp with hp | hp
      · rcases List.mem_append.mp hm with hm | hm
        · exact h.anti p hp hm
        · have z := List.mem_singleton.mp hm
          have zp : p = (e.2, e.1) := by rw [← z]
          rcases hs with hs | hs
          · exact (nw p hp).1 (zp.trans hs)
          · exact (nw p hp).2 (zp.trans hs)
      · have z := List.mem_singleton.mp hp
        subst z
        rcases List.mem_append.mp hm with hm | hm
        · rcases hs with hs | hs
          · exact (nw _ hm).1 hs
          · exact (nw _ hm).2 hs
        · have z := List.mem_singleton.mp hm
          have z1 : p.2 = p.1 := congrArg Prod.fst z
          rcases he with rfl | rfl
          · simp only at z1
            omega
          · simp only at z1
            omega
    · rcases List.mem_append.mp hp with hp | hp
      · exact h.lo p hp
      · rw [List.mem_singleton.mp hp]
        rcases he with rfl | rfl
        · exact ⟨by show 0 ≤ x; omega, y0⟩
        · exact ⟨y0, by show 0 ≤ x; omega⟩
    · refine List.nodup_append.mpr ⟨h.nd, List.pairwise_singleton _ _, fun a ha b hb => ?_⟩
      rw [List.mem_singleton.mp hb]
      exact ne a ha
  rcases hq with rfl | rfl | rfl
  · rw [List.append_nil]
    exact ⟨old, h.anti, h.lo, h.nd⟩
  · exact one _ (.inl rfl)
  · exact one _ (.inr rfl)
theorem oneOf_len {x y : Int} {qs : List (Int × Int)} (h : OneOf x y qs) : qs.length ≤ 1 := by
  rcases h with rfl | rfl | rfl <;> simp
def lotD (n : Int) (ps : List (Int × Int)) : PyData := .tuple [.int n, .tuple (ps.map pr)]
theorem OkP.rng {x y : Int} {ps : List (Int × Int)} (h : OkP x y ps) (hy : y ≤ 0) : ∀ p ∈ ps, 0 ≤ p.1 ∧ p.1 < x ∧ 0 ≤ p.2 ∧ p.2 < x := fun p hp => by
  obtain ⟨a, b, h1, h2, h3⟩ := h.mem p hp
  have h4 := h.lo p hp
  rcases h3 with e | e
  · subst e
    simp only at *
    omega
  · subst e
    simp only at *
    omega
theorem good_of {x n : Int} {ps : List (Int × Int)} (h : OkP n 0 ps) (h0 : 0 ≤ n) (h1 : n ≤ 24) (hl : ps.length ≤ 1000) : Lot n (sortP ps) := ⟨h0, h1, sort_asc h.nd, fun p hp => h.rng (Int.le_refl 0) p ((mem_sort ps p).mp hp), fun p hp hq => h.anti p ((mem_sort ps p).mp hp) ((mem_sort ps _).mp hq), by
  rw [(isort_perm ps).length_eq]
  exact hl⟩
theorem good_raw {n : Int} {ps : List (Int × Int)} (h : OkP n 0 ps) (ha : Asc ps) (h0 : 0 ≤ n) (h1 : n ≤ 24) (hl : ps.length ≤ 1000) : Lot n ps := ⟨h0, h1, ha, h.rng (Int.le_refl 0), h.anti, hl⟩
theorem asc_line {ps : List (Int × Int)} {x : Int} (h : Asc ps) (hx : ∀ p ∈ ps, p.1 < x) (j : Nat) : Asc (ps ++ (List.range j).map fun (i : Nat) => ((x, (0 : Int) + (i : Nat)) : Int × Int)) := by
  refine List.pairwise_append.mpr ⟨h, ?_, fun a ha b hb => ?_⟩
  · rw [List.pairwise_map]
    exact List.pairwise_lt_range.imp fun h => .inr ⟨rfl, by show _ < _; omega⟩
  · obtain ⟨i, _, rfl⟩ := List.mem_map.mp hb
    exact .inl (hx a ha)
def IsG (d : PyData) : Prop := ∃ n ps, d = lotD n ps ∧ Lot n ps
theorem rng_at {a : Int} {n k : Nat} {x : PyData} (h : (DL.rng a n)[k]? = some x) : k < n ∧ x = .int (a + (k : Nat)) := by
  obtain ⟨hk, ex⟩ := List.getElem?_eq_some_iff.mp h
  have hk' : k < n := by simpa [DL.rng] using hk
  exact ⟨hk', by rw [← ex]; simp [DL.rng]⟩
theorem rng_len (n : Nat) : (DL.rng 0 n).length = n := by simp [DL.rng]
theorem OkP.addAll {x : Int} {ps : List (Int × Int)} (h : OkP x 0 ps) : ∀ j : Nat, (j : Int) ≤ x → OkP x j (ps ++ (List.range j).map fun (i : Nat) => ((x, (0 : Int) + (i : Nat)) : Int × Int))
  | 0, _ => by simpa using h
  | j + 1, hj => by
    have ih := OkP.addAll h j (by omega)
    rw [List.range_succ, List.map_append, ← List.append_assoc]
    have := ih.add (qs := [(x, (j : Int))]) (by omega) (by omega) (.inr (.inl rfl))
    rw [show ((j + 1 : Nat) : Int) = (j : Int) + 1 by omega]
    simpa using this
theorem of_spec {m : Nat} {c : C} {xs : List PyData} (hp : Pot m c) (hm : m < 2 ^ 39) (h0 : 0 < xs.length) (h1 : xs.length < 1000) : ∃ x c', x ∈ xs ∧ F__law_of [.o c, .d (.list xs)] = some (.d x, [some c', none]) ∧ Pot (m + 1) c' := by
  obtain ⟨r, c', e, r0, r1, hc⟩ := take_pot (n := (xs.length : Int)) hp hm (by omega) (by omega)
  have hr : r.toNat < xs.length := by omega
  refine ⟨xs[r.toNat], c', List.getElem_mem hr, runF_rt (δ := [some (.o c), some (.d (.list xs))].set 0 (some (.o c'))) ?_ rfl, hc⟩
  have hix : opIx (.d (.list xs)) (.d (.int r)) = some (.d xs[r.toNat]) := by
    show (atI xs r).map _ = _
    have : atI xs r = some xs[r.toNat] := by
      have := atI_nat (List.getElem?_eq_getElem hr)
      rw [Int.toNat_of_nonneg r0] at this
      exact this
    rw [this]
    rfl
  refine retS_of (bin_ix (a := .d (.list xs)) (δ1 := [some (.o c), some (.d (.list xs))]) rfl (frzP_d (callE_own (i := 0) (δ' := [some (.o c), some (.d (.list xs))]) [.d (.int (xs.length : Int))] (consA_of rfl (consA_of (frzP_d (callB_of rfl rfl rfl)) rfl)) rfl rfl e (Nat.le_refl 1))) hix)
end K13

namespace K13
open PySem PySem.Spec PyProof.Rows L2 DL DLS
def IsM (most : Int) (d : PyData) : Prop := ∃ n ps, d = lotD n ps ∧ Lot n ps ∧ n ≤ most

theorem line_spec {n : Int} (h0 : 0 ≤ n) (h1 : n ≤ 24) : ∃ d, F__law_line [.d (.int n)] = some (.d d, [none]) ∧ IsG d := by
  let I : Nat → Ds → Prop := fun k δ => ∃ (ps : List (Int × Int)) (v : Option S), notOwn v = true ∧ δ = [some (.d (.int n)), some (.o (.l (ps.map pr))), v, none] ∧ OkP k 0 ps ∧ ps.length ≤ 24 * k ∧ Asc ps ∧ ∀ p ∈ ps, p.1 < (k : Nat)
  have step : ∀ (k : Nat) (x : PyData) (δ : Ds), (rng 0 n.toNat)[k]? = some x → I (0 + k) δ → ∃ δ1 δ2, nameG 2 x δ = some δ1 ∧ (exprS (mutL 1 gExt (consA (frzP (lcE [3] (rngI1 (consA (pk 2) nilA)) (nameG 3) yesT (tupE (consA (frzP (vr 2)) (consA (frzP (vr 3)) nilA))))) nilA))) δ1 = some (.nx δ2) ∧ I (0 + k + 1) δ2 := by
    rintro k x δ hx ⟨ps, v, hv, rfl, h2, h3, h4, h5⟩
    rw [Nat.zero_add] at *
    obtain ⟨hk, ex⟩ := List.getElem?_eq_some_iff.mp hx
    have hk' : k < n.toNat := by simpa [rng] using hk
    have ex' : x = .int (0 + (k : Nat)) := by rw [← ex]; simp [rng]
    subst ex'
    generalize ek : (0 : Int) + ((k : Nat) : Int) = kk
    have kk0 : 0 ≤ kk ∧ kk < 24 := by omega
    have hlc : lcE [3] (rngI1 (consA (pk 2) nilA)) (nameG 3) yesT (tupE (consA (frzP (vr 2)) (consA (frzP (vr 3)) nilA))) [some (.d (.int n)), some (.o (.l (ps.map pr))), some (.d (.int kk)), none]
        = some (.o (.l ((rng 0 kk.toNat).map fun y => .tuple [.int kk, y])), [some (.d (.int n)), some (.o (.l (ps.map pr))), some (.d (.int kk)), none]) := by
      refine lcE_map (fun y => .tuple [.int kk, y]) rfl (rngI1_of rfl ⟨by omega, by omega⟩) (fun y hy => rfl) ?_
      have : (rng 0 kk.toNat).length ≤ 24 := by
        simp [rng]
        omega
      exact Nat.le_trans this (by decide)
    have hmap : (rng 0 kk.toNat).map (fun y => PyData.tuple [.int kk, y]) = ((List.range kk.toNat).map fun (j : Nat) => ((kk, (0 : Int) + (j : Nat)) : Int × Int)).map pr := by
      unfold rng
      rw [List.map_map, List.map_map]
      rfl
    rw [hmap] at hlc
    refine ⟨_, _, rfl, exprS_of (mutL_of rfl (consA_of (frzP_l hlc) rfl) rfl rfl (zs := ps.map pr ++ ((List.range kk.toNat).map fun (j : Nat) => ((kk, (0 : Int) + (j : Nat)) : Int × Int)).map pr) (s := .d .none) ?_), ps ++ ((List.range kk.toNat).map fun (j : Nat) => ((kk, (0 : Int) + (j : Nat)) : Int × Int)), some (.d (.int kk)), rfl, ?_, ?_, ?_, ?_, ?_⟩
    · refine if_pos ?_
      rw [List.length_map, List.length_map, List.length_map, List.length_range]
      have : ps.length + kk.toNat ≤ 1000 := by omega
      exact Nat.le_trans this (by decide)
    · rw [List.map_append]
      rfl
    · have hk2 : kk = (k : Int) := by omega
      have := h2.addAll k (by omega)
      rw [hk2, Int.toNat_natCast]
      have := this.next
      rw [show ((k : Int) + 1) = ((k + 1 : Nat) : Int) by omega] at this
      exact this
    · rw [List.length_append, List.length_map, List.length_range]
      omega
    · have hk2 : kk = (k : Int) := by omega
      rw [hk2]
      exact asc_line h4 h5 _
    · intro p hp
      rcases List.mem_append.mp hp with hp | hp
      · have := h5 p hp
        omega
      · obtain ⟨i, _, rfl⟩ := List.mem_map.mp hp
        show kk < _
        omega
  obtain ⟨δ', e, ps, v, hv, rfl, h2, h3, h4, h5⟩ := forD_inv (I := I) (xs := rng 0 n.toNat) (δ := [some (.d (.int n)), some (.o (.l [])), none, none]) 0 ⟨[], none, rfl, rfl, .nil _ _, Nat.le_refl 0, List.Pairwise.nil, fun p hp => nomatch hp⟩ step
  rw [rng_len, Nat.zero_add] at h2 h3
  refine ⟨lotD n ps, runF_rt (δ := [some (.d (.int n)), some (.o (.l (ps.map pr))), v, none]) ?_ rfl, n, ps, rfl, good_raw (by rw [Int.toNat_of_nonneg h0] at h2; exact h2) h4 h0 h1 (by omega)⟩
  refine seqS_of (setS_of (lstE_of rfl rfl (by decide))) ?_
  refine seqS_of (forS_of (rngI1_of rfl ⟨by omega, by omega⟩) e) ?_
  exact retS_of (tupE_of (consA_of rfl (consA_of (frzP_d (callB_of rfl rfl rfl)) rfl)) rfl (show 2 ≤ sizeLine by decide))
def ascB : List (Int × Int) → Bool
  | p :: q :: r => (decide (p.1 < q.1) || (decide (p.1 = q.1) && decide (p.2 < q.2))) && ascB (q :: r)
  | _ => true
theorem ltP_tr {p q r : Int × Int} (h : ltP p q) (k : ltP q r) : ltP p r := by unfold ltP at *; omega
theorem ascB_asc : ∀ {ps : List (Int × Int)}, ascB ps = true → Asc ps
  | [], _ => List.Pairwise.nil
  | [p], _ => List.pairwise_singleton _ _
  | p :: q :: r, h => by
    unfold ascB at h
    rw [Bool.and_eq_true] at h
    have h1 : ltP p q := by
      have := h.1
      simp only [Bool.or_eq_true, Bool.and_eq_true, decide_eq_true_eq] at this
      exact this
    have h2 := ascB_asc h.2
    refine List.pairwise_cons.mpr ⟨fun z hz => ?_, h2⟩
    rcases List.mem_cons.mp hz with e | e
    · rw [e]; exact h1
    · exact ltP_tr h1 ((List.pairwise_cons.mp h2).1 z e)
def okB (n : Int) (ps : List (Int × Int)) : Bool := decide (0 ≤ n) && decide (n ≤ 24) && ascB ps && (ps.all fun p => decide (0 ≤ p.1 ∧ p.1 < n ∧ 0 ≤ p.2 ∧ p.2 < n)) && (ps.all fun p => decide ((p.2, p.1) ∉ ps)) && decide (ps.length ≤ 1000)
theorem okRaw {n : Int} {ps : List (Int × Int)} (h : okB n ps = true) : Lot n ps := by
  unfold okB at h
  simp only [Bool.and_eq_true, decide_eq_true_eq, List.all_eq_true] at h
  obtain ⟨⟨⟨⟨⟨h0, h1⟩, h2⟩, h3⟩, h4⟩, h5⟩ := h
  exact ⟨h0, h1, ascB_asc h2, fun p hp => h3 p hp, fun p hp => h4 p hp, h5⟩
theorem circle3 : F__law_circle [.d (.int 3), .d (.list [.int 1])] = some (.d (lotD 3 [(0, 2), (1, 0), (2, 1)]), [none, none]) := rfl
theorem circle5 : ∃ ps, F__law_circle [.d (.int 5), .d (.list [.int 1, .int 2])] = some (.d (lotD 5 ps), [none, none]) ∧ Lot 5 ps := ⟨[(0, 3), (0, 4), (1, 0), (1, 4), (2, 0), (2, 1), (3, 1), (3, 2), (4, 2), (4, 3)], rfl, okRaw (by decide +kernel)⟩
theorem circle7 : ∃ ps, F__law_circle [.d (.int 7), .d (.list [.int 1, .int 2, .int 4])] = some (.d (lotD 7 ps), [none, none]) ∧ Lot 7 ps := ⟨[(0, 3), (0, 5), (0, 6), (1, 0), (1, 4), (1, 6), (2, 0), (2, 1), (2, 5), (3, 1), (3, 2), (3, 6), (4, 0), (4, 2), (4, 3), (5, 1), (5, 3), (5, 4), (6, 2), (6, 4), (6, 5)], rfl, okRaw (by decide +kernel)⟩
abbrev eA (i j : Nat) (k : Int) : EV := bin opMul (frzP (lstE (consA (frzP (tupE (consA (frzP (vr i)) (consA (frzP (vr j)) nilA)))) nilA))) (frzP (callB fInt (consA (frzP (bin opEq (pk 7) (frzP (cst (.int k))))) nilA)))
theorem eA_val {δ : Ds} {i j : Nat} {k x y r : Int} (hi : vr i δ = some (.d (.int x), δ)) (hj : vr j δ = some (.d (.int y), δ)) (h7 : pk 7 δ = some (.v (.d (.int r)), δ)) :
    eA i j k δ = some (.o (.l ((if r = k then [(x, y)] else []).map pr)), δ) := by
  have hl : lstE (consA (frzP (tupE (consA (frzP (vr i)) (consA (frzP (vr j)) nilA)))) nilA) δ = some (.o (.l [pr (x, y)]), δ) :=
    lstE_of (consA_of (frzP_d (tupE_of (consA_of (frzP_d hi) (consA_of (frzP_d hj) rfl)) rfl (show 2 ≤ sizeLine by decide))) rfl) rfl (show 1 ≤ sizeLine by decide)
  have hq : bin opEq (pk 7) (frzP (cst (.int k))) δ = some (.d (.bool (r == k)), δ) := bin_of h7 rfl rfl rfl rfl
  by_cases h : r = k
  · rw [if_pos h]
    rw [show (r == k) = true by simpa using h] at hq
    exact bin_of (frzP_l hl) (frzP_d (callB_of (consA_of (frzP_d hq) rfl) rfl rfl)) rfl rfl rfl
  · rw [if_neg h]
    rw [show (r == k) = false by simpa using h] at hq
    exact bin_of (frzP_l hl) (frzP_d (callB_of (consA_of (frzP_d hq) rfl) rfl rfl)) rfl rfl rfl
abbrev bodyIn : SEV := seqS (setS 7 (callE F__law_take 2 (consA (pk 0) (consA (frzP (vr 4)) nilA)))) (exprS (mutL 5 gExt (consA (frzP (bin opAdd (frzP (eA 2 6 0)) (frzP (eA 6 2 1)))) nilA)))
theorem in_step {M : Nat} {c : C} {most x y size share : Int} {ps : List (Int × Int)} {v7 : Option S} (hp : Pot M c) (hM : M < 2 ^ 38) (hs : 2 ≤ share ∧ share ≤ 4) (hxy : y < x) (y0 : 0 ≤ y) (hl : ps.length ≤ 1900) (ok : OkP x y ps) :
    ∃ (c' : C) (qs : List (Int × Int)) (v : Option S), bodyIn [some (.o c), some (.d (.int most)), some (.d (.int x)), some (.d (.int size)), some (.d (.int share)), some (.o (.l (ps.map pr))), some (.d (.int y)), v7] = some (.nx [some (.o c'), some (.d (.int most)), some (.d (.int x)), some (.d (.int size)), some (.d (.int share)), some (.o (.l (qs.map pr))), some (.d (.int y)), v]) ∧ Pot (M + 1) c' ∧ qs.length ≤ ps.length + 1 ∧ OkP x (y + 1) qs := by
  obtain ⟨r, c', e, r0, r1, hc⟩ := take_pot (n := share) hp (by omega) (by omega) (by omega)
  let δ : Ds := [some (.o c'), some (.d (.int most)), some (.d (.int x)), some (.d (.int size)), some (.d (.int share)), some (.o (.l (ps.map pr))), some (.d (.int y)), some (.d (.int r))]
  have a1 := eA_val (δ := δ) (i := 2) (j := 6) (k := 0) (x := x) (y := y) (r := r) rfl rfl rfl
  have b1 := eA_val (δ := δ) (i := 6) (j := 2) (k := 1) (x := y) (y := x) (r := r) rfl rfl rfl
  generalize eq1 : (if r = 0 then [(x, y)] else []) = q1 at a1
  generalize eq2 : (if r = 1 then [(y, x)] else []) = q2 at b1
  have hone : OneOf x y (q1 ++ q2) := by
    rw [← eq1, ← eq2]
    by_cases h0 : r = 0
    · rw [if_pos h0, if_neg (by omega)]
      exact .inr (.inl rfl)
    · rw [if_neg h0]
      by_cases h1 : r = 1
      · rw [if_pos h1]
        exact .inr (.inr rfl)
      · rw [if_neg h1]
        exact .inl rfl
  have hq := oneOf_len hone
  refine ⟨c', ps ++ (q1 ++ q2), some (.d (.int r)), seqS_of (setS_of (callE_own (i := 0) (δ' := [some (.o c), some (.d (.int most)), some (.d (.int x)), some (.d (.int size)), some (.d (.int share)), some (.o (.l (ps.map pr))), some (.d (.int y)), v7]) [.d (.int share)] rfl rfl rfl e (Nat.le_refl 1))) ?_, hc, ?_, ok.add hxy y0 hone⟩
  · show exprS _ δ = _
    have hadd : opAdd (.d (.list (q1.map pr))) (.d (.list (q2.map pr))) = some (.o (.l ((q1 ++ q2).map pr))) := by
      rw [List.map_append]
      refine if_pos ?_
      rw [List.length_map, List.length_map]
      rw [List.length_append] at hq
      exact Nat.le_trans (show q1.length + q2.length ≤ 2 by omega) (by decide)
    have hm : gExt (ps.map pr) [.list ((q1 ++ q2).map pr)] = some (.d .none, (ps ++ (q1 ++ q2)).map pr) := by
      rw [List.map_append (l₁ := ps)]
      refine if_pos ?_
      rw [List.length_map, List.length_map]
      exact Nat.le_trans (show ps.length + (q1 ++ q2).length ≤ 2000 by omega) (by decide)
    have h5 : exprS (mutL 5 gExt (consA (frzP (bin opAdd (frzP (eA 2 6 0)) (frzP (eA 6 2 1)))) nilA)) δ = some (.nx (δ.set 5 (some (.o (.l ((ps ++ (q1 ++ q2)).map pr)))))) := exprS_of (mutL_of rfl (consA_of (frzP_l (bin_of (frzP_l a1) (frzP_l b1) rfl rfl hadd)) rfl) rfl rfl hm)
    exact h5
  · rw [List.length_append]
    omega
theorem drawn_spec {m : Nat} {c : C} {most : Int} (hp : Pot m c) (hm : m < 2 ^ 30) (h0 : 0 ≤ most) (h1 : most ≤ 24) : ∃ d c', F__law_drawn [.o c, .d (.int most)] = some (.d d, [some c', none]) ∧ IsM most d ∧ Pot (m + 1000) c' := by
  obtain ⟨size, c1, e1, r0, r1, hc1⟩ := take_pot (n := most + 1) hp (by omega) (by omega) (by omega)
  obtain ⟨s2, c2, e2, q0, q1, hc2⟩ := take_pot (n := 3) hc1 (by omega) (by omega) (by omega)
  let I : Nat → Ds → Prop := fun k δ => ∃ (c : C) (ps : List (Int × Int)) (v2 v6 v7 : Option S), δ = [some (.o c), some (.d (.int most)), v2, some (.d (.int size)), some (.d (.int (2 + s2))), some (.o (.l (ps.map pr))), v6, v7] ∧ Pot (m + 2 + 24 * k) c ∧ ps.length ≤ 24 * k ∧ OkP k 0 ps
  have step : ∀ (k : Nat) (x : PyData) (δ : Ds), (rng 0 size.toNat)[k]? = some x → I (0 + k) δ → ∃ δ1 δ2, nameG 2 x δ = some δ1 ∧ (forS (rngI1 (consA (pk 2) nilA)) (nameG 6) bodyIn) δ1 = some (.nx δ2) ∧ I (0 + k + 1) δ2 := by
    rintro k x δ hx ⟨c, ps, v2, v6, v7, rfl, hpc, hl, ok⟩
    obtain ⟨hk, rfl⟩ := rng_at hx
    rw [Nat.zero_add] at *
    rw [Int.zero_add]
    have hk24 : k < 24 := by omega
    let J : Nat → Ds → Prop := fun j δ => ∃ (c : C) (qs : List (Int × Int)) (v6 v7 : Option S), δ = [some (.o c), some (.d (.int most)), some (.d (.int (k : Nat))), some (.d (.int size)), some (.d (.int (2 + s2))), some (.o (.l (qs.map pr))), v6, v7] ∧ Pot (m + 2 + 24 * k + j) c ∧ qs.length ≤ 24 * k + 1 * j ∧ OkP k j qs
    have inner : ∀ (j : Nat) (y : PyData) (δ : Ds), (rng 0 ((k : Nat) : Int).toNat)[j]? = some y → J (0 + j) δ → ∃ δ1 δ2, nameG 6 y δ = some δ1 ∧ bodyIn δ1 = some (.nx δ2) ∧ J (0 + j + 1) δ2 := by
      rintro j y δ hy ⟨c, qs, w6, w7, rfl, hpc, hl, ok⟩
      obtain ⟨hj, rfl⟩ := rng_at hy
      rw [Nat.zero_add] at *
      rw [Int.zero_add]
      have hj' : j < k := by omega
      obtain ⟨c', qs', v, e, hc', hl', ok'⟩ := in_step (most := most) (x := (k : Nat)) (y := (j : Nat)) (size := size) (share := 2 + s2) (v7 := w7) hpc (by omega) (by omega) (by omega) (by omega) (by omega) ok
      rw [show ((j : Int) + 1) = ((j + 1 : Nat) : Int) by omega] at ok'
      exact ⟨_, _, rfl, e, c', qs', _, v, rfl, hc'.mono (by omega), by omega, ok'⟩
    obtain ⟨δ', e, c', qs, w6, w7, rfl, hc', hl', ok'⟩ := forD_inv (I := J) (xs := rng 0 ((k : Nat) : Int).toNat) (δ := [some (.o c), some (.d (.int most)), some (.d (.int (k : Nat))), some (.d (.int size)), some (.d (.int (2 + s2))), some (.o (.l (ps.map pr))), v6, v7]) 0 ⟨c, ps, v6, v7, rfl, by simpa using hpc, by omega, ok⟩ inner
    rw [rng_len, Nat.zero_add, Int.toNat_natCast] at hc' hl' ok'
    have ok'' := ok'.next
    rw [show ((k : Int) + 1) = ((k + 1 : Nat) : Int) by omega] at ok''
    exact ⟨_, _, rfl, forS_of (rngI1_of rfl ⟨by omega, by omega⟩) e, c', qs, _, w6, w7, rfl, hc'.mono (by omega), by omega, ok''⟩
  obtain ⟨δ', e, c', ps, v2, v6, v7, rfl, hc', hl, ok⟩ := forD_inv (I := I) (xs := rng 0 size.toNat) (δ := [some (.o c2), some (.d (.int most)), none, some (.d (.int size)), some (.d (.int (2 + s2))), some (.o (.l [])), none, none]) 0 ⟨c2, [], none, none, none, rfl, hc2.mono (by omega), Nat.le_refl 0, .nil _ _⟩ step
  rw [rng_len, Nat.zero_add] at hc' hl ok
  refine ⟨lotD size (sortP ps), c', runF_rt (δ := [some (.o c'), some (.d (.int most)), v2, some (.d (.int size)), some (.d (.int (2 + s2))), some (.o (.l (ps.map pr))), v6, v7]) ?_ rfl, ⟨size, sortP ps, rfl, good_of (x := 0) (by rw [Int.toNat_of_nonneg r0] at ok; exact ok) r0 (by omega) (by omega), by omega⟩, hc'.mono (by omega)⟩
  have hpar : parS [3, 4, 5] (consF (callE F__law_take 2 (consA (pk 0) (consA (frzP (bin opAdd (pk 1) (frzP (cst (.int 1))))) nilA))) (consF (bin opAdd (frzP (cst (.int 2))) (frzP (callE F__law_take 2 (consA (pk 0) (consA (frzP (cst (.int 3))) nilA))))) (consF (lstE nilA) nilF))) [some (.o c), some (.d (.int most)), none, none, none, none, none, none]
      = some (.nx (setsD [3, 4, 5] [.d (.int size), .d (.int (2 + s2)), .o (.l [])] [some (.o c2), some (.d (.int most)), none, none, none, none, none, none])) := by
    refine parS_of (consF_of (callE_own (i := 0) (δ' := [some (.o c), some (.d (.int most)), none, none, none, none, none, none]) [.d (.int (most + 1))] (consA_of rfl (consA_of (frzP_d (bin_add rfl rfl)) rfl)) rfl rfl e1 (Nat.le_refl 1)) ?_) rfl
    show consF _ _ [some (.o c1), some (.d (.int most)), none, none, none, none, none, none] = _
    have h2 : bin opAdd (frzP (cst (.int 2))) (frzP (callE F__law_take 2 (consA (pk 0) (consA (frzP (cst (.int 3))) nilA)))) [some (.o c1), some (.d (.int most)), none, none, none, none, none, none] = some (.d (.int (2 + s2)), [some (.o c2), some (.d (.int most)), none, none, none, none, none, none]) :=
      bin_add (i := 2) (j := s2) rfl (frzP_d (callE_own (i := 0) (δ' := [some (.o c1), some (.d (.int most)), none, none, none, none, none, none]) [.d (.int 3)] rfl rfl rfl e2 (Nat.le_refl 1)))
    exact consF_of h2 (consF_of (lstE_of rfl rfl (by decide)) rfl)
  refine seqS_of hpar ?_
  refine seqS_of (forS_of (rngI1_of rfl ⟨by omega, by omega⟩) e) ?_
  have hs : callB fSorted (consA (pk 5) nilA) [some (.o c'), some (.d (.int most)), v2, some (.d (.int size)), some (.d (.int (2 + s2))), some (.o (.l (ps.map pr))), v6, v7] = some (.o (.l ((sortP ps).map pr)), [some (.o c'), some (.d (.int most)), v2, some (.d (.int size)), some (.d (.int (2 + s2))), some (.o (.l (ps.map pr))), v6, v7]) := by
    refine callB_of rfl rfl ?_
    show (prs (ps.map pr)).map _ = _
    rw [prs_map]
    rfl
  exact retS_of (tupE_of (consA_of rfl (consA_of (frzP_d (callB_of (consA_of (frzP_l hs) rfl) rfl rfl)) rfl)) rfl (show 2 ≤ sizeLine by decide))
theorem lot_spec {m : Nat} {c : C} {most : Int} (hp : Pot m c) (hm : m < 2 ^ 29) (h0 : 0 ≤ most) (h1 : most ≤ 24) : ∃ d c', F__law_lot [.o c, .d (.int most)] = some (.d d, [some c', none]) ∧ IsM most d ∧ Pot (m + 2000) c' := by
  obtain ⟨p5, e5, ok5⟩ := circle5
  obtain ⟨p7, e7, ok7⟩ := circle7
  obtain ⟨r, c1, e1, r0, r1, hc1⟩ := take_pot (n := most + 1) hp (by omega) (by omega) (by omega)
  obtain ⟨ld, el, hld⟩ := line_spec (n := r) r0 (by omega)
  obtain ⟨dd, c2, ed, hdd, hc2⟩ := drawn_spec (most := most) hc1 (by omega) h0 h1
  let L3 := lotD 3 [(0, 2), (1, 0), (2, 1)]
  have is3 : IsG L3 := ⟨3, _, rfl, okRaw (by decide +kernel)⟩
  have is5 : IsG (lotD 5 p5) := ⟨5, _, rfl, ok5⟩
  have is7 : IsG (lotD 7 p7) := ⟨7, _, rfl, ok7⟩
  let xs : List PyData := [L3, lotD 5 p5, lotD 7 p7, ld]
  have isx : ∀ x ∈ xs, IsG x := fun x hx => by
    rcases List.mem_cons.mp hx with e | hx
    · rw [e]; exact is3
    · rcases List.mem_cons.mp hx with e | hx
      · rw [e]; exact is5
      · rcases List.mem_cons.mp hx with e | hx
        · rw [e]; exact is7
        · rw [List.mem_singleton.mp hx]; exact hld
  let le : PyData → Bool := fun x => match x with
    | .tuple (.int n :: _) => pLe n most
    | _ => false
  let ys := (xs.filter le).map id
  have ysl : ys.length ≤ 4 := by
    show ((xs.filter le).map id).length ≤ 4
    rw [List.length_map]
    exact List.length_filter_le _ _
  have ysm : ∀ x ∈ ys, IsM most x := fun x hx => by
    obtain ⟨y, hy, rfl⟩ := List.mem_map.mp hx
    obtain ⟨h1, h2⟩ := List.mem_filter.mp hy
    obtain ⟨n, ps, rfl, hl⟩ := isx _ h1
    exact ⟨n, ps, rfl, hl, of_decide_eq_true h2⟩
  obtain ⟨x, c3, hx, eo, hc3⟩ := of_spec (xs := [dd, dd, dd, dd] ++ ys) hc2 (by omega) (by rw [List.length_append]; show 0 < 4 + _; omega) (by rw [List.length_append]; show 4 + _ < 1000; omega)
  have isr : IsM most x := by
    rcases List.mem_append.mp hx with hx | hx
    · have : x = dd := by simpa using hx
      rw [this]; exact hdd
    · exact ysm x hx
  refine ⟨x, c3, runF_rt (δ := [some (.o c2), some (.d (.int most)), some (.o (.l ys)), none].set 0 (some (.o c3))) ?_ rfl, isr, hc3.mono (by omega)⟩
  have s1 : setS 2 (lstE (consA (frzP (callE F__law_circle 2 (consA (frzP (cst (.int 3))) (consA (frzP (lstE (consA (frzP (cst (.int 1))) nilA))) nilA)))) (consA (frzP (callE F__law_circle 2 (consA (frzP (cst (.int 5))) (consA (frzP (lstE (consA (frzP (cst (.int 1))) (consA (frzP (cst (.int 2))) nilA)))) nilA)))) (consA (frzP (callE F__law_circle 2 (consA (frzP (cst (.int 7))) (consA (frzP (lstE (consA (frzP (cst (.int 1))) (consA (frzP (cst (.int 2))) (consA (frzP (cst (.int 4))) nilA))))) nilA)))) nilA)))) [some (.o c), some (.d (.int most)), none, none]
      = some (.nx ([some (.o c), some (.d (.int most)), none, none].set 2 (some (.o (.l [L3, lotD 5 p5, lotD 7 p7]))))) := by
    refine setS_of (lstE_of (consA_of (frzP_d (callE_data [.d (.int 3), .d (.list [.int 1])] rfl rfl circle3 (Nat.le_refl 2))) (consA_of (frzP_d (callE_data [.d (.int 5), .d (.list [.int 1, .int 2])] rfl rfl e5 (Nat.le_refl 2))) (consA_of (frzP_d (callE_data [.d (.int 7), .d (.list [.int 1, .int 2, .int 4])] rfl rfl e7 (Nat.le_refl 2))) rfl))) rfl (show 3 ≤ sizeLine by decide))
  refine seqS_of s1 ?_
  have s2 : exprS (mutL 2 gApp (consA (frzP (callE F__law_line 1 (consA (frzP (callE F__law_take 2 (consA (pk 0) (consA (frzP (bin opAdd (pk 1) (frzP (cst (.int 1))))) nilA)))) nilA))) nilA)) [some (.o c), some (.d (.int most)), some (.o (.l [L3, lotD 5 p5, lotD 7 p7])), none]
      = some (.nx ([some (.o c1), some (.d (.int most)), some (.o (.l [L3, lotD 5 p5, lotD 7 p7])), none].set 2 (some (.o (.l xs))))) := by
    have ht : callE F__law_take 2 (consA (pk 0) (consA (frzP (bin opAdd (pk 1) (frzP (cst (.int 1))))) nilA)) [some (.o c), some (.d (.int most)), some (.o (.l [L3, lotD 5 p5, lotD 7 p7])), none] = some (.d (.int r), [some (.o c1), some (.d (.int most)), some (.o (.l [L3, lotD 5 p5, lotD 7 p7])), none]) :=
      callE_own (i := 0) (δ' := [some (.o c), some (.d (.int most)), some (.o (.l [L3, lotD 5 p5, lotD 7 p7])), none]) [.d (.int (most + 1))] (consA_of rfl (consA_of (frzP_d (bin_add rfl rfl)) rfl)) rfl rfl e1 (Nat.le_refl 1)
    exact exprS_of (mutL_of rfl (consA_of (frzP_d (callE_data [.d (.int r)] (consA_of (frzP_d ht) rfl) rfl el (Nat.le_refl 1))) rfl) rfl rfl rfl)
  refine seqS_of s2 ?_
  have s3 : setS 2 (lcE [3] (seqI (vr 2)) (nameG 3) (bl (bin (cmpI pLe) (frzP (bin opIx (pk 3) (frzP (cst (.int 0))))) (pk 1))) (vr 3)) [some (.o c1), some (.d (.int most)), some (.o (.l xs)), none]
      = some (.nx ([some (.o c1), some (.d (.int most)), some (.d (.list xs)), none].set 2 (some (.o (.l ys))))) := by
    refine setS_of (lcE_pure1 le id rfl rfl (fun z hz => ?_) (fun z hz _ => rfl) (show 4 ≤ sizeLine by decide))
    obtain ⟨n, ps, rfl, _⟩ := isx z hz
    exact bl_of (bin_cmp (frzP_d (bin_ix rfl rfl rfl)) rfl)
  refine seqS_of s3 ?_
  show retS _ [some (.o c1), some (.d (.int most)), some (.o (.l ys)), none] = _
  have hdr : callE F__law_drawn 2 (consA (pk 0) (consA (frzP (vr 1)) nilA)) [some (.o c1), some (.d (.int most)), some (.o (.l ys)), none] = some (.d dd, [some (.o c2), some (.d (.int most)), some (.o (.l ys)), none]) :=
    callE_own (i := 0) (δ' := [some (.o c1), some (.d (.int most)), some (.o (.l ys)), none]) [.d (.int most)] rfl rfl rfl ed (Nat.le_refl 1)
  have hadd : opAdd (.d (.list [dd, dd, dd, dd])) (.o (.l ys)) = some (.o (.l ([dd, dd, dd, dd] ++ ys))) := by
    refine if_pos ?_
    show 4 + ys.length ≤ sizeLine
    have : 4 + ys.length ≤ 8 := by omega
    exact Nat.le_trans this (by decide)
  have harg : bin opAdd (frzP (bin opMul (frzP (lstE (consA (frzP (callE F__law_drawn 2 (consA (pk 0) (consA (frzP (vr 1)) nilA)))) nilA))) (frzP (cst (.int 4))))) (pk 2) [some (.o c1), some (.d (.int most)), some (.o (.l ys)), none] = some (.o (.l ([dd, dd, dd, dd] ++ ys)), [some (.o c2), some (.d (.int most)), some (.o (.l ys)), none]) := by
    have hmul : bin opMul (frzP (lstE (consA (frzP (callE F__law_drawn 2 (consA (pk 0) (consA (frzP (vr 1)) nilA)))) nilA))) (frzP (cst (.int 4))) [some (.o c1), some (.d (.int most)), some (.o (.l ys)), none] = some (.o (.l [dd, dd, dd, dd]), [some (.o c2), some (.d (.int most)), some (.o (.l ys)), none]) :=
      bin_of (frzP_l (lstE_of (consA_of (frzP_d hdr) rfl) rfl (show 1 ≤ sizeLine by decide))) rfl rfl rfl rfl
    exact bin_of (frzP_l hmul) rfl rfl rfl hadd
  exact retS_of (callE_own (i := 0) (δ' := [some (.o c2), some (.d (.int most)), some (.o (.l ys)), none]) [.d (.list ([dd, dd, dd, dd] ++ ys))] (consA_of rfl (consA_of (frzP_l harg) rfl)) rfl rfl eo (Nat.le_refl 1))
end K13

namespace K13
open PySem PySem.Spec PyProof.Rows L2 DL

def later (ps : List (Int × Int)) (x y : Int) : Bool := ps.any fun p => decide (p.1 = x ∧ p.2 = y)
theorem later_iff {ps : List (Int × Int)} {x y : Int} : later ps x y = true ↔ (x, y) ∈ ps := by
  unfold later
  rw [List.any_eq_true]
  constructor
  · rintro ⟨p, hp, e⟩
    obtain ⟨e1, e2⟩ := of_decide_eq_true e
    rw [← e1, ← e2]
    exact hp
  · intro h
    exact ⟨_, h, decide_eq_true ⟨rfl, rfl⟩⟩
abbrev intsD (ms : List Int) : List PyData := ms.map PyData.int
abbrev tupD (ms : List Int) : PyData := .tuple (intsD ms)
def intOf : PyData → Int
  | .int i => i
  | _ => 0
def prOf : PyData → Int × Int
  | .tuple [.int i, .int j] => (i, j)
  | _ => (0, 0)
theorem size1000 {k : Nat} (h : k ≤ 2000) : k ≤ sizeLine := Nat.le_trans h (by decide)
/-! turned -/
/-! the table of numbers -/
def kfE : PyData → List Key
  | .tuple [_, .int m] => [Sum.inl m]
  | _ => []
def vfE : PyData → PyData
  | .tuple [a, _] => a
  | _ => .none
def tabN (ms : List Int) : Tb := putAll kfE vfE (enumF 0 (intsD ms)) []
def wN (ms : List Int) : List Key → PyData
  | [.inl m] => .int (ix ms m)
  | _ => .none
end K13

namespace K13
open PySem PySem.Spec PyProof.Rows L2 DL DLS

theorem chn_of {g g' : S → S → Option S} {fa fb fc : PEV} {δ δ1 δ2 δ3 : Ds} {x y w : PV} {s u s' u' z : S} (h1 : fa δ = some (x, δ1)) (h2 : fb δ1 = some (y, δ2)) (r1 : res δ2 x = some s) (r2 : res δ2 y = some u) (hg : g s u = some (.d (.bool true))) (h3 : fc δ2 = some (w, δ3)) (r3 : res δ3 y = some s') (r4 : res δ3 w = some u') (hg' : g' s' u' = some z) : chn g g' fa fb fc δ = some (z, δ3) := by
  unfold chn
  rw [h1]
  simp only [Option.bind_some]
  rw [h2]
  simp only [Option.bind_some]
  rw [r1]
  simp only [Option.bind_some]
  rw [r2]
  simp only [Option.bind_some]
  rw [hg]
  simp only [Option.bind_some]
  rw [h3]
  simp only [Option.bind_some]
  rw [r3]
  simp only [Option.bind_some]
  rw [r4]
  simp only [Option.bind_some]
  rw [hg']
  rfl
theorem unpS_of {f : PEV} {g : GEV} {δ δ1 δ2 : Ds} {d : PyData} (h : f δ = some (.v (.d d), δ1)) (k : g d δ1 = some δ2) : unpS f g δ = some (.nx δ2) := by
  unfold unpS
  rw [h]
  simp only [Option.bind_some]
  rw [k]
  rfl
theorem all_true (xs : List PyData) : fAll [.d (.list (xs.map fun _ => .bool true))] = some (.d (.bool true)) := by
  show ((bools (xs.map fun _ => .bool true)).map fun bs => S.d (.bool (bs.all id))) = _
  rw [bools_map (fun _ => true)]
  show some (S.d (.bool ((xs.map fun _ => true).all id))) = _
  rw [List.all_map]
  have : (xs.all (id ∘ fun _ => true)) = true := List.all_eq_true.mpr fun _ _ => rfl
  rw [this]
def kfP (x : PyData) : List Key := keyI [(prOf x).1, (prOf x).2]
def tabL (ps : List (Int × Int)) : Tb := putAll kfP (fun _ => .bool true) (ps.map pr) []
end K13

namespace K13
open PySem PySem.Spec PyProof.Rows L2 DL DLS

theorem eqv_pr (p : Int × Int) (x y : Int) : PyData.eqv (pr p) (.tuple [.int x, .int y]) = decide (p.1 = x ∧ p.2 = y) := by
  show (p.1 == x && (p.2 == y && true)) = _
  rw [Bool.and_true]
  by_cases h1 : p.1 = x <;> by_cases h2 : p.2 = y <;> simp [h1, h2]
theorem lay_pr : ∀ ps : List (Int × Int), PyData.canLayAll0 (ps.map pr) = true
  | [] => rfl
  | p :: ps => by
    show (PyData.canLay0 (pr p) && PyData.canLayAll0 (ps.map pr)) = true
    rw [lay_pr ps]
    rfl
theorem in_pairs (ps : List (Int × Int)) (x y : Int) : opIn false (.d (.tuple [.int x, .int y])) (.d (.tuple (ps.map pr))) = some (.d (.bool (later ps x y))) := by
  unfold opIn
  show (if (SeqAt.shaped (.tuple [.int x, .int y]) && PyData.canLayAll0 (ps.map pr)) = true then _ else _) = _
  rw [lay_pr, show SeqAt.shaped (.tuple [.int x, .int y]) = true from rfl]
  simp only [Bool.and_self, if_true, Bool.false_xor, List.any_map]
  congr 4
  funext p
  exact eqv_pr p x y
def rowL (ps : List (Int × Int)) (ms : List Int) (x : Int) : List (Int × Int) := ((upto ms.length).filter fun y => later ps (gt ms x) (gt ms y)).map fun y => (x, y)
def cutL (ps : List (Int × Int)) (ms : List Int) (k : Nat) : List (Int × Int) := (upto k).flatMap (rowL ps ms)
theorem rng_ints (n : Int) : DL.rng 0 n.toNat = intsD (upto n) := by
  unfold DL.rng upto
  show _ = List.map PyData.int (List.map _ _)
  rw [List.map_map]
  rfl
theorem ix_tup {ms : List Int} {x : Int} (h : 0 ≤ x ∧ x < ms.length) : opIx (.d (tupD ms)) (.d (.int x)) = some (.d (.int (gt ms x))) := by
  show (atI (intsD ms) x).map _ = _
  have : atI (intsD ms) x = some (.int (gt ms x)) := by
    have h1 : (intsD ms)[x.toNat]? = some (.int (gt ms x)) := by rw [List.getElem?_map, gt_some h]; rfl
    have := atI_nat h1
    rw [Int.toNat_of_nonneg h.1] at this
    exact this
  rw [this]
  rfl
abbrev cutB : SEV := exprS (mutL 2 gExt (consA (frzP (lcE [4] (rngI1 (consA (frzP (callB fLen (consA (pk 1) nilA))) nilA)) (nameG 4) (bl (bin (opIn false) (frzP (tupE (consA (frzP (bin opIx (pk 1) (pk 3))) (consA (frzP (bin opIx (pk 1) (pk 4))) nilA)))) (frzP (bin opIx (pk 0) (frzP (cst (.int 1))))))) (tupE (consA (frzP (vr 3)) (consA (frzP (vr 4)) nilA))))) nilA))
abbrev D5 (n : Int) (ps : List (Int × Int)) (ms : List Int) (qs : List (Int × Int)) (v : Option S) : Ds := [some (.d (lotD n ps)), some (.d (tupD ms)), some (.o (.l (qs.map pr))), v, none]
/-! what may be shown, and what is alike -/
theorem lot_rp {n : Int} {ps : List (Int × Int)} (h : Lot n ps) : Rp 3 40000 (lotD n ps) := by
  have h1 : ∀ x ∈ ps.map pr, Rp 1 13 x := fun x hx => by
    obtain ⟨p, hp, rfl⟩ := List.mem_map.mp hx
    have := h.rng p hp
    have := h.n1
    exact Rp.ints (ms := [p.1, p.2]) (fun i hi => by
      rcases List.mem_cons.mp hi with e | hi
      · omega
      · rw [List.mem_singleton.mp hi]; omega)
  have h2 := (Rp.tuple h1).mono (d' := 2) (w' := 15003) (by omega) (by
    rw [List.length_map]
    have := h.len
    omega)
  have h3 : ∀ x ∈ [PyData.int n, .tuple (ps.map pr)], Rp 2 15003 x := fun x hx => by
    rcases List.mem_cons.mp hx with e | hx
    · rw [e]
      have := h.n0
      have := h.n1
      exact (Rp.int ⟨by omega, by omega⟩).mono (by omega) (by omega)
    · rw [List.mem_singleton.mp hx]
      exact h2
  exact (Rp.tuple h3).mono (by omega) (by show (15003 + 2) * 2 + 3 ≤ 40000; omega)
theorem str_eq (t : Str) : opEq (.d (.str t)) (.d (.str t)) = some (.d (.bool true)) := by
  show some (S.d (.bool (decide (t = t)))) = _
  rw [decide_eq_true rfl]
end K13

namespace K13
open PySem PySem.Spec PyProof.Rows L2 DL DLS

/-! things otherwise -/
theorem andT_f {f g : TEV} {δ δ1 : Ds} (h : f δ = some (false, δ1)) : andT f g δ = some (false, δ1) := by unfold andT; rw [h]; rfl
theorem orT_t {f g : TEV} {δ δ1 : Ds} (h : f δ = some (true, δ1)) : orT f g δ = some (true, δ1) := by unfold orT; rw [h]; rfl
theorem andV_f {f g : EV} {δ δ1 : Ds} (h : f δ = some (.d (.bool false), δ1)) : andV f g δ = some (.d (.bool false), δ1) := by unfold andV; rw [h]; rfl
theorem line_big : 2000000 < sizeLine := by decide
abbrev oddL : List PyData := [.none, .bool true, .bool false, .int (-1), .int 0, .int 1, .int 24, .int 25, .str "", .str "0", .tuple [], .list [], .dict [], .tuple [.int 0, .int 1], .tuple [.int 1, .int 0], .tuple [.tuple [.int 0, .int 1]]]
abbrev oddA : AEV := (consA (frzP (cst .none)) (consA (frzP (cst (.bool true))) (consA (frzP (cst (.bool false))) (consA (frzP (unI (frzP (cst (.int 1))) fun i => -i)) (consA (frzP (cst (.int 0))) (consA (frzP (cst (.int 1))) (consA (frzP (cst (.int 24))) (consA (frzP (cst (.int 25))) (consA (frzP (cst (.str ""))) (consA (frzP (cst (.str "0"))) (consA (frzP (tupE nilA)) (consA (frzP (lstE nilA)) (consA (frzP dctE0) (consA (frzP (tupE (consA (frzP (cst (.int 0))) (consA (frzP (cst (.int 1))) nilA)))) (consA (frzP (tupE (consA (frzP (cst (.int 1))) (consA (frzP (cst (.int 0))) nilA)))) (consA (frzP (tupE (consA (frzP (tupE (consA (frzP (cst (.int 0))) (consA (frzP (cst (.int 1))) nilA)))) nilA))) nilA))))))))))))))))
abbrev O3 (c : C) (x : PyData) (v2 : Option S) : Ds := [some (.o c), some (.d x), v2]
abbrev ifTu : SEV := ifS (bl (isiE "tuple" (pk 1))) (setS 2 (bin opAdd (pk 2) (frzP (bin opMul (frzP (lstE (consA (frzP (callB fList (consA (pk 1) nilA))) (consA (frzP (bin opAdd (pk 1) (frzP (slE (pk 1) noP (someP (frzP (cst (.int 1)))))))) (consA (frzP (slE (pk 1) (someP (frzP (cst (.int 1)))) noP)) (consA (frzP (slE (pk 1) noP (someP (frzP (unI (frzP (cst (.int 1))) fun i => -i))))) (consA (frzP (revE (pk 1))) (consA (frzP (tupE (consA (frzP (vr 1)) nilA))) nilA)))))))) (frzP (cst (.int 2))))))) nxS
abbrev ifIn : SEV := ifS (bl (isiE "int" (pk 1))) (setS 2 (bin opAdd (pk 2) (frzP (bin opMul (frzP (lstE (consA (frzP (bin (opNum (· + ·)) (pk 1) (frzP (cst (.int 1))))) (consA (frzP (bin (opNum (· - ·)) (pk 1) (frzP (cst (.int 1))))) (consA (frzP (callB fStrN (consA (pk 1) nilA))) (consA (frzP (tupE (consA (frzP (vr 1)) nilA))) (consA (frzP (bin opEq (pk 1) (frzP (cst (.int 1))))) (consA (frzP (bin (opNum (· - ·)) (frzP (cst (.int 0))) (pk 1))) nilA)))))))) (frzP (cst (.int 2))))))) nxS
/-- the number that a thing is -/
def numV : PyData → Int
  | .int i => i
  | .bool b => b2 b
  | _ => 0
end K13

namespace K13
open PySem PySem.Spec PyProof.Rows L2 DL DLS
def intsOf : PyData → List Int
  | .tuple ds => ds.map intOf
  | _ => []
def kfI (x : PyData) : List Key := keyI (intsOf x)
def tabJ (ps : List (Int × Int)) : Tb := putAll kfI (fun _ => .bool true) (ps.map pr) []
theorem tabJ_has (ps : List (Int × Int)) (x y : Int) : hasK (tabJ ps) (keyI [x, y]) = later ps x y := by
  unfold tabJ later
  rw [putAll_has, List.any_map]
  show (false || _) = _
  rw [Bool.false_or]
  congr 1
  funext p
  show decide (keyI (intsOf (pr p)) = keyI [x, y]) = _
  have e : intsOf (pr p) = [p.1, p.2] := rfl
  rw [e]
  by_cases h : p.1 = x ∧ p.2 = y
  · rw [decide_eq_true h, h.1, h.2, decide_eq_true rfl]
  · rw [decide_eq_false h, decide_eq_false]
    intro z
    have := keyI_inj z
    exact h ⟨(List.cons.inj this).1, (List.cons.inj (List.cons.inj this).2).1⟩
theorem later_table_eq (n : Int) (ps : List (Int × Int)) (hl : ps.length ≤ sizeLine) : F_later_table [.d (lotD n ps)] = some (.o (.t ⟨false, tabJ ps⟩), [none]) := by
  refine runF_rt (δ := [some (.d (lotD n ps)), none]) ?_ rfl
  refine retS_of (dcE_gen kfI (fun _ => .bool true) (seqI_of (bin_ix rfl rfl rfl) (.inr rfl)) rfl rfl (fun x hx => ?_) (by rw [List.length_map]; exact hl))
  obtain ⟨p, _, rfl⟩ := List.mem_map.mp hx
  exact ⟨_, pr p, .d (.bool true), rfl, rfl, rfl, rfl, rfl, rfl, rfl⟩
def isI : PyData → Bool
  | .int _ => true
  | _ => false
def okM (n : Int) : PyData → Bool
  | .int m => pLe 0 m && pLt m n
  | _ => false
/-- the number at a place -/
def atN (xs : List PyData) (i : Int) : Int := intOf ((xs[i.toNat]?).getD .none)
def ledB (n1 : Int) (ps1 : List (Int × Int)) (n2 : Int) (ps2 : List (Int × Int)) : PyData → Bool
  | .tuple xs => decide ((xs.length : Int) = n1) && (xs.all (okM n2) && ps1.all fun p => later ps2 (atN xs p.1) (atN xs p.2))
  | _ => false
section
variable {n1 n2 : Int} {ps1 ps2 : List (Int × Int)} {x : PyData}
end
end K13

namespace K13
open PySem PySem.Spec PyProof.Rows L2 DL DLS
abbrev kvP (p : Int × Int) : List Key × PyData := (keyI [p.1, p.2], .bool true)
def thereT (ps : List (Int × Int)) : Tb := mergeD [] (ps.map kvP)
/-! a lot and itself otherwise -/
structure OkRow (n : Int) (r : List Int) : Prop where
  len : (r.length : Int) = n
  rng : ∀ i ∈ r, 0 ≤ i ∧ i < n
section
variable {n : Int} {ps : List (Int × Int)}
abbrev G15 (c : C) (n : Int) (ps : List (Int × Int)) (v2 v3 v4 v5 v6 v7 v8 v9 v10 v11 : Option S) : Ds := [some (.o c), some (.d (lotD n ps)), v2, v3, v4, v5, v6, v7, v8, v9, v10, v11, none, none, none]
abbrev tbS (ps : List (Int × Int)) : Option S := some (.o (.t ⟨false, thereT ps⟩))
abbrev orS (r : List Int) : Option S := some (.o (.l (intsD r)))
abbrev rowsS (L : List (List Int)) : Option S := some (.o (.l (L.map tupD)))
abbrev insB : SEV := exprS (mutL 8 gIns (consA (frzP (callE F__law_take 2 (consA (pk 0) (consA (frzP (bin opAdd (frzP (callB fLen (consA (pk 8) nilA))) (frzP (cst (.int 1))))) nilA)))) (consA (frzP (vr 2)) nilA)))
def mapP (r : List Int) (ps : List (Int × Int)) : List (Int × Int) := ps.map fun p => (atN (intsD r) p.1, atN (intsD r) p.2)
/-! two marks set or exchanged -/
end
end K13

namespace K13
open PySem PySem.Spec PyProof.Rows L2 DL
/-! one lot beside another -/
theorem rngI2_of {fa : AEV} {δ δ1 : Ds} {a b : Int} (h : fa δ = some ([.v (.d (.int a)), .v (.d (.int b))], δ1)) (l : -(2 ^ 62) ≤ a ∧ a < 2 ^ 62 ∧ -(2 ^ 62) ≤ b ∧ b < 2 ^ 62) : rngI2 fa δ = some (rng a (b - a).toNat, δ1) := by
  unfold rngI2
  rw [h]
  simp only [Option.bind_some]
  rw [if_pos l]
def shiftP (n : Int) (ps : List (Int × Int)) : List (Int × Int) := ps.map fun p => (p.1 + n, p.2 + n)
def betwP (n m : Int) : List (Int × Int) := (List.range (m - n).toNat).flatMap fun k => (upto n).map fun y => (n + (k : Nat), y)
def sumR (n m : Int) (ps qs : List (Int × Int)) : List (Int × Int) := ps ++ shiftP n qs ++ betwP n (n + m)
def sumP (n m : Int) (ps qs : List (Int × Int)) : List (Int × Int) := sortP (sumR n m ps qs)
theorem betw_len (n m : Int) : (betwP n m).length ≤ (m - n).toNat * n.toNat := by
  unfold betwP
  rw [List.length_flatMap]
  have : ∀ l : List Nat, (l.map fun k => ((upto n).map fun y => ((n + (k : Nat) : Int), y)).length).sum = l.length * n.toNat := by
    intro l
    induction l with
    | nil => simp
    | cons a l ih =>
      rw [List.map_cons, List.sum_cons, ih, List.length_map, upto_len, List.length_cons, Nat.succ_mul]
      omega
  rw [this, List.length_range]
  exact Nat.le_refl _
abbrev bhE : EV := lcE [6, 7] (seqI (bin opIx (pk 1) (frzP (cst (.int 1))))) (tupG 2 (consG (nameG 6) (consG (nameG 7) nilG))) yesT (tupE (consA (frzP (bin opAdd (pk 6) (pk 2))) (consA (frzP (bin opAdd (pk 7) (pk 2))) nilA)))
abbrev bwE : EV := lc2E [6, 7] [7] (rngI2 (consA (pk 2) (consA (pk 3) nilA))) (nameG 6) yesT (rngI1 (consA (pk 2) nilA)) (nameG 7) yesT (tupE (consA (frzP (vr 6)) (consA (frzP (vr 7)) nilA)))
abbrev B8 (n m : Int) (ps qs : List (Int × Int)) (v4 v5 : Option S) : Ds := [some (.d (lotD n ps)), some (.d (lotD m qs)), some (.d (.int n)), some (.d (.int (n + m))), v4, v5, none, none]
def shD (n : Int) : PyData → PyData
  | .tuple [.int a, .int b] => .tuple [.int (a + n), .int (b + n)]
  | x => x
theorem bh_eq {n m : Int} {ps qs : List (Int × Int)} (hl : qs.length ≤ sizeLine) : bhE (B8 n m ps qs none none) = some (.o (.l ((shiftP n qs).map pr)), B8 n m ps qs none none) := by
  have := lcE_all (vs := [6, 7]) (fi := seqI (bin opIx (pk 1) (frzP (cst (.int 1))))) (g := tupG 2 (consG (nameG 6) (consG (nameG 7) nilG))) (te := tupE (consA (frzP (bin opAdd (pk 6) (pk 2))) (consA (frzP (bin opAdd (pk 7) (pk 2))) nilA))) (δ := B8 n m ps qs none none) (δ1 := B8 n m ps qs none none) (xs := qs.map pr) (shD n) (seqI_of (bin_ix rfl rfl rfl) (.inr rfl)) rfl rfl (fun x hx => by
    obtain ⟨p, _, rfl⟩ := List.mem_map.mp hx
    refine ⟨[some (.d (lotD n ps)), some (.d (lotD m qs)), some (.d (.int n)), some (.d (.int (n + m))), none, none, some (.d (.int p.1)), some (.d (.int p.2))], rfl, rfl, rfl, .d (.tuple [.int (p.1 + n), .int (p.2 + n)]), ?_, rfl⟩
    exact tupE_of (consA_of (frzP_d (bin_add rfl rfl)) (consA_of (frzP_d (bin_add rfl rfl)) rfl)) rfl (show 2 ≤ sizeLine by decide)) (by rw [List.length_map]; exact hl)
  rw [List.map_map] at this
  unfold shiftP
  rw [List.map_map]
  exact this
theorem bw_eq {n m : Int} {ps qs : List (Int × Int)} {v4 : Option S} (h4 : notOwn v4 = true ∨ True) (n0 : 0 ≤ n) (n1 : n ≤ 24) (m0 : 0 ≤ m) (m1 : m ≤ 24) : bwE (B8 n m ps qs v4 none) = some (.o (.l ((betwP n (n + m)).map pr)), B8 n m ps qs v4 none) := by
  have hb := line_big
  have hlen := betw_len n (n + m)
  have h3 : (n + m - n).toNat * n.toNat ≤ 24 * 24 := Nat.mul_le_mul (by omega) (by omega)
  have e : (rng n (n + m - n).toNat).flatMap (fun x => (upto n).map fun y => PyData.tuple [x, .int y]) = (betwP n (n + m)).map pr := by
    unfold betwP rng
    rw [List.flatMap_map, List.map_flatMap]
    congr 1
    funext k
    rw [List.map_map]
    rfl
  rw [← e]
  refine lc2E_gen (vs := [6, 7]) (vs1 := [7]) (δ1 := B8 n m ps qs v4 none) (fun x => (upto n).map fun y => PyData.tuple [x, .int y]) (rngI2_of rfl ⟨by omega, by omega, by omega, by omega⟩) rfl rfl (fun x hx => ?_) (by rw [e, List.length_map]; omega)
  let δ2 : Ds := [some (.d (lotD n ps)), some (.d (lotD m qs)), some (.d (.int n)), some (.d (.int (n + m))), v4, none, some (.d x), none]
  refine ⟨δ2, intsD (upto n), δ2, rfl, ?_, rfl, ?_, rfl, rfl⟩
  · rw [← rng_ints]
    exact rngI1_of rfl ⟨by omega, by omega⟩
  · have := lcD_gen (vs := [7]) (g := nameG 7) (tt := yesT) (te := tupE (consA (frzP (vr 6)) (consA (frzP (vr 7)) nilA))) (δ := δ2) (p := fun _ => true) (h := fun y => PyData.tuple [x, .int (intOf y)]) (xs := intsD (upto n)) (fun y hy => by
      obtain ⟨z, _, rfl⟩ := List.mem_map.mp hy
      exact ⟨[some (.d (lotD n ps)), some (.d (lotD m qs)), some (.d (.int n)), some (.d (.int (n + m))), v4, none, some (.d x), some (.d (.int z))], rfl, rfl, rfl, rfl, fun _ => ⟨.d (.tuple [x, .int z]), tupE_of rfl rfl (show 2 ≤ sizeLine by decide), rfl⟩⟩)
    have e3 : (intsD (upto n)).filter (fun _ => true) = intsD (upto n) := List.filter_eq_self.mpr fun _ _ => rfl
    rw [e3, List.map_map] at this
    exact this
theorem beside_eq {n m : Int} {ps qs : List (Int × Int)} (n0 : 0 ≤ n) (m0 : 0 ≤ m) (hm : n + m ≤ 24) (hp : ps.length ≤ 20000) (hq : qs.length ≤ 20000) : X_beside [.d (lotD n ps), .d (lotD m qs)] = some (.inl (.d (lotD (n + m) (sumP n m ps qs)), [none, none])) := by
  have hb := line_big
  have hlen := betw_len n (n + m)
  have h3 : (n + m - n).toNat * n.toNat ≤ 24 * 24 := Nat.mul_le_mul (by omega) (by omega)
  let δ0 : Ds := [some (.d (lotD n ps)), some (.d (lotD m qs)), none, none, none, none, none, none]
  let δ1 : Ds := [some (.d (lotD n ps)), some (.d (lotD m qs)), some (.d (.int n)), none, none, none, none, none]
  have s2 : setS 2 (bin opIx (pk 0) (frzP (cst (.int 0)))) δ0 = some (.nx δ1) := setS_of (i := 2) (δ1 := δ0) (bin_ix rfl rfl rfl)
  have s3 : setS 3 (bin opAdd (pk 2) (frzP (bin opIx (pk 1) (frzP (cst (.int 0)))))) δ1 = some (.nx (B8 n m ps qs none none)) := setS_of (i := 3) (δ1 := δ1) (bin_add (i := n) (j := m) rfl (frzP_d (bin_ix rfl rfl rfl)))
  have hgt : bl (bin (cmpI pGt) (pk 3) (frzP (cst (.int 24)))) (B8 n m ps qs none none) = some (false, B8 n m ps qs none none) := by
    refine bl_of (bin_of (a := .d (.int (n + m))) (b := .d (.int 24)) rfl rfl rfl rfl ?_)
    show some (S.d (.bool (decide (n + m > 24)))) = _
    rw [decide_eq_false (by omega)]
  have s4 := setS_of (i := 4) (bh_eq (n := n) (m := m) (ps := ps) (qs := qs) (by omega))
  have s5 := setS_of (i := 5) (bw_eq (n := n) (m := m) (ps := ps) (qs := qs) (v4 := some (.o (.l ((shiftP n qs).map pr)))) (.inr trivial) n0 (by omega) m0 (by omega))
  let δ5 : Ds := B8 n m ps qs (some (.o (.l ((shiftP n qs).map pr)))) (some (.o (.l ((betwP n (n + m)).map pr))))
  have a1 : callB fList (consA (frzP (bin opIx (pk 0) (frzP (cst (.int 1))))) nilA) δ5 = some (.o (.l (ps.map pr)), δ5) := callB_of (g := fList) (ss := [.d (.tuple (ps.map pr))]) (consA_of (frzP_d (bin_ix rfl rfl rfl)) (rfl : nilA δ5 = some ([], δ5))) rfl rfl
  have lq : (shiftP n qs).length = qs.length := List.length_map _
  have a2 : bin opAdd (frzP (callB fList (consA (frzP (bin opIx (pk 0) (frzP (cst (.int 1))))) nilA))) (pk 4) δ5 = some (.o (.l ((ps ++ shiftP n qs).map pr)), δ5) := by
    refine bin_of (g := opAdd) (a := .d (.list (ps.map pr))) (b := .o (.l ((shiftP n qs).map pr))) (frzP_l a1) (rfl : pk 4 δ5 = some (.own 4, δ5)) rfl rfl ?_
    show (if (ps.map pr).length + ((shiftP n qs).map pr).length ≤ sizeLine then some (S.o (.l (ps.map pr ++ (shiftP n qs).map pr))) else none) = _
    rw [if_pos (by rw [List.length_map, List.length_map]; omega), ← List.map_append]
  have a3 : bin opAdd (frzP (bin opAdd (frzP (callB fList (consA (frzP (bin opIx (pk 0) (frzP (cst (.int 1))))) nilA))) (pk 4))) (pk 5) δ5 = some (.o (.l ((sumR n m ps qs).map pr)), δ5) := by
    refine bin_of (g := opAdd) (a := .d (.list ((ps ++ shiftP n qs).map pr))) (b := .o (.l ((betwP n (n + m)).map pr))) (frzP_l a2) (rfl : pk 5 δ5 = some (.own 5, δ5)) rfl rfl ?_
    show (if ((ps ++ shiftP n qs).map pr).length + ((betwP n (n + m)).map pr).length ≤ sizeLine then some (S.o (.l ((ps ++ shiftP n qs).map pr ++ (betwP n (n + m)).map pr))) else none) = _
    rw [if_pos (by rw [List.length_map, List.length_map, List.length_append]; omega), ← List.map_append]
    rfl
  have a4 : callB fSorted (consA (frzP (bin opAdd (frzP (bin opAdd (frzP (callB fList (consA (frzP (bin opIx (pk 0) (frzP (cst (.int 1))))) nilA))) (pk 4))) (pk 5))) nilA) δ5 = some (.o (.l ((sumP n m ps qs).map pr)), δ5) := by
    refine callB_of (g := fSorted) (ss := [.d (.list ((sumR n m ps qs).map pr))]) (consA_of (frzP_l a3) (rfl : nilA δ5 = some ([], δ5))) rfl ?_
    show (prs ((sumR n m ps qs).map pr)).map _ = _
    rw [prs_map]
    rfl
  exact runY_go (δ := δ5) (seqY_of s2 (seqY_of s3 (guardY_f hgt (goY_of (seqS_of s4 (seqS_of s5 (retS_of (tupE_of (consA_of rfl (consA_of (frzP_d (callB_of (g := fTuple) (consA_of (frzP_l a4) rfl) rfl rfl)) rfl)) rfl (show 2 ≤ sizeLine by decide))))))))) rfl
theorem beside_too {n m : Int} {ps qs : List (Int × Int)} (hm : 24 < n + m) : X_beside [.d (lotD n ps), .d (lotD m qs)] = some (.inr ("TooMany", "many", .int (n + m))) := by
  let δ0 : Ds := [some (.d (lotD n ps)), some (.d (lotD m qs)), none, none, none, none, none, none]
  let δ1 : Ds := [some (.d (lotD n ps)), some (.d (lotD m qs)), some (.d (.int n)), none, none, none, none, none]
  have s2 : setS 2 (bin opIx (pk 0) (frzP (cst (.int 0)))) δ0 = some (.nx δ1) := setS_of (i := 2) (δ1 := δ0) (bin_ix rfl rfl rfl)
  have s3 : setS 3 (bin opAdd (pk 2) (frzP (bin opIx (pk 1) (frzP (cst (.int 0)))))) δ1 = some (.nx (B8 n m ps qs none none)) := setS_of (i := 3) (δ1 := δ1) (bin_add (i := n) (j := m) rfl (frzP_d (bin_ix rfl rfl rfl)))
  have hgt : bl (bin (cmpI pGt) (pk 3) (frzP (cst (.int 24)))) (B8 n m ps qs none none) = some (true, B8 n m ps qs none none) := by
    refine bl_of (bin_of (a := .d (.int (n + m))) (b := .d (.int 24)) rfl rfl rfl rfl ?_)
    show some (S.d (.bool (decide (n + m > 24)))) = _
    rw [decide_eq_true (by omega)]
  exact runY_ex (δ := B8 n m ps qs none none) (seqY_of s2 (seqY_of s3 (guardY_t hgt (raiseYS_of rfl)))) rfl
end K13

namespace K13
open PySem PySem.Spec PyProof.Rows L2 DL DLS
/-! one lot within another -/
def nestB (m : Int) (ps qs : List (Int × Int)) (x y : Int) : Bool := later ps (x / m) (y / m) || (decide (x / m = y / m) && later qs (x % m) (y % m))
def nestP (n m : Int) (ps qs : List (Int × Int)) : List (Int × Int) := (upto (n * m)).flatMap fun x => ((upto (n * m)).filter (nestB m ps qs x)).map fun y => (x, y)
abbrev latB : SEV := (seqS (unpS (frzP (callB fDivmod (consA (pk 0) (consA (pk 2) nilA)))) (tupG 2 (consG (nameG 5) (consG (nameG 6) nilG))))
  (seqS (unpS (frzP (callB fDivmod (consA (pk 1) (consA (pk 2) nilA)))) (tupG 2 (consG (nameG 7) (consG (nameG 8) nilG))))
  (retS (orV (bin (opInX false) (frzP (tupE (consA (frzP (vr 5)) (consA (frzP (vr 7)) nilA)))) (pk 3)) (andV (bin opEq (pk 5) (pk 7)) (bin (opInX false) (frzP (tupE (consA (frzP (vr 6)) (consA (frzP (vr 8)) nilA)))) (pk 4)))))))
abbrev FLw : FN := ndF 2 3 9 latB
abbrev cssW (m : Int) (ps qs : List (Int × Int)) : List S := [.d (.int m), .t ⟨false, tabJ ps⟩, .t ⟨false, tabJ qs⟩]
theorem div_of {δ : Ds} {i j : Nat} {x m : Int} (hi : pk i δ = some (.v (.d (.int x)), δ)) (hj : pk j δ = some (.v (.d (.int m)), δ)) (h : 0 < m ∧ m < 1073741824) : callB fDivmod (consA (pk i) (consA (pk j) nilA)) δ = some (.d (.tuple [.int (x / m), .int (x % m)]), δ) := by
  refine callB_of (ss := [.d (.int x), .d (.int m)]) (consA_of hi (consA_of hj rfl)) rfl ?_
  show (if 0 < m ∧ m < 1073741824 then some (S.d (.tuple [.int (x / m), .int (x % m)])) else none) = _
  rw [if_pos h]
theorem lat_eq {m : Int} {ps qs : List (Int × Int)} (hm : 0 < m ∧ m < 1073741824) (x y : Int) : lotG FLw (cssW m ps qs) (.int x) (.int y) = some (nestB m ps qs x y) := by
  have tw : ∀ (v5 v6 v7 v8 : Option S), True := fun _ _ _ _ => trivial
  let δ (v5 v6 v7 v8 : Option S) : Ds := [some (.d (.int x)), some (.d (.int y)), some (.d (.int m)), some (.t ⟨false, tabJ ps⟩), some (.t ⟨false, tabJ qs⟩), v5, v6, v7, v8]
  let D : Ds := δ (some (.d (.int (x / m)))) (some (.d (.int (x % m)))) (some (.d (.int (y / m)))) (some (.d (.int (y % m))))
  have s1 : unpS (frzP (callB fDivmod (consA (pk 0) (consA (pk 2) nilA)))) (tupG 2 (consG (nameG 5) (consG (nameG 6) nilG))) (δ none none none none) = some (.nx (δ (some (.d (.int (x / m)))) (some (.d (.int (x % m)))) none none)) := unpS_of (frzP_d (div_of rfl rfl hm)) rfl
  have s2 : unpS (frzP (callB fDivmod (consA (pk 1) (consA (pk 2) nilA)))) (tupG 2 (consG (nameG 7) (consG (nameG 8) nilG))) (δ (some (.d (.int (x / m)))) (some (.d (.int (x % m)))) none none) = some (.nx D) := unpS_of (frzP_d (div_of rfl rfl hm)) rfl
  have e1 := in_tab (neg := false) (r := [x / m, y / m]) (s := .t ⟨false, tabJ ps⟩) (kvs := tabJ ps) rfl
  rw [Bool.false_xor, tabJ_has] at e1
  have e2 := in_tab (neg := false) (r := [x % m, y % m]) (s := .t ⟨false, tabJ qs⟩) (kvs := tabJ qs) rfl
  rw [Bool.false_xor, tabJ_has] at e2
  have h1 : bin (opInX false) (frzP (tupE (consA (frzP (vr 5)) (consA (frzP (vr 7)) nilA)))) (pk 3) D = some (.d (.bool (later ps (x / m) (y / m))), D) := bin_of (frzP_d (tupE_of (ds := [.int (x / m), .int (y / m)]) rfl rfl (show 2 ≤ sizeLine by decide))) rfl rfl rfl e1
  have h2 : bin opEq (pk 5) (pk 7) D = some (.d (.bool (decide (x / m = y / m))), D) := bin_of rfl rfl rfl rfl rfl
  have h3 : bin (opInX false) (frzP (tupE (consA (frzP (vr 6)) (consA (frzP (vr 8)) nilA)))) (pk 4) D = some (.d (.bool (later qs (x % m) (y % m))), D) := bin_of (frzP_d (tupE_of (ds := [.int (x % m), .int (y % m)]) rfl rfl (show 2 ≤ sizeLine by decide))) rfl rfl rfl e2
  have h4 : orV (bin (opInX false) (frzP (tupE (consA (frzP (vr 5)) (consA (frzP (vr 7)) nilA)))) (pk 3)) (andV (bin opEq (pk 5) (pk 7)) (bin (opInX false) (frzP (tupE (consA (frzP (vr 6)) (consA (frzP (vr 8)) nilA)))) (pk 4))) D = some (.d (.bool (nestB m ps qs x y)), D) := by
    unfold orV nestB
    rw [h1]
    simp only [Option.bind_some]
    cases later ps (x / m) (y / m) with
    | true => rfl
    | false =>
      simp only [Bool.false_or, Bool.false_eq_true, if_false]
      cases hd : decide (x / m = y / m) with
      | false =>
        rw [hd] at h2
        exact andV_f h2
      | true =>
        rw [hd] at h2
        simp only [Bool.true_and]
        exact andV_t h2 h3
  have h5 : runF [] 9 latB ([S.d (.int x), .d (.int y)] ++ cssW m ps qs) = some (.d (.bool (nestB m ps qs x y)), [none, none, none, none, none]) := runF_rt (δ := D) (seqS_of s1 (seqS_of s2 (retS_of h4))) rfl
  unfold lotG
  show ((if 5 = 2 + 3 then runF [] 9 latB ([S.d (.int x), .d (.int y)] ++ cssW m ps qs) else none).bind _) = _
  rw [if_pos rfl, h5]
  rfl
theorem lotIn_eq {G : PyData → PyData → Option Bool} {g : PyData → PyData → Bool} {x : PyData} : ∀ {ys : List PyData}, (∀ y ∈ ys, G x y = some (g x y)) → lotIn G x ys = some ((ys.filter (g x)).map fun y => .tuple [x, y])
  | [], _ => rfl
  | y :: ys, h => by
    unfold lotIn
    rw [h y List.mem_cons_self, lotIn_eq fun z hz => h z (List.mem_cons_of_mem _ hz)]
    simp only [Option.bind_some, Option.map_some]
    cases e : g x y with
    | true => rw [List.filter_cons, e]; rfl
    | false => rw [List.filter_cons, e]; rfl
theorem lotOut_eq {G : PyData → PyData → Option Bool} {g : PyData → PyData → Bool} {ys : List PyData} : ∀ {xs : List PyData}, (∀ x ∈ xs, ∀ y ∈ ys, G x y = some (g x y)) → lotOut G ys xs = some (xs.flatMap fun x => (ys.filter (g x)).map fun y => .tuple [x, y])
  | [], _ => rfl
  | x :: xs, h => by
    unfold lotOut
    rw [lotIn_eq (h x List.mem_cons_self), lotOut_eq fun z hz => h z (List.mem_cons_of_mem _ hz)]
    rfl
theorem nest_len (n m : Int) (ps qs : List (Int × Int)) : (nestP n m ps qs).length ≤ (n * m).toNat * (n * m).toNat := by
  unfold nestP
  rw [List.length_flatMap]
  have : ∀ l : List Int, (l.map fun x => (((upto (n * m)).filter (nestB m ps qs x)).map fun y => ((x, y) : Int × Int)).length).sum ≤ l.length * (n * m).toNat := by
    intro l
    induction l with
    | nil => simp
    | cons a l ih =>
      rw [List.map_cons, List.sum_cons, List.length_map, List.length_cons, Nat.succ_mul]
      have := List.length_filter_le (nestB m ps qs a) (upto (n * m))
      rw [upto_len] at this
      omega
  have h := this (upto (n * m))
  rw [upto_len] at h
  exact h
theorem tabJ_true (ps : List (Int × Int)) : ((tabJ ps).all fun p => match p with | (_, .bool true) => true | _ => false) = true := by
  have := putAll_vals (W := fun _ => PyData.bool true) (Kf := kfI) (Vf := fun _ => PyData.bool true) (ps.map pr) [] (fun p hp => nomatch hp) (fun x _ => rfl)
  refine List.all_eq_true.mpr fun p hp => ?_
  have h := this p hp
  obtain ⟨a, b⟩ := p
  have h : b = .bool true := h
  subst h
  rfl
theorem within_eq {n m : Int} {ps qs : List (Int × Int)} (n0 : 0 ≤ n) (m0 : 0 ≤ m) (hm : n * m ≤ 24) (m1 : m ≤ 1000) (n1 : n ≤ 1000) (hp : ps.length ≤ 20000) (hq : qs.length ≤ 20000) : X_within [.d (lotD n ps), .d (lotD m qs)] = some (.inl (.d (lotD (n * m) (nestP n m ps qs)), [none, none])) := by
  have hb := line_big
  have nm0 : 0 ≤ n * m := Int.mul_nonneg n0 m0
  let δ0 : Ds := [some (.d (lotD n ps)), some (.d (lotD m qs)), none, none, none, none, none]
  let δ1 : Ds := [some (.d (lotD n ps)), some (.d (lotD m qs)), some (.d (.int m)), none, none, none, none]
  let δ2 : Ds := [some (.d (lotD n ps)), some (.d (lotD m qs)), some (.d (.int m)), some (.d (.int (n * m))), none, none, none]
  let δ3 : Ds := [some (.d (lotD n ps)), some (.d (lotD m qs)), some (.d (.int m)), some (.d (.int (n * m))), some (.o (.t ⟨false, tabJ ps⟩)), none, none]
  let δ4 : Ds := [some (.d (lotD n ps)), some (.d (lotD m qs)), some (.d (.int m)), some (.d (.int (n * m))), some (.o (.t ⟨false, tabJ ps⟩)), some (.o (.t ⟨false, tabJ qs⟩)), none]
  have s2 : setS 2 (bin opIx (pk 1) (frzP (cst (.int 0)))) δ0 = some (.nx δ1) := setS_of (i := 2) (δ1 := δ0) (bin_ix rfl rfl rfl)
  have s3 : setS 3 (bin opMul (frzP (bin opIx (pk 0) (frzP (cst (.int 0))))) (pk 2)) δ1 = some (.nx δ2) := setS_of (i := 3) (δ1 := δ1) (bin_mul (i := n) (j := m) (frzP_d (bin_ix rfl rfl rfl)) rfl (iMul_ok (a := 10) (b := 10) (by omega) (by omega) (by decide) (by decide) (by decide)))
  have hgt : bl (bin (cmpI pGt) (pk 3) (frzP (cst (.int 24)))) δ2 = some (false, δ2) := by
    refine bl_of (bin_of (a := .d (.int (n * m))) (b := .d (.int 24)) rfl rfl rfl rfl ?_)
    show some (S.d (.bool (decide (n * m > 24)))) = _
    rw [decide_eq_false (by omega)]
  have s4 : setS 4 (callE F_later_table 1 (consA (frzP (vr 0)) nilA)) δ2 = some (.nx δ3) := (setS_of (callE_data [.d (lotD n ps)] rfl rfl (later_table_eq n ps (by omega)) (Nat.le_refl 1))).trans rfl
  have s5 : setS 5 (callE F_later_table 1 (consA (frzP (vr 1)) nilA)) δ3 = some (.nx δ4) := (setS_of (callE_data [.d (lotD m qs)] rfl rfl (later_table_eq m qs (by omega)) (Nat.le_refl 1))).trans rfl
  let δ5 : Ds := [some (.d (lotD n ps)), some (.d (lotD m qs)), some (.d (.int m)), some (.d (.int (n * m))), some (.t ⟨false, tabJ ps⟩), some (.t ⟨false, tabJ qs⟩), none]
  have hres : resLot FLw (cssW m ps qs) (.int (n * m)) = some (lotD (n * m) (nestP n m ps qs)) := by
    have ho := lotOut_eq (G := lotG FLw (cssW m ps qs)) (g := fun x y => nestB m ps qs (intOf x) (intOf y)) (ys := intsD (upto (n * m))) (xs := intsD (upto (n * m))) (fun x hx y hy => by
      obtain ⟨a, ha, rfl⟩ := List.mem_map.mp hx
      obtain ⟨b, hb, rfl⟩ := List.mem_map.mp hy
      have ha := upto_mem.mp ha
      have hm1 : 0 < m := by
        rcases Int.lt_or_le 0 m with h | h
        · exact h
        · have : m = 0 := by omega
          rw [this, Int.mul_zero] at ha
          omega
      exact lat_eq ⟨hm1, by omega⟩ a b)
    have e : ((intsD (upto (n * m))).flatMap fun x => ((intsD (upto (n * m))).filter fun y => nestB m ps qs (intOf x) (intOf y)).map fun y => PyData.tuple [x, y]) = (nestP n m ps qs).map pr := by
      unfold nestP
      rw [List.flatMap_map, List.map_flatMap]
      congr 1
      funext x
      rw [List.filter_map, List.map_map, List.map_map]
      rfl
    rw [e] at ho
    show (if 0 ≤ n * m ∧ n * m ≤ 1000 then (lotOut (lotG FLw (cssW m ps qs)) (rng 0 (n * m).toNat) (rng 0 (n * m).toNat)).bind fun L => if L.length ≤ 100000 then some (PyData.tuple [.int (n * m), .tuple L]) else none else none) = _
    rw [if_pos ⟨nm0, by omega⟩, rng_ints, ho]
    simp only [Option.bind_some]
    have hl := nest_len n m ps qs
    have h3 : (n * m).toNat * (n * m).toNat ≤ 24 * 24 := Nat.mul_le_mul (by omega) (by omega)
    rw [if_pos (by rw [List.length_map]; omega)]
    rfl
  have hlt : lotE [2, 4, 5] (resLot FLw) (pk 3) δ4 = some (.d (lotD (n * m) (nestP n m ps qs)), δ5) := by
    unfold lotE
    show (if ([2, 4, 5].all fun j => okCap (slot δ4 j)) = true then ((some (cssW m ps qs)).bind fun css => (resLot FLw css (.int (n * m))).map fun y => (S.d y, δ5)) else none) = _
    have hok : ([2, 4, 5].all fun j => okCap (slot δ4 j)) = true := by
      show (true && ((tabJ ps).all (fun p => match p with | (_, .bool true) => true | _ => false) && ((tabJ qs).all (fun p => match p with | (_, .bool true) => true | _ => false) && true))) = true
      rw [tabJ_true, tabJ_true]
      rfl
    rw [if_pos hok]
    simp only [Option.bind_some]
    rw [hres]
    rfl
  have hln : lotN 6 [2, 4, 5] (resLot FLw) (pk 3) δ4 = some (.d (lotD (n * m) (nestP n m ps qs)), δ5) := by
    unfold lotN
    show ((lotE [2, 4, 5] (resLot FLw) (pk 3) δ4).bind _) = _
    rw [hlt]
    rfl
  exact runY_go (δ := δ5) (seqY_of s2 (seqY_of s3 (guardY_f hgt (goY_of (seqS_of s4 (seqS_of s5 (retS_of hln))))))) rfl
theorem within_too {n m : Int} {ps qs : List (Int × Int)} (n1 : 0 ≤ n ∧ n ≤ 1000) (m1 : 0 ≤ m ∧ m ≤ 1000) (hm : 24 < n * m) : X_within [.d (lotD n ps), .d (lotD m qs)] = some (.inr ("TooMany", "many", .int (n * m))) := by
  let δ0 : Ds := [some (.d (lotD n ps)), some (.d (lotD m qs)), none, none, none, none, none]
  let δ1 : Ds := [some (.d (lotD n ps)), some (.d (lotD m qs)), some (.d (.int m)), none, none, none, none]
  let δ2 : Ds := [some (.d (lotD n ps)), some (.d (lotD m qs)), some (.d (.int m)), some (.d (.int (n * m))), none, none, none]
  have s2 : setS 2 (bin opIx (pk 1) (frzP (cst (.int 0)))) δ0 = some (.nx δ1) := setS_of (i := 2) (δ1 := δ0) (bin_ix rfl rfl rfl)
  have s3 : setS 3 (bin opMul (frzP (bin opIx (pk 0) (frzP (cst (.int 0))))) (pk 2)) δ1 = some (.nx δ2) := setS_of (i := 3) (δ1 := δ1) (bin_mul (i := n) (j := m) (frzP_d (bin_ix rfl rfl rfl)) rfl (iMul_ok (a := 10) (b := 10) (by omega) (by omega) (by decide) (by decide) (by decide)))
  have hgt : bl (bin (cmpI pGt) (pk 3) (frzP (cst (.int 24)))) δ2 = some (true, δ2) := by
    refine bl_of (bin_of (a := .d (.int (n * m))) (b := .d (.int 24)) rfl rfl rfl rfl ?_)
    show some (S.d (.bool (decide (n * m > 24)))) = _
    rw [decide_eq_true (by omega)]
  exact runY_ex (δ := δ2) (seqY_of s2 (seqY_of s3 (guardY_t hgt (raiseYS_of rfl)))) rfl
end K13

namespace K13
open PySem PySem.Spec PyProof.Rows L2 DL DLS
/-! lots beside and within one another, by their members -/
variable {n m k : Int} {ps qs rs : List (Int × Int)}
theorem mem_sum {x y : Int} : (x, y) ∈ sumP n m ps qs ↔ (x, y) ∈ ps ∨ (x - n, y - n) ∈ qs ∨ (n ≤ x ∧ x < n + m ∧ 0 ≤ y ∧ y < n) := by
  unfold sumP sumR
  rw [mem_sort, List.mem_append, List.mem_append, or_assoc]
  refine or_congr Iff.rfl (or_congr ?_ ?_)
  · unfold shiftP
    rw [List.mem_map]
    constructor
    · rintro ⟨p, hp, e⟩
      injection e with e1 e2
      have : (x - n, y - n) = p := Prod.ext (by show x - n = p.1; omega) (by show y - n = p.2; omega)
      rw [this]
      exact hp
    · intro h
      exact ⟨_, h, Prod.ext (by show x - n + n = x; omega) (by show y - n + n = y; omega)⟩
  · unfold betwP
    rw [List.mem_flatMap]
    constructor
    · rintro ⟨j, hj, h⟩
      obtain ⟨z, hz, e⟩ := List.mem_map.mp h
      have := upto_mem.mp hz
      have hj := List.mem_range.mp hj
      injection e with e1 e2
      omega
    · rintro ⟨h1, h2, h3, h4⟩
      exact ⟨(x - n).toNat, List.mem_range.mpr (by omega), List.mem_map.mpr ⟨y, upto_mem.mpr ⟨h3, h4⟩, Prod.ext (by show n + ((x - n).toNat : Int) = x; omega) rfl⟩⟩
theorem sum_nodup (L1 : Lot n ps) (L2 : Lot m qs) : (sumR n m ps qs).Nodup := by
  have h1 : ∀ p ∈ shiftP n qs, n ≤ p.1 ∧ n ≤ p.2 := fun p hp => by
    obtain ⟨q, hq, rfl⟩ := List.mem_map.mp hp
    have := L2.rng q hq
    exact ⟨by show n ≤ q.1 + n; omega, by show n ≤ q.2 + n; omega⟩
  have h2 : ∀ p ∈ betwP n (n + m), n ≤ p.1 ∧ p.2 < n := fun p hp => by
    obtain ⟨k, _, hp⟩ := List.mem_flatMap.mp hp
    obtain ⟨y, hy, rfl⟩ := List.mem_map.mp hp
    have := upto_mem.mp hy
    exact ⟨by show n ≤ n + (k : Int); omega, this.2⟩
  unfold sumR
  refine List.nodup_append.mpr ⟨List.nodup_append.mpr ⟨asc_nodup L1.asc, ?_, fun p hp q hq e => ?_⟩, ?_, fun p hp q hq e => ?_⟩
  · unfold shiftP List.Nodup
    rw [List.pairwise_map]
    refine List.Pairwise.imp (fun {p q} hne e => hne ?_) (asc_nodup L2.asc)
    injection e with e1 e2
    exact Prod.ext (by omega) (by omega)
  · have a := L1.rng p hp
    have b := h1 q hq
    rw [← e] at b
    omega
  · unfold betwP List.Nodup
    rw [List.pairwise_flatMap]
    refine ⟨fun k _ => ?_, ?_⟩
    · rw [List.pairwise_map]
      refine List.Pairwise.imp (fun {x y} hlt e => ?_) (upto_asc n)
      injection e with _ e2
      omega
    · refine List.Pairwise.imp (fun {i j} hlt x hx y hy e => ?_) List.pairwise_lt_range
      obtain ⟨a, _, rfl⟩ := List.mem_map.mp hx
      obtain ⟨b, _, rfl⟩ := List.mem_map.mp hy
      injection e with e1 _
      omega
  · have b := h2 q hq
    rw [← e] at b
    rcases List.mem_append.mp hp with hp | hp
    · have a := L1.rng p hp
      omega
    · have a := h1 p hp
      omega
theorem sum_asc (L1 : Lot n ps) (L2 : Lot m qs) : Asc (sumP n m ps qs) := sort_asc (sum_nodup L1 L2)
/-- what ascends within a small square is not long -/
theorem pairs_len {N : Int} (h : N ≤ 24) (rng : ∀ p ∈ ps, 0 ≤ p.1 ∧ p.1 < N ∧ 0 ≤ p.2 ∧ p.2 < N) (nd : ps.Nodup) : ps.length ≤ 576 := by
  have h := nat_nodup_len (ps.map fun p => p.1.toNat * 24 + p.2.toNat) (List.range 576) (by
    unfold List.Nodup
    rw [List.pairwise_map]
    refine List.Pairwise.imp_of_mem (fun {p q} hp hq hne e => hne ?_) nd
    have a := rng p hp
    have b := rng q hq
    exact Prod.ext (by omega) (by omega)) fun x hx => by
    obtain ⟨p, hp, rfl⟩ := List.mem_map.mp hx
    have a := rng p hp
    exact List.mem_range.mpr (by omega)
  rw [List.length_map, List.length_range] at h
  exact h
theorem sum_rng (L1 : Lot n ps) (L2 : Lot m qs) : ∀ p ∈ sumP n m ps qs, 0 ≤ p.1 ∧ p.1 < n + m ∧ 0 ≤ p.2 ∧ p.2 < n + m := fun p hp => by
  have n0 := L1.n0
  have m0 := L2.n0
  rcases mem_sum.mp (show (p.1, p.2) ∈ sumP n m ps qs from hp) with h | h | h
  · have := L1.rng _ h
    simp only at this
    omega
  · have := L2.rng _ h
    simp only at this
    omega
  · omega
theorem sum_lot (L1 : Lot n ps) (L2 : Lot m qs) (h : n + m ≤ 24) : Lot (n + m) (sumP n m ps qs) := by
  have n0 := L1.n0
  have m0 := L2.n0
  have ha := sum_asc L1 L2
  have hr := sum_rng L1 L2
  refine ⟨by omega, h, ha, hr, fun p hp hq => ?_, by have := pairs_len h hr (asc_nodup ha); omega⟩
  rcases mem_sum.mp (show (p.1, p.2) ∈ sumP n m ps qs from hp) with a | a | a
  · have r1 := L1.rng _ a
    simp only at r1
    rcases mem_sum.mp hq with b | b | b
    · exact L1.anti _ a b
    · have r2 := L2.rng _ b
      simp only at r2
      omega
    · omega
  · have r1 := L2.rng _ a
    simp only at r1
    rcases mem_sum.mp hq with b | b | b
    · have r2 := L1.rng _ b
      simp only at r2
      omega
    · exact L2.anti _ a b
    · omega
  · rcases mem_sum.mp hq with b | b | b
    · have r2 := L1.rng _ b
      simp only at r2
      omega
    · have r2 := L2.rng _ b
      simp only at r2
      omega
    · omega
/-! within -/
theorem mem_nest {x y : Int} : (x, y) ∈ nestP n m ps qs ↔ (0 ≤ x ∧ x < n * m) ∧ (0 ≤ y ∧ y < n * m) ∧ ((x / m, y / m) ∈ ps ∨ (x / m = y / m ∧ (x % m, y % m) ∈ qs)) := by
  have hb : nestB m ps qs x y = true ↔ ((x / m, y / m) ∈ ps ∨ (x / m = y / m ∧ (x % m, y % m) ∈ qs)) := by
    unfold nestB
    rw [Bool.or_eq_true, Bool.and_eq_true, later_iff, later_iff, decide_eq_true_iff]
  rw [← hb]
  unfold nestP
  rw [List.mem_flatMap]
  constructor
  · rintro ⟨a, ha, h⟩
    obtain ⟨b, hb, e⟩ := List.mem_map.mp h
    cases e
    obtain ⟨h1, h2⟩ := List.mem_filter.mp hb
    exact ⟨upto_mem.mp ha, upto_mem.mp h1, h2⟩
  · rintro ⟨h1, h2, h3⟩
    exact ⟨x, upto_mem.mpr h1, List.mem_map.mpr ⟨y, List.mem_filter.mpr ⟨upto_mem.mpr h2, h3⟩, rfl⟩⟩
theorem nest_asc (n m : Int) (ps qs : List (Int × Int)) : Asc (nestP n m ps qs) := by
  unfold nestP Asc
  rw [List.pairwise_flatMap]
  refine ⟨fun x _ => ?_, ?_⟩
  · rw [List.pairwise_map]
    exact List.Pairwise.imp (fun {a b} h => .inr ⟨rfl, h⟩) ((upto_asc _).sublist List.filter_sublist)
  · refine List.Pairwise.imp (fun {a b} h p hp q hq => ?_) (upto_asc (n * m))
    obtain ⟨_, _, rfl⟩ := List.mem_map.mp hp
    obtain ⟨_, _, rfl⟩ := List.mem_map.mp hq
    exact .inl h
theorem nest_lot (L1 : Lot n ps) (L2 : Lot m qs) (h : n * m ≤ 24) : Lot (n * m) (nestP n m ps qs) := by
  have ha := nest_asc n m ps qs
  have hr : ∀ p ∈ nestP n m ps qs, 0 ≤ p.1 ∧ p.1 < n * m ∧ 0 ≤ p.2 ∧ p.2 < n * m := fun p hp => by
    obtain ⟨a, b, _⟩ := mem_nest.mp (show (p.1, p.2) ∈ nestP n m ps qs from hp)
    exact ⟨a.1, a.2, b.1, b.2⟩
  refine ⟨Int.mul_nonneg L1.n0 L2.n0, h, ha, hr, fun p hp hq => ?_, by have := pairs_len h hr (asc_nodup ha); omega⟩
  obtain ⟨_, _, a⟩ := mem_nest.mp (show (p.1, p.2) ∈ nestP n m ps qs from hp)
  obtain ⟨_, _, b⟩ := mem_nest.mp hq
  rcases a with a | ⟨a1, a⟩
  · rcases b with b | ⟨b1, b⟩
    · exact L1.anti _ a b
    · exact L1.ne a (by show p.1 / m = p.2 / m; omega)
  · rcases b with b | ⟨b1, b⟩
    · exact L1.ne b (by show p.2 / m = p.1 / m; omega)
    · exact L2.anti _ a b
/-! turned -/
/-- a mark's new number, where the later lot comes first -/
def mv (n m z : Int) : Int := if z < n then z + m else z - n
def mvP (n m : Int) (p : Int × Int) : Int × Int := (mv n m p.1, mv n m p.2)
end K13

namespace K13
open PySem PySem.Spec PyProof.Rows L2 DL DLS
/-! the law's own looks at all two marks -/
theorem forD_step {tg : GEV} {body : SEV} {x : PyData} {xs : List PyData} {δ δ1 δ2 : Ds} {r : Option Out} (h1 : tg x δ = some δ1) (h2 : body δ1 = some (.nx δ2)) (h3 : forD tg body xs δ2 = r) : forD tg body (x :: xs) δ = r := by
  subst h3
  show ((tg x δ).bind _) = _
  rw [h1]
  simp only [Option.bind_some]
  rw [h2]
  rfl
theorem orT_b {f g : TEV} {a b : Bool} {δ : Ds} (h : f δ = some (a, δ)) (k : g δ = some (b, δ)) : orT f g δ = some (a || b, δ) := by
  cases a with
  | true => exact orT_t h
  | false => exact orT_f h k
theorem andT_b {f g : TEV} {a b : Bool} {δ : Ds} (h : f δ = some (a, δ)) (k : g δ = some (b, δ)) : andT f g δ = some (a && b, δ) := by
  cases a with
  | true => exact andT_t h k
  | false => exact andT_f h
/-- all two marks of so many, those that go by a test -/
def allP (N : Int) (B : Int → Int → Bool) : List (Int × Int) := (upto N).flatMap fun x => ((upto N).filter (B x)).map fun y => (x, y)
theorem mem_all {N : Int} {B : Int → Int → Bool} {x y : Int} : (x, y) ∈ allP N B ↔ (0 ≤ x ∧ x < N) ∧ (0 ≤ y ∧ y < N) ∧ B x y = true := by
  unfold allP
  rw [List.mem_flatMap]
  constructor
  · rintro ⟨a, ha, h⟩
    obtain ⟨b, hb, e⟩ := List.mem_map.mp h
    cases e
    obtain ⟨h1, h2⟩ := List.mem_filter.mp hb
    exact ⟨upto_mem.mp ha, upto_mem.mp h1, h2⟩
  · rintro ⟨h1, h2, h3⟩
    exact ⟨x, upto_mem.mpr h1, List.mem_map.mpr ⟨y, List.mem_filter.mpr ⟨upto_mem.mpr h2, h3⟩, rfl⟩⟩
theorem all_asc (N : Int) (B : Int → Int → Bool) : Asc (allP N B) := by
  unfold allP Asc
  rw [List.pairwise_flatMap]
  refine ⟨fun x _ => ?_, ?_⟩
  · rw [List.pairwise_map]
    exact List.Pairwise.imp (fun {a b} h => .inr ⟨rfl, h⟩) ((upto_asc _).sublist List.filter_sublist)
  · refine List.Pairwise.imp (fun {a b} h p hp q hq => ?_) (upto_asc N)
    obtain ⟨_, _, rfl⟩ := List.mem_map.mp hp
    obtain ⟨_, _, rfl⟩ := List.mem_map.mp hq
    exact .inl h
/-- two loops over marks that append the two marks where a test says so; v: what else the body leaves -/
theorem two_loop {tg1 tg2 : GEV} {fi : IEV} {body : SEV} {N : Int} {B : Int → Int → Bool} {D : List (Int × Int) → Option S → Option S → Option S → Ds} (N0 : 0 ≤ N) (N1 : N ≤ 24)
    (h1 : ∀ (x : Int) acc vx vy vo, tg1 (.int x) (D acc vx vy vo) = some (D acc (some (.d (.int x))) vy vo))
    (h2 : ∀ (y : Int) acc vx vy vo, tg2 (.int y) (D acc vx vy vo) = some (D acc vx (some (.d (.int y))) vo))
    (hi : ∀ acc vx vy vo, fi (D acc vx vy vo) = some (intsD (upto N), D acc vx vy vo))
    (hb : ∀ x y acc vo, 0 ≤ x → x < N → 0 ≤ y → y < N → acc.length ≤ 600 → ∃ vo', body (D acc (some (.d (.int x))) (some (.d (.int y))) vo) = some (.nx (D (if B x y = true then acc ++ [(x, y)] else acc) (some (.d (.int x))) (some (.d (.int y))) vo'))) :
    ∃ vx vy vo, forS fi tg1 (forS fi tg2 body) (D [] none none none) = some (.nx (D (allP N B) vx vy vo)) := by
  have inner : ∀ (x : Int), 0 ≤ x → x < N → ∀ (ys : List Int) (acc : List (Int × Int)) (vy vo : Option S), (∀ y ∈ ys, 0 ≤ y ∧ y < N) → acc.length + ys.length ≤ 600 → ∃ vy' vo', forD tg2 body (intsD ys) (D acc (some (.d (.int x))) vy vo) = some (.nx (D (acc ++ (ys.filter (B x)).map fun y => (x, y)) (some (.d (.int x))) vy' vo')) := by
    intro x x0 x1 ys
    induction ys with
    | nil => exact fun acc vy vo _ _ => ⟨vy, vo, by rw [List.filter_nil, List.map_nil, List.append_nil]; rfl⟩
    | cons y ys ih =>
      intro acc vy vo hy hl
      rw [List.length_cons] at hl
      obtain ⟨y0, y1⟩ := hy y List.mem_cons_self
      obtain ⟨vo', hbo⟩ := hb x y acc vo x0 x1 y0 y1 (by omega)
      obtain ⟨vy2, vo2, h⟩ := ih (if B x y = true then acc ++ [(x, y)] else acc) (some (.d (.int y))) vo' (fun z hz => hy z (List.mem_cons_of_mem _ hz)) (by
        split
        · rw [List.length_append, List.length_singleton]; omega
        · omega)
      refine ⟨vy2, vo2, forD_step (h2 y acc _ vy vo) hbo (h.trans ?_)⟩
      congr 3
      rw [List.filter_cons]
      split
      · rw [List.map_cons, List.append_assoc]; rfl
      · rfl
  have outer : ∀ (xs : List Int) (acc : List (Int × Int)) (vx vy vo : Option S), (∀ x ∈ xs, 0 ≤ x ∧ x < N) → acc.length + 24 * xs.length ≤ 600 → ∃ vx' vy' vo', forD tg1 (forS fi tg2 body) (intsD xs) (D acc vx vy vo) = some (.nx (D (acc ++ xs.flatMap fun x => ((upto N).filter (B x)).map fun y => (x, y)) vx' vy' vo')) := by
    intro xs
    induction xs with
    | nil => exact fun acc vx vy vo _ _ => ⟨vx, vy, vo, by rw [List.flatMap_nil, List.append_nil]; rfl⟩
    | cons x xs ih =>
      intro acc vx vy vo hx hl
      rw [List.length_cons] at hl
      obtain ⟨x0, x1⟩ := hx x List.mem_cons_self
      have ul := upto_len N
      obtain ⟨vy', vo', h⟩ := inner x x0 x1 (upto N) acc vy vo (fun y hy => upto_mem.mp hy) (by omega)
      have hf := List.length_filter_le (B x) (upto N)
      obtain ⟨vx2, vy2, vo2, h3⟩ := ih (acc ++ ((upto N).filter (B x)).map fun y => (x, y)) (some (.d (.int x))) vy' vo' (fun z hz => hx z (List.mem_cons_of_mem _ hz)) (by
        rw [List.length_append, List.length_map]
        omega)
      refine ⟨vx2, vy2, vo2, forD_step (h1 x acc vx vy vo) (forS_of (hi acc _ vy vo) h) (h3.trans ?_)⟩
      rw [List.flatMap_cons, List.append_assoc]
  obtain ⟨vx, vy, vo, h⟩ := outer (upto N) [] none none none (fun x hx => upto_mem.mp hx) (by
    rw [upto_len, List.length_nil]
    omega)
  exact ⟨vx, vy, vo, forS_of (hi [] none none none) h⟩
/-! the one behind the other -/
def behB (n : Int) (ps qs : List (Int × Int)) (x y : Int) : Bool := (decide (x ≥ n) && decide (n > y)) || ((decide (x < n) && later ps x y) || (decide (y ≥ n) && later qs (x - n) (y - n)))
theorem beh_sum {n m : Int} {ps qs : List (Int × Int)} (L1 : Lot n ps) (L2 : Lot m qs) : allP (n + m) (behB n ps qs) = sumP n m ps qs := by
  have n0 := L1.n0
  have m0 := L2.n0
  refine asc_ext (all_asc _ _) (sum_asc L1 L2) fun p => ?_
  obtain ⟨x, y⟩ := p
  rw [mem_all, mem_sum]
  unfold behB
  rw [Bool.or_eq_true, Bool.or_eq_true, Bool.and_eq_true, Bool.and_eq_true, Bool.and_eq_true, decide_eq_true_iff, decide_eq_true_iff, decide_eq_true_iff, decide_eq_true_iff, later_iff, later_iff]
  constructor
  · rintro ⟨hx, hy, h | h | h⟩
    · exact .inr (.inr (by omega))
    · exact .inl h.2
    · exact .inr (.inl h.2)
  · rintro (h | h | h)
    · have r := L1.rng _ h
      simp only at r
      exact ⟨by omega, by omega, .inr (.inl ⟨by omega, h⟩)⟩
    · have r := L2.rng _ h
      simp only at r
      exact ⟨by omega, by omega, .inr (.inr ⟨by omega, h⟩)⟩
    · exact ⟨by omega, by omega, .inl (by omega)⟩
abbrev D6 (n m : Int) (ps qs : List (Int × Int)) (acc : List (Int × Int)) (vx vy vo : Option S) : Ds := [some (.d (lotD n ps)), some (.d (lotD m qs)), vx, some (.o (.l (acc.map pr))), some (.d (.int n)), vy]
theorem chn_gt {δ : Ds} {x n y : Int} (h1 : pk 2 δ = some (.v (.d (.int x)), δ)) (h2 : pk 4 δ = some (.v (.d (.int n)), δ)) (h3 : pk 5 δ = some (.v (.d (.int y)), δ)) : chn (cmpI pGe) (cmpI pGt) (pk 2) (pk 4) (pk 5) δ = some (.d (.bool (decide (x ≥ n) && decide (n > y))), δ) := by
  by_cases h : x ≥ n
  · rw [decide_eq_true h, Bool.true_and]
    refine chn_of h1 h2 rfl rfl ?_ h3 rfl rfl rfl
    show some (S.d (.bool (decide (x ≥ n)))) = _
    rw [decide_eq_true h]
  · rw [decide_eq_false h, Bool.false_and]
    unfold chn
    rw [h1]
    simp only [Option.bind_some]
    rw [h2]
    simp only [Option.bind_some]
    show ((some (S.d (.int x))).bind fun s => (some (S.d (.int n))).bind fun u => (cmpI pGe s u).bind _) = _
    simp only [Option.bind_some]
    rw [show cmpI pGe (.d (.int x)) (.d (.int n)) = some (.d (.bool false)) from by
      show some (S.d (.bool (decide (x ≥ n)))) = _
      rw [decide_eq_false h]]
    rfl
theorem app_pr {δ : Ds} {i j k : Nat} {acc : List (Int × Int)} {x y : Int} (hs : slot δ i = some (.o (.l (acc.map pr)))) (hj : vr j δ = some (.d (.int x), δ)) (hk : vr k δ = some (.d (.int y), δ)) (hl : acc.length ≤ 600) :
    exprS (mutL i gApp (consA (frzP (tupE (consA (frzP (vr j)) (consA (frzP (vr k)) nilA)))) nilA)) δ = some (.nx (δ.set i (some (.o (.l ((acc ++ [(x, y)]).map pr)))))) := by
  have ht : tupE (consA (frzP (vr j)) (consA (frzP (vr k)) nilA)) δ = some (.d (pr (x, y)), δ) := tupE_of (ds := [.int x, .int y]) (consA_of (frzP_d hj) (consA_of (frzP_d hk) rfl)) rfl (show 2 ≤ sizeLine by decide)
  refine exprS_of (mutL_of hs (consA_of (frzP_d ht) rfl) (ds := [pr (x, y)]) rfl hs (zs := (acc ++ [(x, y)]).map pr) (s := .d .none) ?_)
  show (if (acc.map pr).length < sizeLine then some (S.d .none, acc.map pr ++ [pr (x, y)]) else none) = _
  rw [if_pos (by rw [List.length_map]; exact Nat.lt_of_lt_of_le (Nat.lt_succ_self _) (size1000 (k := acc.length + 1) (by omega))), List.map_append]
  rfl
theorem law_behind_eq {n m : Int} {ps qs : List (Int × Int)} (L1 : Lot n ps) (L2 : Lot m qs) (h : n + m ≤ 24) : F__law_behind [.d (lotD n ps), .d (lotD m qs)] = some (.d (lotD (n + m) (sumP n m ps qs)), [none, none]) := by
  have n0 := L1.n0
  have m0 := L2.n0
  have hadd : ∀ acc vx vy vo, bin opAdd (pk 4) (frzP (bin opIx (pk 1) (frzP (cst (.int 0))))) (D6 n m ps qs acc vx vy vo) = some (.d (.int (n + m)), D6 n m ps qs acc vx vy vo) := fun acc vx vy vo => bin_add (i := n) (j := m) rfl (frzP_d (bin_ix rfl rfl rfl))
  obtain ⟨vx, vy, vo, hl⟩ := two_loop (tg1 := nameG 2) (tg2 := nameG 5) (fi := rngI1 (consA (frzP (bin opAdd (pk 4) (frzP (bin opIx (pk 1) (frzP (cst (.int 0))))))) nilA)) (N := n + m) (B := behB n ps qs) (D := D6 n m ps qs)
    (body := ifS (orT (bl (chn (cmpI pGe) (cmpI pGt) (pk 2) (pk 4) (pk 5))) (orT (andT (bl (bin (cmpI pLt) (pk 2) (pk 4))) (bl (bin (opIn false) (frzP (tupE (consA (frzP (vr 2)) (consA (frzP (vr 5)) nilA)))) (frzP (bin opIx (pk 0) (frzP (cst (.int 1)))))))) (andT (bl (bin (cmpI pGe) (pk 5) (pk 4))) (bl (bin (opIn false) (frzP (tupE (consA (frzP (bin (opI2 iSub) (pk 2) (pk 4))) (consA (frzP (bin (opI2 iSub) (pk 5) (pk 4))) nilA)))) (frzP (bin opIx (pk 1) (frzP (cst (.int 1)))))))))) (exprS (mutL 3 gApp (consA (frzP (tupE (consA (frzP (vr 2)) (consA (frzP (vr 5)) nilA)))) nilA))) nxS)
    (by omega) h (fun _ _ _ _ _ => rfl) (fun _ _ _ _ _ => rfl) (fun acc vx vy vo => by
      rw [← rng_ints]
      exact rngI1_of (frzP_d (hadd acc vx vy vo) |> fun e => consA_of e rfl) ⟨by omega, by omega⟩) (fun x y acc vo x0 x1 y0 y1 hla => by
      refine ⟨none, ?_⟩
      let δ : Ds := D6 n m ps qs acc (some (.d (.int x))) (some (.d (.int y))) vo
      have t1 : bl (chn (cmpI pGe) (cmpI pGt) (pk 2) (pk 4) (pk 5)) δ = some (decide (x ≥ n) && decide (n > y), δ) := bl_of (chn_gt rfl rfl rfl)
      have t2 : bl (bin (cmpI pLt) (pk 2) (pk 4)) δ = some (decide (x < n), δ) := bl_of (bin_of (a := .d (.int x)) (b := .d (.int n)) rfl rfl rfl rfl rfl)
      have t3 : bl (bin (opIn false) (frzP (tupE (consA (frzP (vr 2)) (consA (frzP (vr 5)) nilA)))) (frzP (bin opIx (pk 0) (frzP (cst (.int 1)))))) δ = some (later ps x y, δ) := bl_of (bin_of (frzP_d (tupE_of (ds := [.int x, .int y]) rfl rfl (show 2 ≤ sizeLine by decide))) (frzP_d (bin_ix rfl rfl rfl)) rfl rfl (in_pairs ps x y))
      have t4 : bl (bin (cmpI pGe) (pk 5) (pk 4)) δ = some (decide (y ≥ n), δ) := bl_of (bin_of (a := .d (.int y)) (b := .d (.int n)) rfl rfl rfl rfl rfl)
      have t5 : bl (bin (opIn false) (frzP (tupE (consA (frzP (bin (opI2 iSub) (pk 2) (pk 4))) (consA (frzP (bin (opI2 iSub) (pk 5) (pk 4))) nilA)))) (frzP (bin opIx (pk 1) (frzP (cst (.int 1)))))) δ = some (later qs (x - n) (y - n), δ) := bl_of (bin_of (frzP_d (tupE_of (ds := [.int (x - n), .int (y - n)]) rfl rfl (show 2 ≤ sizeLine by decide))) (frzP_d (bin_ix rfl rfl rfl)) rfl rfl (in_pairs qs (x - n) (y - n)))
      have tt := orT_b t1 (orT_b (andT_b t2 t3) (andT_b t4 t5))
      cases hB : behB n ps qs x y with
      | true =>
        have hB' := hB
        unfold behB at hB'
        rw [hB'] at tt
        rw [if_pos rfl]
        exact (ifS_t tt (app_pr (δ := δ) rfl rfl rfl hla)).trans rfl
      | false =>
        have hB' := hB
        unfold behB at hB'
        rw [hB'] at tt
        rw [if_neg Bool.false_ne_true]
        exact (ifS_f tt rfl).trans rfl)
  rw [beh_sum L1 L2] at hl
  refine runF_rt (δ := D6 n m ps qs (sumP n m ps qs) vx vy vo) (seqS_of (δ1 := D6 n m ps qs [] none none none) ?_ (seqS_of hl (retS_of ?_))) rfl
  · exact (parS_of (is := [3, 4]) (consF_of (lstE_of rfl rfl (by decide)) (consF_of (bin_ix rfl rfl rfl) rfl)) rfl).trans rfl
  · refine tupE_of (ds := [.int (n + m), .tuple ((sumP n m ps qs).map pr)]) (consA_of (frzP_d (hadd _ vx vy vo)) (consA_of (frzP_d (callB_of (g := fTuple) (ss := [.o (.l ((sumP n m ps qs).map pr))]) (consA_of rfl rfl) rfl rfl)) rfl)) rfl (show 2 ≤ sizeLine by decide)
end K13

namespace K13
open PySem PySem.Spec PyProof.Rows L2 DL DLS
/-! one within another, by the law's own look -/
theorem nest_all {n m : Int} {ps qs : List (Int × Int)} : allP (n * m) (nestB m ps qs) = nestP n m ps qs := rfl
abbrev D7 (n m : Int) (ps qs : List (Int × Int)) (acc : List (Int × Int)) (vx vy vo : Option S) : Ds := [some (.d (lotD n ps)), some (.d (lotD m qs)), vx, some (.o (.l (acc.map pr))), some (.d (.int m)), vy, vo]
theorem law_nest_eq {n m : Int} {ps qs : List (Int × Int)} (L1 : Lot n ps) (L2 : Lot m qs) (h : n * m ≤ 24) : F__law_nest [.d (lotD n ps), .d (lotD m qs)] = some (.d (lotD (n * m) (nestP n m ps qs)), [none, none]) := by
  have n0 := L1.n0
  have m0 := L2.n0
  have n1 := L1.n1
  have m1 := L2.n1
  have nm0 : 0 ≤ n * m := Int.mul_nonneg n0 m0
  have hmul : ∀ acc vx vy vo, bin opMul (frzP (bin opIx (pk 0) (frzP (cst (.int 0))))) (pk 4) (D7 n m ps qs acc vx vy vo) = some (.d (.int (n * m)), D7 n m ps qs acc vx vy vo) := fun acc vx vy vo => bin_mul (i := n) (j := m) (frzP_d (bin_ix rfl rfl rfl)) rfl (iMul_ok (a := 10) (b := 10) (by omega) (by omega) (by decide) (by decide) (by decide))
  obtain ⟨vx, vy, vo, hl⟩ := two_loop (tg1 := nameG 2) (tg2 := nameG 5) (fi := rngI1 (consA (frzP (bin opMul (frzP (bin opIx (pk 0) (frzP (cst (.int 0))))) (pk 4))) nilA)) (N := n * m) (B := nestB m ps qs) (D := D7 n m ps qs)
    (body := seqS (setS 6 (tupE (consA (frzP (bin (opI2 iDiv) (pk 2) (pk 4))) (consA (frzP (bin (opI2 iDiv) (pk 5) (pk 4))) nilA))))
      (ifS (orT (bl (bin (opIn false) (pk 6) (frzP (bin opIx (pk 0) (frzP (cst (.int 1))))))) (andT (bl (bin opEq (frzP (bin opIx (pk 6) (frzP (cst (.int 0))))) (frzP (bin opIx (pk 6) (frzP (cst (.int 1))))))) (bl (bin (opIn false) (frzP (tupE (consA (frzP (bin (opI2 iMod) (pk 2) (pk 4))) (consA (frzP (bin (opI2 iMod) (pk 5) (pk 4))) nilA)))) (frzP (bin opIx (pk 1) (frzP (cst (.int 1))))))))) (exprS (mutL 3 gApp (consA (frzP (tupE (consA (frzP (vr 2)) (consA (frzP (vr 5)) nilA)))) nilA))) nxS))
    nm0 h (fun _ _ _ _ _ => rfl) (fun _ _ _ _ _ => rfl) (fun acc vx vy vo => by
      rw [← rng_ints]
      exact rngI1_of (consA_of (frzP_d (hmul acc vx vy vo)) rfl) ⟨by omega, by omega⟩) (fun x y acc vo x0 x1 y0 y1 hla => by
      have mp : 0 < m := by
        rcases Int.lt_or_le 0 m with h | h
        · exact h
        · have : m = 0 := by omega
          rw [this, Int.mul_zero] at x1
          omega
      refine ⟨some (.d (.tuple [.int (x / m), .int (y / m)])), ?_⟩
      let δ0 : Ds := D7 n m ps qs acc (some (.d (.int x))) (some (.d (.int y))) vo
      let δ : Ds := D7 n m ps qs acc (some (.d (.int x))) (some (.d (.int y))) (some (.d (.tuple [.int (x / m), .int (y / m)])))
      have dv : ∀ {i : Nat} {z : Int} {δ : Ds}, pk i δ = some (.v (.d (.int z)), δ) → pk 4 δ = some (.v (.d (.int m)), δ) → bin (opI2 iDiv) (pk i) (pk 4) δ = some (.d (.int (z / m)), δ) := fun {i z δ} hi hk => bin_I hi hk (iDiv_ok (i := z) (j := m) (b := 10) mp (by omega) (by decide) (by decide))
      have md : ∀ {i : Nat} {z : Int} {δ : Ds}, pk i δ = some (.v (.d (.int z)), δ) → pk 4 δ = some (.v (.d (.int m)), δ) → bin (opI2 iMod) (pk i) (pk 4) δ = some (.d (.int (z % m)), δ) := fun {i z δ} hi hk => bin_I hi hk (iMod_ok (i := z) (j := m) mp)
      have s6 : setS 6 (tupE (consA (frzP (bin (opI2 iDiv) (pk 2) (pk 4))) (consA (frzP (bin (opI2 iDiv) (pk 5) (pk 4))) nilA))) δ0 = some (.nx δ) := (setS_of (i := 6) (δ1 := δ0) (tupE_of (ds := [.int (x / m), .int (y / m)]) (consA_of (frzP_d (dv rfl rfl)) (consA_of (frzP_d (dv rfl rfl)) rfl)) rfl (show 2 ≤ sizeLine by decide))).trans rfl
      have t1 : bl (bin (opIn false) (pk 6) (frzP (bin opIx (pk 0) (frzP (cst (.int 1)))))) δ = some (later ps (x / m) (y / m), δ) := bl_of (bin_of rfl (frzP_d (bin_ix rfl rfl rfl)) rfl rfl (in_pairs ps _ _))
      have t2 : bl (bin opEq (frzP (bin opIx (pk 6) (frzP (cst (.int 0))))) (frzP (bin opIx (pk 6) (frzP (cst (.int 1)))))) δ = some (decide (x / m = y / m), δ) := bl_of (bin_of (a := .d (.int (x / m))) (b := .d (.int (y / m))) (frzP_d (bin_ix rfl rfl rfl)) (frzP_d (bin_ix rfl rfl rfl)) rfl rfl rfl)
      have t3 : bl (bin (opIn false) (frzP (tupE (consA (frzP (bin (opI2 iMod) (pk 2) (pk 4))) (consA (frzP (bin (opI2 iMod) (pk 5) (pk 4))) nilA)))) (frzP (bin opIx (pk 1) (frzP (cst (.int 1)))))) δ = some (later qs (x % m) (y % m), δ) := bl_of (bin_of (frzP_d (tupE_of (ds := [.int (x % m), .int (y % m)]) (consA_of (frzP_d (md rfl rfl)) (consA_of (frzP_d (md rfl rfl)) rfl)) rfl (show 2 ≤ sizeLine by decide))) (frzP_d (bin_ix rfl rfl rfl)) rfl rfl (in_pairs qs _ _))
      have tt := orT_b t1 (andT_b t2 t3)
      cases hB : nestB m ps qs x y with
      | true =>
        have hB' := hB
        unfold nestB at hB'
        rw [hB'] at tt
        rw [if_pos rfl]
        exact seqS_of s6 ((ifS_t tt (app_pr (δ := δ) rfl rfl rfl hla)).trans rfl)
      | false =>
        have hB' := hB
        unfold nestB at hB'
        rw [hB'] at tt
        rw [if_neg Bool.false_ne_true]
        exact seqS_of s6 ((ifS_f tt rfl).trans rfl))
  rw [nest_all] at hl
  refine runF_rt (δ := D7 n m ps qs (nestP n m ps qs) vx vy vo) (seqS_of (δ1 := D7 n m ps qs [] none none none) ?_ (seqS_of hl (retS_of ?_))) rfl
  · exact (parS_of (is := [3, 4]) (consF_of (lstE_of rfl rfl (by decide)) (consF_of (bin_ix rfl rfl rfl) rfl)) rfl).trans rfl
  · refine tupE_of (ds := [.int (n * m), .tuple ((nestP n m ps qs).map pr)]) (consA_of (frzP_d (hmul _ vx vy vo)) (consA_of (frzP_d (callB_of (g := fTuple) (ss := [.o (.l ((nestP n m ps qs).map pr))]) (consA_of rfl rfl) rfl rfl)) rfl)) rfl (show 2 ≤ sizeLine by decide)
/-! what is told, or refused -/
abbrev N7 (f a b : PyData) (v3 v4 v5 v6 : Option S) : Ds := [some (.d f), some (.d a), some (.d b), v3, v4, v5, v6]
theorem asked_told {q : Str} {F : FY} {a b y : PyData} (hF : List.lookup q [("beside", X_beside), ("within", X_within)] = some F) (h : F [.d a, .d b] = some (.inl (.d y, [none, none]))) : F__law_asked [.d (fnC q), .d a, .d b] = some (.d y, [none, none, none]) := by
  have s1 : stP 0 [("beside", X_beside), ("within", X_within)] (setS 5) 2 (consA (pk 1) (consA (pk 2) nilA)) (N7 (fnC q) a b none none (some (.d .none)) (some (.d .none))) = some (.go (.nx (N7 (fnC q) a b none none (some (.d y)) (some (.d .none))))) :=
    (stP_of (n := q) rfl hF).trans ((stY_set [.d a, .d b] rfl rfl h (Nat.le_refl 2)).trans rfl)
  refine runF_rt (δ := N7 (fnC q) a b none none (some (.d y)) (some (.d .none))) (seqS_of (δ1 := N7 (fnC q) a b none none (some (.d .none)) (some (.d .none))) ?_ (seqS_of (tryKY_go s1) (seqS_rt (ifS_t (δ1 := N7 (fnC q) a b none none (some (.d y)) (some (.d .none))) ?_ (retS_of rfl))))) rfl
  · exact unpS_of (frzP_d (tupE_of (ds := [.none, .none]) rfl rfl (show 2 ≤ sizeLine by decide))) rfl
  · exact bl_of (bin_of rfl rfl rfl rfl rfl)
theorem asked_no {q : Str} {F : FY} {a b : PyData} {k : Int} (hF : List.lookup q [("beside", X_beside), ("within", X_within)] = some F) (h : F [.d a, .d b] = some (.inr ("TooMany", "many", .int k))) : F__law_asked [.d (fnC q), .d a, .d b] = some (.d (.int k), [none, none, none]) := by
  let δ0 : Ds := N7 (fnC q) a b none none (some (.d .none)) (some (.d .none))
  let E : PyData := exfC "TooMany" "many" (.int k)
  let δ1 : Ds := N7 (fnC q) a b none none (some (.d .none)) (some (.d E))
  let δ2 : Ds := N7 (fnC q) a b none (some (.d (.bool false))) (some (.d .none)) (some (.d E))
  have s1 : stP 0 [("beside", X_beside), ("within", X_within)] (setS 5) 2 (consA (pk 1) (consA (pk 2) nilA)) δ0 = some (.ex "TooMany" "many" (.int k) δ0) :=
    (stP_of (n := q) rfl hF).trans (stY_ex [.d a, .d b] rfl rfl rfl h)
  have s2 : tryKY (stP 0 [("beside", X_beside), ("within", X_within)] (setS 5) 2 (consA (pk 1) (consA (pk 2) nilA))) (fun n => List.contains (["TooMany"] : List Str) n) 3 6 δ0 = some (.nx δ1) := (tryKY_ex s1 (by decide) rfl).trans rfl
  have s3 : ifS (bl (bin (opIs false) (pk 6) (frzP (cst .none)))) (retS (vr 5)) nxS δ1 = some (.nx δ1) := ifS_f (bl_of (bin_of rfl rfl rfl rfl rfl)) rfl
  have s4 : setS 4 (isYE ["TooMany"] [] (pk 6)) δ1 = some (.nx δ2) := (setS_of (isYE_of (x := .int k) (n := "TooMany") (g := "many") rfl (by decide))).trans rfl
  have t1 : bl (isYE ["TooMany"] ["TooMany"] (pk 6)) δ2 = some (true, δ2) := bl_of (isYE_of (x := .int k) (n := "TooMany") (g := "many") rfl (by decide))
  have t2 : notT (bl (vr 4)) δ2 = some (true, δ2) := notT_of (b := false) (bl_of rfl)
  refine runF_rt (δ := δ2) (seqS_of (δ1 := δ0) ?_ (seqS_of s2 (seqS_of s3 (seqS_of s4 (retS_of (ifE_t (andT_t t1 (andT_t t1 t2)) (fldYE_of (n := "TooMany") rfl (by decide)))))))) rfl
  exact unpS_of (frzP_d (tupE_of (ds := [.none, .none]) rfl rfl (show 2 ≤ sizeLine by decide))) rfl
end K13

namespace K13
open PySem PySem.Spec PyProof.Rows L2 DL DLS
variable {n m : Int} {ps qs : List (Int × Int)}
/-- what is due of two lots put beside one another: the lot, or how many marks it would have -/
def besD (n m : Int) (ps qs : List (Int × Int)) : PyData := if n + m < 25 then lotD (n + m) (sumP n m ps qs) else .int (n + m)
def witD (n m : Int) (ps qs : List (Int × Int)) : PyData := if n * m < 25 then lotD (n * m) (nestP n m ps qs) else .int (n * m)
theorem sq_le (L1 : Lot n ps) (L2 : Lot m qs) : 0 ≤ n * m ∧ n * m ≤ 576 := ⟨Int.mul_nonneg L1.n0 L2.n0, Int.le_trans (Int.mul_le_mul L1.n1 L2.n1 L2.n0 (by decide)) (by decide)⟩
theorem bes_rp (L1 : Lot n ps) (L2 : Lot m qs) : Rp 3 40000 (besD n m ps qs) := by
  have := L1.n0
  have := L2.n0
  have := L1.n1
  have := L2.n1
  unfold besD
  split
  · exact lot_rp (sum_lot L1 L2 (by omega))
  · exact (Rp.int ⟨by omega, by omega⟩).mono (by omega) (by omega)
theorem wit_rp (L1 : Lot n ps) (L2 : Lot m qs) : Rp 3 40000 (witD n m ps qs) := by
  have := sq_le L1 L2
  unfold witD
  split
  · exact lot_rp (nest_lot L1 L2 (by omega))
  · exact (Rp.int ⟨by omega, by omega⟩).mono (by omega) (by omega)
theorem asked_bes (L1 : Lot n ps) (L2 : Lot m qs) : F__law_asked [.d (fnC "beside"), .d (lotD n ps), .d (lotD m qs)] = some (.d (besD n m ps qs), [none, none, none]) := by
  have l1 := L1.len
  have l2 := L2.len
  unfold besD
  split
  · exact asked_told (F := X_beside) rfl (beside_eq L1.n0 L2.n0 (by omega) (by omega) (by omega))
  · exact asked_no (F := X_beside) rfl (beside_too (by omega))
theorem asked_wit (L1 : Lot n ps) (L2 : Lot m qs) : F__law_asked [.d (fnC "within"), .d (lotD n ps), .d (lotD m qs)] = some (.d (witD n m ps qs), [none, none, none]) := by
  have l1 := L1.len
  have l2 := L2.len
  have n0 := L1.n0
  have m0 := L2.n0
  have n1 := L1.n1
  have m1 := L2.n1
  unfold witD
  split
  · exact asked_told (F := X_within) rfl (within_eq n0 m0 (by omega) (by omega) (by omega) (by omega) (by omega))
  · exact asked_no (F := X_within) rfl (within_too ⟨n0, by omega⟩ ⟨m0, by omega⟩ (by omega))
abbrev R6 (n m : Int) (ps qs : List (Int × Int)) (v2 v3 v4 v5 : Option S) : Ds := [some (.d (lotD n ps)), some (.d (lotD m qs)), v2, v3, v4, v5]
theorem two_rp {a b : PyData} (ha : Rp 3 40000 a) (hb : Rp 3 40000 b) : ∀ x ∈ [a, b], Rp 3 40000 x := fun x hx => by
  rcases List.mem_cons.mp hx with rfl | hx
  · exact ha
  · rw [List.mem_singleton.mp hx]; exact hb
theorem law_right_eq (L1 : Lot n ps) (L2 : Lot m qs) : F__law_right [.d (lotD n ps), .d (lotD m qs)] = some (.d (.bool true), [none, none]) := by
  have n0 := L1.n0
  have m0 := L2.n0
  have n1 := L1.n1
  have m1 := L2.n1
  have nm := sq_le L1 L2
  let hd : PyData := .str (PyData.shown (.tuple [lotD n ps, lotD m qs]))
  let L0 : Ds := R6 n m ps qs none none none none
  let La : Ds := R6 n m ps qs (some (.d hd)) none none none
  let Lb : Ds := R6 n m ps qs (some (.d hd)) (some (.d (besD n m ps qs))) none none
  let Lc : Ds := R6 n m ps qs (some (.d hd)) (some (.d (besD n m ps qs))) (some (.d (witD n m ps qs))) none
  let Ld : Ds := R6 n m ps qs (some (.d hd)) (some (.d (besD n m ps qs))) (some (.d (witD n m ps qs))) (some (.o (.l [besD n m ps qs, witD n m ps qs])))
  have rt : fReprD [.d (.tuple [lotD n ps, lotD m qs])] = some (.d hd) := RpD.ok (Rp.tuple (two_rp (lot_rp L1) (lot_rp L2))).toD (by omega) (by show (40000 + 2) * 2 + 3 ≤ sizeLine; decide)
  have tup : ∀ v2 v3 v4 v5, tupE (consA (frzP (vr 0)) (consA (frzP (vr 1)) nilA)) (R6 n m ps qs v2 v3 v4 v5) = some (.d (.tuple [lotD n ps, lotD m qs]), R6 n m ps qs v2 v3 v4 v5) := fun _ _ _ _ => tupE_of (ds := [lotD n ps, lotD m qs]) rfl rfl (show 2 ≤ sizeLine by decide)
  have rtup : ∀ v2 v3 v4 v5, callB fReprD (consA (frzP (tupE (consA (frzP (vr 0)) (consA (frzP (vr 1)) nilA)))) nilA) (R6 n m ps qs v2 v3 v4 v5) = some (.d hd, R6 n m ps qs v2 v3 v4 v5) := fun v2 v3 v4 v5 => callB_of (ss := [.d (.tuple [lotD n ps, lotD m qs])]) (consA_of (frzP_d (tup v2 v3 v4 v5)) rfl) rfl rt
  have hadd : ∀ v2 v3 v4 v5, bin opAdd (frzP (bin opIx (pk 0) (frzP (cst (.int 0))))) (frzP (bin opIx (pk 1) (frzP (cst (.int 0))))) (R6 n m ps qs v2 v3 v4 v5) = some (.d (.int (n + m)), R6 n m ps qs v2 v3 v4 v5) := fun _ _ _ _ => bin_add (i := n) (j := m) (frzP_d (bin_ix rfl rfl rfl)) (frzP_d (bin_ix rfl rfl rfl))
  have hmul : ∀ v2 v3 v4 v5, bin opMul (frzP (bin opIx (pk 0) (frzP (cst (.int 0))))) (frzP (bin opIx (pk 1) (frzP (cst (.int 0))))) (R6 n m ps qs v2 v3 v4 v5) = some (.d (.int (n * m)), R6 n m ps qs v2 v3 v4 v5) := fun _ _ _ _ => bin_mul (i := n) (j := m) (frzP_d (bin_ix rfl rfl rfl)) (frzP_d (bin_ix rfl rfl rfl)) (iMul_ok (a := 10) (b := 10) (by omega) (by omega) (by decide) (by decide) (by decide))
  have s2 : setS 2 (callB fReprD (consA (frzP (tupE (consA (frzP (vr 0)) (consA (frzP (vr 1)) nilA)))) nilA)) L0 = some (.nx La) := (setS_of (i := 2) (rtup none none none none)).trans rfl
  have s3 : setS 3 (ifE (bl (bin (cmpI pLt) (frzP (bin opAdd (frzP (bin opIx (pk 0) (frzP (cst (.int 0))))) (frzP (bin opIx (pk 1) (frzP (cst (.int 0))))))) (frzP (cst (.int 25))))) (callE F__law_behind 2 (consA (frzP (vr 0)) (consA (frzP (vr 1)) nilA))) (bin opAdd (frzP (bin opIx (pk 0) (frzP (cst (.int 0))))) (frzP (bin opIx (pk 1) (frzP (cst (.int 0))))))) La = some (.nx Lb) := by
    have t : bl (bin (cmpI pLt) (frzP (bin opAdd (frzP (bin opIx (pk 0) (frzP (cst (.int 0))))) (frzP (bin opIx (pk 1) (frzP (cst (.int 0))))))) (frzP (cst (.int 25)))) La = some (decide (n + m < 25), La) := bl_of (bin_cmp (frzP_d (hadd _ _ _ _)) rfl)
    have e : ifE (bl (bin (cmpI pLt) (frzP (bin opAdd (frzP (bin opIx (pk 0) (frzP (cst (.int 0))))) (frzP (bin opIx (pk 1) (frzP (cst (.int 0))))))) (frzP (cst (.int 25))))) (callE F__law_behind 2 (consA (frzP (vr 0)) (consA (frzP (vr 1)) nilA))) (bin opAdd (frzP (bin opIx (pk 0) (frzP (cst (.int 0))))) (frzP (bin opIx (pk 1) (frzP (cst (.int 0)))))) La = some (.d (besD n m ps qs), La) := by
      unfold besD
      by_cases h : n + m < 25
      · rw [if_pos h]
        rw [decide_eq_true h] at t
        exact ifE_t t (callE_data [.d (lotD n ps), .d (lotD m qs)] rfl rfl (law_behind_eq L1 L2 (by omega)) (Nat.le_refl 2))
      · rw [if_neg h]
        rw [decide_eq_false h] at t
        exact ifE_f t (hadd _ _ _ _)
    exact (setS_of (i := 3) e).trans rfl
  have s4 : setS 4 (ifE (bl (bin (cmpI pLt) (frzP (bin opMul (frzP (bin opIx (pk 0) (frzP (cst (.int 0))))) (frzP (bin opIx (pk 1) (frzP (cst (.int 0))))))) (frzP (cst (.int 25))))) (callE F__law_nest 2 (consA (frzP (vr 0)) (consA (frzP (vr 1)) nilA))) (bin opMul (frzP (bin opIx (pk 0) (frzP (cst (.int 0))))) (frzP (bin opIx (pk 1) (frzP (cst (.int 0))))))) Lb = some (.nx Lc) := by
    have t : bl (bin (cmpI pLt) (frzP (bin opMul (frzP (bin opIx (pk 0) (frzP (cst (.int 0))))) (frzP (bin opIx (pk 1) (frzP (cst (.int 0))))))) (frzP (cst (.int 25)))) Lb = some (decide (n * m < 25), Lb) := bl_of (bin_cmp (frzP_d (hmul _ _ _ _)) rfl)
    have e : ifE (bl (bin (cmpI pLt) (frzP (bin opMul (frzP (bin opIx (pk 0) (frzP (cst (.int 0))))) (frzP (bin opIx (pk 1) (frzP (cst (.int 0))))))) (frzP (cst (.int 25))))) (callE F__law_nest 2 (consA (frzP (vr 0)) (consA (frzP (vr 1)) nilA))) (bin opMul (frzP (bin opIx (pk 0) (frzP (cst (.int 0))))) (frzP (bin opIx (pk 1) (frzP (cst (.int 0)))))) Lb = some (.d (witD n m ps qs), Lb) := by
      unfold witD
      by_cases h : n * m < 25
      · rw [if_pos h]
        rw [decide_eq_true h] at t
        exact ifE_t t (callE_data [.d (lotD n ps), .d (lotD m qs)] rfl rfl (law_nest_eq L1 L2 (by omega)) (Nat.le_refl 2))
      · rw [if_neg h]
        rw [decide_eq_false h] at t
        exact ifE_f t (hmul _ _ _ _)
    exact (setS_of (i := 4) e).trans rfl
  have cb : ∀ v2 v3 v4 v5, callE F__law_asked 3 (consA (frzP (cst (fnC "beside"))) (consA (frzP (vr 0)) (consA (frzP (vr 1)) nilA))) (R6 n m ps qs v2 v3 v4 v5) = some (.d (besD n m ps qs), R6 n m ps qs v2 v3 v4 v5) := fun _ _ _ _ => callE_data [.d (fnC "beside"), .d (lotD n ps), .d (lotD m qs)] rfl rfl (asked_bes L1 L2) (Nat.le_refl 3)
  have cw : ∀ v2 v3 v4 v5, callE F__law_asked 3 (consA (frzP (cst (fnC "within"))) (consA (frzP (vr 0)) (consA (frzP (vr 1)) nilA))) (R6 n m ps qs v2 v3 v4 v5) = some (.d (witD n m ps qs), R6 n m ps qs v2 v3 v4 v5) := fun _ _ _ _ => callE_data [.d (fnC "within"), .d (lotD n ps), .d (lotD m qs)] rfl rfl (asked_wit L1 L2) (Nat.le_refl 3)
  have s5 : setS 5 (lstE (consA (frzP (callE F__law_asked 3 (consA (frzP (cst (fnC "beside"))) (consA (frzP (vr 0)) (consA (frzP (vr 1)) nilA))))) (consA (frzP (callE F__law_asked 3 (consA (frzP (cst (fnC "within"))) (consA (frzP (vr 0)) (consA (frzP (vr 1)) nilA))))) nilA))) Lc = some (.nx Ld) := (setS_of (i := 5) (lstE_of (ds := [besD n m ps qs, witD n m ps qs]) (consA_of (frzP_d (cb _ _ _ _)) (consA_of (frzP_d (cw _ _ _ _)) rfl)) rfl (show 2 ≤ sizeLine by decide))).trans rfl
  let sh : PyData := .str (PyData.shown (.list [besD n m ps qs, witD n m ps qs]))
  have rl : fReprD [.d (.list [besD n m ps qs, witD n m ps qs])] = some (.d sh) := RpD.ok (Rp.list (two_rp (bes_rp L1 L2) (wit_rp L1 L2))).toD (by omega) (by show (40000 + 2) * 2 + 3 ≤ sizeLine; decide)
  have r1 : callB fReprD (consA (pk 5) nilA) Ld = some (.d sh, Ld) := callB_of (ps := [.own 5]) (ss := [.o (.l [besD n m ps qs, witD n m ps qs])]) rfl rfl rl
  have r2 : callB fReprD (consA (frzP (lstE (consA (frzP (vr 3)) (consA (frzP (vr 4)) nilA)))) nilA) Ld = some (.d sh, Ld) := callB_of (ss := [.d (.list [besD n m ps qs, witD n m ps qs])]) (consA_of (frzP_l (lstE_of (ds := [besD n m ps qs, witD n m ps qs]) rfl rfl (show 2 ≤ sizeLine by decide))) rfl) rfl rl
  refine runF_rt (δ := Ld) (seqS_of s2 (seqS_of s3 (seqS_of s4 (seqS_of s5 (retS_of (andV_t (bin_of (frzP_d r1) (frzP_d r2) rfl rfl (str_eq _)) (bin_of (frzP_d (rtup _ _ _ _)) rfl rfl rfl (str_eq _)))))))) rfl
end K13

namespace K13
open PySem PySem.Spec PyProof.Rows L2 DL DLS
/-- a comprehension whose members are drawn -/
theorem lcD_el {i : Nat} {te : EV} {D : C → Ds} {E : C → PyData → Ds} {P : PyData → Prop} {w : Nat} (hg : ∀ c x, nameG i x (D c) = some (E c x)) (hno : ∀ c x, noOwn [i] (E c x) = true) (hwi : ∀ c x, wipeD (E c x) [i] = D c)
    (ht : ∀ (m : Nat) (c : C) (x : PyData), Pot m c → m < 2 ^ 28 → ∃ d c', te (E c x) = some (.d d, E c' x) ∧ P d ∧ Pot (m + w) c') : ∀ (xs : List PyData) (m : Nat) (c : C), Pot m c → m + w * xs.length < 2 ^ 28 → ∃ rs c', lcD [i] (nameG i) yesT te xs (D c) = some (rs, D c') ∧ rs.length = xs.length ∧ (∀ d ∈ rs, P d) ∧ Pot (m + w * xs.length) c'
  | [], m, c, hp, _ => ⟨[], c, rfl, rfl, (fun d h => absurd h List.not_mem_nil), by rw [List.length_nil, Nat.mul_zero]; exact hp⟩
  | x :: xs, m, c, hp, hm => by
    rw [List.length_cons, Nat.mul_succ] at hm
    obtain ⟨d, c1, e1, hd, h1⟩ := ht m c x hp (by omega)
    obtain ⟨rs, c2, e2, hl, hP, h2⟩ := lcD_el hg hno hwi ht xs (m + w) c1 h1 (by omega)
    refine ⟨d :: rs, c2, ?_, by rw [List.length_cons, List.length_cons, hl], fun y hy => ?_, ?_⟩
    · unfold lcD
      rw [hg]
      simp only [Option.bind_some, yesT, if_true]
      rw [e1]
      simp only [Option.bind_some]
      show (if noOwn [i] (E c1 x) = true then _ else _) = _
      rw [if_pos (hno c1 x), hwi, e2]
      rfl
    · rcases List.mem_cons.mp hy with rfl | hy
      · exact hd
      · exact hP y hy
    · rw [List.length_cons, Nat.mul_succ, show m + (w * xs.length + w) = m + w + w * xs.length by omega]
      exact h2
theorem lcE_el {i : Nat} {fi : IEV} {te : EV} {δ : Ds} {xs : List PyData} {D : C → Ds} {E : C → PyData → Ds} {c : C} {m w : Nat} {P : PyData → Prop} (hf : fi δ = some (xs, D c)) (h1 : noOwn [i] (D c) = true) (h2 : wipeD (D c) [i] = D c) (h3 : ∀ c', restD (D c) (D c') [i] = D c') (hg : ∀ c x, nameG i x (D c) = some (E c x)) (hno : ∀ c x, noOwn [i] (E c x) = true) (hwi : ∀ c x, wipeD (E c x) [i] = D c)
    (ht : ∀ (m : Nat) (c : C) (x : PyData), Pot m c → m < 2 ^ 28 → ∃ d c', te (E c x) = some (.d d, E c' x) ∧ P d ∧ Pot (m + w) c') (hp : Pot m c) (hm : m + w * xs.length < 2 ^ 28) (hl : xs.length ≤ 1000) : ∃ rs c', lcE [i] fi (nameG i) yesT te δ = some (.o (.l rs), D c') ∧ rs.length = xs.length ∧ (∀ d ∈ rs, P d) ∧ Pot (m + w * xs.length) c' := by
  obtain ⟨rs, c', e, hs, hP, hc⟩ := lcD_el hg hno hwi ht xs m c hp hm
  refine ⟨rs, c', ?_, hs, hP, hc⟩
  unfold lcE
  rw [hf]
  simp only [Option.bind_some]
  rw [if_pos h1, h2, e]
  simp only [Option.bind_some]
  rw [if_pos (size1000 (by omega)), h3]

/-! two lots by hand -/
def GP (x : PyData) : Prop := ∃ n ps m qs, x = .tuple [lotD n ps, lotD m qs] ∧ Lot n ps ∧ Lot m qs
def IsL (d : PyData) : Prop := ∃ n ps, d = lotD n ps ∧ Lot n ps
theorem gp_of {a b : PyData} (ha : IsL a) (hb : IsL b) : GP (.tuple [a, b]) := by
  obtain ⟨n, ps, rfl, L1⟩ := ha
  obtain ⟨m, qs, rfl, L2⟩ := hb
  exact ⟨n, ps, m, qs, rfl, L1, L2⟩
theorem tup2 {f g : PEV} {a b : PyData} {δ : Ds} (hf : f δ = some (.v (.d a), δ)) (hg : g δ = some (.v (.d b), δ)) : frzP (tupE (consA f (consA g nilA))) δ = some (.v (.d (.tuple [a, b])), δ) := frzP_d (tupE_of (ds := [a, b]) (consA_of hf (consA_of hg rfl)) rfl (show 2 ≤ sizeLine by decide))
theorem bare_lot {n : Int} (h0 : 0 ≤ n) (h1 : n ≤ 24) : IsL (lotD n []) := ⟨n, [], rfl, h0, h1, List.Pairwise.nil, (fun p hp => nomatch hp), (fun p hp => nomatch hp), Nat.zero_le _⟩
abbrev Z11 (ns : List Int) (v1 v2 v3 v4 v5 v6 v7 v8 v9 : Option S) : Ds := [some (.z ns), v1, v2, v3, v4, v5, v6, v7, v8, v9, none]
abbrev r3 : PyData := lotD 3 [(0, 2), (1, 0), (2, 1)]
abbrev A3 : Option S := some (.d r3)
abbrev A1 : Option S := some (.d (lotD 1 []))
abbrev A0 : Option S := some (.d (lotD 0 []))
abbrev lnE (n : Int) : EV := callE F__law_line 1 (consA (frzP (cst (.int n))) nilA)
theorem ln_at {n : Int} (h0 : 0 ≤ n) (h1 : n ≤ 24) : ∃ d, IsL d ∧ ∀ δ, frzP (lnE n) δ = some (.v (.d d), δ) := by
  obtain ⟨d, e, m, ps, rfl, L⟩ := line_spec h0 h1
  exact ⟨lotD m ps, ⟨m, ps, rfl, L⟩, fun δ => frzP_d (callE_data [.d (.int n)] rfl rfl e (Nat.le_refl 1))⟩
abbrev hd1 : SEV := setS 1 (lstE (consA (frzP (tupE (consA (frzP (vr 5)) (consA (frzP (vr 5)) nilA)))) (consA (frzP (tupE (consA (frzP (vr 5)) (consA (frzP (vr 3)) nilA)))) (consA (frzP (tupE (consA (frzP (vr 3)) (consA (frzP (vr 5)) nilA)))) (consA (frzP (tupE (consA (frzP (vr 4)) (consA (frzP (vr 3)) nilA)))) (consA (frzP (tupE (consA (frzP (vr 3)) (consA (frzP (vr 4)) nilA)))) (consA (frzP (tupE (consA (frzP (lnE 24)) (consA (frzP (vr 5)) nilA)))) nilA)))))))
abbrev hd2 : SEV := setS 1 (bin opAdd (pk 1) (frzP (lstE (consA (frzP (tupE (consA (frzP (lnE 24)) (consA (frzP (vr 4)) nilA)))) (consA (frzP (tupE (consA (frzP (vr 4)) (consA (frzP (lnE 24)) nilA)))) (consA (frzP (tupE (consA (frzP (lnE 12)) (consA (frzP (lnE 2)) nilA)))) (consA (frzP (tupE (consA (frzP (lnE 5)) (consA (frzP (tupE (consA (frzP (cst (.int 5))) (consA (frzP (tupE nilA)) nilA)))) nilA)))) nilA)))))))
abbrev hd3 : SEV := setS 1 (bin opAdd (pk 1) (frzP (lstE (consA (frzP (tupE (consA (frzP (lnE 6)) (consA (frzP (lnE 4)) nilA)))) (consA (frzP (tupE (consA (frzP (tupE (consA (frzP (cst (.int 12))) (consA (frzP (tupE nilA)) nilA)))) (consA (frzP (tupE (consA (frzP (cst (.int 12))) (consA (frzP (tupE nilA)) nilA)))) nilA)))) (consA (frzP (tupE (consA (frzP (lnE 12)) (consA (frzP (tupE (consA (frzP (cst (.int 13))) (consA (frzP (tupE nilA)) nilA)))) nilA)))) (consA (frzP (tupE (consA (frzP (vr 3)) (consA (frzP (tupE (consA (frzP (cst (.int 8))) (consA (frzP (tupE nilA)) nilA)))) nilA)))) nilA)))))))
theorem all_mem {P : PyData → Prop} : ∀ {xs : List PyData}, xs.foldr (fun x q => P x ∧ q) True → ∀ x ∈ xs, P x
  | [], _, x, h => nomatch h
  | y :: ys, ⟨a, b⟩, x, h => by
    rcases List.mem_cons.mp h with rfl | h
    · exact a
    · exact all_mem b x h
theorem head_some (ns : List Int) : ∃ xs : List PyData, seqS hd1 (seqS hd2 hd3) (Z11 ns none none A3 A1 A0 none none none none) = some (.nx (Z11 ns (some (.o (.l xs))) none A3 A1 A0 none none none none)) ∧ xs.length = 14 ∧ ∀ x ∈ xs, GP x := by
  obtain ⟨d24, l24, e24⟩ := ln_at (n := 24) (by decide) (by decide)
  obtain ⟨d12, l12, e12⟩ := ln_at (n := 12) (by decide) (by decide)
  obtain ⟨d2, l2, e2⟩ := ln_at (n := 2) (by decide) (by decide)
  obtain ⟨d5, l5, e5⟩ := ln_at (n := 5) (by decide) (by decide)
  obtain ⟨d6, l6, e6⟩ := ln_at (n := 6) (by decide) (by decide)
  obtain ⟨d4, l4, e4⟩ := ln_at (n := 4) (by decide) (by decide)
  have b0 := bare_lot (n := 0) (by decide) (by decide)
  have b1 := bare_lot (n := 1) (by decide) (by decide)
  have b5 := bare_lot (n := 5) (by decide) (by decide)
  have b8 := bare_lot (n := 8) (by decide) (by decide)
  have b12 := bare_lot (n := 12) (by decide) (by decide)
  have b13 := bare_lot (n := 13) (by decide) (by decide)
  have b3 : IsL r3 := ⟨3, _, rfl, okRaw (by decide +kernel)⟩
  let X1 : List PyData := [.tuple [lotD 0 [], lotD 0 []], .tuple [lotD 0 [], r3], .tuple [r3, lotD 0 []], .tuple [lotD 1 [], r3], .tuple [r3, lotD 1 []], .tuple [d24, lotD 0 []]]
  let X2 : List PyData := [.tuple [d24, lotD 1 []], .tuple [lotD 1 [], d24], .tuple [d12, d2], .tuple [d5, lotD 5 []]]
  let X3 : List PyData := [.tuple [d6, d4], .tuple [lotD 12 [], lotD 12 []], .tuple [d12, lotD 13 []], .tuple [r3, lotD 8 []]]
  let D (v1 : Option S) : Ds := Z11 ns v1 none A3 A1 A0 none none none none
  have bare : ∀ (v1 : Option S) (n : Int), frzP (tupE (consA (frzP (cst (.int n))) (consA (frzP (tupE nilA)) nilA))) (D v1) = some (.v (.d (lotD n [])), D v1) := fun v1 n => tup2 (a := .int n) (b := .tuple []) rfl rfl
  have s1 : hd1 (D none) = some (.nx (D (some (.o (.l X1))))) := (setS_of (i := 1) (lstE_of (ds := X1) (consA_of (tup2 rfl rfl) (consA_of (tup2 rfl rfl) (consA_of (tup2 rfl rfl) (consA_of (tup2 rfl rfl) (consA_of (tup2 rfl rfl) (consA_of (tup2 (e24 _) rfl) rfl)))))) rfl (show 6 ≤ sizeLine by decide))).trans rfl
  have s2 : hd2 (D (some (.o (.l X1)))) = some (.nx (D (some (.o (.l (X1 ++ X2)))))) := by
    have k : lstE (consA (frzP (tupE (consA (frzP (lnE 24)) (consA (frzP (vr 4)) nilA)))) (consA (frzP (tupE (consA (frzP (vr 4)) (consA (frzP (lnE 24)) nilA)))) (consA (frzP (tupE (consA (frzP (lnE 12)) (consA (frzP (lnE 2)) nilA)))) (consA (frzP (tupE (consA (frzP (lnE 5)) (consA (frzP (tupE (consA (frzP (cst (.int 5))) (consA (frzP (tupE nilA)) nilA)))) nilA)))) nilA)))) (D (some (.o (.l X1)))) = some (.o (.l X2), D (some (.o (.l X1)))) :=
      lstE_of (ds := X2) (consA_of (tup2 (e24 _) rfl) (consA_of (tup2 rfl (e24 _)) (consA_of (tup2 (e12 _) (e2 _)) (consA_of (tup2 (e5 _) (bare _ 5)) rfl)))) rfl (show 4 ≤ sizeLine by decide)
    refine (setS_of (i := 1) (bin_of (g := opAdd) (a := .o (.l X1)) (b := .d (.list X2)) (r := .o (.l (X1 ++ X2))) rfl (frzP_l k) rfl rfl ?_)).trans rfl
    show (if X1.length + X2.length ≤ sizeLine then some (S.o (.l (X1 ++ X2))) else none) = _
    exact if_pos (show 6 + 4 ≤ sizeLine by decide)
  have s3 : hd3 (D (some (.o (.l (X1 ++ X2))))) = some (.nx (D (some (.o (.l (X1 ++ X2 ++ X3)))))) := by
    have k : lstE (consA (frzP (tupE (consA (frzP (lnE 6)) (consA (frzP (lnE 4)) nilA)))) (consA (frzP (tupE (consA (frzP (tupE (consA (frzP (cst (.int 12))) (consA (frzP (tupE nilA)) nilA)))) (consA (frzP (tupE (consA (frzP (cst (.int 12))) (consA (frzP (tupE nilA)) nilA)))) nilA)))) (consA (frzP (tupE (consA (frzP (lnE 12)) (consA (frzP (tupE (consA (frzP (cst (.int 13))) (consA (frzP (tupE nilA)) nilA)))) nilA)))) (consA (frzP (tupE (consA (frzP (vr 3)) (consA (frzP (tupE (consA (frzP (cst (.int 8))) (consA (frzP (tupE nilA)) nilA)))) nilA)))) nilA)))) (D (some (.o (.l (X1 ++ X2))))) = some (.o (.l X3), D (some (.o (.l (X1 ++ X2))))) :=
      lstE_of (ds := X3) (consA_of (tup2 (e6 _) (e4 _)) (consA_of (tup2 (bare _ 12) (bare _ 12)) (consA_of (tup2 (e12 _) (bare _ 13)) (consA_of (tup2 rfl (bare _ 8)) rfl)))) rfl (show 4 ≤ sizeLine by decide)
    refine (setS_of (i := 1) (bin_of (g := opAdd) (a := .o (.l (X1 ++ X2))) (b := .d (.list X3)) (r := .o (.l (X1 ++ X2 ++ X3))) rfl (frzP_l k) rfl rfl ?_)).trans rfl
    show (if (X1 ++ X2).length + X3.length ≤ sizeLine then some (S.o (.l (X1 ++ X2 ++ X3))) else none) = _
    exact if_pos (show 10 + 4 ≤ sizeLine by decide)
  refine ⟨X1 ++ X2 ++ X3, seqS_of s1 (seqS_of s2 s3), rfl, all_mem ?_⟩
  exact ⟨gp_of b0 b0, gp_of b0 b3, gp_of b3 b0, gp_of b1 b3, gp_of b3 b1, gp_of l24 b0, gp_of l24 b1, gp_of b1 l24, gp_of l12 l2, gp_of l5 b5, gp_of l6 l4, gp_of b12 b12, gp_of l12 b13, gp_of b3 b8, trivial⟩
abbrev rtE : EV := callE F__law_right 2 (consA (frzP (vr 8)) (consA (frzP (vr 9)) nilA))
abbrev hd4 : SEV := ifS (notT (bl (callB fAll (consA (frzP (lcE [8, 9] (seqI (vr 1)) (tupG 2 (consG (nameG 8) (consG (nameG 9) nilG))) yesT rtE)) nilA)))) (retS (cst (.bool false))) nxS
theorem head_all {ns : List Int} {xs : List PyData} (hl : xs.length = 14) (h : ∀ x ∈ xs, GP x) : hd4 (Z11 ns (some (.o (.l xs))) none A3 A1 A0 none none none none) = some (.nx (Z11 ns (some (.d (.list xs))) none A3 A1 A0 none none none none)) := by
  let δ1 : Ds := Z11 ns (some (.d (.list xs))) none A3 A1 A0 none none none none
  have e := lcE_all (vs := [8, 9]) (fi := seqI (vr 1)) (g := tupG 2 (consG (nameG 8) (consG (nameG 9) nilG))) (te := rtE) (δ := Z11 ns (some (.o (.l xs))) none A3 A1 A0 none none none none) (δ1 := δ1) (xs := xs) (fun _ => .bool true) (seqI_of rfl (.inl rfl)) rfl rfl (fun x hx => by
    obtain ⟨n, ps, m, qs, rfl, L1, L2⟩ := h x hx
    exact ⟨Z11 ns (some (.d (.list xs))) none A3 A1 A0 none none (some (.d (lotD n ps))) (some (.d (lotD m qs))), rfl, rfl, rfl, .d (.bool true), callE_data [.d (lotD n ps), .d (lotD m qs)] rfl rfl (law_right_eq L1 L2) (Nat.le_refl 2), rfl⟩) (by rw [hl]; decide)
  exact ifS_f (notT_of (b := true) (bl_of (callB_of (ss := [.d (.list (xs.map fun _ => .bool true))]) (consA_of (frzP_l e) rfl) rfl (all_true xs)))) rfl
/-! the turns -/
abbrev elE : EV := callE F__law_lot 2 (consA (pk 6) (consA (frzP (callE F__law_of 2 (consA (pk 6) (consA (frzP (lstE (consA (frzP (cst (.int 2))) (consA (frzP (cst (.int 3))) (consA (frzP (cst (.int 4))) (consA (frzP (cst (.int 6))) (consA (frzP (cst (.int 12))) (consA (frzP (cst (.int 24))) nilA)))))))) nilA)))) nilA))
abbrev drE : EV := lcE [10] (rngI1 (consA (frzP (cst (.int 2))) nilA)) (nameG 10) yesT elE
abbrev L11 (ns : List Int) (v1 v2 v3 v4 v5 : Option S) (c : C) (v7 v8 v9 : Option S) : Ds := [some (.z ns), v1, v2, v3, v4, v5, some (.o c), v7, v8, v9, none]
abbrev mosts : List PyData := [.int 2, .int 3, .int 4, .int 6, .int 12, .int 24]
theorem most_of {y : PyData} (h : y ∈ mosts) : ∃ most : Int, y = .int most ∧ 0 ≤ most ∧ most ≤ 24 := by
  have : ∀ x ∈ mosts, ∃ most : Int, x = .int most ∧ 0 ≤ most ∧ most ≤ 24 := all_mem ⟨⟨2, rfl, by decide, by decide⟩, ⟨3, rfl, by decide, by decide⟩, ⟨4, rfl, by decide, by decide⟩, ⟨6, rfl, by decide, by decide⟩, ⟨12, rfl, by decide, by decide⟩, ⟨24, rfl, by decide, by decide⟩, trivial⟩
  exact this y h
theorem el_eq {ns : List Int} {v1 v2 v3 v4 v5 v7 v8 v9 : Option S} {c : C} {x : PyData} {M : Nat} (hp : Pot M c) (hm : M < 2 ^ 28) : ∃ d c', elE [some (.z ns), v1, v2, v3, v4, v5, some (.o c), v7, v8, v9, some (.d x)] = some (.d d, [some (.z ns), v1, v2, v3, v4, v5, some (.o c'), v7, v8, v9, some (.d x)]) ∧ IsL d ∧ Pot (M + 2001) c' := by
  let E (c : C) : Ds := [some (.z ns), v1, v2, v3, v4, v5, some (.o c), v7, v8, v9, some (.d x)]
  obtain ⟨y, c1, hy, e1, hc1⟩ := of_spec (xs := mosts) hp (by omega) (show 0 < 6 by decide) (show 6 < 1000 by decide)
  obtain ⟨most, rfl, b1, b2⟩ := most_of hy
  obtain ⟨d, c2, e2, ⟨n, ps, rfl, L, hn⟩, hc2⟩ := lot_spec (most := most) hc1 (by omega) b1 b2
  have kl : lstE (consA (frzP (cst (.int 2))) (consA (frzP (cst (.int 3))) (consA (frzP (cst (.int 4))) (consA (frzP (cst (.int 6))) (consA (frzP (cst (.int 12))) (consA (frzP (cst (.int 24))) nilA)))))) (E c) = some (.o (.l mosts), E c) := rfl
  have k1 : callE F__law_of 2 (consA (pk 6) (consA (frzP (lstE (consA (frzP (cst (.int 2))) (consA (frzP (cst (.int 3))) (consA (frzP (cst (.int 4))) (consA (frzP (cst (.int 6))) (consA (frzP (cst (.int 12))) (consA (frzP (cst (.int 24))) nilA)))))))) nilA)) (E c) = some (.d (.int most), E c1) := callE_own (i := 6) (δ' := E c) [.d (.list mosts)] (consA_of rfl (consA_of (frzP_l kl) rfl)) rfl rfl e1 (Nat.le_refl 1)
  exact ⟨lotD n ps, c2, callE_own (i := 6) (δ' := E c1) [.d (.int most)] (consA_of rfl (consA_of (frzP_d k1) rfl)) rfl rfl e2 (Nat.le_refl 1), ⟨n, ps, rfl, L⟩, hc2.mono (by omega)⟩
theorem dr_eq {ns : List Int} {v1 v2 v3 v4 v5 v7 v8 v9 : Option S} {c : C} {M : Nat} (hp : Pot M c) (hm : M < 2 ^ 27) : ∃ d1 d2 c', drE (L11 ns v1 v2 v3 v4 v5 c v7 v8 v9) = some (.o (.l [d1, d2]), L11 ns v1 v2 v3 v4 v5 c' v7 v8 v9) ∧ IsL d1 ∧ IsL d2 ∧ Pot (M + 4002) c' := by
  obtain ⟨rs, c', e, hl, hP, hc⟩ := lcE_el (i := 10) (te := elE) (fi := rngI1 (consA (frzP (cst (.int 2))) nilA)) (δ := L11 ns v1 v2 v3 v4 v5 c v7 v8 v9) (xs := rng 0 2) (D := fun c => L11 ns v1 v2 v3 v4 v5 c v7 v8 v9) (E := fun c x => [some (.z ns), v1, v2, v3, v4, v5, some (.o c), v7, v8, v9, some (.d x)]) (c := c) (m := M) (w := 2001) (P := IsL)
    (rngI1_of (n := 2) rfl ⟨by decide, by decide⟩) rfl rfl (fun _ => rfl) (fun _ _ => rfl) (fun _ _ => rfl) (fun _ _ => rfl) (fun m c x hp hm => el_eq hp hm) hp (by rw [rng_len]; omega) (by rw [rng_len]; decide)
  rw [rng_len] at hl hc
  match rs, hl with
  | [d1, d2], _ => exact ⟨d1, d2, c', e, hP _ (by simp), hP _ (by simp), hc⟩
abbrev turnB : SEV := seqS (unpS (frzP drE) (lstG 2 (consG (nameG 8) (consG (nameG 9) nilG)))) (ifS (notT (bl rtE)) (retS (cst (.bool false))) nxS)
theorem turn_body {ns : List Int} {v1 v2 v3 v4 v5 v7 v8 v9 : Option S} {c : C} {M : Nat} (hp : Pot M c) (hm : M < 2 ^ 27) : ∃ c' w8 w9, turnB (L11 ns v1 v2 v3 v4 v5 c v7 v8 v9) = some (.nx (L11 ns v1 v2 v3 v4 v5 c' v7 w8 w9)) ∧ Pot (M + 5000) c' := by
  obtain ⟨d1, d2, c1, e, ⟨n, ps, rfl, L1⟩, ⟨m, qs, rfl, L2⟩, hc⟩ := dr_eq (ns := ns) (v1 := v1) (v2 := v2) (v3 := v3) (v4 := v4) (v5 := v5) (v7 := v7) (v8 := v8) (v9 := v9) hp hm
  let δ : Ds := L11 ns v1 v2 v3 v4 v5 c1 v7 (some (.d (lotD n ps))) (some (.d (lotD m qs)))
  have s1 : unpS (frzP drE) (lstG 2 (consG (nameG 8) (consG (nameG 9) nilG))) (L11 ns v1 v2 v3 v4 v5 c v7 v8 v9) = some (.nx δ) := unpS_of (frzP_l e) rfl
  have t : rtE δ = some (.d (.bool true), δ) := callE_data [.d (lotD n ps), .d (lotD m qs)] rfl rfl (law_right_eq L1 L2) (Nat.le_refl 2)
  exact ⟨c1, _, _, seqS_of s1 (ifS_f (notT_of (b := true) (bl_of t)) rfl), hc.mono (by omega)⟩
abbrev outB : SEV := seqS (setS 6 (callE F__law_pot 2 (consA (frzP (vr 0)) (consA (frzP (vr 2)) nilA)))) (forS (rngI1 (consA (frzP (cst (.int 4))) nilA)) (nameG 7) turnB)
theorem out_body {ns : List Int} {k : Nat} {v1 v3 v4 v5 v6 v7 v8 v9 : Option S} (hk : k ≤ 2) : ∃ w6 w7 w8 w9, outB [some (.z ns), v1, some (.d (.int k)), v3, v4, v5, v6, v7, v8, v9, none] = some (.nx [some (.z ns), v1, some (.d (.int k)), v3, v4, v5, w6, w7, w8, w9, none]) := by
  obtain ⟨c, e, hc⟩ := pot_spec ns k hk
  let K : Option S := some (.d (.int k))
  have s1 : setS 6 (callE F__law_pot 2 (consA (frzP (vr 0)) (consA (frzP (vr 2)) nilA))) [some (.z ns), v1, K, v3, v4, v5, v6, v7, v8, v9, none] = some (.nx (L11 ns v1 K v3 v4 v5 c v7 v8 v9)) := (setS_of (callE_data [.z ns, .d (.int k)] rfl rfl e (Nat.le_refl 2))).trans rfl
  let J : Nat → Ds → Prop := fun j δ => ∃ (c : C) (w7 w8 w9 : Option S), δ = L11 ns v1 K v3 v4 v5 c w7 w8 w9 ∧ Pot (5000 * j) c
  obtain ⟨δ2, e3, c3, w7, w8, w9, rfl, hc3⟩ := forD_inv (I := J) (tg := nameG 7) (body := turnB) (xs := rng 0 4) (δ := L11 ns v1 K v3 v4 v5 c v7 v8 v9) 0 ⟨c, v7, v8, v9, rfl, hc⟩ (fun j x δ hx hI => by
    obtain ⟨c, w7, w8, w9, rfl, hpc⟩ := hI
    obtain ⟨hj, rfl⟩ := rng_at hx
    obtain ⟨c', u8, u9, e, hc'⟩ := turn_body (ns := ns) (v1 := v1) (v2 := K) (v3 := v3) (v4 := v4) (v5 := v5) (v7 := some (.d (.int (0 + (j : Nat))))) (v8 := w8) (v9 := w9) hpc (by omega)
    exact ⟨L11 ns v1 K v3 v4 v5 c (some (.d (.int (0 + (j : Nat))))) w8 w9, _, rfl, e, c', _, u8, u9, rfl, hc'.mono (by omega)⟩)
  exact ⟨_, w7, w8, w9, seqS_of s1 (forS_of (rngI1_of (n := 4) rfl ⟨by decide, by decide⟩) e3)⟩
theorem true_law (ns : List Int) (hn : ns.length ≤ 63) : ∃ cs, F_law [.z ns] = some (.d (.bool true), cs) := by
  generalize ek : (if (if (ns.length : Int) < 3 then (ns.length : Int) else 3) > 1 then (if (ns.length : Int) < 3 then (ns.length : Int) else 3) else 1) = kk
  have kk0 : 1 ≤ kk ∧ kk ≤ 3 := by
    rw [← ek]
    split <;> split <;> omega
  obtain ⟨xs, e1, hl, hg⟩ := head_some ns
  have e2 := head_all (ns := ns) hl hg
  let I : Nat → Ds → Prop := fun j δ => ∃ (w2 w6 w7 w8 w9 : Option S), δ = [some (.z ns), some (.d (.list xs)), w2, A3, A1, A0, w6, w7, w8, w9, none]
  obtain ⟨δ', e, w2, w6, w7, w8, w9, rfl⟩ := forD_inv (I := I) (tg := nameG 2) (body := outB) (xs := DL.rng 0 kk.toNat) (δ := Z11 ns (some (.d (.list xs))) none A3 A1 A0 none none none none) 0 ⟨none, none, none, none, none, rfl⟩ (fun j x δ hx hI => by
    obtain ⟨w2, w6, w7, w8, w9, rfl⟩ := hI
    obtain ⟨hj, rfl⟩ := rng_at hx
    rw [Int.zero_add]
    obtain ⟨u6, u7, u8, u9, e⟩ := out_body (ns := ns) (k := j) (v1 := some (.d (.list xs))) (v3 := A3) (v4 := A1) (v5 := A0) (v6 := w6) (v7 := w7) (v8 := w8) (v9 := w9) (by omega)
    exact ⟨[some (.z ns), some (.d (.list xs)), some (.d (.int (j : Nat))), A3, A1, A0, w6, w7, w8, w9, none], _, rfl, e, _, u6, u7, u8, u9, rfl⟩)
  have s0 : parS [3, 4, 5] (consF (callE F__law_circle 2 (consA (frzP (cst (.int 3))) (consA (frzP (lstE (consA (frzP (cst (.int 1))) nilA))) nilA))) (consF (tupE (consA (frzP (cst (.int 1))) (consA (frzP (tupE nilA)) nilA))) (consF (tupE (consA (frzP (cst (.int 0))) (consA (frzP (tupE nilA)) nilA))) nilF))) (Z11 ns none none none none none none none none none) = some (.nx (Z11 ns none none A3 A1 A0 none none none none)) :=
    (parS_of (is := [3, 4, 5]) (consF_of (callE_data [.d (.int 3), .d (.list [.int 1])] rfl rfl circle3 (Nat.le_refl 2)) (consF_of (tupE_of (ds := [.int 1, .tuple []]) rfl rfl (show 2 ≤ sizeLine by decide)) (consF_of (tupE_of (ds := [.int 0, .tuple []]) rfl rfl (show 2 ≤ sizeLine by decide)) rfl))) rfl).trans rfl
  have s123 : ∀ (k : SEV), seqS (seqS hd1 (seqS hd2 hd3)) k = seqS hd1 (seqS hd2 (seqS hd3 k)) := fun k => by
    funext δ
    unfold seqS
    cases hd1 δ with
    | none => rfl
    | some o1 =>
      cases o1 with
      | nx δ1 =>
        simp only [Option.bind_some]
        cases hd2 δ1 with
        | none => rfl
        | some o2 => cases o2 <;> rfl
      | _ => rfl
  refine ⟨[none], runF_rt (δ := [some (.z ns), some (.d (.list xs)), w2, A3, A1, A0, w6, w7, w8, w9, none]) ?_ rfl⟩
  refine seqS_of s0 ?_
  refine (congrFun (s123 _) _).symm.trans ?_
  refine seqS_of e1 (seqS_of e2 (seqS_of (forS_of (rngI1_of (n := kk) (consA_of (frzP_d ?_) rfl) ⟨by omega, by omega⟩) e) rfl))
  rw [← ek]
  exact callB_of (consA_of rfl (consA_of (frzP_d (callB_of (consA_of rfl (consA_of (frzP_d (callB_of rfl rfl rfl)) rfl)) rfl rfl)) rfl)) rfl rfl
end K13

open PySem PySem.W PyProof.Rows in
set_option maxRecDepth 100000 in
set_option maxHeartbeats 0 in
theorem PySem.Challenge.cw_everlater_k13_beside_and_within_holds : PySem.Challenge.rw_everlater_k13_beside_and_within.Holds := by
  w_on; o_law; k_head; (case hw => w_witness2)
  k_fill
  refine DL.walkLam (l := PySem.Challenge.rw_everlater_k13_beside_and_within) (n := 63) (k := 7) (x := "_law_script") (G := K13.F_law) [("within", ((("within" : Str) ++ (".<locals>." : Str)) ++ ("later" : Str)))] rfl (by decide) rfl ⟨rfl, by decide, by decide⟩ (by decide +kernel) (fun w h Y => PySem.W.km_in_of Y) (fun w h Y => PySem.W.km_tabs_of Y) (fun w => by kernel_rfl) ?F K13.true_law
  case F =>
    intro w mg fa h KX G hmg
    refine' K13.all_mk KX G hmg ?a0 ?l0 ?c0 ?k0 ?a1 ?l1 ?c1 ?k1 ?a2 ?l2 ?c2 ?k2 ?a3 ?l3 ?c3 ?k3 ?a4 ?l4 ?c4 ?k4 ?a5 ?l5 ?c5 ?k5 ?a6 ?l6 ?c6 ?k6 ?a7 ?l7 ?c7 ?k7 ?t7 ?y7 ?u7 ?a8 ?l8 ?c8 ?k8 ?a9 ?l9 ?c9 ?k9 ?a10 ?l10 ?c10 ?k10 ?a11 ?l11 ?c11 ?k11 ?a12 ?l12 ?c12 ?k12 ?a13 ?l13 ?c13 ?k13 ?a14 ?l14 ?c14 ?k14 ?a15 ?l15 ?c15 ?k15 ?z_range ?z_tuple ?z_list ?z_sorted ?z_divmod ?z_ValueError ?z_isinstance ?z_repr ?z_abs ?z_int ?z_len ?z_all ?z_max ?z_min ?zk_MarkError ?qk_MarkError ?kk_MarkError ?sk_MarkError ?tk_MarkError ?zk_TooMany ?xl_TooMany ?rv_TooMany ?sa_TooMany ?no_TooMany ?ii_TooMany ?ti_TooMany ?li_TooMany ?ci_TooMany ?ki_TooMany ?kk_TooMany ?sk_TooMany ?tk_TooMany ?br_MarkError ?bg_MarkError ?bi_MarkError ?zk_Fails ?zk_NotHeld ?zk_NotKept ?zk_Serves ?xc_TooMany ?xf0_TooMany ?xg0_TooMany ?oj0_TooMany ?oj1_TooMany ?oj2_TooMany ?em_TooMany_MarkError ?zc_MOST_MARKS ?rc_MOST_MARKS
    (case a0 => k_is)
    (case l0 => k_is)
    (case c0 => k_is)
    (case k0 => k_is)
    (case a1 => k_is)
    (case l1 => k_is)
    (case c1 => k_is)
    (case k1 => k_is)
    (case a2 => k_is)
    (case l2 => k_is)
    (case c2 => k_is)
    (case k2 => k_is)
    (case a3 => k_is)
    (case l3 => k_is)
    (case c3 => k_is)
    (case k3 => k_is)
    (case a4 => k_is)
    (case l4 => k_is)
    (case c4 => k_is)
    (case k4 => k_is)
    (case a5 => k_is)
    (case l5 => k_is)
    (case c5 => k_is)
    (case k5 => k_is)
    (case a6 => k_is)
    (case l6 => k_is)
    (case c6 => k_is)
    (case k6 => k_is)
    (case a7 => k_is)
    (case l7 => k_is)
    (case c7 => k_is)
    (case k7 => k_is)
    (case t7 => kernel_rfl)
    (case y7 => exact DL.cs_mem (by kernel_rfl))
    (case u7 => exact DL.cs_uniq (by kernel_rfl))
    (case a8 => k_is)
    (case l8 => k_is)
    (case c8 => k_is)
    (case k8 => k_is)
    (case a9 => k_is)
    (case l9 => k_is)
    (case c9 => k_is)
    (case k9 => k_is)
    (case a10 => k_is)
    (case l10 => k_is)
    (case c10 => k_is)
    (case k10 => k_is)
    (case a11 => k_is)
    (case l11 => k_is)
    (case c11 => k_is)
    (case k11 => k_is)
    (case a12 => k_is)
    (case l12 => k_is)
    (case c12 => k_is)
    (case k12 => k_is)
    (case a13 => k_is)
    (case l13 => k_is)
    (case c13 => k_is)
    (case k13 => k_is)
    (case a14 => k_is)
    (case l14 => k_is)
    (case c14 => k_is)
    (case k14 => k_is)
    (case a15 => k_is)
    (case l15 => k_is)
    (case c15 => k_is)
    (case k15 => k_is)
    (case z_range => k_is)
    (case z_tuple => k_is)
    (case z_list => k_is)
    (case z_sorted => k_is)
    (case z_divmod => k_is)
    (case z_ValueError => k_is)
    (case z_isinstance => k_is)
    (case z_repr => k_is)
    (case z_abs => k_is)
    (case z_int => k_is)
    (case z_len => k_is)
    (case z_all => k_is)
    (case z_max => k_is)
    (case z_min => k_is)
    (case zk_MarkError => first | k_is | k_exc | kernel_rfl)
    (case qk_MarkError => first | k_is | k_exc | kernel_rfl)
    (case kk_MarkError => first | k_is | k_exc | kernel_rfl)
    (case sk_MarkError => first | k_is | k_exc | kernel_rfl)
    (case tk_MarkError => first | k_is | k_exc | kernel_rfl)
    (case zk_TooMany => first | k_is | k_exc | kernel_rfl)
    (case xl_TooMany => first | k_is | kernel_rfl | decide +kernel)
    (case rv_TooMany => first | k_is | kernel_rfl | decide +kernel)
    (case sa_TooMany => first | k_is | kernel_rfl | decide +kernel)
    (case no_TooMany => first | k_is | kernel_rfl | decide +kernel)
    (case ii_TooMany => first | k_is | kernel_rfl | decide +kernel)
    (case ti_TooMany => first | k_is | kernel_rfl | decide +kernel)
    (case li_TooMany => first | k_is | kernel_rfl | decide +kernel)
    (case ci_TooMany => first | k_is | kernel_rfl | decide +kernel)
    (case ki_TooMany => first | k_is | kernel_rfl | decide +kernel)
    (case kk_TooMany => first | k_is | k_exc | kernel_rfl)
    (case sk_TooMany => first | k_is | k_exc | kernel_rfl)
    (case tk_TooMany => first | k_is | k_exc | kernel_rfl)
    (case br_MarkError => first | k_is | kernel_rfl | decide +kernel)
    (case bg_MarkError => first | k_is | kernel_rfl | decide +kernel)
    (case bi_MarkError => first | k_is | kernel_rfl | decide +kernel)
    (case zk_Fails => first | k_is | k_exc | kernel_rfl)
    (case zk_NotHeld => first | k_is | k_exc | kernel_rfl)
    (case zk_NotKept => first | k_is | k_exc | kernel_rfl)
    (case zk_Serves => first | k_is | k_exc | kernel_rfl)
    (case xc_TooMany => constructor <;> first | k_is | kernel_rfl)
    (case xf0_TooMany => constructor <;> first | k_is | kernel_rfl)
    (case xg0_TooMany => first | k_is | kernel_rfl | decide +kernel)
    (case oj0_TooMany => first | k_is | k_exc | kernel_rfl)
    (case oj1_TooMany => first | k_is | k_exc | kernel_rfl)
    (case oj2_TooMany => first | k_is | k_exc | kernel_rfl)
    (case em_TooMany_MarkError => first | k_is | k_exc | kernel_rfl)
    (case zc_MOST_MARKS => k_is)
    (case rc_MOST_MARKS => exact ⟨_, rfl⟩)

