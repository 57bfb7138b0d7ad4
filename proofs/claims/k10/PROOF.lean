import PyProof.Rows.All
import Wide.All
import OpenK.AllK
import Wide.FinOn
import Lean
import PyProof.EqAt
import PyProof.EqKinds
import PyProof.TupleCall
import PyProof.NeKinds
import KE.KIntText
import PyProof.ExcAttrAll.ValueError
import KE.KDictList
import KE.KDictOf
import PyProof.AttrMissHeap
import PyProof.Rows.SortStr
import KE.KRevSl
import PyProof.Draws
import PyProof.EnumMake
import KE.KNest
import KE.KLam
import KE.KNestM
import PyProof.FitsBits
import PyProof.ReprRoads
import PyProof.StrLawsRepr
import PySem.Challenge.RW_logdelve_k10_sorts_of_terms
set_option Elab.async false
set_option linter.all false
set_option maxRecDepth 100000
/-! THE HAND LAYER, for ints, bools, texts, own classes, LISTS and tuples (index, slices, in, append, pop ..), calls, loops. Paste it whole ahead of your own text; what your proof does not reach may be deleted. -/
namespace L2
open PySem PySem.Spec PyProof.Rows

/-- a key: an int or a str -/
abbrev Key := Sum Int Str
def keyIs : Key → Value → Bool
  | .inl k, v => Value.isInt k v
  | .inr x, v => Value.isStrOf x v
def keyH (w : World) : Key → Int
  | .inl k => hashInt k
  | .inr x => hashStr w x
theorem keyIs_shape : ∀ {k : Key} {v : Value}, keyIs k v = true → (∃ i t, k = Sum.inl i ∧ v = Value.int i t) ∨ (∃ x t, k = Sum.inr x ∧ v = Value.str x t)
  | .inl i, v, h => by
    obtain ⟨t, e⟩ := Value.isInt_shape (k := i) (v := v) h
    exact .inl ⟨i, t, rfl, e⟩
  | .inr x, v, h => by
    obtain ⟨t, e⟩ := Value.isStrOf_shape (x := x) (v := v) h
    exact .inr ⟨x, t, rfl, e⟩
theorem keyIs_int (i : Int) (t : Tok) : keyIs (.inl i) (.int i t) = true := by simp [keyIs, Value.isInt]
theorem keyIs_str (x : Str) (t : Tok) : keyIs (.inr x) (.str x t) = true := by simp [keyIs, Value.isStrOf]
theorem key_ll (a b : Int) : decide ((Sum.inl a : Key) = Sum.inl b) = (a == b) := by
  by_cases e : a = b
  · subst e; simp
  · have h : ¬ (Sum.inl a : Key) = Sum.inl b := fun q => e (Sum.inl.inj q)
    rw [decide_eq_false h]
    exact (beq_eq_false_iff_ne.mpr e).symm
theorem key_rr (a b : Str) : decide ((Sum.inr a : Key) = Sum.inr b) = decide (a = b) := by
  by_cases e : a = b
  · subst e; simp
  · have h : ¬ (Sum.inr a : Key) = Sum.inr b := fun q => e (Sum.inr.inj q)
    rw [decide_eq_false h, decide_eq_false e]
theorem key_lr (a : Int) (b : Str) : decide ((Sum.inl a : Key) = Sum.inr b) = false := decide_eq_false (fun q => nomatch q)
theorem key_rl (a : Str) (b : Int) : decide ((Sum.inr a : Key) = Sum.inl b) = false := decide_eq_false (fun q => nomatch q)

def mixKind (prog : Program) (w : World) : PySem.KeyKind prog w Key where
  is := keyIs
  hash := keyH w
  inj := fun v a b ha hb => by
    rcases keyIs_shape ha with ⟨i, t, rfl, rfl⟩ | ⟨x, t, rfl, rfl⟩
    · rcases keyIs_shape hb with ⟨j, u, rfl, e⟩ | ⟨y, u, rfl, e⟩
      · injection e with e1 _; rw [e1]
      · exact nomatch e
    · rcases keyIs_shape hb with ⟨j, u, rfl, e⟩ | ⟨y, u, rfl, e⟩
      · exact nomatch e
      · injection e with e1 _; rw [e1]
  byValue := fun k v h => by
    rcases keyIs_shape h with ⟨i, t, rfl, rfl⟩ | ⟨x, t, rfl, rfl⟩ <;> rfl
  pyHash := fun hv h => by
    rcases keyIs_shape hv with ⟨i, t, rfl, rfl⟩ | ⟨x, t, rfl, rfl⟩
    · exact wpAny_pyHash_int h
    · exact wpAny_pyHash_str h
  eqBool := fun hu hv h => by
    rcases keyIs_shape hu with ⟨i, t, rfl, rfl⟩ | ⟨x, t, rfl, rfl⟩
    · rcases keyIs_shape hv with ⟨j, u, rfl, rfl⟩ | ⟨y, u, rfl, rfl⟩
      · rw [key_ll] at h; exact wpAny_eqBool_int h
      · rw [key_lr] at h; exact SeqAt.EqAt.int_str i t y u _ _ _ _ h
    · rcases keyIs_shape hv with ⟨j, u, rfl, rfl⟩ | ⟨y, u, rfl, rfl⟩
      · rw [key_rl] at h; exact SeqAt.EqAt.str_int x t j u _ _ _ _ h
      · rw [key_rr] at h; exact wpAny_eqBool_str h
  «strs» := fun k x t v h => by
    rcases keyIs_shape h with ⟨i, u, rfl, e⟩ | ⟨y, u, rfl, e⟩
    · exact nomatch e
    · injection e with e1 _
      subst e1
      cases v <;> rfl

theorem mixKind_int (prog : Program) (w : World) (i : Int) (t : Tok) : (mixKind prog w).is (.inl i) (.int i t) = true := keyIs_int i t
theorem mixKind_str (prog : Program) (w : World) (x : Str) (t : Tok) : (mixKind prog w).is (.inr x) (.str x t) = true := keyIs_str x t
end L2

namespace L2
open PySem PySem.Spec PyProof.Rows

/-- a value, without the heap -/
inductive V where
  | non | bl (b : Bool) | int (i : Int) | str (x : Str) | byt (b : Array UInt8) | flt (b : UInt64) | ref (a : Addr) | ty (n : String)
  deriving DecidableEq

def RelV : V → Value → Prop
  | .non, u => u = Value.none
  | .bl b, u => u = Value.bool b
  | .int i, u => ∃ t, u = Value.int i t
  | .str x, u => ∃ t, u = Value.str x t
  | .byt b, u => ∃ t, u = Value.bytes b t
  | .flt b, u => ∃ t, u = Value.float b t
  | .ref a, u => u = Value.ref a
  | .ty n, u => u = Value.type n

abbrev Vals : List V → List Value → Prop := Paired RelV
theorem Vals.length {xs : List V} {us : List Value} (r : Vals xs us) : xs.length = us.length := Paired.length r
theorem Vals.get : ∀ {xs : List V} {us : List Value} {i : Nat} {x : V}, Vals xs us → xs[i]? = some x → ∃ u, us[i]? = some u ∧ RelV x u
  | _, _, _, _, .nil, e => by simp at e
  | _, _, 0, _, .cons r _, e => by simp at e; subst e; exact ⟨_, rfl, r⟩
  | _, _, i + 1, x, .cons _ t, e => by
    obtain ⟨u, h1, h2⟩ := Vals.get (i := i) (x := x) t (by simpa using e)
    exact ⟨u, by simpa using h1, h2⟩
theorem Vals.set {x : V} {u : Value} (r : RelV x u) : ∀ {xs : List V} {us : List Value} (i : Nat), Vals xs us → Vals (xs.set i x) (us.set i u)
  | _, _, _, .nil => .nil
  | _, _, 0, .cons _ t => .cons r t
  | _, _, i + 1, .cons q t => .cons q (Vals.set r i t)
theorem Vals.append : ∀ {xs ys : List V} {us ws : List Value}, Vals xs us → Vals ys ws → Vals (xs ++ ys) (us ++ ws)
  | _, _, _, _, .nil, s => s
  | _, _, _, _, .cons r t, s => .cons r (Vals.append t s)
theorem Vals.take : ∀ {xs : List V} {us : List Value} (n : Nat), Vals xs us → Vals (xs.take n) (us.take n)
  | _, _, 0, _ => .nil
  | _, _, _ + 1, .nil => .nil
  | _, _, n + 1, .cons r t => .cons r (Vals.take n t)
theorem Vals.drop : ∀ {xs : List V} {us : List Value} (n : Nat), Vals xs us → Vals (xs.drop n) (us.drop n)
  | _, _, 0, r => r
  | _, _, _ + 1, .nil => .nil
  | _, _, n + 1, .cons _ t => Vals.drop n t
def RelO : Option V → Option Value → Prop
  | some v, some u => RelV v u
  | none, none => True
  | _, _ => False
def KV {κ : Type} : List (κ × V) → List (κ × Value) → Prop := Paired fun (p : κ × V) (q : κ × Value) => p.1 = q.1 ∧ RelV p.2 q.2

/-- a key of a dict (00_mix): an int or a text -/
def kV : Key → V
  | .inl i => .int i
  | .inr x => .str x

/-- what stands at a tracked address -/
inductive HO where
  /-- a list -/
  | lst (xs : List V)
  /-- a tuple (never changes) -/
  | tup (xs : List V)
  /-- a dict whose keys are ints and texts; one whose keys are tuples of ints and texts (the empty one is both) -/
  | dK (kvs : List (Key × V)) | dT (kvs : List (List Key × V))
  /-- a set of ints: its members, its size -/
  | set (S : Int → Bool) (n : Nat)
  /-- an instance of the class at C, its dict at dx, its attributes -/
  | ins (C dx : Addr) (fs : List (Str × V))
  /-- the dict of the instance at x -/
  | own (x : Addr)
  /-- the dict of an exception -/
  | xd (fs : List (Str × V))
  /-- a bound method, f of x -/
  | met (f x : Addr)
  /-- a range object lo, lo + 1, .. below hi -/
  | rng (lo hi : Int)
  /-- a thing that is known to the object (the script; a dict while a loop walks it): read, never written while it is so -/
  | frz (o : Obj) (u : HO)
  /-- a code object's table -/
  | tbl (ps : Array Value)
  /-- any other thing, by what is true of its one object (a def of one's own: SetO a S n := HO.ext fun h => ..) -/
  | ext (φ : Heap → Prop)

abbrev Hp := Addr → Option HO
def upd (H : Hp) (a : Addr) (o : HO) : Hp := fun b => if b = a then some o else H b
theorem upd_same {H : Hp} {a : Addr} {o : HO} : upd H a o a = some o := by unfold upd; rw [if_pos rfl]
theorem upd_ne {H : Hp} {a b : Addr} {o : HO} (h : b ≠ a) : upd H a o b = H b := by unfold upd; rw [if_neg h]
theorem upd_upd {H : Hp} {a : Addr} {o u : HO} : upd (upd H a o) a u = upd H a u := by
  funext b; unfold upd; split <;> rfl
/-- two objects of different content stand apart -/
theorem ne_of {H : Hp} {a b : Addr} {o u : HO} (h : H a = some o) (h' : H b = some u) (d : o ≠ u) : a ≠ b := by
  intro e; subst e; rw [h] at h'; exact d (Option.some.inj h')
theorem ne_of_none {H : Hp} {a b : Addr} {o : HO} (h : H a = some o) (h' : H b = none) : a ≠ b := by
  intro e; subst e; rw [h] at h'; cases h'

section
variable (P : Program) (w : World)
def ObjOk (H : Hp) (h : Heap) (a : Addr) : HO → Prop
  | .lst xs => xs.length ≤ sizeLine ∧ ∃ (its : List Value) (n : Nat), Vals xs its ∧ h.get? a = some { cls := .type "list", data := .seq its.toArray n }
  | .tup xs => xs.length ≤ sizeLine ∧ ∃ its : List Value, Vals xs its ∧ IsTup h a its.toArray
  | .dK kvs => kvs.length ≤ sizeLine ∧ (a == sysModules) = false ∧ ∃ vs, KV kvs vs ∧ h.DictOf (mixKind P w) a vs
  | .dT kvs => kvs.length ≤ sizeLine ∧ (a == sysModules) = false ∧ ∃ xs : List (List Key × Addr × Value),
      Paired (fun (p : List Key × V) (q : List Key × Addr × Value) => p.1 = q.1 ∧ H q.2.1 = some (.tup (p.1.map kV)) ∧ RelV p.2 q.2.2) kvs xs ∧
      ∃ o es ep, h.get? a = some o ∧ o.ExactDict ∧ o.data = .dict es ep ∧ es.toList = xs.map (entryOfKey (tupleKind (mixKind P w))) ∧ (xs.map (·.1)).Nodup
  | .set S n => h.SetOf (intKind P w) a S n
  | .ins C dx fs => H dx = some (.own a) ∧ fs.length ≤ 1000 ∧ dx ≠ a ∧ h.get? a = some (PySem.W.instObj C dx) ∧
      ∃ mA, h.Ns1 dx mA ∧ (∀ f, RelO (fs.lookup f) (mA f)) ∧ PySem.Within mA (fs.map (·.1))
  | .own _ => ∃ o, h.get? a = some o
  | .xd fs => ∃ mA, h.Ns1 a mA ∧ ∀ f, RelO (fs.lookup f) (mA f)
  | .rng lo hi => ∃ t u v, h.get? a = some { cls := .type "range", data := .fields #[.int lo t, .int hi u, .int 1 v] }
  | .frz o u => h.get? a = some o ∧ ObjOk H h a u
  | .tbl ps => h.get? a = some { cls := .none, data := .fields ps }
  | .met f x => h.get? a = some (PySem.W.methodObj (.ref f) (.ref x))
  | .ext φ => φ h ∧ (∃ o, h.get? a = some o) ∧ ∀ h1 h2 : Heap, φ h1 → (∀ o, h1.get? a = some o → h2.get? a = some o) → φ h2
/-- the abstract heap is held -/
def HOk (H : Hp) (h : Heap) : Prop := ∀ a o, H a = some o → ObjOk P w H h a o
end

section
variable {P : Program} {w : World} {H H' : Hp} {h h' : Heap} {a : Addr} {o : HO}
theorem ObjOk.lt (x : ObjOk P w H h a o) : a < h.objs.size := by
  cases o with
  | lst xs => obtain ⟨_, _, _, _, e⟩ := x; exact Heap.lt_size e
  | tup xs => obtain ⟨_, _, _, p⟩ := x; exact p.lt
  | dK kvs => obtain ⟨_, _, _, _, o, _, _, e, _⟩ := x; exact Heap.lt_size e
  | dT kvs => obtain ⟨_, _, _, _, o, _, _, e, _⟩ := x; exact Heap.lt_size e
  | set S n => obtain ⟨o, _, _, _, e, _⟩ := x; exact Heap.lt_size e
  | ins C dx fs => obtain ⟨_, _, _, e, _⟩ := x; exact Heap.lt_size e
  | own y => obtain ⟨_, e⟩ := x; exact Heap.lt_size e
  | xd fs => obtain ⟨_, ⟨_, _, _, e, _⟩, _⟩ := x; exact Heap.lt_size e
  | rng lo hi => obtain ⟨_, _, _, e⟩ := x; exact Heap.lt_size e
  | frz ob u => obtain ⟨e, _⟩ := x; exact Heap.lt_size e
  | tbl ps => exact Heap.lt_size (show h.get? a = some _ from x)
  | met f y => exact Heap.lt_size (show h.get? a = some _ from x)
  | ext φ => obtain ⟨_, ⟨_, e⟩, _⟩ := x; exact Heap.lt_size e
theorem Paired.mapP {α β : Type} {F G : α → β → Prop} : ∀ {l₁ : List α} {l₂ : List β}, Paired F l₁ l₂ → (∀ a b, F a b → G a b) → Paired G l₁ l₂
  | _, _, .nil, _ => .nil
  | _, _, .cons r t, f => .cons (f _ _ r) (Paired.mapP t f)
/-- what an object's description leans on: its own object, its own dict, the tuples -/
theorem ObjOk.stay (x : ObjOk P w H h a o) (k : ∀ b u, (b = a ∨ H b = some (.own a)) → h.get? b = some u → h'.get? b = some u)
    (ho : ∀ b, H b = some (.own a) → H' b = some (.own a)) (ht : ∀ b xs, H b = some (.tup xs) → H' b = some (.tup xs)) : ObjOk P w H' h' a o := by
  induction o with
  | lst xs => obtain ⟨z, its, n, r, e⟩ := x; exact ⟨z, its, n, r, k _ _ (.inl rfl) e⟩
  | tup xs => obtain ⟨z, its, r, ob, e, c⟩ := x; exact ⟨z, its, r, ob, k _ _ (.inl rfl) e, c⟩
  | dK kvs => obtain ⟨z, y, vs, r, ob, es, ep, e, c⟩ := x; exact ⟨z, y, vs, r, ob, es, ep, k _ _ (.inl rfl) e, c⟩
  | dT kvs =>
    obtain ⟨z, y, xs, r, ob, es, ep, e, c⟩ := x
    exact ⟨z, y, xs, Paired.mapP r fun p q z => ⟨z.1, ht _ _ z.2.1, z.2.2⟩, ob, es, ep, k _ _ (.inl rfl) e, c⟩
  | set S n => obtain ⟨ob, es, ep, t, e, c⟩ := x; exact ⟨ob, es, ep, t, k _ _ (.inl rfl) e, c⟩
  | ins C dx fs =>
    obtain ⟨d, z, ne, e, mA, ⟨od, es, ep, e2, c⟩, r⟩ := x
    exact ⟨ho _ d, z, ne, k _ _ (.inl rfl) e, mA, ⟨od, es, ep, k _ _ (.inr d) e2, c⟩, r⟩
  | own y => obtain ⟨ob, e⟩ := x; exact ⟨ob, k _ _ (.inl rfl) e⟩
  | xd fs => obtain ⟨mA, ⟨od, es, ep, e, c⟩, r⟩ := x; exact ⟨mA, ⟨od, es, ep, k _ _ (.inl rfl) e, c⟩, r⟩
  | rng lo hi => obtain ⟨t, u, v, e⟩ := x; exact ⟨t, u, v, k _ _ (.inl rfl) e⟩
  | frz ob u ih => obtain ⟨e, q⟩ := x; exact ⟨k _ _ (.inl rfl) e, ih q⟩
  | tbl ps =>
    have e : h.get? a = some { cls := .none, data := .fields ps } := x
    show h'.get? a = some { cls := .none, data := .fields ps }
    exact k a _ (.inl rfl) e
  | met f y =>
    have e : h.get? a = some (PySem.W.methodObj (.ref f) (.ref y)) := x
    show h'.get? a = some (PySem.W.methodObj (.ref f) (.ref y))
    exact k a _ (.inl rfl) e
  | ext φ => obtain ⟨p, ⟨o, e⟩, st⟩ := x; exact ⟨st _ _ p fun o q => k _ _ (.inl rfl) q, ⟨o, k _ _ (.inl rfl) e⟩, st⟩
theorem HOk.lt (x : HOk P w H h) (e : H a = some o) : a < h.objs.size := (x a o e).lt
theorem HOk.fresh (x : HOk P w H h) (e : h.objs.size ≤ a) : H a = none := by
  cases q : H a with
  | none => rfl
  | some u => exact absurd (Nat.lt_of_lt_of_le (x.lt q) e) (Nat.lt_irrefl _)
/-- every object of the heap is kept -/
theorem HOk.kept (x : HOk P w H h) (k : ∀ b u, h.get? b = some u → h'.get? b = some u) : HOk P w H h' := fun a o e =>
  (x a o e).stay (fun b u _ q => k b u q) (fun _ q => q) fun _ _ q => q
/-- a new object is laid and tracked -/
theorem HOk.laid (x : HOk P w H h) (k : ∀ b u, h.get? b = some u → h'.get? b = some u) (hp : h.objs.size ≤ a) (new : ObjOk P w (upd H a o) h' a o) : HOk P w (upd H a o) h' := fun b u e => by
  have hn := x.fresh hp
  by_cases hb : b = a
  · subst hb; rw [upd_same] at e; cases e; exact new
  · rw [upd_ne hb] at e
    exact (x b u e).stay (fun c v _ q => k c v q) (fun c q => by rw [upd_ne (ne_of_none q hn)]; exact q) fun c xs q => by rw [upd_ne (ne_of_none q hn)]; exact q
end

/-- what may be read as u: it is u, or a known u -/
def Rd (H : Hp) (a : Addr) (u : HO) : Prop := H a = some u ∨ ∃ o, H a = some (.frz o u)
theorem Rd.of {H : Hp} {a : Addr} {u : HO} (h : H a = some u) : Rd H a u := .inl h
theorem Rd.ok {P : Program} {w : World} {H : Hp} {h : Heap} {a : Addr} {u : HO} (r : Rd H a u) (x : HOk P w H h) : ObjOk P w H h a u := by
  rcases r with r | ⟨o, r⟩
  · exact x a u r
  · obtain ⟨_, q⟩ := x a _ r
    exact q
/-- what may be written -/
def Mut : Option HO → Prop
  | some (.lst _) => True
  | some (.dK _) => True
  | some (.dT _) => True
  | some (.set _ _) => True
  | some (.ins _ _ _) => True
  | some (.ext _) => True
  | _ => False
section
variable {P : Program} {w : World} {H : Hp} {h h' : Heap} {x e : Addr} {o' : HO}
/-- the object at e is changed: x itself, or the dict of the instance x -/
theorem HOk.write (ok : HOk P w H h) (mu : Mut (H x)) (he : e = x ∨ H e = some (.own x)) (k : ∀ b u, b ≠ e → h.get? b = some u → h'.get? b = some u) (heo : ∃ u, h'.get? e = some u)
    (new : ObjOk P w (upd H x o') h' x o') : HOk P w (upd H x o') h' := fun b u q => by
  have nown : ∀ c y, H c = some (.own y) → c ≠ x := fun c y r z => by subst z; rw [r] at mu; exact mu
  have ntup : ∀ c xs, H c = some (.tup xs) → c ≠ x := fun c xs r z => by subst z; rw [r] at mu; exact mu
  by_cases hb : b = x
  · subst hb; rw [upd_same] at q; cases q; exact new
  · rw [upd_ne hb] at q
    by_cases hbe : b = e
    · have q' : H b = some (.own x) := by
        rcases he with z | z
        · exact absurd (hbe.trans z) hb
        · rw [hbe]; exact z
      rw [q] at q'; cases q'
      obtain ⟨v, hv⟩ := heo
      exact ⟨v, by rw [hbe]; exact hv⟩
    · refine (ok b u q).stay (fun c v hc r => k c v ?_ r) (fun c r => by rw [upd_ne (nown c b r)]; exact r) fun c xs r => by rw [upd_ne (ntup c xs r)]; exact r
      rcases hc with rfl | hc
      · exact hbe
      · rintro rfl
        rcases he with z | z
        · exact nown c b hc z
        · rw [hc] at z; cases z; exact hb rfl
end

/-! ### kept unless tracked; of the frames at fs (the callers') the slots may change (an exception that passes writes there); of the records at ex (iterators) nothing is said -/
structure Un (fs ex : List Addr) (H H' : Hp) (h h' : Heap) : Prop where
  keep : ∀ b o, h.get? b = some o → H b = none → b ∉ fs → b ∉ ex → h'.get? b = some o
  slot : ∀ b o, h.get? b = some o → H b = none → b ∈ fs → b ∉ ex → ∃ sl, h'.get? b = some { o with slots := sl }
  free : ∀ b o, h.get? b = some o → H b = none → b ∉ ex → H' b = none
  there : ∀ b o, h.get? b = some o → b ∉ ex → ∃ o', h'.get? b = some o'
  tups : ∀ b xs, H b = some (.tup xs) → H' b = some (.tup xs)
  frzs : ∀ b o u, H b = some (.frz o u) → H' b = some (.frz o u)
  tbls : ∀ b ps, H b = some (.tbl ps) → ∃ more, H' b = some (.tbl (ps ++ more))
section
variable {fs fs' ex ex' : List Addr} {H H1 H2 : Hp} {h h1 h2 h' : Heap} {a x e : Addr} {o : HO}
theorem Un.any (u : Un fs ex H H1 h h1) {b : Addr} {ob : Obj} (q : h.get? b = some ob) (n : H b = none) (hx : b ∉ ex) : ∃ sl, h1.get? b = some { ob with slots := sl } := by
  by_cases hb : b ∈ fs
  · exact u.slot b ob q n hb hx
  · exact ⟨ob.slots, u.keep b ob q n hb hx⟩
theorem Un.trans (a : Un fs ex H H1 h h1) (b : Un fs ex H1 H2 h1 h2) : Un fs ex H H2 h h2 where
  keep := fun c ob q n hc hx => b.keep c ob (a.keep c ob q n hc hx) (a.free c ob q n hx) hc hx
  slot := fun c ob q n hc hx => by
    obtain ⟨sl, e1⟩ := a.slot c ob q n hc hx
    obtain ⟨sl', e2⟩ := b.slot c _ e1 (a.free c ob q n hx) hc hx
    exact ⟨sl', e2⟩
  free := fun c ob q n hx => by
    obtain ⟨o', e1⟩ := a.there c ob q hx
    exact b.free c o' e1 (a.free c ob q n hx) hx
  there := fun c ob q hx => by
    obtain ⟨o', e1⟩ := a.there c ob q hx
    exact b.there c o' e1 hx
  tups := fun c xs q => b.tups c xs (a.tups c xs q)
  frzs := fun c ob xs q => b.frzs c ob xs (a.frzs c ob xs q)
  tbls := fun c ps q => by
    obtain ⟨m1, e1⟩ := a.tbls c ps q
    obtain ⟨m2, e2⟩ := b.tbls c _ e1
    exact ⟨m1 ++ m2, by rw [e2, Array.append_assoc]⟩
theorem Un.kept (k : ∀ b u, h.get? b = some u → h'.get? b = some u) : Un fs ex H H h h' :=
  ⟨fun b ob q _ _ _ => k b ob q, fun b ob q _ _ _ => ⟨ob.slots, k b ob q⟩, fun _ _ _ n _ => n, fun b ob q _ => ⟨ob, k b ob q⟩, fun _ _ q => q, fun _ _ _ q => q, fun _ ps q => ⟨#[], by rw [q]; simp⟩⟩
theorem Un.refl : Un fs ex H H h h := Un.kept fun _ _ q => q
theorem Un.laid (k : ∀ b u, h.get? b = some u → h'.get? b = some u) (hp : h.objs.size ≤ a) (hn : H a = none) : Un fs ex H (upd H a o) h h' where
  keep := fun b u q _ _ _ => k b u q
  slot := fun b u q _ _ _ => ⟨u.slots, k b u q⟩
  free := fun b u q n _ => by rw [upd_ne (Nat.ne_of_lt (Nat.lt_of_lt_of_le (Heap.lt_size q) hp))]; exact n
  there := fun b u q _ => ⟨u, k b u q⟩
  tups := fun b xs q => by rw [upd_ne (ne_of_none q hn)]; exact q
  frzs := fun b u xs q => by rw [upd_ne (ne_of_none q hn)]; exact q
  tbls := fun b ps q => ⟨#[], by rw [upd_ne (ne_of_none q hn), q]; simp⟩
theorem Un.write (mu : Mut (H x)) (he : e = x ∨ H e = some (.own x)) (k : ∀ b u, b ≠ e → h.get? b = some u → h'.get? b = some u) (heo : ∃ u, h'.get? e = some u) : Un fs ex H (upd H x o) h h' := by
  have hx : ∀ b, H b = none → b ≠ x := fun b n z => by subst z; rw [n] at mu; exact mu
  have hb : ∀ b, H b = none → b ≠ e := fun b n z => by
    subst z
    rcases he with r | r
    · exact hx b n r
    · rw [n] at r; cases r
  have hm : ∀ b u, H b = some u → ¬ Mut (some u) → b ≠ x := fun b u q nm z => by subst z; rw [q] at mu; exact nm mu
  refine ⟨fun b u q n _ _ => k b u (hb b n) q, fun b u q n _ _ => ⟨u.slots, k b u (hb b n) q⟩, fun b u q n _ => by rw [upd_ne (hx b n)]; exact n, fun b u q _ => ?_,
    fun b xs q => by rw [upd_ne (hm b _ q fun z => z)]; exact q, fun b u xs q => by rw [upd_ne (hm b _ q fun z => z)]; exact q, fun b ps q => ⟨#[], by rw [upd_ne (hm b _ q fun z => z), q]; simp⟩⟩
  by_cases hbe : b = e
  · subst hbe; exact heo
  · exact ⟨u, k b u hbe q⟩
theorem Un.mono (u : Un fs ex H H1 h h1) (hs : ∀ b ∈ fs, b ∈ fs') (hx : ∀ b ∈ ex, b ∈ ex') : Un fs' ex' H H1 h h1 :=
  ⟨fun b ob q n hb he => u.keep b ob q n (fun z => hb (hs b z)) fun z => he (hx b z), fun _ _ q n _ he => u.any q n fun z => he (hx _ z), fun b ob q n he => u.free b ob q n fun z => he (hx b z), fun b ob q he => u.there b ob q fun z => he (hx b z), u.tups, u.frzs, u.tbls⟩
end

/-! ### the heap without what is tracked -/
def trk (h : Heap) (H : Hp) : List Addr := (List.range h.objs.size).filter fun a => (H a).isSome
def hidT (h : Heap) (H : Hp) : Heap := PySem.W.hideAll h (trk h H)
theorem hidT_size (h : Heap) (H : Hp) : (hidT h H).objs.size = h.objs.size := PySem.W.hideAll_size _ _
theorem hidT_get {h : Heap} {H : Hp} {b : Addr} {o : Obj} (e : h.get? b = some o) (n : H b = none) : (hidT h H).get? b = some o :=
  PySem.W.hideAll_get _ e fun hm => by
    have q : (H b).isSome = true := (List.mem_filter.mp hm).2
    rw [n] at q; simp at q
theorem of_hidT {h : Heap} {H : Hp} {b : Addr} {o : Obj} (e : (hidT h H).get? b = some o) : h.get? b = some o ∧ H b = none := by
  have e' : h.get? b = some o := PySem.W.of_hideAll (trk h H) e
  refine ⟨e', ?_⟩
  cases q : H b with
  | none => rfl
  | some x =>
    have hm : b ∈ trk h H := List.mem_filter.mpr ⟨List.mem_range.mpr (Heap.lt_size e'), by simp [q]⟩
    have z : (hidT h H).get? b = none := PySem.W.hideAll_none (trk h H) hm
    rw [z] at e; cases e

/-! ### OpenK's ledger, filled with every new object but one -/
def allNews (g h : Heap) (L : Addr) : List (Addr × Obj) := (List.range h.objs.size).filterMap fun a => if a = L ∨ (g.get? a).isSome = true then none else (h.get? a).map fun o => (a, o)
def rest (g h : Heap) (L d : Addr) : List (Addr × Obj) := (allNews g h L).filter fun p => decide (p.1 ≠ d)
end L2

namespace L2
open PySem PySem.Spec PyProof.Rows

/-- the module's facts, over the base: the heap at the law's entry without what is tracked there -/
structure Mod (K : PySem.W.Frag) (mg : Str → Option Value) (base : Heap) : Prop where
  kin : K.In base
  glob : base.Ns mainGlobals mg
  blt : ∃ mb, base.Ns builtinsNs mb ∧ ∀ x : Str, x ≠ "__name__" → mb x = bootBuiltins x
  nolimit : base.NoLimit

/-- the context: a def's body (or a comprehension's block) running. base: fixed through the whole law; s₀, H₀: the entry; outer: the frames whose slots others may change (a def's callers); stack: all frames that run;
   ex: iterators that were made ahead of the entry and are walked here (a comprehension's); fn: the names whose cells were made at the entry (a def: all; a comprehension's block: its own); calm: not within an except suite; pn: pins that every state bears; xe: what is wanted of an exception that leaves the code -/
structure Cx where
  prog : Program
  w : World
  K : PySem.W.Frag
  mg : Str → Option Value
  base : Heap
  A : Around
  N : List Str
  s₀ : Shared
  H₀ : Hp
  env : Env
  outer : List Env
  stack : List Env
  ex : List Addr
  fn : Str → Bool
  calm : Bool
  pn : List (Addr × Obj)
  xe : Value → Shared → Prop
/-- the callers' frames -/
def frs (l : List Env) : List Addr := l.filterMap (·.frame)
abbrev Cx.fs (X : Cx) : List Addr := frs X.outer

def Vis (sc : Scope) (x : Str) : Prop := sc.names.lookup x = some .local ∨ sc.names.lookup x = some .cell ∨ sc.names.lookup x = some .free
def Loc (sc : Scope) (x : Str) : Prop := sc.names.lookup x = some .local ∨ sc.names.lookup x = some .cell
def Look (env : Env) (h : Heap) (m : Str → Option Value) (x : Str) (u : Value) : Prop :=
  (env.kindOf x = some .local ∧ m x = some u) ∨ ((env.kindOf x = some .cell ∨ env.kindOf x = some .free) ∧ ∃ c, env.cells.lookup x = some c ∧ h.IsCell c (some u))

structure Cx.Ok (X : Cx) : Prop where
  mod : Mod X.K X.mg X.base
  kind : X.env.scope.kind = .function
  glob : X.env.globals = mainGlobals
  blt : X.env.builtins = builtinsNs
  above : X.s₀.heap.objs.size ≤ X.env.locals
  inj : ∀ x y c, X.env.cells.lookup x = some c → X.env.cells.lookup y = some c → x = y
  has : ∀ x, (X.env.kindOf x = some .cell ∨ X.env.kindOf x = some .free) → ∃ c, X.env.cells.lookup x = some c
  cab : ∀ x c, X.fn x = true → X.env.cells.lookup x = some c → X.s₀.heap.objs.size ≤ c
  hd : X.calm = true → X.A.handled = none
  frames : X.A.frames = some X.stack
  stk : X.stack = X.outer ∨ (X.stack = X.env :: X.outer ∧ X.env.frame = some X.env.locals)
  exf : ∀ b ∈ X.ex, b ≠ X.env.locals ∧ ∀ x c, X.env.cells.lookup x = some c → c ≠ b
  bs : ∀ b o, X.base.get? b = some o → X.s₀.heap.get? b = some o ∧ X.H₀ b = none
  bsz : X.base.objs.size ≤ X.s₀.heap.objs.size
  noex : ∀ b o, X.base.get? b = some o → b ∉ X.ex
  exfs : ∀ b ∈ X.ex, b ∉ X.fs
  funs : X.s₀.heap.FunFrames X.base X.outer
  frf : ∀ b ∈ X.fs, X.H₀ b = none

structure Inv (X : Cx) (pins : List (Addr × Obj)) (σ : List (Option V)) (H : Hp) (s : Shared) : Prop where
  ok : X.Ok
  os : s.os = X.s₀.os
  bare : AllBare s.gens
  base : Un X.fs X.ex X.H₀ H X.s₀.heap s.heap
  loc : ∃ m, s.heap.Ns X.env.locals m ∧ ∀ (i : Nat) (x : Str) (v : V), X.N[i]? = some x → σ[i]? = some (some v) → Vis X.env.scope x → ∃ u, RelV v u ∧ Look X.env s.heap m x u
  cell : ∀ x c, X.env.cells.lookup x = some c → ∃ v, s.heap.IsCell c v
  free : H X.env.locals = none
  freeC : ∀ x c, X.env.cells.lookup x = some c → H c = none
  pin : ∀ p ∈ X.pn ++ pins, s.heap.get? p.1 = some p.2 ∧ H p.1 = none ∧ p.1 ≠ X.env.locals ∧ p.1 ∉ X.fs ∧ ∀ v, p.2.data ≠ .cell v
  hok : HOk X.prog X.w H s.heap
  len : σ.length = X.N.length

section
variable {X : Cx} {pins : List (Addr × Obj)} {σ : List (Option V)} {H H' : Hp} {s : Shared} {h' : Heap}

theorem Cx.Ok.nofr (ok : X.Ok) {b : Addr} {o : Obj} (e : X.base.get? b = some o) : b ∉ X.fs := fun hb => by
  have := (ok.funs.mem hb).1
  rw [e] at this; cases this
theorem Inv.bs (I : Inv X pins σ H s) : ∀ b o, X.base.get? b = some o → s.heap.get? b = some o ∧ H b = none := fun b o e =>
  ⟨I.base.keep b o (I.ok.bs b o e).1 (I.ok.bs b o e).2 (I.ok.nofr e) (I.ok.noex b o e), I.base.free b o (I.ok.bs b o e).1 (I.ok.bs b o e).2 (I.ok.noex b o e)⟩
theorem Inv.bk (I : Inv X pins σ H s) : ∀ b o, X.base.get? b = some o → s.heap.get? b = some o := fun b o e => (I.bs b o e).1
theorem Inv.mod (I : Inv X pins σ H s) : Mod X.K X.mg X.base := I.ok.mod
theorem Inv.kIn (I : Inv X pins σ H s) : X.K.In s.heap := I.ok.mod.kin.keeps I.bk
theorem Inv.nolimit (I : Inv X pins σ H s) : s.heap.NoLimit := I.ok.mod.nolimit.keeps I.bk
theorem Inv.lt (I : Inv X pins σ H s) : X.env.locals < s.heap.objs.size := let ⟨_, hn, _⟩ := I.loc; hn.lt
theorem Inv.sz (I : Inv X pins σ H s) : X.s₀.heap.objs.size ≤ s.heap.objs.size := Nat.le_trans I.ok.above (Nat.le_of_lt I.lt)
theorem Inv.nofs (I : Inv X pins σ H s) {a : Addr} (h : s.heap.objs.size ≤ a) : a ∉ X.fs := fun hb => by
  obtain ⟨_, o, ho, _⟩ := I.ok.funs.mem hb
  exact absurd (Nat.lt_of_lt_of_le (Heap.lt_size ho) (Nat.le_trans I.sz h)) (Nat.lt_irrefl _)
theorem Inv.cne (I : Inv X pins σ H s) : ∀ x c, X.env.cells.lookup x = some c → c ≠ X.env.locals := fun x c e z => by
  obtain ⟨v, o, ho, hd⟩ := I.cell x c e
  obtain ⟨m, ⟨o', es, ep, ho', hd', _⟩, _⟩ := I.loc
  rw [z, ho'] at ho; cases ho; rw [hd'] at hd; cases hd
theorem Inv.funs (I : Inv X pins σ H s) : s.heap.FunFrames X.base X.outer := by
  have all : ∀ (l : List Env), (∀ b ∈ frs l, b ∈ X.fs) → X.s₀.heap.FunFrames X.base l → s.heap.FunFrames X.base l := by
    intro l
    induction l with
    | nil => intro _ _; trivial
    | cons env r ih =>
      intro hs hl
      obtain ⟨hk, ⟨L, o, hf, hn, ho, hd⟩, hr⟩ := hl
      have hL : L ∈ X.fs := hs L (by unfold frs; rw [List.filterMap_cons, hf]; exact List.mem_cons_self)
      obtain ⟨sl, e⟩ := I.base.slot L o ho (I.ok.frf L hL) hL fun z => I.ok.exfs L z hL
      exact ⟨hk, ⟨L, _, hf, hn, e, hd⟩, ih (fun b hb => hs b (by unfold frs; rw [List.filterMap_cons, hf]; exact List.mem_cons_of_mem _ hb)) hr⟩
  exact all X.outer (fun _ hb => hb) I.ok.funs

/-- the frames that run, for a call -/
theorem Inv.stack (I : Inv X pins σ H s) : s.heap.FunFrames X.base X.stack := by
  rcases I.ok.stk with e | ⟨e, hf⟩
  · rw [e]; exact I.funs
  · rw [e]
    obtain ⟨m, hn, _⟩ := I.loc
    refine .cons (by rw [I.ok.kind]; decide) hf hn ?_ I.funs
    exact Heap.get?_none_of_le (Nat.le_trans I.ok.bsz I.ok.above)
theorem Inv.stkSub (I : Inv X pins σ H s) : ∀ b ∈ frs X.stack, b ∈ X.env.locals :: X.fs := fun b hb => by
  rcases I.ok.stk with e | ⟨e, hf⟩
  · rw [e] at hb; exact List.mem_cons_of_mem _ hb
  · rw [e] at hb
    unfold frs at hb
    rw [List.filterMap_cons, hf] at hb
    exact hb
theorem Inv.stkFree (I : Inv X pins σ H s) : ∀ b ∈ frs X.stack, H b = none := fun b hb => by
  rcases List.mem_cons.mp (I.stkSub b hb) with e | hb
  · rw [e]; exact I.free
  · obtain ⟨_, o, ho, _⟩ := I.ok.funs.mem hb
    exact I.base.free b o ho (I.ok.frf b hb) fun z => I.ok.exfs b z hb

/-- THE STEP: the untracked objects but the frame and the records at ch are kept (the callers' frames up to slots), the frame's map is kept, the new abstract heap is held -/
theorem Inv.step {g' : Array GenState} {t' : Nat} {d' : Drawn} {ch : List Addr} (I : Inv X pins σ H s)
    (hch : ∀ b ∈ ch, (b ∈ X.ex ∨ X.s₀.heap.objs.size ≤ b) ∧ b ≠ X.env.locals ∧ (∀ x c, X.env.cells.lookup x = some c → c ≠ b) ∧ ∀ p ∈ X.pn ++ pins, p.1 ≠ b)
    (keep : ∀ b o, b ≠ X.env.locals → b ∉ X.fs → b ∉ ch → s.heap.get? b = some o → H b = none → h'.get? b = some o)
    (slot : ∀ b o, b ≠ X.env.locals → b ∈ X.fs → b ∉ ch → s.heap.get? b = some o → H b = none → ∃ sl, h'.get? b = some { o with slots := sl }) (free : ∀ b o, b ∉ ch → s.heap.get? b = some o → H b = none → H' b = none)
    (there : ∀ b o, b ∉ ch → s.heap.get? b = some o → ∃ o', h'.get? b = some o')
    (tups : ∀ b xs, H b = some (.tup xs) → H' b = some (.tup xs)) (frzs : ∀ b o u, H b = some (.frz o u) → H' b = some (.frz o u)) (tbls : ∀ b ps, H b = some (.tbl ps) → ∃ more, H' b = some (.tbl (ps ++ more)))
    (ns : ∀ m, s.heap.Ns X.env.locals m → h'.Ns X.env.locals m) (hok : HOk X.prog X.w H' h') (hg : AllBare g') :
    Inv X pins σ H' { s with heap := h', gens := g', drawn := d', toks := t' } := by
  have neL : ∀ b o, X.s₀.heap.get? b = some o → b ≠ X.env.locals := fun b o e => Nat.ne_of_lt (Nat.lt_of_lt_of_le (Heap.lt_size e) I.ok.above)
  have neC : ∀ b o, X.s₀.heap.get? b = some o → b ∉ X.ex → b ∉ ch := fun b o e hx hb => by
    rcases (hch b hb).1 with z | z
    · exact hx z
    · exact absurd (Nat.lt_of_lt_of_le (Heap.lt_size e) z) (Nat.lt_irrefl _)
  have cellK : ∀ x c, X.env.cells.lookup x = some c → ∀ v, s.heap.IsCell c v → h'.IsCell c v := fun x c e v ⟨o, ho, hd⟩ => by
    have nch : c ∉ ch := fun z => (hch c z).2.2.1 x c e rfl
    by_cases hc : c ∈ X.fs
    · obtain ⟨sl, q⟩ := slot c o (I.cne x c e) hc nch ho (I.freeC x c e)
      exact ⟨_, q, hd⟩
    · exact ⟨o, keep c o (I.cne x c e) hc nch ho (I.freeC x c e), hd⟩
  refine ⟨I.ok, I.os, hg, ⟨fun b o e n hb hx => ?_, fun b o e n hb hx => ?_, fun b o e n hx => ?_, fun b o e hx => ?_, fun b xs e => tups b xs (I.base.tups b xs e), fun b o xs e => frzs b o xs (I.base.frzs b o xs e), fun b ps e => ?_⟩, ?_, fun x c e => ?_, ?_, fun x c e => ?_, fun p hp => ?_, hok, I.len⟩
  · exact keep b o (neL b o e) hb (neC b o e hx) (I.base.keep b o e n hb hx) (I.base.free b o e n hx)
  · obtain ⟨sl, e1⟩ := I.base.slot b o e n hb hx
    obtain ⟨sl', e2⟩ := slot b _ (neL b o e) hb (neC b o e hx) e1 (I.base.free b o e n hx)
    exact ⟨sl', e2⟩
  · obtain ⟨o', e1⟩ := I.base.there b o e hx
    exact free b o' (neC b o e hx) e1 (I.base.free b o e n hx)
  · obtain ⟨o', e1⟩ := I.base.there b o e hx
    exact there b o' (neC b o e hx) e1
  · obtain ⟨m1, e1⟩ := I.base.tbls b ps e
    obtain ⟨m2, e2⟩ := tbls b _ e1
    exact ⟨m1 ++ m2, by rw [e2, Array.append_assoc]⟩
  · obtain ⟨m, hn, hl⟩ := I.loc
    refine ⟨m, ns m hn, fun i x v e1 e2 e3 => ?_⟩
    obtain ⟨u, r, l⟩ := hl i x v e1 e2 e3
    refine ⟨u, r, ?_⟩
    rcases l with l | ⟨k, c, e, z⟩
    · exact .inl l
    · exact .inr ⟨k, c, e, cellK x c e _ z⟩
  · obtain ⟨v, z⟩ := I.cell x c e
    exact ⟨v, cellK x c e v z⟩
  · obtain ⟨m, ⟨o, _, _, ho, _⟩, _⟩ := I.loc
    exact free _ o (fun z => (hch _ z).2.1 rfl) ho I.free
  · obtain ⟨v, o, ho, hd⟩ := I.cell x c e
    exact free c o (fun z => (hch c z).2.2.1 x c e rfl) ho (I.freeC x c e)
  · obtain ⟨e, n, ne, nf, d⟩ := I.pin p hp
    have nch : p.1 ∉ ch := fun z => (hch p.1 z).2.2.2 p hp rfl
    exact ⟨keep p.1 p.2 ne nf nch e n, free p.1 p.2 nch e n, ne, nf, d⟩
/-- .. where the frame's own object is kept too -/
theorem Inv.un {t' : Nat} (I : Inv X pins σ H s) (u : Un X.fs [] H H' s.heap h') (hok : HOk X.prog X.w H' h') : Inv X pins σ H' { s with heap := h', toks := t' } := by
  obtain ⟨m, ⟨o, es, ep, ho, r⟩, _⟩ := id I.loc
  obtain ⟨sl, hL⟩ := u.any ho I.free (by simp)
  exact I.step (g' := s.gens) (d' := s.drawn) (ch := []) (fun _ z => nomatch z) (fun b o _ hb _ e n => u.keep b o e n hb (by simp)) (fun b o _ hb _ e n => u.slot b o e n hb (by simp)) (fun b o _ e n => u.free b o e n (by simp)) (fun b o _ e => u.there b o e (by simp)) u.tups u.frzs u.tbls (fun m' hm => by
    obtain ⟨o', es', ep', ho', r'⟩ := hm
    rw [ho] at ho'; cases ho'
    exact ⟨_, es', ep', hL, r'⟩) hok I.bare
/-- behind a call (or a comprehension's block): the slots of this frame may have changed too, the records at ch may have turned -/
theorem Inv.call {g' : Array GenState} {t' : Nat} {d' : Drawn} {ch : List Addr} (I : Inv X pins σ H s) (u : Un (frs X.stack) ch H H' s.heap h') (hok : HOk X.prog X.w H' h') (hg : AllBare g')
    (hch : ∀ b ∈ ch, (b ∈ X.ex ∨ X.s₀.heap.objs.size ≤ b) ∧ b ≠ X.env.locals ∧ (∀ x c, X.env.cells.lookup x = some c → c ≠ b) ∧ ∀ p ∈ X.pn ++ pins, p.1 ≠ b) :
    Inv X pins σ H' { s with heap := h', gens := g', drawn := d', toks := t' } := by
  obtain ⟨m, ⟨o, es, ep, ho, r⟩, _⟩ := id I.loc
  obtain ⟨sl, hL⟩ := u.any ho I.free fun z => (hch _ z).2.1 rfl
  exact I.step (ch := ch) hch (fun b o hL hb hc e n => u.keep b o e n (fun z => (List.mem_cons.mp (I.stkSub b z)).elim hL hb) hc) (fun b o _ _ hc e n => u.any e n hc) (fun b o hc e n => u.free b o e n hc) (fun b o hc e => u.there b o e hc) u.tups u.frzs u.tbls (fun m' hm => by
    obtain ⟨o', es', ep', ho', r'⟩ := hm
    rw [ho] at ho'; cases ho'
    exact ⟨_, es', ep', hL, r'⟩) hok hg
/-- an untracked record of ours (an iterator) has turned -/
theorem Inv.turned {t' : Nat} {it : Addr} (I : Inv X pins σ H s) (k : ∀ b o, b ≠ it → s.heap.get? b = some o → h'.get? b = some o) (hn : H it = none) (hL : it ≠ X.env.locals)
    (h1 : it ∈ X.ex ∨ X.s₀.heap.objs.size ≤ it) (h2 : ∀ x c, X.env.cells.lookup x = some c → c ≠ it) (h3 : ∀ p ∈ X.pn ++ pins, p.1 ≠ it) : Inv X pins σ H { s with heap := h', toks := t' } := by
  have nit : ∀ b u, H b = some u → b ≠ it := fun b u e z => by rw [z, hn] at e; cases e
  refine I.step (g' := s.gens) (d' := s.drawn) (ch := [it]) (fun b hb => ?_) (fun b o _ _ hc e _ => k b o (fun z => hc (by simp [z])) e) (fun b o _ _ hc e _ => ⟨o.slots, k b o (fun z => hc (by simp [z])) e⟩) (fun _ _ _ _ n => n)
    (fun b o hc e => ⟨o, k b o (fun z => hc (by simp [z])) e⟩) (fun _ _ e => e) (fun _ _ _ e => e) (fun b ps e => ⟨#[], by rw [e]; simp⟩) (fun m hm => ?_) (fun b u e => ?_) I.bare
  · have e : b = it := by simpa using hb
    subst e
    exact ⟨h1, hL, h2, h3⟩
  · obtain ⟨o, es, ep, ho, r⟩ := hm
    exact ⟨o, es, ep, k _ o (Ne.symm hL) ho, r⟩
  · refine (I.hok b u e).stay (fun c v hc q => k c v ?_ q) (fun _ q => q) fun _ _ q => q
    rcases hc with z | z
    · rw [z]; exact nit b u e
    · exact nit c _ z
theorem Inv.tok (I : Inv X pins σ H s) (t : Nat) : Inv X pins σ H { s with toks := t } := I.un (h' := s.heap) (t' := t) Un.refl I.hok
/-- all objects kept -/
theorem Inv.kept {t' : Nat} (I : Inv X pins σ H s) (k : ∀ b u, s.heap.get? b = some u → h'.get? b = some u) : Inv X pins σ H { s with heap := h', toks := t' } := I.un (Un.kept k) (I.hok.kept k)
/-- a new object laid and tracked -/
theorem Inv.laid {a : Addr} {o : HO} {t' : Nat} (I : Inv X pins σ H s) (k : ∀ b u, s.heap.get? b = some u → h'.get? b = some u) (hp : s.heap.objs.size ≤ a) (new : ObjOk X.prog X.w (upd H a o) h' a o) :
    Inv X pins σ (upd H a o) { s with heap := h', toks := t' } := I.un (Un.laid k hp (I.hok.fresh hp)) (I.hok.laid k hp new)
/-- an object written -/
theorem Inv.write {x e : Addr} {o : HO} {t' : Nat} (I : Inv X pins σ H s) (mu : Mut (H x)) (he : e = x ∨ H e = some (.own x)) (k : ∀ b u, b ≠ e → s.heap.get? b = some u → h'.get? b = some u) (heo : ∃ u, h'.get? e = some u)
    (new : ObjOk X.prog X.w (upd H x o) h' x o) : Inv X pins σ (upd H x o) { s with heap := h', toks := t' } := I.un (Un.write mu he k heo) (I.hok.write mu he k heo new)
theorem Inv.pins_of {pins' : List (Addr × Obj)} (I : Inv X pins σ H s) (h : ∀ p ∈ pins', s.heap.get? p.1 = some p.2 ∧ H p.1 = none ∧ p.1 ≠ X.env.locals ∧ p.1 ∉ X.fs ∧ ∀ v, p.2.data ≠ .cell v) : Inv X pins' σ H s :=
  ⟨I.ok, I.os, I.bare, I.base, I.loc, I.cell, I.free, I.freeC, fun p hp => (List.mem_append.mp hp).elim (fun z => I.pin p (List.mem_append_left _ z)) (h p), I.hok, I.len⟩

theorem nodup_ix {N : List Str} (hN : N.Nodup) {i j : Nat} {x : Str} (a : N[i]? = some x) (b : N[j]? = some x) : i = j := by
  obtain ⟨h1, e1⟩ := List.getElem?_eq_some_iff.mp a
  obtain ⟨h2, e2⟩ := List.getElem?_eq_some_iff.mp b
  exact (List.getElem_inj hN).mp (e1.trans e2.symm)

/-- a name is stored; what changed -/
theorem store_ok2 {M : Model} {A : Around} {E : Value → Shared → Prop} {i : Nat} {x : Str} {v : V} {u : Value} {Q : Unit → Shared → Prop} (I : Inv X pins σ H s) (hN : X.N.Nodup) (hi : X.N[i]? = some x) (hx : Loc X.env.scope x) (r : RelV v u)
    (h : ∀ s', Inv X pins (σ.set i (some v)) H s' → (∃ a, Heap.SameBut a s.heap s'.heap ∧ (a = X.env.locals ∨ X.env.cells.lookup x = some a)) → Q () s') (hf : X.fn x = true ∨ X.env.scope.names.lookup x = some .local := by first | exact .inl rfl | exact .inr rfl | assumption) : wpAny M A (storeName X.env x u) Q E s := by
  obtain ⟨m, hn, hl⟩ := id I.loc
  have hcls : (X.env.scope.kind == .class || (X.env.scope.kind == .module && X.env.locals != X.env.globals)) = false := by rw [I.ok.kind]; rfl
  have hiσ : i < σ.length := by rw [I.len]; exact (List.getElem?_eq_some_iff.mp hi).1
  have cne := I.cne
  have tracked : ∀ {a : Addr} {h' : Heap}, (∃ o, s.heap.get? a = some o ∧ H a = none) → Heap.SameBut a s.heap h' → HOk X.prog X.w H h' := fun {a h'} ha hs b ob e => by
    obtain ⟨_, _, hfree⟩ := ha
    refine (I.hok b ob e).stay (fun c w' hc q => (hs.2 c ?_).trans q) (fun _ q => q) fun _ _ q => q
    rintro rfl
    rcases hc with rfl | hc
    · rw [hfree] at e; cases e
    · rw [hfree] at hc; cases hc
  rcases hx with hk | hk
  · refine wpAny_storeName_local hk hn (fun h' hn' hs => ?_) hcls
    obtain ⟨oL, _, _, hoL, _⟩ := id hn
    refine h _ ⟨I.ok, I.os, I.bare, ⟨fun b o e n hb hx => ?_, fun b o e n hb hx => ?_, I.base.free, fun b o e hx => ?_, I.base.tups, I.base.frzs, I.base.tbls⟩, ⟨_, hn', fun j y v' e1 e2 e3 => ?_⟩, fun y c e => ?_, I.free, I.freeC, fun p hp => ?_, tracked ⟨oL, hoL, I.free⟩ hs, by simpa using I.len⟩ ⟨_, hs, .inl rfl⟩
    · exact (hs.2 b (Nat.ne_of_lt (Nat.lt_of_lt_of_le (Heap.lt_size e) I.ok.above))).trans (I.base.keep b o e n hb hx)
    · obtain ⟨sl, e1⟩ := I.base.slot b o e n hb hx
      exact ⟨sl, (hs.2 b (Nat.ne_of_lt (Nat.lt_of_lt_of_le (Heap.lt_size e) I.ok.above))).trans e1⟩
    · obtain ⟨o', e1⟩ := I.base.there b o e hx
      exact ⟨o', (hs.2 b (Nat.ne_of_lt (Nat.lt_of_lt_of_le (Heap.lt_size e) I.ok.above))).trans e1⟩
    · by_cases hj : j = i
      · subst hj
        rw [hi] at e1; cases e1
        rw [List.getElem?_set_self hiσ] at e2
        cases e2
        exact ⟨u, r, .inl ⟨hk, by simp⟩⟩
      · rw [List.getElem?_set_ne (Ne.symm hj)] at e2
        obtain ⟨u', r', q⟩ := hl j y v' e1 e2 e3
        refine ⟨u', r', ?_⟩
        rcases q with ⟨k, e⟩ | ⟨k, c, e, z⟩
        · refine .inl ⟨k, ?_⟩
          have : y ≠ x := fun e => hj (nodup_ix hN e1 (e ▸ hi))
          simp [this, e]
        · exact .inr ⟨k, c, e, z.sameBut hs (cne y c e)⟩
    · obtain ⟨w', z⟩ := I.cell y c e
      exact ⟨w', z.sameBut hs (cne y c e)⟩
    · obtain ⟨e, n, ne, nf, d⟩ := I.pin p hp
      exact ⟨(hs.2 p.1 ne).trans e, n, ne, nf, d⟩
  · have hfn : X.fn x = true := by
      rcases hf with z | z
      · exact z
      · rw [z] at hk; cases hk
    obtain ⟨c, hc⟩ := I.ok.has x (.inl hk)
    obtain ⟨w', z⟩ := I.cell x c hc
    refine wpAny_storeName_cell I.ok.kind hk hc z (fun h' hc' hs => ?_)
    obtain ⟨oc, hoc, hocd⟩ := id z
    refine h { s with heap := h' } ⟨I.ok, I.os, I.bare, ⟨fun b o e n hb hx => ?_, fun b o e n hb hx => ?_, I.base.free, fun b o e hx => ?_, I.base.tups, I.base.frzs, I.base.tbls⟩, ⟨m, hn.sameBut hs (Ne.symm (cne x c hc)), fun j y v' e1 e2 e3 => ?_⟩, fun y c' e => ?_, I.free, I.freeC, fun p hp => ?_, tracked ⟨oc, hoc, I.freeC x c hc⟩ hs, by simpa using I.len⟩ ⟨c, hs, .inr hc⟩
    · exact (hs.2 b (Nat.ne_of_lt (Nat.lt_of_lt_of_le (Heap.lt_size e) (I.ok.cab x c hfn hc)))).trans (I.base.keep b o e n hb hx)
    · obtain ⟨sl, e1⟩ := I.base.slot b o e n hb hx
      exact ⟨sl, (hs.2 b (Nat.ne_of_lt (Nat.lt_of_lt_of_le (Heap.lt_size e) (I.ok.cab x c hfn hc)))).trans e1⟩
    · obtain ⟨o', e1⟩ := I.base.there b o e hx
      exact ⟨o', (hs.2 b (Nat.ne_of_lt (Nat.lt_of_lt_of_le (Heap.lt_size e) (I.ok.cab x c hfn hc)))).trans e1⟩
    · by_cases hj : j = i
      · subst hj
        rw [hi] at e1; cases e1
        rw [List.getElem?_set_self hiσ] at e2
        cases e2
        exact ⟨u, r, .inr ⟨.inl hk, c, hc, hc'⟩⟩
      · rw [List.getElem?_set_ne (Ne.symm hj)] at e2
        obtain ⟨u', r', q⟩ := hl j y v' e1 e2 e3
        refine ⟨u', r', ?_⟩
        rcases q with q | ⟨k, c', e, z'⟩
        · exact .inl q
        · refine .inr ⟨k, c', e, z'.sameBut hs ?_⟩
          rintro rfl
          exact hj (nodup_ix hN e1 (I.ok.inj _ _ _ e hc ▸ hi))
    · by_cases hcc : c' = c
      · subst hcc; exact ⟨_, hc'⟩
      · obtain ⟨w2, z2⟩ := I.cell y c' e
        exact ⟨w2, z2.sameBut hs hcc⟩
    · obtain ⟨e, n, ne, nf, d⟩ := I.pin p hp
      refine ⟨(hs.2 p.1 ?_).trans e, n, ne, nf, d⟩
      intro q
      rw [q, hoc] at e
      have q' : oc = p.2 := Option.some.inj e
      exact d w' (by rw [← q']; exact hocd)
theorem store_ok {M : Model} {A : Around} {E : Value → Shared → Prop} {i : Nat} {x : Str} {v : V} {u : Value} {Q : Unit → Shared → Prop} (I : Inv X pins σ H s) (hN : X.N.Nodup) (hi : X.N[i]? = some x) (hx : Loc X.env.scope x) (r : RelV v u)
    (h : ∀ s', Inv X pins (σ.set i (some v)) H s' → Q () s') (hf : X.fn x = true ∨ X.env.scope.names.lookup x = some .local := by first | exact .inl rfl | exact .inr rfl | assumption) : wpAny M A (storeName X.env x u) Q E s :=
  store_ok2 I hN hi hx r (fun s' I' _ => h s' I') hf
/-- behind a call or a block, the state as it is -/
theorem Inv.call' {s' : Shared} {ch : List Addr} (I : Inv X pins σ H s) (ho : s'.os = s.os) (u : Un (frs X.stack) ch H H' s.heap s'.heap) (hok : HOk X.prog X.w H' s'.heap) (hg : AllBare s'.gens)
    (hch : ∀ b ∈ ch, (b ∈ X.ex ∨ X.s₀.heap.objs.size ≤ b) ∧ b ≠ X.env.locals ∧ (∀ x c, X.env.cells.lookup x = some c → c ≠ b) ∧ ∀ p ∈ X.pn ++ pins, p.1 ≠ b) : Inv X pins σ H' s' := by
  obtain ⟨h', g', d', t', o'⟩ := s'
  have e : o' = s.os := ho
  subst e
  exact I.call (g' := g') (t' := t') (d' := d') u hok hg hch
end

/-! ### the judgements -/
/-- an exception: its class, its own dict's address (where it has one), the abstract heap behind it -/
abbrev XK := Value → Option Addr → Hp → Prop
abbrev St := List (Option V)
abbrev VK := V → Hp → Prop
/-- an expression's reading; a test's; an argument list's -/
abbrev TE := St → Hp → VK → Prop
abbrev TT := St → Hp → (Bool → Hp → Prop) → Prop
abbrev TA := St → Hp → (List V → Hp → Prop) → Prop
/-- what is wanted behind a statement -/
structure Ends where
  nx : St → Hp → Prop
  rt : VK
  bk : St → Hp → Prop := fun _ _ => False
  ct : St → Hp → Prop := fun _ _ => False
abbrev TS := Ends → St → Hp → Prop

def EP (X : Cx) (pins : List (Addr × Obj)) (σ : St) (Q : VK) (u : Value) (s' : Shared) : Prop := ∃ v H', Inv X pins σ H' s' ∧ RelV v u ∧ Q v H'
def TP (X : Cx) (pins : List (Addr × Obj)) (σ : St) (Q : Bool → Hp → Prop) (b : Bool) (s' : Shared) : Prop := ∃ H', Inv X pins σ H' s' ∧ Q b H'
def AP (X : Cx) (pins : List (Addr × Obj)) (σ : St) (Q : List V → Hp → Prop) (us : List Value) (s' : Shared) : Prop := ∃ vs H', Inv X pins σ H' s' ∧ Vals vs us ∧ Q vs H'
def SP (X : Cx) (pins : List (Addr × Obj)) (D : Ends) (f : Flow) (s' : Shared) : Prop :=
  match f with
  | .next => ∃ σ' H', Inv X pins σ' H' s' ∧ D.nx σ' H'
  | .brk => ∃ σ' H', Inv X pins σ' H' s' ∧ D.bk σ' H'
  | .cont => ∃ σ' H', Inv X pins σ' H' s' ∧ D.ct σ' H'
  | .ret u => ∃ v σ' H', Inv X pins σ' H' s' ∧ RelV v u ∧ D.rt v H'

def PE (X : Cx) (e : Expr) (t : TE) : Prop :=
  ∀ (pins : List (Addr × Obj)) (s : Shared) (σ : St) (H : Hp) (Q : VK), Inv X pins σ H s → t σ H Q → wpAny (model X.prog X.w) X.A (eval e X.env) (EP X pins σ Q) X.xe s
def PT (X : Cx) (e : Expr) (t : TT) : Prop :=
  ∀ (pins : List (Addr × Obj)) (s : Shared) (σ : St) (H : Hp) (Q : Bool → Hp → Prop), Inv X pins σ H s → t σ H Q → wpAny (model X.prog X.w) X.A (isTrue e X.env (eval e X.env)) (TP X pins σ Q) X.xe s
/-- a test whatever its 'whole' is (and, or) -/
def PW (X : Cx) (e : Expr) (t : TT) : Prop :=
  ∀ (whole : Sem Value) (pins : List (Addr × Obj)) (s : Shared) (σ : St) (H : Hp) (Q : Bool → Hp → Prop), Inv X pins σ H s → t σ H Q → wpAny (model X.prog X.w) X.A (isTrue e X.env whole) (TP X pins σ Q) X.xe s
theorem PW.pt {X : Cx} {e : Expr} {t : TT} (h : PW X e t) : PT X e t := h _
/-- an argument list (no star), from the left -/
def PA (X : Cx) (es : List Expr) (t : TA) : Prop :=
  ∀ (pos : Pos) (pins : List (Addr × Obj)) (s : Shared) (σ : St) (H : Hp) (Q : List V → Hp → Prop), Inv X pins σ H s → t σ H Q → wpAny (model X.prog X.w) X.A (spliced (backTo pos (starEach es X.env))) (AP X pins σ Q) X.xe s
def PS (X : Cx) (st : Stmt) (t : TS) : Prop :=
  ∀ (pins : List (Addr × Obj)) (s : Shared) (σ : St) (H : Hp) (D : Ends), Inv X pins σ H s → t D σ H → wpAny (model X.prog X.w) X.A (exec st X.env) (SP X pins D) X.xe s
def PSs (X : Cx) (st : List Stmt) (t : TS) : Prop :=
  ∀ (pins : List (Addr × Obj)) (s : Shared) (σ : St) (H : Hp) (D : Ends), Inv X pins σ H s → t D σ H → wpAny (model X.prog X.w) X.A (execs st X.env) (SP X pins D) X.xe s
/-- weaken the end -/
theorem thn {α : Type} {t : Sem α} {Q Q' : α → Shared → Prop} {M : Model} {A : Around} {E : Value → Shared → Prop} {s : Shared} (h : wpAny M A t Q E s) (hQ : ∀ a s, Q a s → Q' a s) : wpAny M A t Q' E s := wpAny_mono h hQ fun _ _ x => x
end L2

namespace L2
open PySem PySem.Spec PyProof.Rows
section
variable {X : Cx}

/-- two expressions in a row -/
theorem bin {a b : Expr} {ta tb : TE} (ha : PE X a ta) (hb : PE X b tb) {pins : List (Addr × Obj)} {s : Shared} {σ : St} {H : Hp} {R : V → V → Hp → Prop} (I : Inv X pins σ H s) (h : ta σ H fun x H1 => tb σ H1 fun y H2 => R x y H2)
    {α : Type} {Q : α → Shared → Prop} {f : Value → Value → Sem α}
    (hf : ∀ v u s2 x y H2, Inv X pins σ H2 s2 → RelV x v → RelV y u → R x y H2 → wpAny (model X.prog X.w) X.A (f v u) Q X.xe s2) :
    wpAny (model X.prog X.w) X.A (eval a X.env) (fun v s₁ => wpAny (model X.prog X.w) X.A (eval b X.env) (fun u s₂ => wpAny (model X.prog X.w) X.A (f v u) Q X.xe s₂) X.xe s₁) X.xe s := by
  refine thn (ha pins s σ H _ I h) fun v s1 ⟨x, H1, I1, r1, q1⟩ => ?_
  refine thn (hb pins s1 σ H1 _ I1 q1) fun u s2 ⟨y, H2, I2, r2, q2⟩ => ?_
  exact hf v u s2 x y H2 I2 r1 r2 q2

/-! ### names and constants -/
def tVar (i : Nat) : TE := fun σ H Q => ∃ v, σ[i]? = some (some v) ∧ Q v H
def tC (v : V) : TE := fun _ H Q => Q v H
theorem pe_var {i : Nat} {x : Str} {pos : Pos} (hN : X.N[i]? = some x) (hv : Vis X.env.scope x) (hd : (x == ("__debug__" : Str)) = false := by decide) (hcd : (x == ("__classdict__" : Str)) = false := by decide) : PE X (.Name x pos) (tVar i) := by
  intro pins s σ H Q I h
  obtain ⟨v, e, h⟩ := h
  obtain ⟨m, hn, hl⟩ := I.loc
  obtain ⟨u, r, l⟩ := hl i x v hN e hv
  have fin : EP X pins σ Q u s := ⟨v, H, I, r, h⟩
  rcases l with ⟨hk, hm⟩ | ⟨hk, c, hc, hcell⟩
  · exact wpAny_Name (wpAny_loadName_local I.ok.kind hk hn hm fin) hd
  · rcases hk with hk | hk
    · exact wpAny_Name (wpAny_loadName_cell I.ok.kind hk hc hcell fin) hd
    · exact wpAny_Name (wpAny_loadName_free I.ok.kind hk hc hcell fin hcd) hd
theorem pe_int {i j pos} : PE X (.Constant (.int i) j pos) (tC (.int i)) := fun _ _ _ H _ I h => wpAny_Constant_int ⟨.int i, H, I.tok _, ⟨_, rfl⟩, h⟩
theorem pe_bl {b j pos} : PE X (.Constant (.bool b) j pos) (tC (.bl b)) := fun _ _ _ H _ I h => Constant_bool ⟨.bl b, H, I, rfl, h⟩
theorem pe_non {j pos} : PE X (.Constant .none j pos) (tC .non) := fun _ _ _ H _ I h => Constant_none ⟨.non, H, I, rfl, h⟩
theorem pe_str {x j pos} : PE X (.Constant (.str x) j pos) (tC (.str x)) := fun _ _ _ H _ I h => Calls.Constant_str ⟨.str x, H, I.tok _, ⟨_, rfl⟩, h⟩

/-- a global name of the def -/
def Gl (X : Cx) (x : Str) : Prop := X.env.kindOf x = some .globalImplicit
theorem ld_glob {E : Value → Shared → Prop} {pins : List (Addr × Obj)} {s : Shared} {σ : St} {H : Hp} {x : Str} {u : Value} {pos : Pos} {Q : Value → Shared → Prop} (I : Inv X pins σ H s) (hg : Gl X x) (hm : X.mg x = some u) (h : Q u s)
    (hd : (x == ("__debug__" : Str)) = false := by decide) : wpAny (model X.prog X.w) X.A (eval (.Name x pos) X.env) Q E s :=
  Calls.Name_function_global I.ok.kind hg (Calls.loadGlobal_global (by rw [I.ok.glob]; exact I.mod.glob.keeps I.bk) hm h) hd
theorem ld_blt {E : Value → Shared → Prop} {pins : List (Addr × Obj)} {s : Shared} {σ : St} {H : Hp} {x : Str} {u : Value} {pos : Pos} {Q : Value → Shared → Prop} (I : Inv X pins σ H s) (hg : Gl X x) (hm : X.mg x = none) (hv : bootBuiltins x = some u) (h : Q u s)
    (hn : x ≠ "__name__" := by decide) (hd : (x == ("__debug__" : Str)) = false := by decide) : wpAny (model X.prog X.w) X.A (eval (.Name x pos) X.env) Q E s := by
  obtain ⟨mb, h1, h2⟩ := I.mod.blt
  exact Calls.Name_function_global I.ok.kind hg (Calls.loadGlobal_builtin (by rw [I.ok.glob]; exact I.mod.glob.keeps I.bk) hm (by rw [I.ok.blt]; exact h1.keeps I.bk) ((h2 x hn).trans hv) h) hd
/-- a module's constant, a class, a function, as a value -/
theorem pe_glob {x : Str} {v : V} {u : Value} {pos : Pos} (hg : Gl X x) (hm : X.mg x = some u) (r : RelV v u) (hd : (x == ("__debug__" : Str)) = false := by decide) : PE X (.Name x pos) (tC v) :=
  fun _ _ _ H _ I h => ld_glob I hg hm ⟨v, H, I, r, h⟩ hd
theorem pe_bltn {x : Str} {v : V} {u : Value} {pos : Pos} (hg : Gl X x) (hm : X.mg x = none) (hv : bootBuiltins x = some u) (r : RelV v u) (hn : x ≠ "__name__" := by decide) (hd : (x == ("__debug__" : Str)) = false := by decide) : PE X (.Name x pos) (tC v) :=
  fun _ _ _ H _ I h => ld_blt I hg hm hv ⟨v, H, I, r, h⟩ hn hd

/-! ### arithmetic -/
variable {a b : Expr} {ta tb : TE} {pos : Pos}
/-! ### comparisons -/
def PC (X : Cx) (op : CmpOp) (a b : Expr) (t : TE) : Prop :=
  ∀ (pins : List (Addr × Obj)) (s : Shared) (σ : St) (H : Hp) (Q : VK), Inv X pins σ H s → t σ H Q →
    wpAny (model X.prog X.w) X.A (eval a X.env) (fun v s₁ => wpAny (model X.prog X.w) X.A (eval b X.env) (fun u s₂ => wpAny (model X.prog X.w) X.A (compareOp op v u) (EP X pins σ Q) X.xe s₂) X.xe s₁) X.xe s
theorem nobehind (b : Expr) {op : CmpOp} (h : op ≠ .In) (h2 : op ≠ .NotIn) : behindInMarks op b = false := by
  have e1 : (op == CmpOp.In) = false := by cases op <;> first | rfl | exact absurd rfl h
  have e2 : (op == CmpOp.NotIn) = false := by cases op <;> first | rfl | exact absurd rfl h2
  cases b <;> simp [behindInMarks, e1, e2]
/-- a comparison as a value, as a test -/
def tB (t : TE) : TT := fun σ H Q => t σ H fun x H1 => ∃ c, x = .bl c ∧ Q c H1
theorem pt_cmp {op : CmpOp} {t : TE} (h : PC X op a b t) (h1 : behindInMarks op b = false := by first | exact nobehind _ (by decide) (by decide) | rfl) : PT X (.Compare a [op] [b] pos) (tB t) := by
  intro pins s σ H Q I hw
  refine wpAny_isTrue_Compare1 (thn (h pins s σ H _ I hw) fun v s1 h1 => thn h1 fun u s2 h2 => thn h2 fun c s3 ⟨x, H1, I1, r1, q1⟩ => ?_) h1
  obtain ⟨d, rfl, q⟩ := q1
  cases r1
  exact wpAny_truthy_bool ⟨H1, I1, q⟩
/-- an expression whose value is a bool, as a test -/
theorem pt_val {e : Expr} {t : TE} (h : PE X e t) (he : ∀ whole, isTrue e X.env whole = (do let v ← whole; standAt e.pos; holding [v] (truthy v)) := by intro _; rfl) : PT X e (tB t) := by
  intro pins s σ H Q I hw
  refine isTrue_plain (thn (h pins s σ H _ I hw) fun v s1 ⟨x, H1, I1, r1, q1⟩ => ?_) (he _)
  obtain ⟨d, rfl, q⟩ := q1
  cases r1
  exact wpAny_truthy_bool ⟨H1, I1, q⟩

/-! ### and, or, not -/
variable {tA tB' : TT} {rest : List Expr}
def tAnd (t u : TT) : TT := fun σ H Q => t σ H fun c H1 => if c = true then u σ H1 Q else Q false H1
def tOr (t u : TT) : TT := fun σ H Q => t σ H fun c H1 => if c = true then Q true H1 else u σ H1 Q
def tNot (t : TT) : TT := fun σ H Q => t σ H fun c H1 => Q (!c) H1
theorem pw_and1 (ha : PT X a tA) : PW X (.BoolOp .And [a] pos) tA := by
  intro wh pins s σ H Q I h
  refine isTrue_and (thn (ha pins s σ H Q I h) fun c s1 e => ?_)
  cases c with
  | true => exact isTrue_and_nil e
  | false => exact e
theorem pw_or1 (ha : PT X a tA) : PW X (.BoolOp .Or [a] pos) tA := by
  intro wh pins s σ H Q I h
  refine isTrue_or (thn (ha pins s σ H Q I h) fun c s1 e => ?_)
  cases c with
  | false => exact isTrue_or_nil e
  | true => exact e
theorem pw_and (ha : PT X a tA) (hb : PW X (.BoolOp .And (b :: rest) pos) tB') : PW X (.BoolOp .And (a :: b :: rest) pos) (tAnd tA tB') := by
  intro wh pins s σ H Q I h
  refine isTrue_and (thn (ha pins s σ H _ I h) fun c s1 ⟨H1, I1, q1⟩ => ?_)
  cases c with
  | true => exact hb wh pins s1 σ H1 Q I1 q1
  | false => exact ⟨H1, I1, q1⟩
theorem pw_or (ha : PT X a tA) (hb : PW X (.BoolOp .Or (b :: rest) pos) tB') : PW X (.BoolOp .Or (a :: b :: rest) pos) (tOr tA tB') := by
  intro wh pins s σ H Q I h
  refine isTrue_or (thn (ha pins s σ H _ I h) fun c s1 ⟨H1, I1, q1⟩ => ?_)
  cases c with
  | true => exact ⟨H1, I1, q1⟩
  | false => exact hb wh pins s1 σ H1 Q I1 q1
theorem pt_not (ha : PT X a tA) : PT X (.UnaryOp .Not a pos) (tNot tA) := by
  intro pins s σ H Q I h
  exact isTrue_not (ha pins s σ H (fun c H1 => Q (!c) H1) I h)
/-- .. as values (bools) -/
def tAndV (ta tb : TE) : TE := fun σ H Q => ta σ H fun x H1 => ∃ c, x = .bl c ∧ if c = true then tb σ H1 Q else Q (.bl false) H1
theorem pe_one {op} {t : TE} (h : PE X a t) : PE X (.BoolOp op [a] pos) t := fun pins s σ H Q I hw => BoolOp_one (h pins s σ H Q I hw)
theorem pe_and (ha : PE X a ta) (hb : PE X (.BoolOp .And (b :: rest) pos) tb) : PE X (.BoolOp .And (a :: b :: rest) pos) (tAndV ta tb) := by
  intro pins s σ H Q I h
  refine BoolOp_and (thn (ha pins s σ H _ I h) fun v s1 ⟨x, H1, I1, r1, q1⟩ => ?_)
  obtain ⟨c, rfl, q1⟩ := q1
  cases r1
  refine wpAny_truthy_bool ?_
  cases c with
  | true => exact hb pins s1 σ H1 Q I1 q1
  | false => exact ⟨.bl false, H1, I1, rfl, q1⟩
/-- a if t else b -/
def tIf (t : TT) (ta tb : TE) : TE := fun σ H Q => t σ H fun c H1 => if c = true then ta σ H1 Q else tb σ H1 Q
theorem pe_ifExp {c : Expr} (hc : PT X c tA) (ha : PE X a ta) (hb : PE X b tb) : PE X (.IfExp c a b pos) (tIf tA ta tb) := by
  intro pins s σ H Q I h
  refine wpAny_IfExp (thn (hc pins s σ H _ I h) fun d s1 ⟨H1, I1, q1⟩ => ?_)
  cases d with
  | true => exact ha pins s1 σ H1 Q I1 q1
  | false => exact hb pins s1 σ H1 Q I1 q1
end
end L2

namespace L2
open PySem PySem.Spec PyProof.Rows

/-! ### a list, a tuple that is read: tracked, frozen, or an object of the module -/
def SqL (K : PySem.W.Frag) (H : Hp) (a : Addr) (xs : List V) : Prop :=
  Rd H a (.lst xs) ∨
    ∃ (o : Obj) (its : Array Value) (n : Nat), K.lookup a = some o ∧ o.cls = .type "list" ∧ o.dict = none ∧ o.data = .seq its n ∧ its.size ≤ sizeLine ∧ Vals xs its.toList
def SqT (K : PySem.W.Frag) (H : Hp) (a : Addr) (xs : List V) : Prop :=
  Rd H a (.tup xs) ∨
    ∃ (o : Obj) (its : Array Value) (n : Nat), K.lookup a = some o ∧ o.cls = .type "tuple" ∧ o.data = .seq its n ∧ its.size ≤ sizeLine ∧ Vals xs its.toList
def absV : Value → Option V
  | .none => some .non
  | .bool b => some (.bl b)
  | .int i _ => some (.int i)
  | .str x _ => some (.str x)
  | .bytes b _ => some (.byt b)
  | .float b _ => some (.flt b)
  | .ref a => some (.ref a)
  | .type n => some (.ty n)
  | _ => none
theorem RelV.abs {x : V} {u : Value} (r : RelV x u) : absV u = some x := by
  cases x with
  | non => cases r; rfl
  | bl _ => cases r; rfl
  | int _ => obtain ⟨t, rfl⟩ := r; rfl
  | str _ => obtain ⟨t, rfl⟩ := r; rfl
  | byt _ => obtain ⟨t, rfl⟩ := r; rfl
  | flt _ => obtain ⟨t, rfl⟩ := r; rfl
  | ref _ => cases r; rfl
  | ty _ => cases r; rfl
theorem RelV.inj {x y : V} {u : Value} (r : RelV x u) (q : RelV y u) : x = y := Option.some.inj (r.abs.symm.trans q.abs)
theorem Vals.inj : ∀ {xs ys : List V} {us : List Value}, Vals xs us → Vals ys us → xs = ys
  | _, _, _, .nil, .nil => rfl
  | _, _, _, .cons r t, .cons r' t' => by rw [r.inj r', Vals.inj t t']
section
variable {X : Cx} {pins : List (Addr × Obj)} {σ : St} {H : Hp} {s : Shared} {a : Addr} {xs ys : List V}
theorem SqL.of {K : PySem.W.Frag} (h : H a = some (.lst xs)) : SqL K H a xs := .inl (.inl h)
theorem SqT.of {K : PySem.W.Frag} (h : H a = some (.tup xs)) : SqT K H a xs := .inl (.inl h)
theorem Inv.list (I : Inv X pins σ H s) (h : SqL X.K H a xs) : ∃ its : List Value, Vals xs its ∧ PlainL s.heap a its.toArray ∧ xs.length ≤ sizeLine := by
  rcases h with h | ⟨o, its, n, hk, hc, hd, hs, hz, r⟩
  · obtain ⟨z, its, n, r, e⟩ := h.ok I.hok
    exact ⟨its, r, ⟨_, n, e, rfl, rfl, rfl⟩, z⟩
  · refine ⟨its.toList, r, ⟨o, n, I.kIn a o hk, hc, hd, by simpa using hs⟩, ?_⟩
    have e := r.length
    simp only [Array.length_toList] at e
    omega
theorem Inv.tuple (I : Inv X pins σ H s) (h : SqT X.K H a xs) : ∃ its : List Value, Vals xs its ∧ IsTup s.heap a its.toArray ∧ xs.length ≤ sizeLine := by
  rcases h with h | ⟨o, its, n, hk, hc, hs, hz, r⟩
  · obtain ⟨z, its, r, p⟩ := h.ok I.hok
    exact ⟨its, r, p, z⟩
  · refine ⟨its.toList, r, ⟨o, I.kIn a o hk, hc, n, by simpa using hs⟩, ?_⟩
    have e := r.length
    simp only [Array.length_toList] at e
    omega
theorem Inv.list_inj (I : Inv X pins σ H s) (h : SqL X.K H a xs) (h' : SqL X.K H a ys) : xs = ys := by
  obtain ⟨its, r, ⟨o, n, e, _, _, d⟩, _⟩ := I.list h
  obtain ⟨its', r', ⟨o', n', e', _, _, d'⟩, _⟩ := I.list h'
  rw [e] at e'; cases e'
  rw [d] at d'
  injection d' with d1 _
  have : its = its' := by simpa using congrArg Array.toList d1
  subst this
  exact r.inj r'
theorem Inv.tuple_inj (I : Inv X pins σ H s) (h : SqT X.K H a xs) (h' : SqT X.K H a ys) : xs = ys := by
  obtain ⟨its, r, ⟨o, e, _, n, d⟩, _⟩ := I.tuple h
  obtain ⟨its', r', ⟨o', e', _, n', d'⟩, _⟩ := I.tuple h'
  rw [e] at e'; cases e'
  rw [d] at d'
  injection d' with d1 _
  have : its = its' := by simpa using congrArg Array.toList d1
  subst this
  exact r.inj r'
end

/-! ### another wish about exceptions -/
abbrev Cx.wish (X : Cx) (E : Value → Shared → Prop) : Cx := { X with xe := E }
/-- no exception leaves -/
abbrev Cx.nox (X : Cx) : Cx := X.wish fun _ _ => False
theorem Cx.Ok.wish {X : Cx} (ok : X.Ok) (E : Value → Shared → Prop) : (X.wish E).Ok :=
  ⟨ok.mod, ok.kind, ok.glob, ok.blt, ok.above, ok.inj, ok.has, ok.cab, ok.hd, ok.frames, ok.stk, ok.exf, ok.bs, ok.bsz, ok.noex, ok.exfs, ok.funs, ok.frf⟩
theorem Cx.Ok.unwish {X : Cx} {E : Value → Shared → Prop} (ok : (X.wish E).Ok) : X.Ok :=
  ⟨ok.mod, ok.kind, ok.glob, ok.blt, ok.above, ok.inj, ok.has, ok.cab, ok.hd, ok.frames, ok.stk, ok.exf, ok.bs, ok.bsz, ok.noex, ok.exfs, ok.funs, ok.frf⟩
section
variable {X : Cx} {pins : List (Addr × Obj)} {σ : St} {H : Hp} {s : Shared} {E : Value → Shared → Prop}
theorem Inv.wish (I : Inv X pins σ H s) (E : Value → Shared → Prop) : Inv (X.wish E) pins σ H s := ⟨I.ok.wish E, I.os, I.bare, I.base, I.loc, I.cell, I.free, I.freeC, I.pin, I.hok, I.len⟩
theorem Inv.unwish (I : Inv (X.wish E) pins σ H s) : Inv X pins σ H s := ⟨I.ok.unwish, I.os, I.bare, I.base, I.loc, I.cell, I.free, I.freeC, I.pin, I.hok, I.len⟩
theorem SP.unwish {D : Ends} {f : Flow} {s' : Shared} (h : SP (X.wish E) pins D f s') : SP X pins D f s' := by
  cases f with
  | next => obtain ⟨σ', H', I, q⟩ := h; exact ⟨σ', H', I.unwish, q⟩
  | brk => obtain ⟨σ', H', I, q⟩ := h; exact ⟨σ', H', I.unwish, q⟩
  | cont => obtain ⟨σ', H', I, q⟩ := h; exact ⟨σ', H', I.unwish, q⟩
  | ret u => obtain ⟨v, σ', H', I, r, q⟩ := h; exact ⟨v, σ', H', I.unwish, r, q⟩
theorem PE.nox {e : Expr} {t : TE} (h : PE X.nox e t) : PE X e t := fun pins s σ H Q I hw =>
  wpAny_mono (h pins s σ H Q (I.wish _) hw) (fun _ _ ⟨v, H', I', r, q⟩ => ⟨v, H', I'.unwish, r, q⟩) fun _ _ z => False.elim z
theorem PT.nox {e : Expr} {t : TT} (h : PT X.nox e t) : PT X e t := fun pins s σ H Q I hw =>
  wpAny_mono (h pins s σ H Q (I.wish _) hw) (fun _ _ ⟨H', I', q⟩ => ⟨H', I'.unwish, q⟩) fun _ _ z => False.elim z
theorem PSs.nox {st : List Stmt} {t : TS} (h : PSs X.nox st t) : PSs X st t := fun pins s σ H D I hw =>
  wpAny_mono (h pins s σ H D (I.wish _) hw) (fun _ _ q => q.unwish) fun _ _ z => False.elim z
end

/-! ### blocks and small statements -/
section
variable {X : Cx} {st : Stmt} {rest : List Stmt} {t u : TS} {e : Expr} {te : TE} {pos : Pos}
def tNext : TS := fun D σ H => D.nx σ H
def tSeq (t u : TS) : TS := fun D σ H => t { D with nx := u D } σ H
theorem pss_nil : PSs X [] tNext := fun _ _ σ H _ I h => wpAny_execs_nil ⟨σ, H, I, h⟩
theorem pss_cons (h1 : PS X st t) (h2 : PSs X rest u) : PSs X (st :: rest) (tSeq t u) := by
  intro pins s σ H D I h
  refine wpAny_execs_cons (thn (h1 pins s σ H { D with nx := u D } I h) fun f s1 q => ?_)
  cases f with
  | next =>
    obtain ⟨σ', H', I', q⟩ := q
    exact h2 pins s1 σ' H' D I' q
  | ret v => exact q
  | brk => exact q
  | cont => exact q
theorem pss_one (h1 : PS X st t) : PSs X [st] t := by
  intro pins s σ H D I h
  refine wpAny_execs_cons (thn (h1 pins s σ H D I h) fun f s1 q => ?_)
  cases f with
  | next => exact wpAny_execs_nil q
  | ret v => exact q
  | brk => exact q
  | cont => exact q
/-- in a def's body nothing is shown -/
theorem Inv.quiet {pins : List (Addr × Obj)} {σ : St} {H : Hp} {s : Shared} (I : Inv X pins σ H s) : interactive X.env = false := by simp [interactive, I.ok.kind]
/-- an expression whose value is dropped -/
def tDrop (te : TE) : TS := fun D σ H => te σ H fun _ H1 => D.nx σ H1
theorem ps_expr (he : PE X e te) (hs : swapsWith e none pos.line X.env = pure false := by rfl) : PS X (.Expr e pos) (tDrop te) := by
  intro pins s σ H D I h
  exact wpAny_Expr_any (thn (he pins s σ H _ I h) fun v s1 ⟨x, H1, I1, r1, q1⟩ => ⟨σ, H1, I1, q1⟩) I.quiet hs
def tRet (te : TE) : TS := fun D σ H => te σ H D.rt
theorem ps_ret (he : PE X e te) : PS X (.Return (some e) pos) (tRet te) := by
  intro pins s σ H D I h
  exact wpAny_Return_some (thn (he pins s σ H _ I h) fun v s1 ⟨x, H1, I1, r1, q1⟩ => ⟨x, σ, H1, I1, r1, q1⟩)
def tIfS (c : TT) (t u : TS) : TS := fun D σ H => c σ H fun b H1 => if b = true then t D σ H1 else u D σ H1
theorem ps_if {c : Expr} {a b : List Stmt} {tc : TT} (hc : PT X c tc) (ha : PSs X a t) (hb : PSs X b u) : PS X (.If c a b pos) (tIfS tc t u) := by
  intro pins s σ H D I h
  refine wpAny_If (thn (hc pins s σ H _ I h) fun d s1 ⟨H1, I1, q1⟩ => ?_)
  cases d with
  | true => exact ha pins s1 σ H1 D I1 q1
  | false => exact hb pins s1 σ H1 D I1 q1
/-- code that the proof never comes to -/
def tNever : TS := fun _ _ _ => False
theorem pss_never {sts : List Stmt} : PSs X sts tNever := fun _ _ _ _ _ _ h => h.elim
end

/-! ### targets -/
abbrev TG := V → St → Hp → (St → Hp → Prop) → Prop
abbrev TGs := List V → St → Hp → (St → Hp → Prop) → Prop
def PG (X : Cx) (target : Expr) (t : TG) : Prop :=
  ∀ (pins : List (Addr × Obj)) (s : Shared) (σ : St) (H : Hp) (v : V) (u : Value) (Q : St → Hp → Prop), Inv X pins σ H s → RelV v u → t v σ H Q →
    wpAny (model X.prog X.w) X.A (assign target X.env u) (fun _ s' => ∃ σ' H', Inv X pins σ' H' s' ∧ Q σ' H') X.xe s
/-- several targets, one after another -/
def PGs (X : Cx) (ts : List Expr) (t : TGs) : Prop :=
  ∀ (pins : List (Addr × Obj)) (s : Shared) (σ : St) (H : Hp) (vs : List V) (us : List Value) (Q : St → Hp → Prop), Inv X pins σ H s → Vals vs us → t vs σ H Q →
    wpAny (model X.prog X.w) X.A (assignInOrder ((assignEach ts X.env).map (·.2)) us) (fun _ s' => ∃ σ' H', Inv X pins σ' H' s' ∧ Q σ' H') X.xe s
/-- o[i] = v, by values -/
abbrev TSet := V → V → V → Hp → (Hp → Prop) → Prop
def PSet (X : Cx) (t : TSet) : Prop :=
  ∀ (pins : List (Addr × Obj)) (s : Shared) (σ : St) (H : Hp) (o i v : V) (ov iv u : Value) (Q : Hp → Prop), Inv X pins σ H s → RelV o ov → RelV i iv → RelV v u → t o i v H Q →
    wpAny (model X.prog X.w) X.A (setItem ov iv u) (fun _ s' => ∃ H', Inv X pins σ H' s' ∧ Q H') X.xe s
section
variable {X : Cx} {pos : Pos}
def gName (i : Nat) : TG := fun v σ H Q => Q (σ.set i (some v)) H
theorem pg_name {i : Nat} {x : Str} (hN : X.N.Nodup) (hi : X.N[i]? = some x) (hx : Loc X.env.scope x) (hf : X.fn x = true ∨ X.env.scope.names.lookup x = some .local := by first | exact .inl rfl | exact .inr rfl | assumption) : PG X (.Name x pos) (gName i) := by
  intro pins s σ H v u Q I r h
  exact wpAny_assign_Name (store_ok I hN hi hx r (fun s' I' => ⟨_, H, I', h⟩) hf)
def gNil : TGs := fun vs σ H Q => vs = [] ∧ Q σ H
def gCons (t : TG) (u : TGs) : TGs := fun vs σ H Q => ∃ v r, vs = v :: r ∧ t v σ H fun σ' H' => u r σ' H' Q
theorem pgs_nil : PGs X [] gNil := by
  intro pins s σ H vs us Q I r h
  obtain ⟨e, h⟩ := h
  subst e
  cases r
  exact assignInOrder_nil ⟨σ, H, I, h⟩
theorem pgs_cons {e : Expr} {es : List Expr} {t : TG} {u : TGs} (h1 : PG X e t) (h2 : PGs X es u)
    (hs : (assignEach (e :: es) X.env).map (·.2) = assign e X.env :: (assignEach es X.env).map (·.2) := by rfl) : PGs X (e :: es) (gCons t u) := by
  intro pins s σ H vs us Q I r h
  obtain ⟨v, vr, e1, h⟩ := h
  subst e1
  cases r with
  | cons r rr =>
    rw [hs]
    refine assignInOrder_cons (thn (h1 pins s σ H _ _ _ I r h) fun _ s1 ⟨σ1, H1, I1, q1⟩ => ?_)
    exact h2 pins s1 σ1 H1 _ _ Q I1 rr q1
/-- (a, b, ..) = a tuple of that length -/
def gTup (K : PySem.W.Frag) (n : Nat) (t : TGs) : TG := fun v σ H Q => ∃ a xs, v = .ref a ∧ SqT K H a xs ∧ xs.length = n ∧ t xs σ H Q
theorem pg_tup {es : List Expr} {k : Nat} {t : TGs} {n : Nat} (hc : X.calm = true) (h : PGs X es t)
    (hn : (assignEach es X.env).length = n := by rfl) (hst : (assignEach es X.env).findIdx? (·.1) = none := by rfl) : PG X (.Tuple es k pos) (gTup X.K n t) := by
  intro pins s σ H v u Q I r hw
  obtain ⟨a, xs, e1, hq, hl, hw⟩ := hw
  subst e1
  cases r
  obtain ⟨its, rv, ht, hz⟩ := I.tuple hq
  refine assign_Tuple_tuple (I.ok.hd hc) ht (by simp [hn, ← hl, rv.length]) hst fun h' hx => ?_
  have I1 : Inv X pins σ H { s with heap := h' } := I.kept (t' := s.toks) fun b o e => hx b o (Nat.ne_of_lt (Heap.lt_size e)) e
  exact h pins _ σ H xs _ Q I1 (by simpa using rv) hw
/-- o[i] = .. -/
def gSub (to ti : TE) (t : TSet) : TG := fun v σ H Q => to σ H fun o H1 => ti σ H1 fun i H2 => t o i v H2 fun H3 => Q σ H3
theorem pg_sub {o i : Expr} {to ti : TE} {t : TSet} (ho : PE X o to) (hi : PE X i ti) (hs : PSet X t)
    (ha : ∀ v, assign (.Subscript o i pos) X.env v = (do
      let ov ← holding [v] (eval o X.env)
      let iv ← holding [v, ov] (eval i X.env)
      standAt pos
      holding [v, ov, iv] (setItem ov iv v)
      release [v, ov, iv] []) := by intro _; rfl) : PG X (.Subscript o i pos) (gSub to ti t) := by
  intro pins s σ H v u Q I r h
  rw [ha]
  refine wpAny_bind (wpAny_holding (thn (ho pins s σ H _ I h) fun ov s1 ⟨x, H1, I1, r1, q1⟩ => ?_))
  refine wpAny_bind (wpAny_holding (thn (hi pins s1 σ H1 _ I1 q1) fun iv s2 ⟨y, H2, I2, r2, q2⟩ => ?_))
  refine wpAny_bind (wpAny_standAt (wpAny_bind (wpAny_holding (thn (hs pins s2 σ H2 x y v ov iv u _ I2 r1 r2 r q2) fun _ s3 ⟨H3, I3, q3⟩ => ?_))))
  exact wpAny_release ⟨σ, H3, I3, q3⟩
/-- target = value -/
def tAsg (te : TE) (g : TG) : TS := fun D σ H => te σ H fun x H1 => g x σ H1 D.nx
theorem ps_asg {tg e : Expr} {te : TE} {g : TG} (he : PE X e te) (hg : PG X tg g) (hs : swapsWithSole [tg] e pos.line X.env = pure false := by rfl) (hw : swappedStores [tg] e X.env = pure none := by rfl)
    (h1 : (assignEach [tg] X.env).map (·.2) = [assign tg X.env] := by rfl) : PS X (.Assign [tg] e pos) (tAsg te g) := by
  intro pins s σ H D I h
  refine wpAny_Assign_stores (thn (he pins s σ H _ I h) fun v s1 ⟨x, H1, I1, r1, q1⟩ => ?_) hs hw
  rw [h1]
  exact thn (hg pins s1 σ H1 x v _ I1 r1 q1) fun _ s2 q => q
/-- name = value -/
theorem ps_set {i : Nat} {x : Str} {e : Expr} {te : TE} {pos' : Pos} (hN : X.N.Nodup) (hi : X.N[i]? = some x) (hx : Loc X.env.scope x) (he : PE X e te) (hs : swapsWith e (some (.Name x pos')) pos.line X.env = pure false := by rfl) (hf : X.fn x = true ∨ X.env.scope.names.lookup x = some .local := by first | exact .inl rfl | exact .inr rfl | assumption) :
    PS X (.Assign [.Name x pos'] e pos) (tAsg te (gName i)) := by
  intro pins s σ H D I h
  refine wpAny_Assign_Name (thn (he pins s σ H _ I h) fun v s1 ⟨y, H1, I1, r1, q1⟩ => ?_) hs
  exact store_ok I1 hN hi hx r1 (fun s2 I2 => ⟨_, H1, I2, q1⟩) hf
end

/-! ### while -/
section
variable {X : Cx} {pos : Pos}
/-- the invariant W with its measure -/
def tWhile (c : TT) (tb : TS) : TS := fun D σ H => ∃ W : Nat → St → Hp → Prop, (∃ m, W m σ H) ∧ ∀ m σ H, W m σ H →
  c σ H fun b H1 => if b = true then ∃ N : St → Hp → Prop, (∀ σ' H', N σ' H' → ∃ m', m' < m ∧ W m' σ' H') ∧ tb { D with nx := N, ct := N, bk := D.nx } σ H1 else D.nx σ H1
theorem ps_while {c : Expr} {body : List Stmt} {tc : TT} {tb : TS} (hp : PassesOwn (model X.prog X.w) X.A X.env X.xe) (hc : PT X c tc) (hb : PSs X body tb) : PS X (.While c body [] pos) (tWhile tc tb) := by
  intro pins s σ H D I h
  obtain ⟨W, ⟨m0, w0⟩, turn⟩ := h
  refine wpAny_While (codeAny_whileLoop (fun n s' => ∃ σ' H', Inv X pins σ' H' s' ∧ W n σ' H') ?_ m0 ⟨σ, H, I, w0⟩)
  rintro n s1 ⟨σ1, H1, I1, w1⟩
  refine wpAny_passesOwn hp (thn (hc pins s1 σ1 H1 _ I1 (turn n σ1 H1 w1)) fun b s2 ⟨H2, I2, q2⟩ => ?_)
  cases b with
  | true =>
    obtain ⟨N, hN, q2⟩ := q2
    rw [if_pos rfl]
    refine wpAny_passesOwn hp (thn (hb pins s2 σ1 H2 _ I2 q2) fun f s3 q3 => ?_)
    cases f with
    | next =>
      obtain ⟨σ3, H3, I3, n3⟩ := q3
      obtain ⟨m', hm, w3⟩ := hN σ3 H3 n3
      exact ⟨m', hm, σ3, H3, I3, w3⟩
    | cont =>
      obtain ⟨σ3, H3, I3, n3⟩ := q3
      obtain ⟨m', hm, w3⟩ := hN σ3 H3 n3
      exact ⟨m', hm, σ3, H3, I3, w3⟩
    | brk => exact q3
    | ret v => exact q3
  | false =>
    rw [if_neg Bool.false_ne_true]
    exact wpAny_execs_nil ⟨σ1, H2, I2, q2⟩
end

/-! ### what a loop or a comprehension walks -/
/-- at turn i: it yields x (the heap may grow), or it stops -/
structure It where
  go : Nat → Hp → Prop
  yld : Nat → Hp → V → Hp → Prop
  stop : Nat → Hp → Prop
/-- the iterator's own objects may turn: they are not the frame's, not pinned, younger than the entry (or a comprehension's own) -/
def FpOk (X : Cx) (pins : List (Addr × Obj)) (H : Hp) (b : Addr) : Prop :=
  H b = none ∧ b ≠ X.env.locals ∧ b ∉ X.fs ∧ (b ∈ X.ex ∨ X.s₀.heap.objs.size ≤ b) ∧ (∀ x c, X.env.cells.lookup x = some c → c ≠ b) ∧ ∀ p ∈ X.pn ++ pins, p.1 ≠ b
theorem Inv.fpOk {X : Cx} {pins : List (Addr × Obj)} {σ : St} {H H' : Hp} {s : Shared} {b : Addr} (I : Inv X pins σ H s) (hb : s.heap.objs.size ≤ b) (hn : H' b = none) : FpOk X pins H' b := by
  refine ⟨hn, Nat.ne_of_gt (Nat.lt_of_lt_of_le I.lt hb), I.nofs hb, .inr (Nat.le_trans I.sz hb), fun x c e z => ?_, fun p hp z => ?_⟩
  · obtain ⟨v, q⟩ := I.cell x c e
    exact absurd (Nat.lt_of_lt_of_le q.lt (by rw [z]; exact hb)) (Nat.lt_irrefl _)
  · exact absurd (Nat.lt_of_lt_of_le (Heap.lt_size (I.pin p hp).1) (by rw [z]; exact hb)) (Nat.lt_irrefl _)
structure Turn (P : Program) (w : World) (K : PySem.W.Frag) (tg : Expr) (J : It) (fp : List Addr) (it : Addr) (tn : Nat → Heap → Prop) : Prop where
  mem : it ∈ fp
  obj : ∀ i h, tn i h → ∀ b ∈ fp, ∃ o, h.get? b = some o ∧ ∀ v, o.data ≠ .cell v
  keep : ∀ i h h', tn i h → (∀ b ∈ fp, ∀ o, h.get? b = some o → h'.get? b = some o) → tn i h'
  item : ∀ (X : Cx), X.prog = P → X.w = w → X.K = K → X.calm = true → ∀ (i : Nat) (pins : List (Addr × Obj)) (s : Shared) (σ : St) (H : Hp) (E : Value → Shared → Prop), Inv X pins σ H s → (∀ b ∈ fp, FpOk X pins H b) → tn i s.heap → J.go i H →
    wpAny (model P w) X.A (pyNext (.ref it)) (fun r s1 => ∃ u, r = some u ∧
      wpAny (model P w) X.A (letOwnedTupleGo tg (.ref it) u) (fun _ s2 => ∃ x H', Inv X pins σ H' s2 ∧ RelV x u ∧ J.yld i H x H' ∧ tn (i + 1) s2.heap ∧ ∀ b ∈ fp, H' b = none) E s1) E s
  done : ∀ (X : Cx), X.prog = P → X.w = w → X.K = K → X.calm = true → ∀ (i : Nat) (pins : List (Addr × Obj)) (s : Shared) (σ : St) (H : Hp) (E : Value → Shared → Prop), Inv X pins σ H s → (∀ b ∈ fp, FpOk X pins H b) → tn i s.heap → J.stop i H →
    wpAny (model P w) X.A (pyNext (.ref it)) (fun r s1 => r = none ∧ Inv X pins σ H s1) E s
  self : ∀ (A : Around) (i : Nat) (s : Shared) (Q : Value → Shared → Prop) (E : Value → Shared → Prop), tn i s.heap → Q (.ref it) s → wpAny (model P w) A (pyIter (.ref it)) Q E s
abbrev TI := St → Hp → (It → Hp → Prop) → Prop
/-- an iterator has come -/
def PIE (X : Cx) (pins : List (Addr × Obj)) (σ : St) (tg : Expr) (R : It → Hp → Prop) (itv : Value) (s2 : Shared) : Prop :=
  ∃ (it : Addr) (fp : List Addr) (tn : Nat → Heap → Prop) (J : It) (H' : Hp), itv = .ref it ∧ Inv X pins σ H' s2 ∧ Turn X.prog X.w X.K tg J fp it tn ∧ tn 0 s2.heap ∧ (∀ b ∈ fp, FpOk X pins H' b) ∧ R J H'
def PI (X : Cx) (tg iter : Expr) (wi : TI) : Prop :=
  ∀ (pins : List (Addr × Obj)) (s : Shared) (σ : St) (H : Hp) (R : It → Hp → Prop), Inv X pins σ H s → wi σ H R →
    wpAny (model X.prog X.w) X.A (eval iter X.env) (fun v s1 => wpAny (model X.prog X.w) X.A (pyIter v) (PIE X pins σ tg R) X.xe s1) X.xe s

/-- the step ahead of the store is nothing for an iterator that keeps no tuple -/
theorem go_of {M : Model} {A : Around} {E : Value → Shared → Prop} {s : Shared} {tg : Expr} {it : Addr} {u : Value} {o : Obj} {n : String} {vs : Array Value} {Q : Unit → Shared → Prop} (ho : s.heap.get? it = some o) (hc : o.cls = .type n) (hd : o.data = .fields vs)
    (hn : ["enumerate", "zip", "dict_itemiterator", "dict_reverseitemiterator", "odict_iterator", "itertools.zip_longest", "itertools.pairwise"].contains n = false) (hQ : Q () s) : wpAny M A (letOwnedTupleGo tg (.ref it) u) Q E s := by
  unfold letOwnedTupleGo
  cases tg <;> first
    | exact wpAny_pure hQ
    | (cases u <;> first
        | exact wpAny_pure hQ
        | (refine wpAny_bind (wpAny_load ho ?_)
           rw [hc, hd]
           show wpAny M A (if (["enumerate", "zip", "dict_itemiterator", "dict_reverseitemiterator", "odict_iterator", "itertools.zip_longest", "itertools.pairwise"].contains n && vs[0]? == some (rawInt _)) = true then _ else _) Q E s
           rw [if_neg (by intro h; rw [hn, Bool.false_and] at h; cases h)]
           exact wpAny_pure hQ))

/-- the list at a, as it stands at each turn (a loop may append to it) -/
def Itl (K : PySem.W.Frag) (a : Addr) : It :=
  ⟨fun i H => ∃ xs x, SqL K H a xs ∧ xs[i]? = some x, fun i H x H' => H' = H ∧ ∀ xs, SqL K H a xs → xs[i]? = some x, fun i H => ∃ xs, SqL K H a xs ∧ xs.length ≤ i⟩
def Itt (K : PySem.W.Frag) (a : Addr) : It :=
  ⟨fun i H => ∃ xs x, SqT K H a xs ∧ xs[i]? = some x, fun i H x H' => H' = H ∧ ∀ xs, SqT K H a xs → xs[i]? = some x, fun i H => ∃ xs, SqT K H a xs ∧ xs.length ≤ i⟩
/-- lo, lo + 1, .. (n of them) -/
def Itr (lo : Int) (n : Nat) : It := ⟨fun i _ => i < n, fun i H x H' => H' = H ∧ x = .int (lo + i), fun i _ => n ≤ i⟩
theorem turn_list {P : Program} {w : World} {K : PySem.W.Frag} {tg : Expr} (a it : Addr) : Turn P w K tg (Itl K a) [it] it (fun i h => h.IsListIter it a i) where
  mem := by simp
  obj := fun i h st b hb => by
    have e : b = it := by simpa using hb
    subst e
    obtain ⟨o, e, c, d⟩ := st
    exact ⟨o, e, fun v z => by rw [d] at z; cases z⟩
  keep := fun i h h' st k => st.at fun o e => k it (by simp) o e
  item := by
    intro X hP hw hK hc i pins s σ H E I hf st hg
    subst hP hw hK
    obtain ⟨xs, x, hq, hx⟩ := hg
    obtain ⟨its, rv, p, hz⟩ := I.list hq
    obtain ⟨u, hu, ru⟩ := rv.get hx
    obtain ⟨f0, f1, f2, f3, f4, f5⟩ := hf it (by simp)
    refine wpAny_pyNext_list_item st p.isList (x := u) (by simpa using hu) fun h' st' sb => ?_
    have I1 : Inv X pins σ H { s with heap := h' } := I.turned (t' := s.toks) (fun b o hb e => (sb.2 b hb).trans e) f0 f1 f3 f4 f5
    obtain ⟨o, e, c, d⟩ := id st'
    exact ⟨u, rfl, go_of (s := { s with heap := h' }) e c d (by decide) ⟨x, H, I1, ru, ⟨rfl, fun ys hy => by rw [I.list_inj hy hq]; exact hx⟩, st', fun b hb => (hf b hb).1⟩⟩
  done := by
    intro X hP hw hK hc i pins s σ H E I hf st hg
    subst hP hw hK
    obtain ⟨xs, hq, hx⟩ := hg
    obtain ⟨its, rv, p, hz⟩ := I.list hq
    obtain ⟨f0, f1, f2, f3, f4, f5⟩ := hf it (by simp)
    have hl := rv.length
    exact wpAny_pyNext_list_end (I.ok.hd hc) st p.isList (by simp; omega) fun h' eb => ⟨rfl, I.turned (t' := s.toks) (fun b o hb e => eb b o hb e) f0 f1 f3 f4 f5⟩
  self := fun _ _ _ _ _ st h => wpAny_pyIter_listiter st h
theorem turn_tuple {P : Program} {w : World} {K : PySem.W.Frag} {tg : Expr} (a it : Addr) : Turn P w K tg (Itt K a) [it] it (fun i h => h.IsTupleIter it a i) where
  mem := by simp
  obj := fun i h st b hb => by
    have e : b = it := by simpa using hb
    subst e
    obtain ⟨o, e, c, d⟩ := st
    exact ⟨o, e, fun v z => by rw [d] at z; cases z⟩
  keep := fun i h h' st k => st.at fun o e => k it (by simp) o e
  item := by
    intro X hP hw hK hc i pins s σ H E I hf st hg
    subst hP hw hK
    obtain ⟨xs, x, hq, hx⟩ := hg
    obtain ⟨its, rv, p, hz⟩ := I.tuple hq
    obtain ⟨u, hu, ru⟩ := rv.get hx
    obtain ⟨f0, f1, f2, f3, f4, f5⟩ := hf it (by simp)
    refine wpAny_pyNext_tuple_item st (show s.heap.IsTuple a its.toArray from p) (x := u) (by simpa using hu) fun h' st' sb => ?_
    have I1 : Inv X pins σ H { s with heap := h' } := I.turned (t' := s.toks) (fun b o hb e => (sb.2 b hb).trans e) f0 f1 f3 f4 f5
    obtain ⟨o, e, c, d⟩ := id st'
    exact ⟨u, rfl, go_of (s := { s with heap := h' }) e c d (by decide) ⟨x, H, I1, ru, ⟨rfl, fun ys hy => by rw [I.tuple_inj hy hq]; exact hx⟩, st', fun b hb => (hf b hb).1⟩⟩
  done := by
    intro X hP hw hK hc i pins s σ H E I hf st hg
    subst hP hw hK
    obtain ⟨xs, hq, hx⟩ := hg
    obtain ⟨its, rv, p, hz⟩ := I.tuple hq
    obtain ⟨f0, f1, f2, f3, f4, f5⟩ := hf it (by simp)
    have hl := rv.length
    exact wpAny_pyNext_tuple_end (I.ok.hd hc) st (show s.heap.IsTuple a its.toArray from p) (by simp; omega) fun h' eb => ⟨rfl, I.turned (t' := s.toks) (fun b o hb e => eb b o hb e) f0 f1 f3 f4 f5⟩
  self := fun _ _ _ _ _ st h => wpAny_pyIter_tupleiter st h
theorem turn_range {P : Program} {w : World} {K : PySem.W.Frag} {tg : Expr} (it : Addr) (lo : Int) (n : Nat) : Turn P w K tg (Itr lo n) [it] it (fun i h => IsRangeIter h it (lo + (i : Nat) * 1) ((n : Int) - (i : Nat)) 1) where
  mem := by simp
  obj := fun i h st b hb => by
    have e : b = it := by simpa using hb
    subst e
    exact ⟨_, st, fun v z => by
      have z' : Data.fields _ = Data.cell v := z
      cases z'⟩
  keep := fun i h h' st k => k it (by simp) _ st
  item := by
    intro X hP hw hK hc i pins s σ H E I hf st hg
    subst hP hw hK
    obtain ⟨f0, f1, f2, f3, f4, f5⟩ := hf it (by simp)
    have W := Walks.range (prog := X.prog) (w := X.w) (I.ok.hd hc) it lo 1 n
    refine W.item i s _ _ hg st fun v h' tk hv st' kk => ?_
    obtain ⟨t, rfl⟩ := hv
    have I1 : Inv X pins σ H { s with heap := h', toks := tk } := I.turned (fun b o hb e => kk b o (by simpa using hb) e) f0 f1 f3 f4 f5
    refine ⟨_, rfl, go_of (s := { s with heap := h', toks := tk }) (n := "range_iterator") st' rfl rfl (by decide) ⟨.int (lo + i), H, I1, ⟨t, ?_⟩, ⟨rfl, rfl⟩, st', fun b hb => (hf b hb).1⟩⟩
    rw [Int.mul_one]
  done := by
    intro X hP hw hK hc i pins s σ H E I hf st hg
    subst hP hw hK
    obtain ⟨f0, f1, f2, f3, f4, f5⟩ := hf it (by simp)
    exact wpAny_pyNext_range_end (I.ok.hd hc) st (by have : n ≤ i := hg; omega) fun h' eb => ⟨rfl, I.turned (t' := s.toks) (fun b o hb e => eb b o hb e) f0 f1 f3 f4 f5⟩
  self := fun _ _ _ _ _ st h => wpAny_pyIter_rangeiter st h
end L2

namespace L2
open PySem PySem.Spec PyProof.Rows
section
variable {X : Cx} {tg : Expr}
def iList (K : PySem.W.Frag) (tl : TE) : TI := fun σ H R => tl σ H fun x H1 => ∃ a, x = .ref a ∧ (∃ xs, SqL K H1 a xs) ∧ R (Itl K a) H1
def iTup (K : PySem.W.Frag) (tl : TE) : TI := fun σ H R => tl σ H fun x H1 => ∃ a, x = .ref a ∧ (∃ xs, SqT K H1 a xs) ∧ R (Itt K a) H1
theorem pi_list {l : Expr} {tl : TE} (hl : PE X l tl) : PI X tg l (iList X.K tl) := by
  intro pins s σ H R I h
  refine thn (hl pins s σ H _ I h) fun v s1 ⟨x, H1, I1, r1, q1⟩ => ?_
  obtain ⟨a, e, ⟨xs, hq⟩, q⟩ := q1
  subst e
  cases r1
  obtain ⟨its, rv, p, hz⟩ := I1.list hq
  refine wpAny_pyIter_list p.isList ?_
  refine ⟨s1.heap.objs.size, [s1.heap.objs.size], _, _, H1, rfl, I1.kept (t' := s1.toks) fun b o e => Heap.get?_push_of_some _ e, turn_list a _, ⟨_, Heap.get?_push_size _ rfl, rfl, rfl⟩, fun b hb => ?_, q⟩
  have e : b = s1.heap.objs.size := by simpa using hb
  subst e
  exact I1.fpOk (Nat.le_refl _) (I1.hok.fresh (Nat.le_refl _))
theorem pi_tup {l : Expr} {tl : TE} (hl : PE X l tl) : PI X tg l (iTup X.K tl) := by
  intro pins s σ H R I h
  refine thn (hl pins s σ H _ I h) fun v s1 ⟨x, H1, I1, r1, q1⟩ => ?_
  obtain ⟨a, e, ⟨xs, hq⟩, q⟩ := q1
  subst e
  cases r1
  obtain ⟨its, rv, p, hz⟩ := I1.tuple hq
  refine wpAny_pyIter_tuple (show s1.heap.IsTuple a its.toArray from p) ?_
  refine ⟨s1.heap.objs.size, [s1.heap.objs.size], _, _, H1, rfl, I1.kept (t' := s1.toks) fun b o e => Heap.get?_push_of_some _ e, turn_tuple a _, ⟨_, Heap.get?_push_size _ rfl, rfl, rfl⟩, fun b hb => ?_, q⟩
  have e : b = s1.heap.objs.size := by simpa using hb
  subst e
  exact I1.fpOk (Nat.le_refl _) (I1.hok.fresh (Nat.le_refl _))
/-- a range object just made, walked -/
theorem range_it {pins : List (Addr × Obj)} {σ : St} {H : Hp} {s : Shared} {R : It → Hp → Prop} {E : Value → Shared → Prop} {lo hi : Int} {t u v : Tok} {tk : Nat} (I : Inv X pins σ H s) (h1 : -(2 ^ 62) ≤ lo) (h2 : lo < 2 ^ 62) (h3 : -(2 ^ 62) ≤ hi) (h4 : hi < 2 ^ 62)
    (q : R (Itr lo (hi - lo).toNat) H) : wpAny (model X.prog X.w) X.A (pyIter (.ref s.heap.objs.size)) (PIE X pins σ tg R) E { s with heap := s.heap.push { cls := .type "range", data := .fields #[.int lo t, .int hi u, .int 1 v] }, toks := tk } := by
  refine wpAny_pyIter_range (IsRange.new ..) (small_one h1 h2 h3 h4) ?_
  have I1 : Inv X pins σ H { s with heap := s.heap.push { cls := .type "range", data := .fields #[.int lo t, .int hi u, .int 1 v] }, toks := tk } := I.kept fun b o e => Heap.get?_push_of_some _ e
  refine ⟨(s.heap.push { cls := .type "range", data := .fields #[.int lo t, .int hi u, .int 1 v] }).objs.size, [(s.heap.push { cls := .type "range", data := .fields #[.int lo t, .int hi u, .int 1 v] }).objs.size], _, _, H, rfl,
    I1.kept (t' := tk) fun b o e => Heap.get?_push_of_some _ e, turn_range _ lo (hi - lo).toNat, ?_, fun b hb => ?_, q⟩
  · have e1 : lo + ((0 : Nat) : Int) * 1 = lo := by simp
    have e2 : (((hi - lo).toNat : Nat) : Int) - ((0 : Nat) : Int) = Builtin.Range.rangeSize lo hi 1 := by rw [rangeSize_one]; split <;> omega
    show IsRangeIter _ _ (lo + ((0 : Nat) : Int) * 1) ((((hi - lo).toNat : Nat) : Int) - ((0 : Nat) : Int)) 1
    rw [e1, e2]
    exact Heap.get?_push_size _ rfl
  · have e : b = (s.heap.push { cls := .type "range", data := .fields #[.int lo t, .int hi u, .int 1 v] }).objs.size := by simpa using hb
    subst e
    exact I1.fpOk (Nat.le_refl _) (I1.hok.fresh (Nat.le_refl _))
def iRng1 (ta : TA) : TI := fun σ H R => ta σ H fun vs H1 => ∃ j : Int, vs = [.int j] ∧ -(2 ^ 62) ≤ j ∧ j < 2 ^ 62 ∧ R (Itr 0 j.toNat) H1
theorem pi_range1 {a : Expr} {ta : TA} {p pos : Pos} (hg : Gl X "range") (hm : X.mg "range" = none) (ha : PA X [a] ta) (hs : starEach [a] X.env = [(false, eval a X.env)] := by rfl) : PI X tg (.Call (.Name "range" p) [a] [] pos) (iRng1 ta) := by
  intro pins s σ H R I h
  refine Call_ (ld_blt I hg hm boot_range (PyProof.Rows.callWith_type1 (thn (ha pos pins s σ H _ I h) fun us s1 ⟨vs, H1, I1, r1, q1⟩ => ?_) hs rfl))
  obtain ⟨j, e, q1, q2, q⟩ := q1
  subst e
  cases r1 with
  | cons r rr =>
    cases rr
    obtain ⟨t, rfl⟩ := r
    exact call_range_1 (range_it I1 (by omega) (by omega) q1 q2 (by simpa using q))
/-! ### for -/
/-- W: the invariant by the turn and a measure; N: what the body is to reach -/
def tFor (wi : TI) (g : TG) (tb : TS) : TS := fun D σ H => wi σ H fun J H1 => ∃ W : Nat → Nat → St → Hp → Prop, (∃ m, W 0 m σ H1) ∧ ∀ i m σ H, W i m σ H →
  (J.stop i H ∧ D.nx σ H) ∨ (J.go i H ∧ ∃ N : St → Hp → Prop, (∀ σ' H', N σ' H' → ∃ m', m' < m ∧ W (i + 1) m' σ' H') ∧ ∀ x H', J.yld i H x H' → g x σ H' fun σ2 H2 => tb { D with nx := N, ct := N, bk := D.nx } σ2 H2)
/-- the records at fp as they stand -/
def pinsAt (fp : List Addr) (h : Heap) : List (Addr × Obj) := fp.filterMap fun b => (h.get? b).map fun o => (b, o)
theorem mem_pinsAt {fp : List Addr} {h : Heap} {b : Addr} {o : Obj} (hb : b ∈ fp) (e : h.get? b = some o) : (b, o) ∈ pinsAt fp h := List.mem_filterMap.mpr ⟨b, hb, by rw [e]; rfl⟩
theorem of_pinsAt {fp : List Addr} {h : Heap} {p : Addr × Obj} (hp : p ∈ pinsAt fp h) : p.1 ∈ fp ∧ h.get? p.1 = some p.2 := by
  obtain ⟨b, hb, e⟩ := List.mem_filterMap.mp hp
  cases q : h.get? b with
  | none => rw [q] at e; cases e
  | some o =>
    rw [q] at e
    have e' : (b, o) = p := Option.some.inj e
    subst e'
    exact ⟨hb, q⟩
theorem Inv.pinned {pins : List (Addr × Obj)} {σ : St} {H : Hp} {s : Shared} {fp : List Addr} (I : Inv X pins σ H s) (hf : ∀ b ∈ fp, FpOk X pins H b) (ho : ∀ b ∈ fp, ∃ o, s.heap.get? b = some o ∧ ∀ v, o.data ≠ .cell v) : Inv X (pins ++ pinsAt fp s.heap) σ H s :=
  I.pins_of fun p hp => (List.mem_append.mp hp).elim (fun z => I.pin p (List.mem_append_right _ z)) fun z => by
    obtain ⟨hb, e⟩ := of_pinsAt z
    obtain ⟨f0, f1, f2, _⟩ := hf p.1 hb
    obtain ⟨o, e', d⟩ := ho p.1 hb
    rw [e] at e'; cases e'
    exact ⟨e, f0, f1, f2, d⟩
theorem Inv.unpinned {pins pl : List (Addr × Obj)} {σ : St} {H : Hp} {s : Shared} (I : Inv X (pins ++ pl) σ H s) : Inv X pins σ H s := I.pins_of fun p hp => I.pin p (List.mem_append_right _ (List.mem_append_left _ hp))
theorem ps_for {iter : Expr} {body : List Stmt} {wi : TI} {g : TG} {tb : TS} {pos : Pos} (hp : PassesOwn (model X.prog X.w) X.A X.env X.xe) (hc : X.calm = true) (hi : PI X tg iter wi) (hg : PG X tg g) (hb : PSs X body tb)
    (hs : ∀ x, foldedSetIterable iter X.env x = pure x := by intro _; rfl) : PS X (.For tg iter body [] pos) (tFor wi g tb) := by
  intro pins s σ H D I h
  refine wpAny_For (thn (hi pins s σ H _ I h) fun v s1 h1 => thn h1 fun itv s2 h2 => ?_) hs
  obtain ⟨it, fp, tn, J, H2, e, I2, T, st2, f2, W, ⟨m0, w0⟩, turn⟩ := h2
  subst e
  -- what stays true of the iterator's objects through the loop
  have stat : ∀ {H' : Hp}, (∀ b ∈ fp, H' b = none) → ∀ b ∈ fp, FpOk X pins H' b := fun hn b hb => ⟨hn b hb, (f2 b hb).2⟩
  refine codeAny_forLoop_any (fun n s' => ∃ i σ' H', Inv X pins σ' H' s' ∧ tn i s'.heap ∧ (∀ b ∈ fp, H' b = none) ∧ W i n σ' H') ?_ m0 ⟨0, σ, H2, I2, st2, fun b hb => (f2 b hb).1, w0⟩
  rintro n s3 ⟨i, σ3, H3, I3, st3, fr3, w3⟩
  rcases turn i n σ3 H3 w3 with ⟨stop, qn⟩ | ⟨go, N, hN, step⟩
  · refine wpAny_passesOwn hp (thn (T.done X rfl rfl rfl hc i pins s3 σ3 H3 X.xe I3 (stat fr3) st3 stop) fun r s4 ⟨hr, I4⟩ => ?_)
    subst hr
    exact wpAny_execs_nil ⟨σ3, H3, I4, qn⟩
  · refine wpAny_passesOwn hp (thn (T.item X rfl rfl rfl hc i pins s3 σ3 H3 X.xe I3 (stat fr3) st3 go) fun r s4 ⟨u, hr, h4⟩ => ?_)
    subst hr
    refine wpAny_passesOwn hp (thn h4 fun _ s5 ⟨x, H5, I5, r5, y5, st5, fr5⟩ => ?_)
    have I5' := I5.pinned (stat fr5) (T.obj _ _ st5)
    refine wpAny_passesOwn hp (thn (hg _ s5 σ3 H5 x u _ I5' r5 (step x H5 y5)) fun _ s6 ⟨σ6, H6, I6, q6⟩ => ?_)
    refine wpAny_passesOwn hp (thn (hb _ s6 σ6 H6 _ I6 q6) fun f s7 q7 => ?_)
    have again : ∀ {σ7 : St} {H7 : Hp}, Inv X (pins ++ pinsAt fp s5.heap) σ7 H7 s7 → N σ7 H7 → ∃ m, m < n ∧ ∃ i σ' H', Inv X pins σ' H' s7 ∧ tn i s7.heap ∧ (∀ b ∈ fp, H' b = none) ∧ W i m σ' H' := fun {σ7 H7} I7 n7 => by
      obtain ⟨m', hm, w7⟩ := hN σ7 H7 n7
      refine ⟨m', hm, i + 1, σ7, H7, I7.unpinned, T.keep _ _ _ st5 fun b hb o e => (I7.pin (b, o) (List.mem_append_right _ (List.mem_append_right _ (mem_pinsAt hb e)))).1, fun b hb => ?_, w7⟩
      obtain ⟨o, e, d⟩ := T.obj _ _ st5 b hb
      exact (I7.pin (b, o) (List.mem_append_right _ (List.mem_append_right _ (mem_pinsAt hb e)))).2.1
    cases f with
    | next => obtain ⟨σ7, H7, I7, n7⟩ := q7; exact again I7 n7
    | cont => obtain ⟨σ7, H7, I7, n7⟩ := q7; exact again I7 n7
    | brk => obtain ⟨σ7, H7, I7, q7⟩ := q7; exact ⟨σ7, H7, I7.unpinned, q7⟩
    | ret v => obtain ⟨x7, σ7, H7, I7, r7, q7⟩ := q7; exact ⟨x7, σ7, H7, I7.unpinned, r7, q7⟩
end

/-! ### the forms one uses -/
/-- over a list that the body leaves as it is -/
theorem for_list {K : PySem.W.Frag} {a : Addr} {xs : List V} {g : TG} {tb : TS} {D : Ends} {σ : St} {H : Hp} (Pv : Nat → St → Hp → Prop) (h0 : Pv 0 σ H) (hl : ∀ i σ H, i ≤ xs.length → Pv i σ H → SqL K H a xs)
    (hs : ∀ i x σ H, xs[i]? = some x → Pv i σ H → g x σ H fun σ2 H2 => tb { D with nx := Pv (i + 1), ct := Pv (i + 1), bk := D.nx } σ2 H2) (hd : ∀ σ H, Pv xs.length σ H → D.nx σ H) :
    ∃ W : Nat → Nat → St → Hp → Prop, (∃ m, W 0 m σ H) ∧ ∀ i m σ H, W i m σ H →
      ((Itl K a).stop i H ∧ D.nx σ H) ∨ ((Itl K a).go i H ∧ ∃ N : St → Hp → Prop, (∀ σ' H', N σ' H' → ∃ m', m' < m ∧ W (i + 1) m' σ' H') ∧ ∀ x H', (Itl K a).yld i H x H' → g x σ H' fun σ2 H2 => tb { D with nx := N, ct := N, bk := D.nx } σ2 H2) := by
  refine ⟨fun i m σ H => m = xs.length - i ∧ i ≤ xs.length ∧ Pv i σ H, ⟨xs.length, by simp, Nat.zero_le _, h0⟩, ?_⟩
  rintro i m σ H ⟨rfl, hi, p⟩
  have q := hl i σ H hi p
  by_cases hlt : i < xs.length
  · refine .inr ⟨⟨xs, xs[i], q, by simp [hlt]⟩, Pv (i + 1), fun σ' H' p' => ⟨xs.length - (i + 1), by omega, rfl, hlt, p'⟩, fun x H' y => ?_⟩
    obtain ⟨e, y⟩ := y
    subst e
    exact hs i x σ _ (y xs q) p
  · have e : i = xs.length := by omega
    subst e
    exact .inl ⟨⟨xs, q, Nat.le_refl _⟩, hd σ H p⟩
theorem for_range {lo : Int} {n : Nat} {g : TG} {tb : TS} {D : Ends} {σ : St} {H : Hp} (Pv : Nat → St → Hp → Prop) (h0 : Pv 0 σ H)
    (hs : ∀ i σ H, i < n → Pv i σ H → g (.int (lo + i)) σ H fun σ2 H2 => tb { D with nx := Pv (i + 1), ct := Pv (i + 1), bk := D.nx } σ2 H2) (hd : ∀ σ H, Pv n σ H → D.nx σ H) :
    ∃ W : Nat → Nat → St → Hp → Prop, (∃ m, W 0 m σ H) ∧ ∀ i m σ H, W i m σ H →
      ((Itr lo n).stop i H ∧ D.nx σ H) ∨ ((Itr lo n).go i H ∧ ∃ N : St → Hp → Prop, (∀ σ' H', N σ' H' → ∃ m', m' < m ∧ W (i + 1) m' σ' H') ∧ ∀ x H', (Itr lo n).yld i H x H' → g x σ H' fun σ2 H2 => tb { D with nx := N, ct := N, bk := D.nx } σ2 H2) := by
  refine ⟨fun i m σ H => m = n - i ∧ i ≤ n ∧ Pv i σ H, ⟨n, by simp, Nat.zero_le _, h0⟩, ?_⟩
  rintro i m σ H ⟨rfl, hi, p⟩
  by_cases hlt : i < n
  · refine .inr ⟨hlt, Pv (i + 1), fun σ' H' p' => ⟨n - (i + 1), by omega, rfl, hlt, p'⟩, fun x H' y => ?_⟩
    obtain ⟨e, y⟩ := y
    subst e y
    exact hs i σ _ hlt p
  · have e : i = n := by omega
    subst e
    exact .inl ⟨Nat.le_refl _, hd σ H p⟩
/-- while, by a word and a measure of the state -/
theorem while_by {c : TT} {tb : TS} {D : Ends} {σ : St} {H : Hp} (Pv : St → Hp → Prop) (μ : St → Hp → Nat) (h0 : Pv σ H)
    (hs : ∀ σ H, Pv σ H → c σ H fun b H1 => if b = true then tb { D with nx := fun σ' H' => Pv σ' H' ∧ μ σ' H' < μ σ H, ct := fun σ' H' => Pv σ' H' ∧ μ σ' H' < μ σ H, bk := D.nx } σ H1 else D.nx σ H1)
    (mono : ∀ σ H Q Q', (∀ b H1, Q b H1 → Q' b H1) → c σ H Q → c σ H Q') : tWhile c tb D σ H := by
  refine ⟨fun m σ H => m = μ σ H ∧ Pv σ H, ⟨_, rfl, h0⟩, ?_⟩
  rintro m σ H ⟨rfl, p⟩
  refine mono σ H _ _ (fun b H1 q => ?_) (hs σ H p)
  cases b with
  | true => exact ⟨_, fun σ' H' ⟨p', l⟩ => ⟨_, l, rfl, p'⟩, q⟩
  | false => exact q
end L2

namespace L2
open PySem PySem.Spec PyProof.Rows

abbrev R2 := V → V → Hp → VK → Prop
/-- a two-place operation on values: f is binaryOp op, inplaceOp op or compareOp op -/
def OpR (X : Cx) (f : Value → Value → Sem Value) (r : R2) : Prop :=
  ∀ (pins : List (Addr × Obj)) (s : Shared) (σ : St) (H : Hp) (x y : V) (v u : Value) (Q : VK), Inv X pins σ H s → RelV x v → RelV y u → r x y H Q →
    wpAny (model X.prog X.w) X.A (f v u) (EP X pins σ Q) X.xe s
/-- a one-place operation -/
def UnR (X : Cx) (f : Value → Sem Value) (r : V → Hp → VK → Prop) : Prop :=
  ∀ (pins : List (Addr × Obj)) (s : Shared) (σ : St) (H : Hp) (x : V) (v : Value) (Q : VK), Inv X pins σ H s → RelV x v → r x H Q →
    wpAny (model X.prog X.w) X.A (f v) (EP X pins σ Q) X.xe s
/-- a call of a value that is known (a builtin, a type) with values -/
def CallR (X : Cx) (f : Value) (r : List V → Hp → VK → Prop) : Prop :=
  ∀ (pins : List (Addr × Obj)) (s : Shared) (σ : St) (H : Hp) (xs : List V) (us : List Value) (Q : VK), Inv X pins σ H s → Vals xs us → r xs H Q →
    wpAny (model X.prog X.w) X.A (call f us) (EP X pins σ Q) X.xe s
/-- a value's truth -/
def TruR (X : Cx) (r : V → Hp → (Bool → Hp → Prop) → Prop) : Prop :=
  ∀ (pins : List (Addr × Obj)) (s : Shared) (σ : St) (H : Hp) (x : V) (v : Value) (Q : Bool → Hp → Prop), Inv X pins σ H s → RelV x v → r x H Q →
    wpAny (model X.prog X.w) X.A (truthy v) (TP X pins σ Q) X.xe s

def tOp (r : R2) (ta tb : TE) : TE := fun σ H Q => ta σ H fun x H1 => tb σ H1 fun y H2 => r x y H2 Q
def tUn (r : V → Hp → VK → Prop) (ta : TE) : TE := fun σ H Q => ta σ H fun x H1 => r x H1 Q
/-- ints in, under C, and a value out -/
def rI (C : Int → Int → Prop) (g : Int → Int → V) : R2 := fun x y H Q => ∃ i j, x = .int i ∧ y = .int j ∧ C i j ∧ Q (g i j) H
def rI0 (g : Int → Int → V) : R2 := fun x y H Q => ∃ i j, x = .int i ∧ y = .int j ∧ Q (g i j) H
def rU (g : Int → V) : V → Hp → VK → Prop := fun x H Q => ∃ i, x = .int i ∧ Q (g i) H

section
variable {X : Cx} {a b c : Expr} {ta tb tc : TE} {pos : Pos}

theorem binT (ha : PE X a ta) (hb : PE X b tb) {pins : List (Addr × Obj)} {s : Shared} {σ : St} {H : Hp} {R : V → V → Hp → Prop} (I : Inv X pins σ H s)
    (h : ta σ H fun x H1 => tb σ H1 fun y H2 => R x y H2) {Q : Value → Shared → Prop} {f : Value → Value → Sem Value}
    (hf : ∀ v u s2 x y H2, Inv X pins σ H2 s2 → RelV x v → RelV y u → R x y H2 → wpAny (model X.prog X.w) X.A (f v u) Q X.xe s2) :
    wpAny (model X.prog X.w) X.A (eval a X.env) (fun v s₁ => wpAny (model X.prog X.w) X.A (eval b X.env) (fun u s₂ => wpAny (model X.prog X.w) X.A (f v u) Q X.xe s₂) X.xe s₁) X.xe s := by
  refine thn (ha pins s σ H _ I h) fun v s1 ⟨x, H1, I1, r1, q1⟩ => ?_
  refine thn (hb pins s1 σ H1 _ I1 q1) fun u s2 ⟨y, H2, I2, r2, q2⟩ => ?_
  exact hf v u s2 x y H2 I2 r1 r2 q2

theorem pe_op {op : Operator} {r : R2} (ho : OpR X (binaryOp op) r) (ha : PE X a ta) (hb : PE X b tb) : PE X (.BinOp a op b pos) (tOp r ta tb) := by
  intro pins s σ H Q I h
  exact wpAny_BinOp (binT ha hb I h fun v u s2 x y H2 I2 rx ry q => ho pins s2 σ H2 x y v u Q I2 rx ry q)
theorem pe_un {op : UnaryOp} {r : V → Hp → VK → Prop} (ho : UnR X (unaryOp op) r) (ha : PE X a ta) : PE X (.UnaryOp op a pos) (tUn r ta) := by
  intro pins s σ H Q I h
  exact UnaryOp_ (thn (ha pins s σ H _ I h) fun v s1 ⟨x, H1, I1, r1, q1⟩ => ho pins s1 σ H1 x v Q I1 r1 q1)
/-! ### ints -/
theorem opI {f : Value → Value → Sem Value} {C : Int → Int → Prop} {g : Int → Int → Int}
    (rule : ∀ (i j : Int) (t u : Tok) (s : Shared) (Q : Value → Shared → Prop) (E : Value → Shared → Prop), C i j → Q (.int (g i j) s.toks) { s with toks := s.toks + 1 } → wpAny (model X.prog X.w) X.A (f (.int i t) (.int j u)) Q E s) :
    OpR X f (rI C fun i j => .int (g i j)) := by
  intro pins s σ H x y v u Q I rx ry h
  obtain ⟨i, j, rfl, rfl, hc, q⟩ := h
  obtain ⟨t, rfl⟩ := rx
  obtain ⟨t', rfl⟩ := ry
  exact rule i j t t' s _ _ hc ⟨.int (g i j), H, I.tok _, ⟨_, rfl⟩, q⟩
theorem opI0 {f : Value → Value → Sem Value} {g : Int → Int → Int}
    (rule : ∀ (i j : Int) (t u : Tok) (s : Shared) (Q : Value → Shared → Prop) (E : Value → Shared → Prop), Q (.int (g i j) s.toks) { s with toks := s.toks + 1 } → wpAny (model X.prog X.w) X.A (f (.int i t) (.int j u)) Q E s) :
    OpR X f (rI0 fun i j => .int (g i j)) := by
  intro pins s σ H x y v u Q I rx ry h
  obtain ⟨i, j, rfl, rfl, q⟩ := h
  obtain ⟨t, rfl⟩ := rx
  obtain ⟨t', rfl⟩ := ry
  exact rule i j t t' s _ _ ⟨.int (g i j), H, I.tok _, ⟨_, rfl⟩, q⟩
theorem opB0 {f : Value → Value → Sem Value} {g : Int → Int → Bool}
    (rule : ∀ (i j : Int) (t u : Tok) (s : Shared) (Q : Value → Shared → Prop) (E : Value → Shared → Prop), Q (.bool (g i j)) s → wpAny (model X.prog X.w) X.A (f (.int i t) (.int j u)) Q E s) :
    OpR X f (rI0 fun i j => .bl (g i j)) := by
  intro pins s σ H x y v u Q I rx ry h
  obtain ⟨i, j, rfl, rfl, q⟩ := h
  obtain ⟨t, rfl⟩ := rx
  obtain ⟨t', rfl⟩ := ry
  exact rule i j t t' s _ _ ⟨.bl (g i j), H, I, rfl, q⟩

def CPow (i j : Int) : Prop := 0 ≤ j ∧ j ≤ 1000000 ∧ i.natAbs < 2 ^ 64
def CMul (i j : Int) : Prop := (-(2 ^ 64) < i ∧ i < 2 ^ 64) ∨ (-(2 ^ 64) < j ∧ j < 2 ^ 64)
theorem CMul.ok {i j : Int} (h : CMul i j) : IntMulOk i j := by
  rcases h with ⟨h1, h2⟩ | ⟨h1, h2⟩
  · exact .of_left (intBits_le_64 h1 h2)
  · exact .of_right (intBits_le_64 h1 h2)
theorem op_add : OpR X (binaryOp .Add) (rI0 fun i j => .int (i + j)) := opI0 fun _ _ _ _ _ _ _ q => add_int q
theorem op_sub : OpR X (binaryOp .Sub) (rI0 fun i j => .int (i - j)) := opI0 fun _ _ _ _ _ _ _ q => sub_int q
theorem op_mul : OpR X (binaryOp .Mult) (rI CMul fun i j => .int (i * j)) := opI fun _ _ _ _ _ _ _ hc q => mul_int q hc.ok
/-- % by a positive divisor of any size -/
theorem op_mod : OpR X (binaryOp .Mod) (rI (fun _ j => 0 < j) fun i j => .int (i % j)) := opI fun i j _ _ _ _ _ hc q => by
  have h1 : (0 : Int) < j := hc
  exact mod_int' (by omega) (by rw [Int.fmod_eq_emod_of_nonneg i (by omega)]; exact q)
theorem op_pow : OpR X (binaryOp .Pow) (rI CPow fun i j => .int (i ^ j.toNat)) := opI fun _ _ _ _ _ _ _ hc q => pow_int_small hc.1 hc.2.1 hc.2.2 q
theorem unI {f : Value → Sem Value} {g : Int → Int}
    (rule : ∀ (i : Int) (t : Tok) (s : Shared) (Q : Value → Shared → Prop) (E : Value → Shared → Prop), Q (.int (g i) s.toks) { s with toks := s.toks + 1 } → wpAny (model X.prog X.w) X.A (f (.int i t)) Q E s) :
    UnR X f (rU fun i => .int (g i)) := by
  intro pins s σ H x v Q I rx h
  obtain ⟨i, rfl, q⟩ := h
  obtain ⟨t, rfl⟩ := rx
  exact rule i t s _ _ ⟨.int (g i), H, I.tok _, ⟨_, rfl⟩, q⟩
theorem un_neg : UnR X (unaryOp .USub) (rU fun i => .int (-i)) := unI fun _ _ _ _ _ q => neg_int q
/-! ### bools among ints: n += (a < b) -/
end

/-! ### comparisons -/
/-- the scalars that == tells apart as data does -/
def scal : V → V → Bool
  | .non, .non => true | .non, .int _ => true | .int _, .non => true | .non, .bl _ => true | .bl _, .non => true | .non, .str _ => true | .str _, .non => true
  | .int _, .int _ => true | .bl _, .bl _ => true | .str _, .str _ => true | .byt _, .byt _ => true
  | .int _, .str _ => true | .str _, .int _ => true | .bl _, .str _ => true | .str _, .bl _ => true
  | _, _ => false
def rEq : R2 := fun x y H Q => scal x y = true ∧ Q (.bl (decide (x = y))) H
def rNe : R2 := fun x y H Q => scal x y = true ∧ Q (.bl (!decide (x = y))) H

theorem dec_int {i j : Int} : decide (V.int i = V.int j) = (i == j) := by
  rw [Bool.eq_iff_iff]
  simp
theorem dec_bl {i j : Bool} : decide (V.bl i = V.bl j) = (i == j) := by
  rw [Bool.eq_iff_iff]
  simp
theorem dec_str {i j : Str} : decide (V.str i = V.str j) = (i == j) := by
  rw [Bool.eq_iff_iff]
  simp
theorem dec_byt {i j : Array UInt8} : decide (V.byt i = V.byt j) = (i.toList == j.toList) := by
  rw [Bool.eq_iff_iff]
  cases i
  cases j
  simp

section
variable {X : Cx} {a b c : Expr} {ta tb tc : TE} {pos : Pos}
theorem fin_bl {pins : List (Addr × Obj)} {σ : St} {H : Hp} {s : Shared} {Q : VK} {k k' : Bool} (I : Inv X pins σ H s) (q : Q (.bl k) H) (e : k = k') : EP X pins σ Q (.bool k') s := by
  subst e
  exact ⟨.bl k, H, I, rfl, q⟩
theorem op_eq : OpR X (compareOp .Eq) rEq := by
  intro pins s σ H x y v u Q I rx ry h
  obtain ⟨hs, q⟩ := h
  cases x with
  | non =>
    cases rx
    cases y with
    | non => cases ry; exact PySem.EqNone.eq_none_none (fin_bl I q (by simp))
    | bl j => cases ry; exact PySem.EqNone.eq_none_bool (fin_bl I q (by simp))
    | int j => obtain ⟨t', rfl⟩ := ry; exact PySem.EqNone.eq_none_int (fin_bl I q (by simp))
    | str j => obtain ⟨t', rfl⟩ := ry; exact PySem.EqNone.eq_none_str (fin_bl I q (by simp))
    | _ => exact absurd (show false = true from hs) Bool.false_ne_true
  | bl i =>
    cases rx
    cases y with
    | non => cases ry; exact PySem.EqNone.eq_bool_none (fin_bl I q (by simp))
    | bl j => cases ry; exact eq_bool (fin_bl I q dec_bl)
    | str j => obtain ⟨t', rfl⟩ := ry; exact PySem.EqMixed.eq_bool_str (fin_bl I q (by simp))
    | _ => exact absurd (show false = true from hs) Bool.false_ne_true
  | int i =>
    obtain ⟨t, rfl⟩ := rx
    cases y with
    | non => cases ry; exact PySem.EqNone.eq_int_none (fin_bl I q (by simp))
    | int j => obtain ⟨t', rfl⟩ := ry; exact eq_int (fin_bl I q dec_int)
    | str j => obtain ⟨t', rfl⟩ := ry; exact PySem.EqMixed.eq_int_str (fin_bl I q (by simp))
    | _ => exact absurd (show false = true from hs) Bool.false_ne_true
  | str i =>
    obtain ⟨t, rfl⟩ := rx
    cases y with
    | non => cases ry; exact PySem.EqNone.eq_str_none (fin_bl I q (by simp))
    | bl j => cases ry; exact PySem.EqMixed.eq_str_bool (fin_bl I q (by simp))
    | int j => obtain ⟨t', rfl⟩ := ry; exact PySem.EqMixed.eq_str_int (fin_bl I q (by simp))
    | str j => obtain ⟨t', rfl⟩ := ry; exact eq_str (fin_bl I q dec_str)
    | _ => exact absurd (show false = true from hs) Bool.false_ne_true
  | byt i =>
    obtain ⟨t, rfl⟩ := rx
    cases y with
    | byt j => obtain ⟨t', rfl⟩ := ry; exact PySem.W.eq_bytes (fin_bl I q dec_byt)
    | _ => exact absurd (show false = true from hs) Bool.false_ne_true
  | _ => cases y <;> exact absurd (show false = true from hs) Bool.false_ne_true
theorem op_ne : OpR X (compareOp .NotEq) rNe := by
  intro pins s σ H x y v u Q I rx ry h
  obtain ⟨hs, q⟩ := h
  cases x with
  | non =>
    cases rx
    cases y with
    | non => cases ry; exact PySem.EqNone.ne_none_none (fin_bl I q (by simp))
    | bl j => cases ry; exact PySem.EqNone.ne_none_bool (fin_bl I q (by simp))
    | int j => obtain ⟨t', rfl⟩ := ry; exact PySem.EqNone.ne_none_int (fin_bl I q (by simp))
    | str j => obtain ⟨t', rfl⟩ := ry; exact PySem.EqNone.ne_none_str (fin_bl I q (by simp))
    | _ => exact absurd (show false = true from hs) Bool.false_ne_true
  | bl i =>
    cases rx
    cases y with
    | non => cases ry; exact PySem.EqNone.ne_bool_none (fin_bl I q (by simp))
    | bl j => cases ry; exact ne_bool (fin_bl I q (congrArg not dec_bl))
    | str j => obtain ⟨t', rfl⟩ := ry; exact PySem.EqMixed.ne_bool_str (fin_bl I q (by simp))
    | _ => exact absurd (show false = true from hs) Bool.false_ne_true
  | int i =>
    obtain ⟨t, rfl⟩ := rx
    cases y with
    | non => cases ry; exact PySem.EqNone.ne_int_none (fin_bl I q (by simp))
    | int j => obtain ⟨t', rfl⟩ := ry; exact ne_int (fin_bl I q (congrArg not dec_int))
    | str j => obtain ⟨t', rfl⟩ := ry; exact PySem.EqMixed.ne_int_str (fin_bl I q (by simp))
    | _ => exact absurd (show false = true from hs) Bool.false_ne_true
  | str i =>
    obtain ⟨t, rfl⟩ := rx
    cases y with
    | non => cases ry; exact PySem.EqNone.ne_str_none (fin_bl I q (by simp))
    | bl j => cases ry; exact PySem.EqMixed.ne_str_bool (fin_bl I q (by simp))
    | int j => obtain ⟨t', rfl⟩ := ry; exact PySem.EqMixed.ne_str_int (fin_bl I q (by simp))
    | str j => obtain ⟨t', rfl⟩ := ry; exact ne_str (fin_bl I q (congrArg not dec_str))
    | _ => exact absurd (show false = true from hs) Bool.false_ne_true
  | byt i =>
    obtain ⟨t, rfl⟩ := rx
    cases y with
    | byt j => obtain ⟨t', rfl⟩ := ry; exact PySem.W.ne_bytes (fin_bl I q (congrArg not dec_byt))
    | _ => exact absurd (show false = true from hs) Bool.false_ne_true
  | _ => cases y <;> exact absurd (show false = true from hs) Bool.false_ne_true

theorem op_lt : OpR X (compareOp .Lt) (rI0 fun i j => .bl (decide (i < j))) := opB0 fun _ _ _ _ _ _ _ q => lt_int q
theorem op_gt : OpR X (compareOp .Gt) (rI0 fun i j => .bl (decide (j < i))) := opB0 fun _ _ _ _ _ _ _ q => gt_int q
theorem op_ge : OpR X (compareOp .GtE) (rI0 fun i j => .bl (decide (j ≤ i))) := opB0 fun _ _ _ _ _ _ _ q => ge_int q
/-- is None, is not None: the right side a value none -/
theorem op_isN : OpR X (compareOp .Is) (fun x y H Q => y = .non ∧ Q (.bl (decide (x = .non))) H) := by
  intro pins s σ H x y v u Q I rx ry h
  obtain ⟨rfl, q⟩ := h
  cases ry
  refine is_none_gen (fin_bl I q ?_)
  cases x <;> first
    | (cases rx; rfl)
    | (obtain ⟨t, rfl⟩ := rx; rfl)
/-- two rules for one operation: by cases -/
theorem OpR.or {f : Value → Value → Sem Value} {r r' : R2} (h : OpR X f r) (h' : OpR X f r') : OpR X f (fun x y H Q => r x y H Q ∨ r' x y H Q) := by
  intro pins s σ H x y v u Q I rx ry q
  rcases q with q | q
  · exact h pins s σ H x y v u Q I rx ry q
  · exact h' pins s σ H x y v u Q I rx ry q

theorem nomark (b : Expr) {op : CmpOp} (h : op ≠ .In := by decide) (h2 : op ≠ .NotIn := by decide) : behindInMarks op b = false := by
  have e1 : (op == CmpOp.In) = false := by cases op <;> first | rfl | exact absurd rfl h
  have e2 : (op == CmpOp.NotIn) = false := by cases op <;> first | rfl | exact absurd rfl h2
  cases b <;> simp [behindInMarks, e1, e2]
/-- a comparison as a value; hm: nomark b, or (for in, not in) by with_unfolding_all rfl -/
theorem pe_cmpR {op : CmpOp} {r : R2} (ho : OpR X (compareOp op) r) (ha : PE X a ta) (hb : PE X b tb) (hm : behindInMarks op b = false) : PE X (.Compare a [op] [b] pos) (tOp r ta tb) := by
  intro pins s σ H Q I h
  exact wpAny_Compare1 (binT ha hb I h fun v u s2 x y H2 I2 rx ry q => ho pins s2 σ H2 x y v u Q I2 rx ry q) hm
/-- a reading of a value as a test -/
def tTest (t : TE) : TT := fun σ H Q => t σ H fun x H' => ∃ k, x = .bl k ∧ Q k H'
theorem pt_cmpR {op : CmpOp} {r : R2} (ho : OpR X (compareOp op) r) (ha : PE X a ta) (hb : PE X b tb) (hm : behindInMarks op b = false) : PT X (.Compare a [op] [b] pos) (tTest (tOp r ta tb)) := by
  intro pins s σ H Q I h
  refine wpAny_isTrue_Compare1 (thn (ha pins s σ H _ I h) fun v s1 ⟨x, H1, I1, r1, q1⟩ => thn (hb pins s1 σ H1 _ I1 q1) fun u s2 ⟨y, H2, I2, r2, q2⟩ =>
    thn (ho pins s2 σ H2 x y v u _ I2 r1 r2 q2) fun c s3 ⟨z, H3, I3, r3, k, e, q3⟩ => ?_) hm
  subst e
  cases r3
  exact wpAny_truthy_bool ⟨H3, I3, q3⟩
/-! ### truth -/
/-- a value's truth by the abstract heap -/
def TruV (K : PySem.W.Frag) (x : V) (H : Hp) (k : Bool) : Prop :=
  match x with
  | .non => k = false
  | .bl b => k = b
  | .int i => k = (i != 0)
  | .str y => y.length ≤ sizeLine ∧ k = ((y.length : Int) != 0)
  | .byt y => y.size ≤ sizeLine ∧ k = ((y.size : Int) != 0)
  | .ref p => (∃ xs, SqL K H p xs ∧ k = !xs.isEmpty) ∨ (∃ xs, SqT K H p xs ∧ k = !xs.isEmpty) ∨ ∃ kvs, H p = some (.dK kvs) ∧ k = !kvs.isEmpty
  | _ => False
theorem isEmpty_kv {κ : Type} {kvs : List (κ × V)} {vs : List (κ × Value)} (r : KV kvs vs) : (!vs.isEmpty) = !kvs.isEmpty := by
  cases r <;> rfl
theorem isEmpty_of {xs : List V} {its : List Value} (r : Vals xs its) : (!its.toArray.isEmpty) = !xs.isEmpty := by
  cases r <;> simp
theorem line63 : (sizeLine : Nat) < 2 ^ 63 := by rw [sizeLine_eq]; decide
theorem tru_ok : TruR X (fun x H Q => ∃ k, TruV X.K x H k ∧ Q k H) := by
  intro pins s σ H x v Q I rx h
  obtain ⟨k, e, q⟩ := h
  have hl := line63
  have hs : sizeLine = 16777216 := sizeLine_eq
  cases x with
  | non =>
    cases rx
    have e' : k = false := e
    subst e'
    exact truthy_none ⟨H, I, q⟩
  | bl b =>
    cases rx
    have e' : k = b := e
    subst e'
    exact wpAny_truthy_bool ⟨H, I, q⟩
  | int i =>
    obtain ⟨t, rfl⟩ := rx
    have e' : k = (i != 0) := e
    subst e'
    exact PySem.P.truthy_int ⟨H, I, q⟩
  | str y =>
    obtain ⟨t, rfl⟩ := rx
    obtain ⟨hy, e'⟩ : y.length ≤ sizeLine ∧ k = ((y.length : Int) != 0) := e
    subst e'
    exact PySem.P.truthy_str (by omega) ⟨H, I.tok _, q⟩
  | byt y =>
    obtain ⟨t, rfl⟩ := rx
    obtain ⟨hy, e'⟩ : y.size ≤ sizeLine ∧ k = ((y.size : Int) != 0) := e
    subst e'
    exact PySem.W.truthy_bytes (by omega) ⟨H, I.tok _, q⟩
  | ref p =>
    cases rx
    have e' : (∃ xs, SqL X.K H p xs ∧ k = !xs.isEmpty) ∨ (∃ xs, SqT X.K H p xs ∧ k = !xs.isEmpty) ∨ ∃ kvs, H p = some (.dK kvs) ∧ k = !kvs.isEmpty := e
    rcases e' with ⟨xs, hx, e'⟩ | ⟨xs, hx, e'⟩ | ⟨kvs, hx, e'⟩
    · subst e'
      obtain ⟨its, r, pl, hz⟩ := I.list hx
      have hlen := r.length
      exact wpAny_truthy_list pl.isList (by simp only [List.size_toArray]; omega) ⟨H, I.tok _, by rw [isEmpty_of r]; exact q⟩
    · subst e'
      obtain ⟨its, r, pl, hz⟩ := I.tuple hx
      have hlen := r.length
      exact truthy_tuple pl (by simp only [List.size_toArray]; omega) ⟨H, I.tok _, by rw [isEmpty_of r]; exact q⟩
    · subst e'
      obtain ⟨hz, hS, vs, r, m⟩ : kvs.length ≤ sizeLine ∧ (p == sysModules) = false ∧ ∃ vs, KV kvs vs ∧ s.heap.DictOf (mixKind X.prog X.w) p vs := I.hok p _ hx
      have hlen : kvs.length = vs.length := Paired.length r
      exact wpAny_truthy_dict hS m (by omega) ⟨H, I.tok _, by rw [isEmpty_kv r]; exact q⟩
  | _ => exact (show False from e).elim
/-- any expression whose test is its value's truth (a name, a call, a subscript, a field ..: he by fun _ => rfl) -/
theorem pt_truth (ha : PE X a ta) (he : ∀ whole, isTrue a X.env whole = (do let v ← whole; standAt a.pos; holding [v] (truthy v))) :
    PT X a (fun σ H Q => ta σ H fun x H' => ∃ k, TruV X.K x H' k ∧ Q k H') := by
  intro pins s σ H Q I h
  exact isTrue_plain (thn (ha pins s σ H _ I h) fun v s1 ⟨x, H1, I1, r1, q1⟩ => tru_ok pins s1 σ H1 x v Q I1 r1 q1) (he _)

/-! ### strs and bytes -/
theorem op_add_str : OpR X (binaryOp .Add) (fun x y H Q => ∃ i j, x = .str i ∧ y = .str j ∧ i.length + j.length ≤ sizeLine ∧ Q (.str (i ++ j)) H) := by
  intro pins s σ H x y v u Q I rx ry h
  obtain ⟨i, j, rfl, rfl, hz, q⟩ := h
  obtain ⟨t, rfl⟩ := rx
  obtain ⟨t', rfl⟩ := ry
  exact add_str (fun t' tk => ⟨.str (i ++ j), H, I.tok _, ⟨_, rfl⟩, q⟩) hz
/-! ### scalar builtins, by CallR -/
theorem vals1 {x : V} {us : List Value} (r : Vals [x] us) : ∃ u, us = [u] ∧ RelV x u := by
  cases r with
  | cons r1 r2 => cases r2; exact ⟨_, rfl, r1⟩
theorem vals2 {x y : V} {us : List Value} (r : Vals [x, y] us) : ∃ u w', us = [u, w'] ∧ RelV x u ∧ RelV y w' := by
  cases r with
  | cons r1 r2 =>
    cases r2 with
    | cons r3 r4 => cases r4; exact ⟨_, _, rfl, r1, r3⟩
theorem call_int1 : CallR X (.type "int") (fun xs H Q => (∃ i, xs = [.int i] ∧ Q (.int i) H) ∨ ∃ k, xs = [.bl k] ∧ Q (.int (if k then 1 else 0)) H) := by
  intro pins s σ H xs us Q I r h
  rcases h with ⟨i, rfl, q⟩ | ⟨k, rfl, q⟩
  · obtain ⟨u, rfl, t, rfl⟩ := vals1 r
    exact call_int_int ⟨.int i, H, I, ⟨_, rfl⟩, q⟩
  · obtain ⟨u, rfl, r1⟩ := vals1 r
    cases r1
    exact call_int_bool ⟨.int (if k then 1 else 0), H, I.tok _, ⟨_, rfl⟩, q⟩
/-- len of a str, a bytes, a list, a tuple -/
def LenV (K : PySem.W.Frag) (x : V) (H : Hp) (n : Nat) : Prop :=
  match x with
  | .str y => y.length ≤ sizeLine ∧ n = y.length
  | .byt y => y.size ≤ sizeLine ∧ n = y.size
  | .ref p => (∃ xs, SqL K H p xs ∧ n = xs.length) ∨ ∃ xs, SqT K H p xs ∧ n = xs.length
  | _ => False
theorem call_len : CallR X (.builtin "len") (fun xs H Q => ∃ x n, xs = [x] ∧ LenV X.K x H n ∧ Q (.int n) H) := by
  intro pins s σ H xs us Q I r h
  obtain ⟨x, n, rfl, e, q⟩ := h
  obtain ⟨u, rfl, rx⟩ := vals1 r
  have hl := line63
  have hs : sizeLine = 16777216 := sizeLine_eq
  cases x with
  | str y =>
    obtain ⟨t, rfl⟩ := rx
    obtain ⟨hy, e'⟩ : y.length ≤ sizeLine ∧ n = y.length := e
    subst e'
    exact len_str (by omega) ⟨.int _, H, I.tok _, ⟨_, rfl⟩, q⟩
  | byt y =>
    obtain ⟨t, rfl⟩ := rx
    obtain ⟨hy, e'⟩ : y.size ≤ sizeLine ∧ n = y.size := e
    subst e'
    exact PySem.W.len_bytes (by omega) ⟨.int _, H, I.tok _, ⟨_, rfl⟩, q⟩
  | ref p =>
    cases rx
    have e' : (∃ xs, SqL X.K H p xs ∧ n = xs.length) ∨ ∃ xs, SqT X.K H p xs ∧ n = xs.length := e
    rcases e' with ⟨xs, hx, e'⟩ | ⟨xs, hx, e'⟩
    · subst e'
      obtain ⟨its, r', pl, hz⟩ := I.list hx
      have hlen := r'.length
      exact Calls.call_len_list pl.isList (by simp only [List.size_toArray]; omega) ⟨.int xs.length, H, I.tok _, ⟨_, by simp only [List.size_toArray]; rw [hlen]⟩, q⟩
    · subst e'
      obtain ⟨its, r', pl, hz⟩ := I.tuple hx
      have hlen := r'.length
      exact len_tuple pl (by simp only [List.size_toArray]; omega) ⟨.int xs.length, H, I.tok _, ⟨_, by simp only [List.size_toArray]; rw [hlen]⟩, q⟩
  | _ => exact (show False from e).elim
end
end L2

namespace L2
open PySem PySem.Spec PyProof.Rows

/-! ### an instance, its attributes a map -/
structure ObjM (h : Heap) (x dx C : Addr) (mA : Str → Option Value) : Prop where
  obj : h.get? x = some (PySem.W.instObj C dx)
  ns : h.Ns1 dx mA
  ne : dx ≠ x

theorem lookIn_ns {h : Heap} {dx : Addr} {mA : Str → Option Value} (n : h.Ns1 dx mA) : ∃ od, h.get? dx = some od ∧ ∀ name, PySem.W.lookIn name od = some (mA name) := by
  obtain ⟨o, es, ep, ho, hd, hk, _, hm⟩ := n
  refine ⟨o, ho, fun name => ?_⟩
  have e := hm name
  unfold nsFind findBy at e
  rw [← Array.find?_toList] at e
  unfold PySem.W.lookIn
  rw [hd]
  dsimp only
  split
  · rename_i y q
    rw [q] at e
    exact congrArg some e
  · rename_i q
    rw [q] at e
    have a : es.toList.any (·.refKey) = false := by
      rw [List.any_eq_false]
      intro y hy
      obtain ⟨z, t, hkey⟩ := hk y (Array.mem_toList_iff.mp hy)
      simp [DictEntry.refKey, hkey]
    have a' : ¬ es.toList.any (·.refKey) = true := by rw [a]; exact Bool.false_ne_true
    rw [if_neg a']
    exact congrArg some e

theorem ObjM.look {h : Heap} {x dx C : Addr} {mA : Str → Option Value} (I : ObjM h x dx C mA) : ∃ od, PySem.W.InstAt h x (PySem.W.instObj C dx) C (some od) ∧ ∀ name, PySem.W.lookIn name od = some (mA name) :=
  let ⟨od, ho, hl⟩ := lookIn_ns I.ns
  ⟨od, ⟨I.obj, rfl, rfl, ho⟩, hl⟩

section
variable {prog : Program} {w : World} {A : Around} {E : Value → Shared → Prop} {s : Shared} {K : PySem.W.Frag} {x dx C f : Addr} {mA : Str → Option Value} {name : Str} {v : Value}

end

/-! ### the attributes as a list of pairs -/
theorem RelO.some_of {v : V} {o : Option Value} (r : RelO (some v) o) : ∃ u, o = some u ∧ RelV v u := by
  cases o with
  | none => exact (show False from r).elim
  | some u => exact ⟨u, rfl, r⟩
section
variable {P : Program} {w : World} {H H' : Hp} {h h' : Heap} {a C dx : Addr} {fs fs' : List (Str × V)}
theorem ins_get (hok : HOk P w H h) (e : H a = some (.ins C dx fs)) : ∃ mA, ObjM h a dx C mA ∧ (∀ f, RelO (fs.lookup f) (mA f)) ∧ PySem.Within mA (fs.map (·.1)) ∧ fs.length ≤ 1000 ∧ H dx = some (.own a) := by
  obtain ⟨d, z, ne, ob, mA, n, r, q⟩ := (show ObjOk P w H h a (.ins C dx fs) from hok a _ e)
  exact ⟨mA, ⟨ob, n, ne⟩, r, q, z, d⟩
end

/-! ### what of the text a class must have -/
structure Cls (K : PySem.W.Frag) (C : Addr) : Prop where
  pg : PySem.W.plainGet K C Str.empty = true
  hd : PySem.W.hasDictIn K C = true
  po : PySem.W.plainOver K C = true
  sa : PySem.W.findIn K (.ref C) "__setattr__" = some (some (.builtin "object.__setattr__"))
theorem Cls.get {K : PySem.W.Frag} {C : Addr} (c : Cls K C) (f : Str) : PySem.W.plainGet K C f = true := c.pg
section
variable {X : Cx} {pins : List (Addr × Obj)} {σ : St} {H : Hp} {s : Shared} {a C dx : Addr} {fs : List (Str × V)} {f : Str} {v : V} {A : Around} {E : Value → Shared → Prop}

/-- a new instance, tracked, without attributes -/
theorem Inv.made (I : Inv X pins σ H s) : Inv X pins σ (upd (upd H s.heap.objs.size (.own (s.heap.objs.size + 1))) (s.heap.objs.size + 1) (.ins C s.heap.objs.size []))
    { s with heap := (s.heap.push PySem.W.emptyDict).push (PySem.W.instObj C s.heap.objs.size) } := by
  have e1 : (s.heap.push PySem.W.emptyDict).get? s.heap.objs.size = some PySem.W.emptyDict := Heap.get?_push_size s.heap rfl
  have e2 : ((s.heap.push PySem.W.emptyDict).push (PySem.W.instObj C s.heap.objs.size)).get? (s.heap.objs.size + 1) = some (PySem.W.instObj C s.heap.objs.size) := by
    have := Heap.get?_push_size (s.heap.push PySem.W.emptyDict) (o := PySem.W.instObj C s.heap.objs.size) rfl
    rwa [Heap.size_push] at this
  have e3 : (s.heap.push PySem.W.emptyDict).Ns s.heap.objs.size (fun _ => none) := ⟨PySem.W.emptyDict, #[], _, e1, rfl, (fun e he => absurd he (by simp)), fun _ => rfl⟩
  have I1 := I.laid (a := s.heap.objs.size) (o := .own (s.heap.objs.size + 1)) (h' := s.heap.push PySem.W.emptyDict) (t' := s.toks) (fun b u q => Heap.get?_push_of_some _ q) (Nat.le_refl _) ⟨_, e1⟩
  refine I1.laid (a := s.heap.objs.size + 1) (o := .ins C s.heap.objs.size []) (t' := s.toks) (fun b u q => Heap.get?_push_of_some _ q) (Nat.le_of_eq (Heap.size_push _ _)) ?_
  have ne : s.heap.objs.size ≠ s.heap.objs.size + 1 := Nat.ne_of_lt (Nat.lt_succ_self _)
  refine ⟨by rw [upd_ne ne, upd_same], Nat.zero_le _, ne, e2, fun _ => none, (Heap.Ns1.of_empty e3).at fun o q => Heap.get?_push_of_some _ q, fun _ => True.intro, fun y hy => absurd rfl hy⟩

end

/-! ### readings and rules -/
section
variable {X : Cx} {o e value : Expr} {f : Str} {pos pos' tpos : Pos} {ta tv : TE}
end

/-! ### isinstance -/
section
variable {X : Cx} {pins : List (Addr × Obj)} {σ : St} {H : Hp} {s : Shared} {A : Around} {E : Value → Shared → Prop} {Q : Value → Shared → Prop} {c : Value} {b : Bool}
/-- the type of a value, as the fragment's deciders take it; for an instance its class -/
inductive TyOf (K : PySem.W.Frag) (H : Hp) : V → Value → Prop where
  | non : TyOf K H .non (.type "NoneType")
  | bl (x : Bool) : TyOf K H (.bl x) (.type "bool")
  | int (i : Int) : TyOf K H (.int i) (.type "int")
  | str (x : Str) : TyOf K H (.str x) (.type "str")
  | flt (x : UInt64) : TyOf K H (.flt x) (.type "float")
  | lst {a : Addr} {xs : List V} (e : H a = some (.lst xs)) : TyOf K H (.ref a) (.type "list")
  | frz {a : Addr} {o : Obj} {xs : List V} (e : H a = some (.frz o (.lst xs))) : TyOf K H (.ref a) (.type "list")
  | tup {a : Addr} {xs : List V} (e : H a = some (.tup xs)) : TyOf K H (.ref a) (.type "tuple")
  | dK {a : Addr} {kvs : List (Key × V)} (e : H a = some (.dK kvs)) : TyOf K H (.ref a) (.type "dict")
  | dT {a : Addr} {kvs : List (List Key × V)} (e : H a = some (.dT kvs)) : TyOf K H (.ref a) (.type "dict")
  | ins {a C dx : Addr} {fs : List (Str × V)} (e : H a = some (.ins C dx fs)) (cl : Cls K C) (ha : PySem.W.findIn K (.ref C) "__class__" = some (some (.builtin "object.__class__")))
      (hn : PySem.W.specialIn K (.builtin "object.__class__") "__get__" = some (some (.builtin "getset_descriptor.__get__"))) (htk : PySem.W.takesIn K (.builtin "object.__class__") = some true)
      (hm : PySem.W.mroIn K C (.type "object") = some true) : TyOf K H (.ref a) (.ref C)
/-- isinstance(x, c) for one class c, a built-in or an own one: kitOne's answer -/
theorem isinst_ok {x : V} {u t : Value} (I : Inv X pins σ H s) (rx : RelV x u) (ty : TyOf X.K H x t) (e : PySem.W.kitOne X.K t c = some b) (h : ∀ tk, Q (.bool b) { s with toks := tk }) :
    wpAny (model X.prog X.w) A (call (.builtin "isinstance") [u, c]) Q E s := by
  cases ty with
  | non => cases (show u = Value.none from rx); exact PySem.W.kia_one PySem.W.kitx_none I.kIn True.intro e (fun z => nomatch z) h
  | bl y => cases (show u = Value.bool y from rx); exact PySem.W.kia_one PySem.W.kitx_bool I.kIn True.intro e (fun z => nomatch z) h
  | int i => obtain ⟨t, q⟩ := (show ∃ t, u = Value.int i t from rx); cases q; exact PySem.W.kia_one PySem.W.kitx_int I.kIn True.intro e (fun z => nomatch z) h
  | str y => obtain ⟨t, q⟩ := (show ∃ t, u = Value.str y t from rx); cases q; exact PySem.W.kia_one PySem.W.kitx_str I.kIn True.intro e (fun z => nomatch z) h
  | flt y => obtain ⟨t, q⟩ := (show ∃ t, u = Value.float y t from rx); cases q; exact PySem.W.kia_one PySem.W.kitx_float I.kIn True.intro e (fun z => nomatch z) h
  | @lst a xs ea =>
    cases (show u = Value.ref a from rx)
    obtain ⟨_, _, n, _, h1⟩ := (show ObjOk X.prog X.w H s.heap a (.lst xs) from I.hok a _ ea)
    exact PySem.W.kia_one PySem.W.kitx_list I.kIn ⟨_, h1, rfl⟩ e (fun z => nomatch z) h
  | @frz a ob xs ea =>
    cases (show u = Value.ref a from rx)
    obtain ⟨_, _, _, n, _, h1⟩ := (show ObjOk X.prog X.w H s.heap a (.frz ob (.lst xs)) from I.hok a _ ea)
    exact PySem.W.kia_one PySem.W.kitx_list I.kIn ⟨_, h1, rfl⟩ e (fun z => nomatch z) h
  | @tup a xs ea =>
    cases (show u = Value.ref a from rx)
    obtain ⟨_, _, _, p⟩ := (show ObjOk X.prog X.w H s.heap a (.tup xs) from I.hok a _ ea)
    obtain ⟨o, h1, h2, _⟩ := p
    exact PySem.W.kia_one PySem.W.kitx_tuple I.kIn ⟨o, h1, h2⟩ e (fun z => nomatch z) h
  | @dK a kvs ea =>
    cases (show u = Value.ref a from rx)
    obtain ⟨_, _, vs, _, p⟩ := (show ObjOk X.prog X.w H s.heap a (.dK kvs) from I.hok a _ ea)
    obtain ⟨o, es, ep, h1, h2, _⟩ := p
    exact PySem.W.kia_one PySem.W.kitx_dict I.kIn ⟨o, h1, h2.1⟩ e (fun z => nomatch z) h
  | @dT a kvs ea =>
    cases (show u = Value.ref a from rx)
    obtain ⟨_, _, xs, _, o, es, ep, h1, h2, _⟩ := (show ObjOk X.prog X.w H s.heap a (.dT kvs) from I.hok a _ ea)
    exact PySem.W.kia_one PySem.W.kitx_dict I.kIn ⟨o, h1, h2.1⟩ e (fun z => nomatch z) h
  | @ins a C dx fs ea cl ha hn htk hm =>
    cases (show u = Value.ref a from rx)
    obtain ⟨mA, O, _⟩ := ins_get I.hok ea
    obtain ⟨od, J, _⟩ := O.look
    exact PySem.W.kia_one (PySem.W.kitx_own (cl.get _) cl.hd ha hn htk hm) I.kIn J e (fun z => nomatch z) h
end
end L2

namespace L2
open PySem PySem.Spec PyProof.Rows

/-! ### room -/
structure Room (k : Nat) (A : Around) : Prop where
  hd : A.handled = none
  dp : A.depth + 3 * k + 5 < recursionLimit
  un : A.units + 16 * k + 200 < cLine
  gd : A.guards = some []
theorem Room.mono {j k : Nat} {A : Around} (r : Room k A) (h : j ≤ k) : Room j A := ⟨r.hd, by have := r.dp; omega, by have := r.un; omega, r.gd⟩
theorem Room.deeper {k : Nat} {A : Around} (r : Room (k + 1) A) (env : Env) : Room k (A.deeper env) :=
  ⟨r.hd, by have := r.dp; show A.depth + 1 + 3 * k + 5 < _; omega, by have := r.un; show A.units + 3 + 16 * k + 200 < _; omega, by first | exact r.gd | (have z := r.gd; simpa [Around.deeper, pushGuards] using z)⟩
theorem Room.in1 {k : Nat} {A : Around} (r : Room (k + 1) A) : Room k A.in1 :=
  ⟨r.hd, by have := r.dp; show A.depth + 3 * k + 5 < _; omega, by have := r.un; show A.units + 1 + 16 * k + 200 < _; omega, r.gd⟩
theorem Room.depth {k : Nat} {A : Around} (r : Room k A) : A.depth < recursionLimit := by have := r.dp; omega
theorem Room.units {k : Nat} {A : Around} (r : Room k A) : A.units + 64 < cLine := by have := r.un; omega
theorem Room.units0 {k : Nat} {A : Around} (r : Room k A) : A.units < cLine := by have := r.un; omega

/-! ### argument lists and displays -/
def tNil : TA := fun _ H Q => Q [] H
def tCons (ta : TE) (tr : TA) : TA := fun σ H Q => ta σ H fun x H1 => tr σ H1 fun xs H2 => Q (x :: xs) H2
section
variable {X : Cx} {e : Expr} {es : List Expr} {te : TE} {t : TA} {pos : Pos}
theorem pa_nil : PA X [] tNil := fun _ _ _ _ H Q I h => Calls.spliced_nil ⟨[], H, I, .nil, h⟩
theorem pa_cons (ha : PE X e te) (hr : PA X es t) (hs : starEach (e :: es) X.env = (false, eval e X.env) :: starEach es X.env := by rfl) : PA X (e :: es) (tCons te t) := by
  intro pos pins s σ H Q I h
  rw [hs]
  show wpAny _ _ (spliced ((false, eval e X.env) :: backTo pos (starEach es X.env))) _ _ s
  refine Calls.spliced_cons (thn (ha pins s σ H _ I h) fun u s1 ⟨x, H1, I1, r1, q1⟩ => ?_)
  exact thn (hr pos pins s1 σ H1 _ I1 q1) fun us s2 ⟨xs, H2, I2, r2, q2⟩ => ⟨x :: xs, H2, I2, .cons r1 r2, q2⟩

/-- a tuple, a list of written items -/
def tTup (t : TA) : TE := fun σ H Q => t σ H fun xs H1 => xs.length ≤ sizeLine ∧ ∀ p, H1 p = none → Q (.ref p) (upd H1 p (.tup xs))
def tLst (t : TA) : TE := fun σ H Q => t σ H fun xs H1 => xs.length ≤ sizeLine ∧ ∀ p, H1 p = none → Q (.ref p) (upd H1 p (.lst xs))
theorem pe_tup {x1} (h : PA X es t) : PE X (.Tuple es x1 pos) (tTup t) := by
  intro pins s σ H Q I hq
  refine wpAny_Tuple_spliced (thn (h pos pins s σ H _ I hq) fun us s1 ⟨xs, H1, I1, r, z, q⟩ => ⟨by rw [← r.length]; exact z, ?_⟩)
  have hf : H1 s1.heap.objs.size = none := I1.hok.fresh (Nat.le_refl _)
  refine ⟨.ref s1.heap.objs.size, upd H1 s1.heap.objs.size (.tup xs), I1.laid (t' := s1.toks) (fun b u e => Heap.get?_push_of_some _ e) (Nat.le_refl _) ?_, rfl, q _ hf⟩
  exact ⟨z, us, r, ⟨_, Heap.get?_push_size _ rfl, rfl, _, rfl⟩⟩
theorem pe_lst (h : PA X es t) : PE X (.List es pos) (tLst t) := by
  intro pins s σ H Q I hq
  refine wpAny_List_spliced (thn (h pos pins s σ H _ I hq) fun us s1 ⟨xs, H1, I1, r, z, q⟩ => ⟨by rw [← r.length]; exact z, ?_⟩)
  have hf : H1 s1.heap.objs.size = none := I1.hok.fresh (Nat.le_refl _)
  refine ⟨.ref s1.heap.objs.size, upd H1 s1.heap.objs.size (.lst xs), I1.laid (t' := s1.toks) (fun b u e => Heap.get?_push_of_some _ e) (Nat.le_refl _) ?_, rfl, q _ hf⟩
  exact ⟨z, us, 0, r, Heap.get?_push_size _ rfl⟩
end

/-! ### what a def promises -/
/-- a def's promise: the bound arguments in the parameters' order, the heap, the wanted end, the wanted exception -/
abbrev Sp := List V → Hp → VK → XK → Prop
/-- how an exception lies behind a call (file 08 gives it): the callers' frames, abstract heap and state ahead of the call, the wish, the exception, the state -/
abbrev CXT := List Env → Hp → Shared → XK → Value → Shared → Prop

/-- the state at a call -/
structure Env0 (P : Program) (w : World) (K : PySem.W.Frag) (mg : Str → Option Value) (base : Heap) (A : Around) (outer : List Env) (s : Shared) (H : Hp) : Prop where
  frames : A.frames = some outer
  mod : Mod K mg base
  bs : ∀ b o, base.get? b = some o → s.heap.get? b = some o ∧ H b = none
  bsz : base.objs.size ≤ s.heap.objs.size
  funs : s.heap.FunFrames base outer
  frf : ∀ b ∈ frs outer, H b = none
  hok : HOk P w H s.heap
  bare : AllBare s.gens
/-- a call's end -/
def CE (outer : List Env) (P : Program) (w : World) (H : Hp) (s : Shared) (Q : VK) (u : Value) (s' : Shared) : Prop :=
  ∃ v H', s'.os = s.os ∧ AllBare s'.gens ∧ Un (frs outer) [] H H' s.heap s'.heap ∧ HOk P w H' s'.heap ∧ RelV v u ∧ Q v H'
def CR (CX : CXT) (outer : List Env) (P : Program) (w : World) (H : Hp) (s : Shared) (Q : VK) (E : XK) (r : Result) (s' : Shared) : Prop :=
  match r with
  | .ok (.ret u) => CE outer P w H s Q u s'
  | .ok _ => False
  | .error e => CX outer H s E e s'
structure FnOk (P : Program) (w : World) (K : PySem.W.Frag) (mg : Str → Option Value) (base : Heap) (CX : CXT) (k : Nat) (f : Addr) (fd : FuncData) (ps : List Str) (sp : Sp) : Prop where
  len : ∀ vs H Q E, sp vs H Q E → vs.length = ps.length
  run : ∀ (A : Around) (outer : List Env) (s : Shared) (H : Hp) (args : Args) (us : List Value) (vs : List V) (Q : VK) (E : XK), Room k A → Env0 P w K mg base A outer s H → BindsTo s fd args (ps.zip us) → Vals vs us → sp vs H Q E →
    codeAny (model P w) A (.call (.ref f) args) (CR CX outer P w H s Q E) s
theorem FnOk.mono {P : Program} {w : World} {K : PySem.W.Frag} {mg : Str → Option Value} {base : Heap} {CX : CXT} {j k : Nat} {f : Addr} {fd : FuncData} {ps : List Str} {sp : Sp} (F : FnOk P w K mg base CX j f fd ps sp) (h : j ≤ k) :
    FnOk P w K mg base CX k f fd ps sp := ⟨F.len, fun A outer s H args us vs Q E hr => F.run A outer s H args us vs Q E (hr.mono h)⟩
/-- a weaker promise -/
theorem FnOk.imp {P : Program} {w : World} {K : PySem.W.Frag} {mg : Str → Option Value} {base : Heap} {CX : CXT} {k : Nat} {f : Addr} {fd : FuncData} {ps : List Str} {sp sp' : Sp} (F : FnOk P w K mg base CX k f fd ps sp)
    (h : ∀ vs H Q E, sp' vs H Q E → sp vs H Q E) : FnOk P w K mg base CX k f fd ps sp' :=
  ⟨fun vs H Q E q => F.len vs H Q E (h _ _ _ _ q), fun A outer s H args us vs Q E hr he hb hv hs => F.run A outer s H args us vs Q E hr he hb hv (h _ _ _ _ hs)⟩

theorem Env0.in1 {P : Program} {w : World} {K : PySem.W.Frag} {mg : Str → Option Value} {base : Heap} {A : Around} {outer : List Env} {s : Shared} {H : Hp} (e : Env0 P w K mg base A outer s H) :
    Env0 P w K mg base A.in1 outer s H := ⟨e.frames, e.mod, e.bs, e.bsz, e.funs, e.frf, e.hok, e.bare⟩

section
variable {X : Cx} {pins : List (Addr × Obj)} {σ : St} {H : Hp} {s s' : Shared}
/-- from a body: what a callee wants -/
theorem Inv.env0 (I : Inv X pins σ H s) : Env0 X.prog X.w X.K X.mg X.base X.A X.stack s H :=
  ⟨I.ok.frames, I.ok.mod, I.bs, Nat.le_trans I.ok.bsz I.sz, I.stack, I.stkFree, I.hok, I.bare⟩
/-- behind a call -/
theorem Inv.after {Q : VK} {u : Value} (I : Inv X pins σ H s) (h : CE X.stack X.prog X.w H s Q u s') : EP X pins σ Q u s' := by
  obtain ⟨v, H', os, bare, un, hok, r, q⟩ := h
  obtain ⟨hh, g, d, t, os'⟩ := s'
  obtain rfl : os' = s.os := os
  exact ⟨v, H', I.call (h' := hh) (g' := g) (d' := d) (t' := t) (ch := []) un hok bare (fun b z => absurd z (by simp)), r, q⟩
end

/-! ### calls -/
/-- f(..): the written arguments, then the defaults dvs; E: what is wanted of an exception -/
def tCall (sp : Sp) (dvs : List V) (E : XK) (t : TA) : TE := fun σ H Q => t σ H fun vs H1 => sp (vs ++ dvs) H1 Q E
/-- how the parameters are bound: us the positional arguments, kw the keywords' values by name, ds the defaults that fill up -/
def Binds (K : PySem.W.Frag) (fd : FuncData) (ps : List Str) (ds : List Value) : Prop :=
  ∀ (s : Shared) (us : List Value), K.In s.heap → (us ++ ds).length = ps.length → BindsTo s fd ⟨us, []⟩ (ps.zip (us ++ ds))
/-- every parameter is given -/
theorem Binds.all {K : PySem.W.Frag} {fd : FuncData} {ps : List Str} (h : ∀ us : List Value, us.length = ps.length → bindArgs fd ⟨us, []⟩ = pure (ps.zip us)) : Binds K fd ps [] := fun s us _ hl => by
  rw [List.append_nil] at hl ⊢
  exact .of_eq (h us hl)

/-- an exception of a callee reaches what this body wants of exceptions -/
def Passes (CX : CXT) (X : Cx) (E : XK) : Prop := ∀ (pins : List (Addr × Obj)) (σ : St) (H : Hp) (s : Shared) (e : Value) (s' : Shared), Inv X pins σ H s → CX X.stack H s E e s' → X.xe e s'

section
variable {X : Cx} {CX : CXT} {k : Nat} {f C : Addr} {fd : FuncData} {ps : List Str} {sp : Sp} {dvs : List V} {ds : List Value} {E : XK} {x m : Str} {p pos apos : Pos} {e o : Expr} {es : List Expr} {ta : TE} {t : TA}

/-- the callee runs -/
theorem run_fn {pins : List (Addr × Obj)} {σ : St} {H : Hp} {s : Shared} {Q : VK} {us : List Value} {vs : List V} (F : FnOk X.prog X.w X.K X.mg X.base CX k f fd ps sp) (hr : Room k X.A) (hb : Binds X.K fd ps ds) (hd : Vals dvs ds) (hx : Passes CX X E)
    (I : Inv X pins σ H s) (r : Vals vs us) (h : sp (vs ++ dvs) H Q E) : wpAny (model X.prog X.w) X.A (call (.ref f) us) (EP X pins σ Q) X.xe s := by
  have r2 : Vals (vs ++ dvs) (us ++ ds) := r.append hd
  have hl : (us ++ ds).length = ps.length := by rw [← r2.length]; exact F.len _ _ _ _ h
  refine wpAny_call (codeAny_mono (F.run X.A X.stack s H ⟨us, []⟩ (us ++ ds) (vs ++ dvs) Q E hr I.env0 (hb s us I.kIn hl) r2 h) fun r s' hq => ?_)
  cases r with
  | error e => exact hx pins σ H s e s' I hq
  | ok fl =>
    cases fl with
    | ret u => exact I.after hq
    | next => exact False.elim hq
    | brk => exact False.elim hq
    | cont => exact False.elim hq

theorem pe_call (F : FnOk X.prog X.w X.K X.mg X.base CX k f fd ps sp) (hr : Room k X.A) (hg : Gl X x) (hm : X.mg x = some (.ref f)) (hk : PySem.W.keepIn X.K (.ref f) = true) (hb : Binds X.K fd ps ds) (hd : Vals dvs ds) (hx : Passes CX X E)
    (ha : PA X (e :: es) t) (hdb : (x == ("__debug__" : Str)) = false := by decide) (he : starEach (e :: es) X.env = (false, eval e X.env) :: starEach es X.env := by rfl) (hpl : (backTo pos (starEach es X.env)).any (·.1) = false := by rfl) :
    PE X (.Call (.Name x p) (e :: es) [] pos) (tCall sp dvs E t) := by
  intro pins s σ H Q I h
  refine wpAny_Call_Name_kw (ld_glob I hg hm ?_ hdb)
  refine PySem.W.callWith_K (h₀ := X.base) I.ok.mod.kin hk (thn (ha pos pins s σ H _ I h) fun us s1 ⟨vs, H1, I1, r, q⟩ => ⟨I1.kIn, ?_⟩) he hpl
  exact run_fn F hr hb hd hx I1 r q
end

/-! ### keywords -/
section
variable {X : Cx} {CX : CXT} {k : Nat} {f C : Addr} {fd : FuncData} {ps ks : List Str} {sp : Sp} {E : XK} {x m : Str} {p pos apos kpos : Pos} {e o : Expr} {es : List Expr} {kws : List Keyword} {te ta : TE} {t tk : TA} {nm : Option Str}
variable {g : List Value → List Value → List Value} {gV : List V → List V → List V}
end

/-! ### a def's body keeps its promise -/
/-- names: the parameters first -/
structure FnScope (N P : List Str) (sc : Scope) : Prop where
  kind : sc.kind = .function
  co : sc.isCoroutine = false
  gen : sc.isGenerator = false
  nd : N.Nodup
  pre : N.take P.length = P
  par : ∀ x ∈ P, sc.names.lookup x = some .local ∨ sc.names.lookup x = some .cell
  nofree : ∀ y ∈ sc.names, y.2 ≠ .free

theorem bindL_out {kindOf : Str → Option NameKind} {x : Str} : ∀ {binds : List (Str × Value)} {m : Str → Option Value}, (∀ v, (x, v) ∉ binds) → bindL kindOf binds m x = m x
  | [], _, _ => rfl
  | (n, v) :: r, m, h => by
    unfold bindL
    rw [bindL_out fun w hw => h w (List.mem_cons_of_mem _ hw)]
    split
    · have : x ≠ n := by rintro rfl; exact h v List.mem_cons_self
      simp [this]
    · rfl
theorem bindC_out {kindOf : Str → Option NameKind} {x : Str} : ∀ {binds : List (Str × Value)} {m : Str → Option Value}, (∀ v, (x, v) ∉ binds) → bindC kindOf binds m x = m x
  | [], _, _ => rfl
  | (n, v) :: r, m, h => by
    unfold bindC
    rw [bindC_out fun w hw => h w (List.mem_cons_of_mem _ hw)]
    split
    · rfl
    · have : x ≠ n := by rintro rfl; exact h v List.mem_cons_self
      simp [this]
theorem bindL_get {kindOf : Str → Option NameKind} {x : Str} {v : Value} : ∀ {P : List Str} {vs : List Value} {i : Nat} {m : Str → Option Value}, P.Nodup → P[i]? = some x → vs[i]? = some v → kindOf x = some .local →
    bindL kindOf (P.zip vs) m x = some v
  | [], _, _, _, _, h, _, _ => by simp at h
  | _ :: _, [], _, _, _, _, h, _ => by simp at h
  | p :: P, w :: vs, 0, m, nd, h1, h2, hk => by
    simp at h1 h2; subst h1; subst h2
    show bindL kindOf ((p, w) :: P.zip vs) m p = _
    unfold bindL
    rw [bindL_out fun v hv => (List.nodup_cons.mp nd).1 (List.of_mem_zip hv).1, if_pos hk]
    simp
  | p :: P, w :: vs, i + 1, m, nd, h1, h2, hk => by
    show bindL kindOf ((p, w) :: P.zip vs) m x = _
    unfold bindL
    exact bindL_get (i := i) (List.nodup_cons.mp nd).2 (by simpa using h1) (by simpa using h2) hk
theorem bindC_get {kindOf : Str → Option NameKind} {x : Str} {v : Value} : ∀ {P : List Str} {vs : List Value} {i : Nat} {m : Str → Option Value}, P.Nodup → P[i]? = some x → vs[i]? = some v → kindOf x ≠ some .local →
    bindC kindOf (P.zip vs) m x = some v
  | [], _, _, _, _, h, _, _ => by simp at h
  | _ :: _, [], _, _, _, _, h, _ => by simp at h
  | p :: P, w :: vs, 0, m, nd, h1, h2, hk => by
    simp at h1 h2; subst h1; subst h2
    show bindC kindOf ((p, w) :: P.zip vs) m p = _
    unfold bindC
    rw [bindC_out fun v hv => (List.nodup_cons.mp nd).1 (List.of_mem_zip hv).1, if_neg hk]
    simp
  | p :: P, w :: vs, i + 1, m, nd, h1, h2, hk => by
    show bindC kindOf ((p, w) :: P.zip vs) m x = _
    unfold bindC
    exact bindC_get (i := i) (List.nodup_cons.mp nd).2 (by simpa using h1) (by simpa using h2) hk

/-- the names' values at the entry -/
def start (N : List Str) (vs : List V) : St := vs.map some ++ List.replicate (N.length - vs.length) none

/-- the context of a def's body, at its entry; an exception leaves the frame, then lies as CX says -/
def cxOf (CX : CXT) (P : Program) (w : World) (K : PySem.W.Frag) (mg : Str → Option Value) (base : Heap) (N : List Str) (qual : Str) (scope : Scope) (f : Addr) (cd : Value) (A : Around) (outer : List Env) (s : Shared) (H : Hp) (E : XK) : Cx where
  prog := P
  w := w
  K := K
  mg := mg
  base := base
  A := A.deeper (envOfC qual scope s.heap.objs.size f cd)
  N := N
  s₀ := s
  H₀ := H
  env := envOfC qual scope s.heap.objs.size f cd
  outer := outer
  stack := envOfC qual scope s.heap.objs.size f cd :: outer
  ex := []
  calm := true
  fn := fun _ => true
  pn := []
  xe := fun e s' => wpAny (model P w) (A.deeper (envOfC qual scope s.heap.objs.size f cd)) (leaving (envOfC qual scope s.heap.objs.size f cd) e) (fun _ s'' => CX outer H s E e s'') (fun e' s'' => CX outer H s E e' s'') s'

theorem cell_has {sc : Scope} {n : Nat} {x : Str} (h : sc.names.lookup x = some .cell) : ∃ c, (cellsFrom n sc.names []).lookup x = some c := by
  have q := PySem.W.cellsFrom_some sc.names n [] (.inl h)
  exact Option.isSome_iff_exists.mp q

theorem inv_start {CX : CXT} {P : Program} {w : World} {K : PySem.W.Frag} {mg : Str → Option Value} {base : Heap} {N ps : List Str} {qual : Str} {scope : Scope} {f : Addr} {cd : Value} {A : Around} {outer : List Env} {s s1 : Shared} {H : Hp} {E : XK} {us : List Value} {vs : List V}
    (S : FnScope N ps scope) (hd : A.handled = none) (e0 : Env0 P w K mg base A outer s H) (hl : vs.length = ps.length) (r : Vals vs us)
    (x : InCallC s s.heap.objs.size (bindL (envOfC qual scope s.heap.objs.size f cd).kindOf (ps.zip us) fun _ => none) (cellsFrom (s.heap.objs.size + 1) scope.names []) (bindC (envOfC qual scope s.heap.objs.size f cd).kindOf (ps.zip us) fun _ => none) s1) :
    Inv (cxOf CX P w K mg base N qual scope f cd A outer s H E) [] (start N vs) H s1 := by
  have hpl : ps.length ≤ N.length := by have := congrArg List.length S.pre; rw [List.length_take] at this; omega
  obtain ⟨h1, tk, rfl, hk⟩ := x.done
  have noA : ∀ b : Addr, b ∉ (cxOf CX P w K mg base N qual scope f cd A outer s H E).ex := fun b z => absurd (show b ∈ ([] : List Addr) from z) (by simp)
  refine ⟨⟨e0.mod, S.kind, rfl, rfl, Nat.le_refl _, fun y z c h1 h2 => ?_, fun y hy => ?_, fun y c _ h => ?_, fun _ => hd, Around.frames_deeper e0.frames, .inr ⟨rfl, rfl⟩, fun b z => absurd z (noA b), e0.bs, e0.bsz, fun b _ _ => noA b, fun b z => absurd z (noA b), e0.funs, e0.frf⟩,
    rfl, e0.bare, Un.kept hk, ⟨_, x.toInCall.ns, fun i y v h1 h2 h3 => ?_⟩, fun y c h => ⟨_, x.cell y c h⟩, e0.hok.fresh (Nat.le_refl _), fun y c h => ?_, fun p hp => absurd (show p ∈ ([] : List (Addr × Obj)) from hp) (by simp), e0.hok.kept hk, ?_⟩
  · exact name_of_addr x.apart (PySem.mem_of_lookup h1) (PySem.mem_of_lookup h2)
  · have hy : scope.names.lookup y = some .cell ∨ scope.names.lookup y = some .free := hy
    rcases hy with hy | hy
    · exact cell_has hy
    · exact absurd rfl (S.nofree _ (PySem.mem_of_lookup hy))
  · exact Nat.le_of_lt (x.above y c (PySem.mem_of_lookup h))
  · have hi : i < vs.length := by
      unfold start at h2
      by_cases hi : i < vs.length
      · exact hi
      · rw [List.getElem?_append_right (by simpa using hi)] at h2
        rw [List.getElem?_replicate] at h2
        split at h2 <;> cases h2
    have ha : vs[i]? = some v := by
      unfold start at h2
      rw [List.getElem?_append_left (by simpa using hi), List.getElem?_map] at h2
      cases e : vs[i]? with
      | none => rw [e] at h2; cases h2
      | some a => rw [e] at h2; cases h2; rfl
    obtain ⟨u, hu, rv⟩ := r.get ha
    have hp : ps[i]? = some y := by
      rw [← S.pre, List.getElem?_take_of_lt (by omega)]; exact h1
    have ndP : ps.Nodup := by rw [← S.pre]; exact S.nd.sublist (List.take_sublist _ _)
    refine ⟨u, rv, ?_⟩
    rcases S.par y (List.mem_of_getElem? hp) with k | k
    · exact .inl ⟨k, bindL_get ndP hp hu k⟩
    · obtain ⟨c, e⟩ := cell_has (n := s.heap.objs.size + 1) k
      refine .inr ⟨.inl k, c, e, ?_⟩
      have q := x.cell y c e
      rw [bindC_get ndP hp hu (by show scope.names.lookup y ≠ _; rw [k]; decide)] at q
      exact q
  · exact e0.hok.fresh (Nat.le_of_lt (x.above y c (PySem.mem_of_lookup h)))
  · unfold start
    show _ = N.length
    rw [List.length_append, List.length_map, List.length_replicate]
    omega

/-- THE RULE: a def (or a method) of the text, by its body. The body's reading t is chosen for each entry; it is run at the parameters' values -/
theorem fn_of {CX : CXT} {P : Program} {w : World} {K : PySem.W.Frag} {mg : Str → Option Value} {base : Heap} {k : Nat} {f : Addr} {name qual : Str} {params : Arguments} {body : List Stmt} {scope : Scope} {dV kV doc pm cdv ct oc : Value} {an od : Option Addr}
    {osl : Array (Option Value)} {N ps : List Str} {sp : Sp} (lk : K.lookup f = some ⟨oc, od, .func (PySem.W.fnOf name qual params body scope dV kV doc pm an cdv ct), osl⟩) (hcd : PySem.W.codeIn K cdv qual = true) (S : FnScope N ps scope)
    (len : ∀ vs H Q E, sp vs H Q E → vs.length = ps.length)
    (hbody : ∀ (A : Around) (outer : List Env) (s : Shared) (H : Hp) (vs : List V) (Q : VK) (E : XK), Room k (A.deeper (envOfC qual scope s.heap.objs.size f cdv)) → sp vs H Q E →
      ∃ t, PSs (cxOf CX P w K mg base N qual scope f cdv A outer s H E) body t ∧ t { nx := fun _ H' => Q .non H', rt := Q } (start N vs) H) :
    FnOk P w K mg base CX (k + 1) f (PySem.W.fnOf name qual params body scope dV kV doc pm an cdv ct) ps sp := by
  refine ⟨len, fun A outer s H args us vs Q E hr e0 hb r hsp => ?_⟩
  have hl := len _ _ _ _ hsp
  have KX : K.In s.heap := e0.mod.kin.keeps fun b o e => (e0.bs b o e).1
  have lim : s.heap.NoLimit := e0.mod.nolimit.keeps fun b o e => (e0.bs b o e).1
  have hkind : ∀ y ∈ ps.zip us, scope.names.lookup y.1 = some .local ∨ (scope.names.lookup y.1 = some .cell ∧ ((cellsFrom (s.heap.objs.size + 1) scope.names []).lookup y.1).isSome = true) := fun ⟨n, v⟩ hy => by
    rcases S.par n (List.of_mem_zip hy).1 with q | q
    · exact .inl q
    · exact .inr ⟨q, PySem.W.cellsFrom_some _ _ _ (.inl q)⟩
  refine codeAny_call_function hr.depth (KX _ _ lk) rfl S.co S.gen rfl (PySem.W.codeRec_of KX hcd) (hb _ _ _ _ ?_)
  refine wpAny_newFunctionEnv_cells S.kind hkind fun env he s1 x => ?_
  subst he
  refine ⟨lim.keeps x.toInCall.keep, codeAny_func ?_⟩
  obtain ⟨t, ht, hq⟩ := hbody A outer s H vs Q E (hr.deeper _) hsp
  have I : Inv (cxOf CX P w K mg base N qual scope f cdv A outer s H E) [] (start N vs) H s1 := inv_start S hr.hd e0 hl r x
  refine wpAny_mono (ht [] s1 (start N vs) H _ I hq) (fun fl s' hs => ?_) fun e s' hs => hs
  have fin : ∀ {σ' : St} {H' : Hp} {v : V} {u : Value}, Inv (cxOf CX P w K mg base N qual scope f cdv A outer s H E) [] σ' H' s' → RelV v u → Q v H' → CE outer P w H s Q u s' :=
    fun {σ' H' v u} J rv q => ⟨v, H', J.os, J.bare, J.base, J.hok, rv, q⟩
  cases fl with
  | ret u =>
    obtain ⟨v, σ', H', J, rv, q⟩ := hs
    exact fin J rv q
  | next =>
    obtain ⟨σ', H', J, q⟩ := hs
    exact fin (v := V.non) (u := Value.none) J rfl q
  | brk =>
    obtain ⟨_, _, _, q⟩ := hs
    exact False.elim q
  | cont =>
    obtain ⟨_, _, _, q⟩ := hs
    exact False.elim q
end L2

namespace L2
open PySem PySem.Spec PyProof.Rows
section
variable {X : Cx} {x : Str} {p pos : Pos} {e : Expr} {es : List Expr} {t : TA} {id T : String} {r : List V → Hp → VK → Prop}

def tCB (r : List V → Hp → VK → Prop) (t : TA) : TE := fun σ H Q => t σ H fun vs H1 => r vs H1 Q
/-- f(e, ..), f a built-in function -/
theorem pe_callB (hc : CallR X (.builtin id) r) (hg : Gl X x) (hm : X.mg x = none) (hv : bootBuiltins x = some (.builtin id)) (ha : PA X (e :: es) t) (hn : x ≠ "__name__" := by decide) (hdb : (x == ("__debug__" : Str)) = false := by decide)
    (he : starEach (e :: es) X.env = (false, eval e X.env) :: starEach es X.env := by rfl) (hpl : (backTo pos (starEach es X.env)).any (·.1) = false := by rfl) : PE X (.Call (.Name x p) (e :: es) [] pos) (tCB r t) := by
  intro pins s σ H Q I h
  refine wpAny_Call_Name_kw (ld_blt I hg hm hv ?_ hn hdb)
  exact PyProof.Rows.callWith_builtin1 (thn (ha pos pins s σ H _ I h) fun us s1 ⟨vs, H1, I1, r1, q1⟩ => hc pins s1 σ H1 vs us Q I1 r1 q1) he hpl
/-- T(e, ..), T a built-in type -/
theorem pe_callTy (hc : CallR X (.type T) r) (hg : Gl X x) (hm : X.mg x = none) (hv : bootBuiltins x = some (.type T)) (ha : PA X (e :: es) t) (hn : x ≠ "__name__" := by decide) (hdb : (x == ("__debug__" : Str)) = false := by decide)
    (he : starEach (e :: es) X.env = (false, eval e X.env) :: starEach es X.env := by rfl) (hpl : (backTo pos (starEach es X.env)).any (·.1) = false := by rfl) : PE X (.Call (.Name x p) (e :: es) [] pos) (tCB r t) := by
  intro pins s σ H Q I h
  refine wpAny_Call_Name_kw (ld_blt I hg hm hv ?_ hn hdb)
  exact PyProof.Rows.callWith_type1 (thn (ha pos pins s σ H _ I h) fun us s1 ⟨vs, H1, I1, r1, q1⟩ => hc pins s1 σ H1 vs us Q I1 r1 q1) he hpl
end
end L2

namespace HT
open PySem PyProof.Rows

section
open PySem.SeqAt
open PySem.AutoSeq1 (wpAny_loadPart')
open PySem.MeetsSeq PySem.MeetsSeq2 PySem.MeetsSeq3

end

section
variable {prog : Program} {w : World} {A : Around} {E : Value → Shared → Prop} {s : Shared}

/-! ### t[a:b], not the whole -/
/-- a slice's bound as a place among n (d where it is left out) -/
def sIx (n d : Nat) : Option Int → Nat
  | none => d
  | some v => if v < 0 then (v + (n : Int)).toNat else min v.toNat n
theorem sIx_le (n d : Nat) (hd : d ≤ n) (o : Option Int) : sIx n d o ≤ n := by
  cases o with
  | none => exact hd
  | some v =>
    show (if v < 0 then (v + (n : Int)).toNat else min v.toNat n) ≤ n
    by_cases hv : v < 0
    · rw [if_pos hv]; omega
    · rw [if_neg hv]; exact Nat.min_le_right _ _
theorem clip_eq (v : Int) (n d : Nat) : (if v < 0 then max (v + (n : Int)) 0 else min v (n : Int)) = ((sIx n d (some v) : Nat) : Int) := by
  show (if v < 0 then max (v + (n : Int)) 0 else min v (n : Int)) = (((if v < 0 then (v + (n : Int)).toNat else min v.toNat n) : Nat) : Int)
  by_cases hv : v < 0
  · simp only [if_pos hv]; omega
  · simp only [if_neg hv]; omega
theorem adjust_gen (lo hi : Option Int) (n : Nat) : Builtin.Slice.sliceAdjust lo hi 1 (n : Int) = (((sIx n 0 lo : Nat) : Int), ((sIx n n hi : Nat) : Int)) := by
  have h1 : ¬ ((1 : Int) < 0) := by omega
  unfold Builtin.Slice.sliceAdjust
  simp only [h1, if_false]
  refine Prod.ext ?_ ?_
  · cases lo with
    | none => rfl
    | some v => exact clip_eq v n 0
  · cases hi with
    | none => rfl
    | some v => exact clip_eq v n n
theorem places_gen (i j : Nat) : Builtin.Slice.slicePlaces (i : Int) (j : Int) 1 = j - i := by
  unfold Builtin.Slice.slicePlaces
  have h1 : (1 : Int) > 0 := by omega
  simp only [h1, if_true, Int.ediv_one]
  split <;> omega
theorem slicePart_ {v : Value} {o : Option Int} {Q : Option Int → Shared → Prop} (p : IsPart v o) (h : Q o s) : wpAny (model prog w) A (Builtin.Slice.slicePartIndex v) Q E s := by
  cases p with
  | none => exact slicePart_none h
  | int i t => exact slicePart_int h
theorem sliceApplied_gen {sl : Addr} {vl vu : Value} {lo hi : Option Int} {n : Nat} {Q : Int × Int × Nat → Shared → Prop} (hs : s.heap.IsSliceOf sl vl vu .none) (pl : IsPart vl lo) (pu : IsPart vu hi)
    (h : Q (((sIx n 0 lo : Nat) : Int), 1, sIx n n hi - sIx n 0 lo) s) : wpAny (model prog w) A (Builtin.Slice.sliceApplied (.ref sl) (pure (n : Int))) Q E s := by
  obtain ⟨os, hos, hcs, hds⟩ := id hs
  unfold Builtin.Slice.sliceApplied Builtin.Slice.sliceFields
  refine wpAny_bind (wpAny_bind (wpAny_field hos hds (x := vl) rfl (wpAny_bind (wpAny_field hos hds (x := vu) rfl (wpAny_bind (wpAny_field hos hds (x := .none) rfl (wpAny_pure ?_)))))))
  refine wpAny_bind (slicePart_none ?_)
  show wpAny _ _ (if ((1 : Int) == 0) = true then _ else _) _ _ s
  rw [if_neg (by decide)]
  refine wpAny_bind (slicePart_ pl (wpAny_bind (slicePart_ pu (wpAny_bind (wpAny_pure ?_)))))
  show wpAny _ _ (match Builtin.Slice.sliceAdjust lo hi 1 (n : Int) with | (lo, hi) => pure (lo, (1 : Int), Builtin.Slice.slicePlaces lo hi 1)) _ _ s
  rw [adjust_gen lo hi n]
  show wpAny _ _ (pure (((sIx n 0 lo : Nat) : Int), (1 : Int), Builtin.Slice.slicePlaces ((sIx n 0 lo : Nat) : Int) ((sIx n n hi : Nat) : Int) 1)) _ _ s
  rw [places_gen]
  exact wpAny_pure h
theorem pick_gen (xs : Array Value) (i k : Nat) : ((List.range k).filterMap fun (m : Nat) => xs[((i : Int) + (m : Int) * 1).toNat]?).toArray = ((xs.toList.drop i).take k).toArray := by
  have e : (fun (m : Nat) => xs[((i : Int) + (m : Int) * 1).toNat]?) = fun m => xs[i + m]? := by
    funext m
    have : ((i : Int) + (m : Int) * 1).toNat = i + m := by omega
    rw [this]
  rw [e]
  have := pick_run xs i k
  rw [List.filterMap_map] at this
  have e2 : ((fun x => xs[x]?) ∘ fun x => i + x) = fun m => xs[i + m]? := rfl
  rw [e2] at this
  rw [this]

theorem getItem_tuple_cut {t sl : Addr} {items : Array Value} {vl vu : Value} {lo hi : Option Int} {Q : Value → Shared → Prop} (ht : IsTup s.heap t items) (hs : s.heap.IsSliceOf sl vl vu .none) (pl : IsPart vl lo) (pu : IsPart vu hi)
    (hw : ¬ (sIx items.size 0 lo = 0 ∧ sIx items.size items.size hi = items.size))
    (h : Q (.ref s.heap.objs.size) { s with heap := s.heap.push { cls := .type "tuple", data := .seq ((items.toList.drop (sIx items.size 0 lo)).take (sIx items.size items.size hi - sIx items.size 0 lo)).toArray } })
    (hsz : items.size ≤ sizeLine) : wpAny (model prog w) A (getItem (.ref t) (.ref sl)) Q E s := by
  have htake : sizeOk (.seq ((items.toList.drop (sIx items.size 0 lo)).take (sIx items.size items.size hi - sIx items.size 0 lo)).toArray) := by
    show ((items.toList.drop (sIx items.size 0 lo)).take (sIx items.size items.size hi - sIx items.size 0 lo)).toArray.size ≤ sizeLine
    rw [List.size_toArray, List.length_take, List.length_drop, Array.length_toList]
    omega
  have hj : sIx items.size items.size hi ≤ items.size := sIx_le _ _ (Nat.le_refl _) hi
  obtain ⟨os, hos, hcs, hds⟩ := id hs
  have hTs : s.TypeIs (.ref sl) "slice" := ⟨os, hos, hcs⟩
  unfold getItem
  try with_reducible refine wpAny_holding ?_
  first | refine wpAny_bind (wpAny_pure ?_) | skip
  refine wpAny_bind (wpAny_sequenceKey ht.typeIs (by decide) ?_)
  refine wpAny_bind (wpAny_callSpecial?_slot (name := Str.ofString "__getitem__") ht.typeIs PyProof.Rows.slot_tuple_getitem
    (wpAny_call_entry PyProof.Rows.slot_tuple_getitem ht.typeIs entry_tuple_getitem ?_ (args_tuple_getitem _ _)))
  show wpAny _ _ (Builtin.Tuple.tupleItemsOf (.ref t) >>= _) _ _ s
  refine wpAny_bind (tupleItemsOf_ ht ?_)
  refine wpAny_bind (wpAny_typeOf hTs ?_)
  rw [if_pos (by decide)]
  refine wpAny_bind (sliceApplied_gen hs pl pu ?_)
  have hno : ¬ ((((sIx items.size 0 lo : Nat) : Int) == 0 && (1 : Int) == 1 && (sIx items.size items.size hi - sIx items.size 0 lo) == items.size) = true) := by
    intro q
    rw [Bool.and_eq_true, Bool.and_eq_true] at q
    have q1 : ((sIx items.size 0 lo : Nat) : Int) = 0 := eq_of_beq q.1.1
    have q2 : sIx items.size items.size hi - sIx items.size 0 lo = items.size := eq_of_beq q.2
    exact hw ⟨by omega, by omega⟩
  show wpAny _ _ (if (((sIx items.size 0 lo : Nat) : Int) == 0 && (1 : Int) == 1 && (sIx items.size items.size hi - sIx items.size 0 lo) == items.size) = true then _ else _) _ _ s
  rw [if_neg hno, pick_gen]
  first
    | exact wpAny_bind (m := Builtin.Tuple.tupleExact _) (wpAny_newObj_type (wpAny_pure ⟨_, rfl, wpAny_pure h⟩) htake)
    | exact wpAny_bind (m := Builtin.Tuple.tupleExact _) (wpAny_newObj_type (wpAny_bind (wpAny_pure (wpAny_pure ⟨_, rfl, wpAny_pure h⟩))) htake)
    | exact wpAny_bind (wpAny_bind (m := Builtin.Tuple.tupleExact _) (wpAny_newObj_type (wpAny_pure (wpAny_pure ⟨_, rfl, wpAny_pure h⟩)) htake))
    | exact wpAny_bind (wpAny_bind (m := Builtin.Tuple.tupleExact _) (wpAny_newObj_type (wpAny_pure ⟨_, rfl, wpAny_pure h⟩) htake))
end
end HT

namespace L2
open PySem PySem.Spec PyProof.Rows

/-! ### the parts of a slice -/
abbrev TO := St → Hp → (Option Int → Hp → Prop) → Prop
/-- a slice's part (left out, or an int) -/
def PO (X : Cx) (e : Option Expr) (t : TO) : Prop :=
  ∀ (pins : List (Addr × Obj)) (s : Shared) (σ : St) (H : Hp) (Q : Option Int → Hp → Prop), Inv X pins σ H s → t σ H Q →
    wpAny (model X.prog X.w) X.A (evalPart e X.env) (fun u s' => ∃ o H', Inv X pins σ H' s' ∧ IsPart u o ∧ Q o H') X.xe s
def tNoPart : TO := fun _ H Q => Q none H
def tPart (t : TE) : TO := fun σ H Q => t σ H fun x H1 => ∃ i, x = .int i ∧ Q (some i) H1

section
variable {X : Cx} {e : Expr} {te : TE} {lo hi : Option Expr} {tl th : TO} {pos p2 : Pos}

theorem po_none : PO X none tNoPart := by
  intro pins s σ H Q I h
  rw [evalPart_none]
  exact wpAny_pure ⟨none, H, I, .none, h⟩
theorem po_some (h : PE X e te) : PO X (some e) (tPart te) := by
  intro pins s σ H Q I hw
  rw [evalPart_some]
  refine thn (h pins s σ H _ I hw) fun u s1 ⟨x, H1, I1, r1, q1⟩ => ?_
  obtain ⟨i, rfl, q⟩ := q1
  obtain ⟨t, rfl⟩ := r1
  exact ⟨some i, H1, I1, .int i t, q⟩

/-- what a slice of a value is, by values: the slice object stands at sl -/
def SlR (X : Cx) (r : V → Option Int → Option Int → Hp → VK → Prop) : Prop :=
  ∀ (pins : List (Addr × Obj)) (s : Shared) (σ : St) (H : Hp) (x : V) (v vl vu : Value) (lo hi : Option Int) (sl : Addr) (Q : VK), Inv X pins σ H s → RelV x v → s.heap.IsSliceOf sl vl vu .none → IsPart vl lo → IsPart vu hi → r x lo hi H Q →
    ∃ T id, typeLookup (.type T) "__getitem__" = pure (some (.builtin id)) ∧ s.TypeIs v T ∧ wpAny (model X.prog X.w) X.A (getItem v (.ref sl)) (EP X pins σ Q) X.xe s
theorem SlR.or {r r' : V → Option Int → Option Int → Hp → VK → Prop} (h : SlR X r) (h' : SlR X r') : SlR X (fun x lo hi H Q => r x lo hi H Q ∨ r' x lo hi H Q) := by
  intro pins s σ H x v vl vu lo hi sl Q I rx hs pl pu q
  rcases q with q | q
  · exact h pins s σ H x v vl vu lo hi sl Q I rx hs pl pu q
  · exact h' pins s σ H x v vl vu lo hi sl Q I rx hs pl pu q
def tSl (r : V → Option Int → Option Int → Hp → VK → Prop) (te : TE) (tl th : TO) : TE := fun σ H Q => te σ H fun x H1 => tl σ H1 fun l H2 => th σ H2 fun u H3 => r x l u H3 Q
/-- a[lo:hi], any a -/
theorem pe_slice {r : V → Option Int → Option Int → Hp → VK → Prop} (hr : SlR X r) (he : PE X e te) (hl : PO X lo tl) (hu : PO X hi th) : PE X (.Subscript e (.Slice lo hi none p2) pos) (tSl r te tl th) := by
  intro pins s σ H Q I h
  refine Subscript_ (thn (he pins s σ H _ I h) fun v s1 ⟨x, H1, I1, r1, q1⟩ => ?_)
  refine wpAny_Slice (thn (hl pins s1 σ H1 _ I1 q1) fun vl s2 ⟨l, H2, I2, pl, q2⟩ => thn (hu pins s2 σ H2 _ I2 q2) fun vu s3 ⟨u, H3, I3, pu, q3⟩ => ?_)
  rw [evalPart_none]
  refine wpAny_pure ?_
  have I4 : Inv X pins σ H3 { s3 with heap := s3.heap.push { cls := .type "slice", data := .fields #[vl, vu, .none] } } := I3.kept (t' := s3.toks) fun b ob q => Heap.get?_push_of_some _ q
  obtain ⟨T, id, hT, ht, hg⟩ := hr pins { s3 with heap := s3.heap.push { cls := .type "slice", data := .fields #[vl, vu, .none] } } σ H3 x v vl vu l u s3.heap.objs.size Q I4 r1 (Heap.IsSliceOf.new ..) pl pu q3
  show wpAny (model X.prog X.w) X.A (subscriptTail e (.Slice lo hi none p2) v (.ref s3.heap.objs.size)) (EP X pins σ Q) X.xe { s3 with heap := s3.heap.push { cls := .type "slice", data := .fields #[vl, vu, .none] } }
  exact tail_any (ops := [.ref s3.heap.objs.size, v]) ht hT hg (by with_unfolding_all rfl)

/-- the items of xs[lo:hi] -/
def cutV (xs : List V) (lo hi : Option Int) : List V := (xs.drop (HT.sIx xs.length 0 lo)).take (HT.sIx xs.length xs.length hi - HT.sIx xs.length 0 lo)
theorem cutV_length (xs : List V) (lo hi : Option Int) : (cutV xs lo hi).length ≤ xs.length := by
  unfold cutV
  rw [List.length_take, List.length_drop]
  omega
/-- t[lo:hi], not the whole of it (the whole would be t itself) -/
def rSlT (K : PySem.W.Frag) : V → Option Int → Option Int → Hp → VK → Prop := fun x lo hi H Q => ∃ a xs, x = .ref a ∧ SqT K H a xs ∧
  ¬ (HT.sIx xs.length 0 lo = 0 ∧ HT.sIx xs.length xs.length hi = xs.length) ∧ ∀ p, H p = none → Q (.ref p) (upd H p (.tup (cutV xs lo hi)))
theorem sl_tup : SlR X (rSlT X.K) := by
  intro pins s σ H x v vl vu lo hi sl Q I rx hs pl pu h
  obtain ⟨a, xs, rfl, hx, hw, q⟩ := h
  cases rx
  obtain ⟨its, r, ht, hz⟩ := I.tuple hx
  have hlen : its.toArray.size = xs.length := by rw [List.size_toArray]; exact r.length.symm
  refine ⟨"tuple", _, PyProof.Rows.slot_tuple_getitem.lookup, ht.typeIs, ?_⟩
  refine HT.getItem_tuple_cut ht hs pl pu (by rw [hlen]; exact hw) ?_ (by rw [hlen]; exact hz)
  rw [hlen]
  refine ⟨.ref s.heap.objs.size, _, I.laid (t' := s.toks) (o := .tup (cutV xs lo hi)) (fun b ob q => Heap.get?_push_of_some _ q) (Nat.le_refl _) ?_, rfl, q _ (I.hok.fresh (Nat.le_refl _))⟩
  exact ⟨Nat.le_trans (cutV_length xs lo hi) hz, _, (r.drop (HT.sIx xs.length 0 lo)).take (HT.sIx xs.length xs.length hi - HT.sIx xs.length 0 lo), IsTup.new _ _⟩

/-! ### t < u, t + u -/
end
end L2

namespace L2
open PySem PySem.Spec PyProof.Rows

/-! ### places -/
/-- the place that an index of any sign means -/
def ixN (n : Nat) (i : Int) : Option Nat := if 0 ≤ i then (if i < n then some i.toNat else none) else if -(n : Int) ≤ i then some (i + n).toNat else none
def atI {α : Type} (xs : List α) (i : Int) : Option α := (ixN xs.length i).bind fun j => xs[j]?
theorem ixN_seq {n : Nat} {i : Int} {j : Nat} (h : ixN n i = some j) : seqIndex? i n = some j ∧ j < n ∧ -(n : Int) ≤ i ∧ i < n := by
  unfold ixN at h
  by_cases h0 : 0 ≤ i
  · rw [if_pos h0] at h
    by_cases h1 : i < n
    · rw [if_pos h1] at h
      have e : i.toNat = j := Option.some.inj h
      exact ⟨by rw [seqIndex_of h0 h1, e], by omega, by omega, h1⟩
    · rw [if_neg h1] at h; cases h
  · rw [if_neg h0] at h
    by_cases h1 : -(n : Int) ≤ i
    · rw [if_pos h1] at h
      have e : (i + n).toNat = j := Option.some.inj h
      exact ⟨by rw [seqIndex_neg (by omega) h1, e], by omega, h1, by omega⟩
    · rw [if_neg h1] at h; cases h
theorem atI_get {α : Type} {xs : List α} {i : Int} {v : α} (h : atI xs i = some v) : ∃ j, seqIndex? i xs.length = some j ∧ xs[j]? = some v ∧ j < xs.length ∧ -(xs.length : Int) ≤ i ∧ i < xs.length := by
  unfold atI at h
  cases e : ixN xs.length i with
  | none => rw [e] at h; cases h
  | some j =>
    rw [e] at h
    obtain ⟨h1, h2, h3, h4⟩ := ixN_seq e
    exact ⟨j, h1, h, h2, h3, h4⟩
theorem atI_nat {α : Type} {xs : List α} {j : Nat} {v : α} (h : xs[j]? = some v) : atI xs (j : Int) = some v := by
  have hj : j < xs.length := (List.getElem?_eq_some_iff.mp h).1
  have e : ixN xs.length (j : Int) = some j := by
    unfold ixN
    rw [if_pos (by omega), if_pos (by omega)]; simp
  unfold atI; rw [e]; exact h
/-! ### what may be subscripted -/
/-- what stands as an index of a plain subscript -/
def PlainIx (b : Expr) : Prop := ∀ o i, subscripted b false o i = operate [o, i] (getItem o i)
/-- a subscript by values -/
def IxR (X : Cx) (r : R2) : Prop :=
  ∀ (value slice : Expr) (pins : List (Addr × Obj)) (s : Shared) (σ : St) (H : Hp) (x y : V) (v u : Value) (Q : VK), Inv X pins σ H s → RelV x v → RelV y u → r x y H Q →
    subscripted slice false v u = operate [v, u] (getItem v u) → wpAny (model X.prog X.w) X.A (subscriptTail value slice v u) (EP X pins σ Q) X.xe s
/-- a call of a builtin's method by values: the receiver, the arguments -/
def MtR (X : Cx) (id : String) (r : V → List V → Hp → VK → Prop) : Prop :=
  ∀ (pins : List (Addr × Obj)) (s : Shared) (σ : St) (H : Hp) (x : V) (xs : List V) (v : Value) (us : List Value) (Q : VK), Inv X pins σ H s → RelV x v → Vals xs us → r x xs H Q →
    wpAny (model X.prog X.w) X.A (call (.builtin id) (v :: us)) (EP X pins σ Q) X.xe s
section
variable {X : Cx} {a b : Expr} {ta tb : TE} {pos : Pos}
theorem IxR.or {r r' : R2} (h : IxR X r) (h' : IxR X r') : IxR X (fun x y H Q => r x y H Q ∨ r' x y H Q) := by
  intro value slice pins s σ H x y v u Q I rx ry q hs
  rcases q with q | q
  · exact h value slice pins s σ H x y v u Q I rx ry q hs
  · exact h' value slice pins s σ H x y v u Q I rx ry q hs
theorem MtR.or {id : String} {r r' : V → List V → Hp → VK → Prop} (h : MtR X id r) (h' : MtR X id r') : MtR X id (fun x xs H Q => r x xs H Q ∨ r' x xs H Q) := by
  intro pins s σ H x xs v us Q I rx rs q
  rcases q with q | q
  · exact h pins s σ H x xs v us Q I rx rs q
  · exact h' pins s σ H x xs v us Q I rx rs q
/-- a[b] -/
theorem pe_ix {r : R2} (hr : IxR X r) (ha : PE X a ta) (hb : PE X b tb) (hs : PlainIx b) : PE X (.Subscript a b pos) (tOp r ta tb) := by
  intro pins s σ H Q I h
  exact Subscript_ (binT ha hb I h fun v u s2 x y H2 I2 rx ry q => hr a b pins s2 σ H2 x y v u Q I2 rx ry q (hs _ _))

def rIxL (K : PySem.W.Frag) : R2 := fun x y H Q => ∃ p xs i v, x = .ref p ∧ y = .int i ∧ SqL K H p xs ∧ atI xs i = some v ∧ Q v H
def rIxT (K : PySem.W.Frag) : R2 := fun x y H Q => ∃ p xs i v, x = .ref p ∧ y = .int i ∧ SqT K H p xs ∧ atI xs i = some v ∧ Q v H
def rIxS : R2 := fun x y H Q => ∃ z i c, x = .str z ∧ y = .int i ∧ z.length ≤ sizeLine ∧ atI z.cps.toList i = some c ∧ Q (.str ⟨#[c]⟩) H
theorem ix_list : IxR X (rIxL X.K) := by
  intro value slice pins s σ H x y v u Q I rx ry h hs
  obtain ⟨p, xs, i, z, rfl, rfl, hq, he, q⟩ := h
  cases rx
  obtain ⟨t, rfl⟩ := ry
  obtain ⟨its, r, pl, hz⟩ := I.list hq
  obtain ⟨j, h1, h2, h3, h4, h5⟩ := atI_get he
  obtain ⟨w, ew, rw'⟩ := r.get h2
  have hl := r.length
  have hn := line63
  have fin : EP X pins σ Q w s := ⟨z, H, I, rw', q⟩
  by_cases h0 : 0 ≤ i
  · have hj : i.toNat = j := by
      rw [seqIndex_of h0 h5] at h1
      exact Option.some.inj h1
    exact item_listR pl.isList h0 (by omega) (by rw [hj]; simpa using ew) fin hs
  · have hj : (i + (its.toArray.size : Int)).toNat = j := by
      rw [seqIndex_neg (by omega) h4] at h1
      rw [List.size_toArray, ← hl]
      exact Option.some.inj h1
    exact subscriptTail_builtinR (x := w) pl.isList.typeIs slot_list_getitem.lookup
      (wpAny_getItem_list_neg (Q := fun r s' => r = w ∧ EP X pins σ Q r s') pl.isList (by omega) (by rw [List.size_toArray] <;> omega) (by omega) (by rw [hj]; simpa using ew) ⟨rfl, fin⟩) hs
theorem ix_tup : IxR X (rIxT X.K) := by
  intro value slice pins s σ H x y v u Q I rx ry h hs
  obtain ⟨p, xs, i, z, rfl, rfl, hq, he, q⟩ := h
  cases rx
  obtain ⟨t, rfl⟩ := ry
  obtain ⟨its, r, pl, hz⟩ := I.tuple hq
  obtain ⟨j, h1, h2, h3, h4, h5⟩ := atI_get he
  obtain ⟨w, ew, rw'⟩ := r.get h2
  have hl := r.length
  have hn := line63
  have fin : EP X pins σ Q w s := ⟨z, H, I, rw', q⟩
  exact subscriptTail_builtinR (x := w) pl.typeIs slot_tuple_getitem.lookup
    (getItem_tuple (j := j) (Q := fun r s' => r = w ∧ EP X pins σ Q r s') pl (by omega) (by omega) (by rw [List.size_toArray, ← hl]; exact h1) (by simpa using ew) ⟨rfl, fin⟩) hs
theorem ix_str : IxR X rIxS := by
  intro value slice pins s σ H x y v u Q I rx ry h hs
  obtain ⟨z, i, c, rfl, rfl, hz, he, q⟩ := h
  obtain ⟨t, rfl⟩ := rx
  obtain ⟨t', rfl⟩ := ry
  obtain ⟨j, h1, h2, h3, h4, h5⟩ := atI_get he
  have hl : z.cps.toList.length = z.length := by simp [Str.length]
  rw [hl] at h1 h4 h5
  have hn := line63
  exact tail_any (typeIs_str s z t) slot_str_getitem.lookup (getItem_str (c := c) (by
    have e1 : decide (i < -(2 ^ 63 : Int)) = false := decide_eq_false (by omega)
    have e2 : decide (i ≥ 2 ^ 63) = false := decide_eq_false (by omega)
    rw [e1, e2, Bool.or_false]) (by rw [h1]; simpa using h2) ⟨.str ⟨#[c]⟩, H, I.tok _, ⟨_, rfl⟩, q⟩) hs
/-- list, tuple or str -/
def rIx (K : PySem.W.Frag) : R2 := fun x y H Q => rIxL K x y H Q ∨ rIxT K x y H Q ∨ rIxS x y H Q
theorem ix_seq : IxR X (rIx X.K) := ix_list.or (ix_tup.or ix_str)

/-! ### xs[i] = v, any sign -/
/-- the list's object behind a store -/
theorem mapSeq_set (its : List Value) (n j : Nat) (u : Value) : Obj.mapSeq (·.setIfInBounds j u) { cls := .type "list", data := .seq its.toArray n } = { cls := .type "list", data := .seq (its.set j u).toArray n } := by
  simp [Obj.mapSeq]
theorem Inv.lst {pins : List (Addr × Obj)} {σ : St} {H : Hp} {s : Shared} {p : Addr} {xs : List V} (I : Inv X pins σ H s) (h : H p = some (.lst xs)) :
    ∃ (its : List Value) (n : Nat), Vals xs its ∧ s.heap.get? p = some { cls := .type "list", data := .seq its.toArray n } ∧ xs.length ≤ sizeLine := by
  obtain ⟨z, its, n, r, e⟩ := I.hok p _ h
  exact ⟨its, n, r, e, z⟩
/-- the list at p is written by an update of its object -/
theorem Inv.lstUpd {pins : List (Addr × Obj)} {σ : St} {H : Hp} {s : Shared} {p : Addr} {xs ys : List V} {its its' : List Value} {n n' : Nat} {f : Obj → Obj} (I : Inv X pins σ H s) (h : H p = some (.lst xs))
    (ho : s.heap.get? p = some { cls := .type "list", data := .seq its.toArray n }) (hf : f { cls := .type "list", data := .seq its.toArray n } = { cls := .type "list", data := .seq its'.toArray n' }) (r : Vals ys its') (hz : ys.length ≤ sizeLine) (t : Nat) :
    Inv X pins σ (upd H p (.lst ys)) { s with heap := s.heap.update p f, toks := t } := by
  have e : (s.heap.update p f).get? p = some { cls := .type "list", data := .seq its'.toArray n' } := by
    rw [Heap.get?_update_self f ho (by rw [hf] <;> rfl), hf]
  refine I.write (x := p) (e := p) (by rw [h]; trivial) (.inl rfl) (fun b u hb q => (Heap.get?_update_other _ _ (Ne.symm hb)).trans q) ⟨_, e⟩ ?_
  exact ⟨hz, its', n', r, e⟩
def rSetL : V → V → V → Hp → (Hp → Prop) → Prop := fun o i v H Q => ∃ p xs k j, o = .ref p ∧ i = .int k ∧ H p = some (.lst xs) ∧ ixN xs.length k = some j ∧ Q (upd H p (.lst (xs.set j v)))
theorem set_list : PSet X rSetL := by
  intro pins s σ H o i v ov iv u Q I ro ri rv h
  obtain ⟨p, xs, k, j, rfl, rfl, hp, hj, q⟩ := h
  cases ro
  obtain ⟨t, rfl⟩ := ri
  obtain ⟨its, n, r, ho, hz⟩ := I.lst hp
  obtain ⟨h1, h2, h3, h4⟩ := ixN_seq hj
  have hl := r.length
  have hn := line63
  have I' : Inv X pins σ (upd H p (.lst (xs.set j v))) { s with heap := s.heap.update p (Obj.mapSeq (·.setIfInBounds j u)) } :=
    I.lstUpd hp ho (mapSeq_set its n j u) (r.set rv j) (by rw [List.length_set]; exact hz) s.toks
  by_cases h0 : 0 ≤ k
  · have hk : k.toNat = j := by
      rw [seqIndex_of h0 h4] at h1
      exact Option.some.inj h1
    exact PySem.W.ki_setAt ho h0 (by omega) (by rw [List.size_toArray, ← hl]; exact h4) (by rw [hk]; exact ⟨_, I', q⟩)
  · have hk : (k + (its.toArray.size : Int)).toNat = j := by
      rw [seqIndex_neg (by omega) h3] at h1
      rw [List.size_toArray, ← hl]
      exact Option.some.inj h1
    exact PySem.W.ki_setBack ho (by omega) (by rw [List.size_toArray, ← hl]; exact h3) (by omega) (by rw [hk]; exact ⟨_, I', q⟩)

/-! ### slices -/
theorem slice_bounds (lo hi : Option Int) (n : Nat) : (sliceBounds lo hi none n).1 = ((HT.sIx n 0 lo : Nat) : Int) ∧ (sliceBounds lo hi none n).2.1 = ((HT.sIx n n hi : Nat) : Int) ∧ (sliceBounds lo hi none n).2.2 = 1 := by
  refine ⟨?_, ?_, rfl⟩
  · cases lo with
    | none => simp [sliceBounds, HT.sIx]
    | some i =>
      simp only [sliceBounds, HT.sIx, Option.getD_none, show (1 : Int) > 0 by decide, if_true]
      by_cases h : i < 0
      · simp only [h, if_true] <;> omega
      · simp only [h, if_false] <;> omega
  · cases hi with
    | none => simp [sliceBounds, HT.sIx]
    | some i =>
      simp only [sliceBounds, HT.sIx, Option.getD_none, show (1 : Int) > 0 by decide, if_true]
      by_cases h : i < 0
      · simp only [h, if_true] <;> omega
      · simp only [h, if_false] <;> omega
theorem slicePick_cut (its : List Value) (lo hi : Option Int) : slicePick its.toArray lo hi none = ((its.drop (HT.sIx its.length 0 lo)).take (HT.sIx its.length its.length hi - HT.sIx its.length 0 lo)).toArray := by
  obtain ⟨h1, h2, h3⟩ := slice_bounds lo hi its.toArray.size
  unfold slicePick
  rw [h1, h2, h3]
  simp only [sliceRange_one, pick_run, List.size_toArray] <;> rfl
/-- xs[lo:hi] of a list: a new list -/
def rSlL (K : PySem.W.Frag) : V → Option Int → Option Int → Hp → VK → Prop := fun x lo hi H Q => ∃ a xs, x = .ref a ∧ SqL K H a xs ∧ ∀ p, H p = none → Q (.ref p) (upd H p (.lst (cutV xs lo hi)))
theorem sl_list : SlR X (rSlL X.K) := by
  intro pins s σ H x v vl vu lo hi sl Q I rx hs pl pu h
  obtain ⟨a, xs, rfl, hx, q⟩ := h
  cases rx
  obtain ⟨its, r, ht, hz⟩ := I.list hx
  have hlen := r.length
  refine ⟨"list", _, slot_list_getitem.lookup, ht.isList.typeIs, ?_⟩
  refine wpAny_getItem_list_slice ht.isList hs pl pu .none (by simp) ?_ (by rw [List.size_toArray] <;> omega)
  rw [slicePick_cut, ← hlen]
  refine ⟨.ref s.heap.objs.size, _, I.laid (t' := s.toks) (o := .lst (cutV xs lo hi)) (fun b ob q => Heap.get?_push_of_some _ q) (Nat.le_refl _) ?_, rfl, q _ (I.hok.fresh (Nat.le_refl _))⟩
  exact ⟨Nat.le_trans (cutV_length xs lo hi) hz, _, 0, (r.drop (HT.sIx xs.length 0 lo)).take (HT.sIx xs.length xs.length hi - HT.sIx xs.length 0 lo), Heap.get?_push_size _ rfl⟩

/-! ### in, not in: flat items -/
def flatV : V → Bool
  | .non => true
  | .bl _ => true
  | .int _ => true
  | .str _ => true
  | _ => false
/-- == of flat values -/
def eqV : V → V → Bool
  | .non, .non => true
  | .bl a, .bl b => a == b
  | .bl a, .int b => (if a then 1 else 0) == b
  | .int a, .bl b => a == (if b then 1 else 0)
  | .int a, .int b => a == b
  | .str a, .str b => a == b
  | _, _ => false
theorem eqAt_V {A : Around} {s : Shared} {y x : V} {u v : Value} (ry : RelV y u) (rx : RelV x v) (fy : flatV y = true) (fx : flatV x = true) : SeqAt.EqAt A s u v (eqV y x) := by
  cases y with
  | non =>
    cases ry
    cases x with
    | non => cases rx; exact SeqAt.EqAt.same _
    | bl b => cases rx; exact SeqAt.EqAt.none_bool b
    | int b => obtain ⟨t, rfl⟩ := rx; exact SeqAt.EqAt.none_int b t
    | str b => obtain ⟨t, rfl⟩ := rx; exact SeqAt.EqAt.none_str b t
    | _ => exact absurd (show false = true from fx) Bool.false_ne_true
  | bl a =>
    cases ry
    cases x with
    | non => cases rx; exact SeqAt.EqAt.bool_none a
    | bl b => cases rx; exact SeqAt.EqAt.bool_bool a b
    | int b => obtain ⟨t, rfl⟩ := rx; exact SeqAt.EqAt.bool_int a b t
    | str b => obtain ⟨t, rfl⟩ := rx; exact SeqAt.EqAt.bool_str a b t
    | _ => exact absurd (show false = true from fx) Bool.false_ne_true
  | int a =>
    obtain ⟨t', rfl⟩ := ry
    cases x with
    | non => cases rx; exact SeqAt.EqAt.int_none a t'
    | bl b => cases rx; exact SeqAt.EqAt.int_bool a t' b
    | int b => obtain ⟨t, rfl⟩ := rx; exact SeqAt.EqAt.int_int a t' b t
    | str b => obtain ⟨t, rfl⟩ := rx; exact SeqAt.EqAt.int_str a t' b t
    | _ => exact absurd (show false = true from fx) Bool.false_ne_true
  | str a =>
    obtain ⟨t', rfl⟩ := ry
    cases x with
    | non => cases rx; exact SeqAt.EqAt.str_none a t'
    | bl b => cases rx; exact SeqAt.EqAt.str_bool a t' b
    | int b => obtain ⟨t, rfl⟩ := rx; exact SeqAt.EqAt.str_int a t' b t
    | str b => obtain ⟨t, rfl⟩ := rx; exact SeqAt.EqAt.str_str a t' b t
    | _ => exact absurd (show false = true from fx) Bool.false_ne_true
  | _ => exact absurd (show false = true from fy) Bool.false_ne_true
/-- the items' answers, read off the values (a value's own answer does not lean on its token) -/
def eqU (x : V) (u : Value) : Bool := match u with
  | .none => eqV .non x
  | .bool b => eqV (.bl b) x
  | .int i _ => eqV (.int i) x
  | .str z _ => eqV (.str z) x
  | _ => false
theorem eqU_of {x y : V} {u : Value} (r : RelV y u) (f : flatV y = true) : eqU x u = eqV y x := by
  cases y with
  | non => cases r; rfl
  | bl b => cases r; rfl
  | int i => obtain ⟨t, rfl⟩ := r; rfl
  | str z => obtain ⟨t, rfl⟩ := r; rfl
  | _ => exact absurd (show false = true from f) Bool.false_ne_true
theorem any_eqU {x : V} : ∀ {xs : List V} {us : List Value}, Vals xs us → xs.all flatV = true → us.any (eqU x) = xs.any fun y => eqV y x
  | _, _, .nil, _ => rfl
  | y :: xs, u :: us, .cons r t, f => by
    rw [List.all_cons, Bool.and_eq_true] at f
    rw [List.any_cons, List.any_cons, eqU_of r f.1, any_eqU t f.2]
theorem mem_eqAt {A : Around} {s : Shared} {x : V} {v : Value} (rx : RelV x v) (fx : flatV x = true) : ∀ {xs : List V} {us : List Value}, Vals xs us → xs.all flatV = true → ∀ u ∈ us, SeqAt.EqAt A s u v (eqU x u)
  | _, _, .nil, _ => fun u hu => by cases hu
  | y :: xs, u :: us, .cons r t, f => fun u' hu => by
    rw [List.all_cons, Bool.and_eq_true] at f
    rcases List.mem_cons.mp hu with rfl | hu
    · rw [eqU_of r f.1]; exact eqAt_V r rx f.1 fx
    · exact mem_eqAt rx fx t f.2 u' hu
def inV (x : V) (xs : List V) : Bool := xs.any fun y => eqV y x
/-- x in a list or tuple of flat items -/
def rIn (K : PySem.W.Frag) (neg : Bool) : R2 := fun x y H Q => ∃ p xs, y = .ref p ∧ (SqL K H p xs ∨ SqT K H p xs) ∧ flatV x = true ∧ xs.all flatV = true ∧ Q (.bl (if neg then !inV x xs else inV x xs)) H
theorem op_in_seq : OpR X (compareOp .In) (rIn X.K false) := by
  intro pins s σ H x y v u Q I rx ry h
  obtain ⟨p, xs, rfl, hq, fx, fs, q⟩ := h
  cases ry
  rcases hq with hq | hq
  · obtain ⟨its, r, pl, hz⟩ := I.list hq
    refine SeqAt.in_listAt (eqU x) pl.isList (fun w hw => mem_eqAt rx fx r fs w (by simpa using hw)) ⟨.bl _, H, I, rfl, ?_⟩
    rw [show its.toArray.any (eqU x) = its.any (eqU x) by simp, any_eqU r fs]
    exact q
  · obtain ⟨its, r, pl, hz⟩ := I.tuple hq
    refine SeqAt.in_tupleAt (eqU x) pl (fun w hw => mem_eqAt rx fx r fs w (by simpa using hw)) ⟨.bl _, H, I, rfl, ?_⟩
    rw [show its.toArray.any (eqU x) = its.any (eqU x) by simp, any_eqU r fs]
    exact q
theorem op_notIn_seq : OpR X (compareOp .NotIn) (rIn X.K true) := by
  intro pins s σ H x y v u Q I rx ry h
  obtain ⟨p, xs, rfl, hq, fx, fs, q⟩ := h
  cases ry
  rcases hq with hq | hq
  · obtain ⟨its, r, pl, hz⟩ := I.list hq
    refine SeqAt.notIn_listAt (eqU x) pl.isList (fun w hw => mem_eqAt rx fx r fs w (by simpa using hw)) ⟨.bl _, H, I, rfl, ?_⟩
    rw [show its.toArray.any (eqU x) = its.any (eqU x) by simp, any_eqU r fs]
    exact q
  · obtain ⟨its, r, pl, hz⟩ := I.tuple hq
    refine SeqAt.notIn_tupleAt (eqU x) pl (fun w hw => mem_eqAt rx fx r fs w (by simpa using hw)) ⟨.bl _, H, I, rfl, ?_⟩
    rw [show its.toArray.any (eqU x) = its.any (eqU x) by simp, any_eqU r fs]
    exact q
/-! ### len, list(x), tuple(x) of any list or tuple that is read -/
theorem call_len_seq : CallR X (.builtin "len") (fun xs H Q => ∃ p ys, xs = [.ref p] ∧ (SqL X.K H p ys ∨ SqT X.K H p ys) ∧ Q (.int ys.length) H) := by
  intro pins s σ H xs us Q I r h
  obtain ⟨p, ys, rfl, hq, q⟩ := h
  obtain ⟨u, rfl, rx⟩ := vals1 r
  cases rx
  have hn := line63
  rcases hq with hq | hq
  · obtain ⟨its, r', pl, hz⟩ := I.list hq
    have hlen := r'.length
    exact Calls.call_len_list pl.isList (by simp only [List.size_toArray] <;> omega) ⟨.int ys.length, H, I.tok _, ⟨s.toks + 1, by rw [List.size_toArray, hlen]⟩, q⟩
  · obtain ⟨its, r', pl, hz⟩ := I.tuple hq
    have hlen := r'.length
    exact len_tuple pl (by simp only [List.size_toArray] <;> omega) ⟨.int ys.length, H, I.tok _, ⟨s.toks + 1, by rw [List.size_toArray, hlen]⟩, q⟩
theorem CallR.or {f : Value} {r r' : List V → Hp → VK → Prop} (h : CallR X f r) (h' : CallR X f r') : CallR X f (fun xs H Q => r xs H Q ∨ r' xs H Q) := by
  intro pins s σ H xs us Q I rs q
  rcases q with q | q
  · exact h pins s σ H xs us Q I rs q
  · exact h' pins s σ H xs us Q I rs q
theorem call_list_of : CallR X (.type "list") (fun xs H Q => ∃ p ys, xs = [.ref p] ∧ (SqL X.K H p ys ∨ SqT X.K H p ys) ∧ ∀ l, H l = none → Q (.ref l) (upd H l (.lst ys))) := by
  intro pins s σ H xs us Q I r h
  obtain ⟨p, ys, rfl, hq, q⟩ := h
  obtain ⟨u, rfl, rx⟩ := vals1 r
  cases rx
  have fin : ∀ (its : List Value), Vals ys its → ys.length ≤ sizeLine → ∀ (h' : Heap) (c' : Nat), (∀ b o', s.heap.get? b = some o' → h'.get? b = some o') →
      h'.get? s.heap.objs.size = some { cls := .type "list", dict := none, data := .seq its.toArray c', slots := #[] } → EP X pins σ Q (.ref s.heap.objs.size) { s with heap := h' } := fun its r' hz h' c' kp e =>
    ⟨.ref s.heap.objs.size, _, I.laid (t' := s.toks) kp (Nat.le_refl _) (show ObjOk X.prog X.w _ h' _ (.lst ys) from ⟨hz, its, c', r', e⟩), rfl, q _ (I.hok.fresh (Nat.le_refl _))⟩
  rcases hq with hq | hq
  · obtain ⟨its, r', pl, hz⟩ := I.list hq
    have hlen := r'.length
    obtain ⟨o, ho, hc, n, hd⟩ := pl.isList
    exact call_list_seq p (.inl rfl) ho hc hd (fun h' c' kp e => fin its r' hz h' c' kp e) (by simp only [List.size_toArray] <;> omega)
  · obtain ⟨its, r', pl, hz⟩ := I.tuple hq
    have hlen := r'.length
    obtain ⟨o, ho, hc, n, hd⟩ := pl
    exact call_list_seq p (.inr rfl) ho hc hd (fun h' c' kp e => fin its r' hz h' c' kp e) (by simp only [List.size_toArray] <;> omega)
/-! ### the call of a builtin's method: o.m(..) -/
/-- the value is of that builtin type -/
def tyV (K : PySem.W.Frag) (T : String) (x : V) (H : Hp) : Prop := match x with
  | .str _ => T = "str"
  | .int _ => T = "int"
  | .ref p => (T = "list" ∧ ∃ xs, SqL K H p xs) ∨ (T = "tuple" ∧ ∃ o, K.lookup p = some o ∧ o.cls = .type "tuple" ∧ o.dict = none) ∨
      (T = "dict" ∧ ((∃ kvs, H p = some (.dK kvs)) ∨ ∃ kvs, H p = some (.dT kvs))) ∨ (T = "set" ∧ ∃ S n, H p = some (.set S n))
  | _ => False
theorem tyV_is {pins : List (Addr × Obj)} {σ : St} {H : Hp} {s : Shared} {T : String} {x : V} {v : Value} (I : Inv X pins σ H s) (r : RelV x v) (ty : tyV X.K T x H) :
    s.TypeIs v T ∧ ∀ a, v = .ref a → ∃ ob, s.heap.get? a = some ob ∧ ob.dict = none := by
  cases x with
  | str z =>
    obtain ⟨t, rfl⟩ := r
    cases (show T = "str" from ty)
    exact ⟨typeIs_str s z t, fun _ e => nomatch e⟩
  | int i =>
    obtain ⟨t, rfl⟩ := r
    cases (show T = "int" from ty)
    exact ⟨typeIs_int s i t, fun _ e => nomatch e⟩
  | ref p =>
    cases r
    rcases ty with ⟨rfl, xs, hq⟩ | ⟨rfl, o, hk, hc, hd⟩ | ⟨rfl, hk⟩ | ⟨rfl, S, n, hk⟩
    · obtain ⟨its, _, pl, _⟩ := I.list hq
      refine ⟨pl.isList.typeIs, fun a e => ?_⟩
      cases e
      obtain ⟨o, n, e, c, hd, _⟩ := pl
      exact ⟨o, e, hd⟩
    · refine ⟨⟨o, I.kIn p o hk, hc⟩, fun a e => ?_⟩
      cases e
      exact ⟨o, I.kIn _ o hk, hd⟩
    · have z : ∃ o, s.heap.get? p = some o ∧ o.ExactDict := by
        rcases hk with ⟨kvs, hk⟩ | ⟨kvs, hk⟩
        · obtain ⟨_, _, _, _, o, _, _, e, ex, _⟩ := I.hok p _ hk
          exact ⟨o, e, ex⟩
        · obtain ⟨_, _, _, _, o, _, _, e, ex, _⟩ := I.hok p _ hk
          exact ⟨o, e, ex⟩
      obtain ⟨o, e, ex⟩ := z
      refine ⟨⟨o, e, ex.1⟩, fun a e2 => ?_⟩
      cases e2
      exact ⟨o, e, ex.2.1⟩
    · obtain ⟨o, _, _, _, e, ex, _⟩ := I.hok p _ hk
      refine ⟨⟨o, e, ex.1⟩, fun a e2 => ?_⟩
      cases e2
      exact ⟨o, e, ex.2.1⟩
  | _ => exact False.elim ty
def tBM0 (K : PySem.W.Frag) (T : String) (r : V → List V → Hp → VK → Prop) (to : TE) : TE := fun σ H Q => to σ H fun x H1 => tyV K T x H1 ∧ r x [] H1 Q
def tBM (K : PySem.W.Frag) (T : String) (r : V → List V → Hp → VK → Prop) (to : TE) (t : TA) : TE := fun σ H Q => to σ H fun x H1 => tyV K T x H1 ∧ t σ H1 fun xs H2 => r x xs H2 Q
variable {o e : Expr} {es : List Expr} {to : TE} {t : TA} {name : Str} {apos cpos : Pos} {T id : String} {r : V → List V → Hp → VK → Prop}
theorem pe_bm0 (pa : PlainAttrs T) (slot : Slot T name id) (hty : typeOf (.builtin id) = pure (.type "method_descriptor")) (hm : MtR X id r) (ho : PE X o to)
    (hbase : attributeBase o name X.env (eval o X.env) = eval o X.env := by rfl) (hline : (apos.endLine == cpos.line) = true := by rfl) : PE X (.Call (.Attribute o name apos) [] [] cpos) (tBM0 X.K T r to) := by
  intro pins s σ H Q I h
  refine wpAny_Call_method0_late hbase hline (thn (ho pins s σ H _ I h) fun v s1 ⟨x, H1, I1, r1, ty, q1⟩ => ?_)
  obtain ⟨h1, h2⟩ := tyV_is I1 r1 ty
  exact ⟨T, id, pa, slot, hty, h1, h2, Calls.callWith_builtin rfl (PySem.evalArgs_none (hm pins s1 σ H1 x [] v [] Q I1 r1 .nil q1))⟩
theorem pe_bm (pa : PlainAttrs T) (slot : Slot T name id) (hty : typeOf (.builtin id) = pure (.type "method_descriptor")) (hm : MtR X id r) (ho : PE X o to) (ha : PA X (e :: es) t)
    (hbase : attributeBase o name X.env (eval o X.env) = eval o X.env := by rfl)
    (hfew : ((backTo cpos (starEach (e :: es) X.env)).all (fun x => !x.1) && (backToKw cpos (keywordEach [] X.env)).all (fun x => x.1.isSome)
      && decide ((e :: es).length + ([] : List Keyword).length + (if ([] : List Keyword).isEmpty then 0 else 1) < 30)) = true := by rfl)
    (hline : (apos.endLine == cpos.line) = true := by rfl) (hs : starEach (e :: es) X.env = (false, eval e X.env) :: starEach es X.env := by rfl) (hplain : (backTo cpos (starEach es X.env)).any (·.1) = false := by rfl) :
    PE X (.Call (.Attribute o name apos) (e :: es) [] cpos) (tBM X.K T r to t) := by
  intro pins s σ H Q I h
  refine wpAny_Call_method_late hbase hfew hline rfl (thn (ho pins s σ H _ I h) fun v s1 ⟨x, H1, I1, r1, ty, q1⟩ => ?_)
  obtain ⟨h1, h2⟩ := tyV_is I1 r1 ty
  refine ⟨T, id, pa, slot, hty, h1, h2, ?_⟩
  have hA := ha cpos pins s1 σ H1 _ I1 q1
  rw [hs] at hA ⊢
  refine Calls.callWith_builtin (by show (false || (backTo cpos (starEach es X.env)).any (·.1)) = false; rw [hplain] <;> rfl) (Calls.evalArgs_plain ?_)
  exact thn hA fun us s2 ⟨vs, H2, I2, r2, q2⟩ => hm pins s2 σ H2 x vs v us Q I2 r1 r2 q2
/- xs.append(e), list.index on a module's tuple .. are MtR facts of 06m -/
end
end L2

namespace L2
open PySem PySem.Spec PyProof.Rows

def MtM (X : Cx) (id : String) (r : V → List V → Hp → VK → Prop) : Prop :=
  ∀ (pins : List (Addr × Obj)) (s : Shared) (σ : St) (H : Hp) (x : V) (xs : List V) (v : Value) (us : List Value) (Q : VK), Inv X pins σ H s → RelV x v → Vals xs us → r x xs H Q →
    wpAny (model X.prog X.w) X.A (call (.builtin id) (v :: us)) (EP X pins σ Q) X.xe s

/-! ### lists of values -/
theorem Vals.one : ∀ {x : V} {us : List Value}, Vals [x] us → ∃ u, us = [u] ∧ RelV x u
  | _, _, .cons r .nil => ⟨_, rfl, r⟩
theorem Vals.two : ∀ {x y : V} {us : List Value}, Vals [x, y] us → ∃ u v, us = [u, v] ∧ RelV x u ∧ RelV y v
  | _, _, _, .cons r (.cons q .nil) => ⟨_, _, rfl, r, q⟩
theorem Vals.zero : ∀ {us : List Value}, Vals [] us → us = []
  | _, .nil => rfl
theorem Vals.dropLast {xs : List V} {us : List Value} (h : Vals xs us) : Vals xs.dropLast us.dropLast := by
  induction h with
  | nil => exact .nil
  | cons r t ih =>
    cases t with
    | nil => exact .nil
    | cons q t' => exact .cons r ih
theorem Vals.eraseIdx : ∀ {xs : List V} {us : List Value} (i : Nat), Vals xs us → Vals (xs.eraseIdx i) (us.eraseIdx i)
  | _, _, _, .nil => .nil
  | _, _, 0, .cons _ t => t
  | _, _, i + 1, .cons r t => .cons r (Vals.eraseIdx i t)
theorem Vals.reverse {xs : List V} {us : List Value} (h : Vals xs us) : Vals xs.reverse us.reverse := by
  induction h with
  | nil => exact .nil
  | cons r t ih => rw [List.reverse_cons, List.reverse_cons]; exact Vals.append ih (.cons r .nil)
theorem erase_last {α : Type} (l : List α) : l.eraseIdx (l.length - 1) = l.dropLast := by
  induction l with
  | nil => rfl
  | cons a r ih =>
    cases r with
    | nil => rfl
    | cons b r =>
      have e : (a :: b :: r).length - 1 = ((b :: r).length - 1) + 1 := by
        have h1 : (a :: b :: r).length = r.length + 2 := rfl
        have h2 : (b :: r).length = r.length + 1 := rfl
        omega
      rw [e, List.eraseIdx_cons_succ, ih]
      all_goals rfl
section
variable {X : Cx} {pins : List (Addr × Obj)} {σ : St} {H : Hp} {s : Shared} {l b : Addr} {xs ys zs : List V}

/-! ### the two steps: a tracked list is rewritten, a new list is laid -/
theorem Inv.lset {its its' : List Value} {n : Nat} {f : Array Value → Array Value} {t' : Nat} (I : Inv X pins σ H s) (hH : H l = some (.lst xs))
    (e : s.heap.get? l = some { cls := .type "list", data := .seq its.toArray n }) (hf : f its.toArray = its'.toArray) (hv : Vals ys its') (hz : ys.length ≤ sizeLine) :
    Inv X pins σ (upd H l (.lst ys)) { s with heap := s.heap.update l (Obj.mapSeq f), toks := t' } := by
  have q := PySem.IsL.update e f
  rw [hf] at q
  refine I.write (x := l) (e := l) (by rw [hH]; exact trivial) (.inl rfl) (fun b' u hb hu => (Heap.get?_update_other s.heap (Obj.mapSeq f) (Ne.symm hb)).trans hu) ⟨_, q⟩ ?_
  exact ⟨hz, its', _, hv, q⟩
theorem Inv.fresh (I : Inv X pins σ H s) : H s.heap.objs.size = none := I.hok.fresh (Nat.le_refl _)
theorem Inv.lstM (I : Inv X pins σ H s) (hH : H l = some (.lst xs)) : xs.length ≤ sizeLine ∧ ∃ (its : List Value) (n : Nat), Vals xs its ∧ xs.length = its.length ∧ s.heap.get? l = some { cls := .type "list", data := .seq its.toArray n } := by
  obtain ⟨z, its, n, r, e⟩ := I.hok l _ hH
  exact ⟨z, its, n, r, r.length, e⟩

theorem notLongL {n : Nat} (h : n ≤ sizeLine) : Builtin.List.listTooLong n = false := by
  unfold Builtin.List.listTooLong
  exact decide_eq_false (by omega)
end

section
variable {X : Cx}

/-! ### methods -/
def rAppend : V → List V → Hp → VK → Prop := fun x vs H Q => ∃ l xs y, x = .ref l ∧ vs = [y] ∧ H l = some (.lst xs) ∧ xs.length < sizeLine ∧ Q .non (upd H l (.lst (xs ++ [y])))
theorem mt_append : MtM X "list.append" rAppend := by
  intro pins s σ H x vs v us Q I rx rv h
  obtain ⟨l, xs, y, rfl, rfl, hH, hz, q⟩ := h
  cases rx
  obtain ⟨u, rfl, ru⟩ := rv.one
  obtain ⟨z, its, n, r, hl, e⟩ := I.lstM hH
  refine call_meets F.slot_list_append ⟨_, e, rfl⟩ F.entry_list_append (F.args_list_append_2 _ _) (PySem.list_append l its.toArray n u (by rw [List.size_toArray]; omega)) ⟨e, ?_⟩
  refine ⟨.non, _, I.lset (its' := its ++ [u]) hH e (by simp) (r.append (.cons ru .nil)) ?_, rfl, q⟩
  rw [List.length_append, List.length_singleton]
  omega

def rPop : V → List V → Hp → VK → Prop := fun x vs H Q => ∃ l xs y, x = .ref l ∧ vs = [] ∧ H l = some (.lst xs) ∧ xs[xs.length - 1]? = some y ∧ Q y (upd H l (.lst xs.dropLast))
theorem mt_pop : MtM X "list.pop" rPop := by
  intro pins s σ H x vs v us Q I rx rv h
  obtain ⟨l, xs, y, rfl, rfl, hH, hy, q⟩ := h
  cases rx
  have hus := rv.zero
  subst hus
  obtain ⟨z, its, n, r, hl, e⟩ := I.lstM hH
  obtain ⟨u, hu, ru⟩ := r.get hy
  have hy' : its.toArray[its.toArray.size - 1]? = some u := by
    show its.toArray[its.length - 1]? = some u
    rw [← Array.getElem?_toList, ← hl]
    exact hu
  refine call_meets F.slot_list_pop ⟨_, e, rfl⟩ F.entry_list_pop (F.args_list_pop_1 _) (MeetsSeq.list_pop_last l its.toArray n u hy' (by rw [List.size_toArray]; omega)) ⟨e, ?_⟩
  refine ⟨y, _, I.lset (its' := its.dropLast) hH e ?_ r.dropLast ?_, ru, q⟩
  · show its.toArray.eraseIdxIfInBounds (its.toArray.size - 1) = its.dropLast.toArray
    rw [List.size_toArray, List.eraseIdxIfInBounds_toArray, erase_last]
  · rw [List.length_dropLast]
    omega

/-! ### list + list, list += list, list * int -/
/-! ### del xs[i] -/
end

/-! ### xs[a:b] = ys -/
section
variable {prog : Program} {w : World} {A : Around} {E : Value → Shared → Prop} {s : Shared}
end

section
variable {X : Cx}
end
end L2

namespace Att
open PySem PySem.W PySem.Calls PyProof.Rows

/-! ### the script -/
theorem ints_of_wellAll {P : Params} {h : Heap} : ∀ (ns : List Int) (vs : List Value), WellAll P h vs (ns.map WData.int) → IntsAre vs ns := by
  intro ns
  induction ns with
  | nil =>
    intro vs w
    rw [List.map_nil] at w
    cases w
    exact .nil
  | cons n ns ih =>
    intro vs w
    rw [List.map_cons] at w
    cases w with
    | cons a b =>
      cases a
      exact .cons _ _ (ih _ b)

theorem script_of {l : OpenLaw} {n : Nat} (hn : l.most = some n) {P : Params} {h : Heap} {args : List WData} {vals : List Value}
    (hpre : l.row.toRowW.claim.pre args = true) (hwl : WellAll P h vals args) :
    ∃ a vs ns, vals = [Value.ref a] ∧ args = [WData.list (ns.map WData.int)] ∧ h.get? a = some { cls := .type "list", data := .seq vs.toArray } ∧ IntsAre vs ns ∧ ns.length ≤ n := by
  have hsh : WShape.hasAll [] args [.list .int] = true := (pre_splitW hpre).1
  have hc : l.pre.holds [] { args := args } = true := (pre_splitW hpre).2
  obtain ⟨d, r, rfl, h1, h2⟩ := hasAllW_cons hsh
  obtain rfl := hasAllW_nil h2
  obtain ⟨xs, rfl, h3⟩ := hasW_list h1
  obtain ⟨ns, rfl⟩ := items_int h3
  have hlen : ns.length ≤ n := by
    unfold OpenLaw.pre at hc
    have h4 : (WTm.not (.lt (.lit (.int (n : Int))) (.len (.arg 0)))).holds [] { args := [.list (ns.map .int)] } = true := by
      have h4 := (holds_andW hc).1
      rw [hn] at h4
      exact h4
    have h5 := condW_of h4 (w_not (w_lt w_lit (w_len_list (w_arg rfl))))
    rw [List.length_map] at h5
    refine Nat.le_of_not_lt fun q => ?_
    have q' : (n : Int) < ((ns.length : Nat) : Int) := by omega
    first
      | (rw [decide_eq_true q'] at h5; exact absurd h5 (by decide))
      | (simp at h5; omega)
  cases hwl with
  | cons w1 w2 =>
    cases w2
    cases w1 with
    | list ho hall => exact ⟨_, _, ns, rfl, rfl, ho, ints_of_wellAll ns _ hall, hlen⟩

theorem post_true (l : OpenLaw) (args : List WData) : l.row.toRowW.claim.post args (.bool true) args = true :=
  postW_of (r := l.row.toRowW) (X := (true == true))
    (show WShape.has [] (.bool true) .bool = true by first | rfl | decide | simp [WShape.has, WShape.arms, WShape.armsAll])
    (show (WTm.eq .res (.lit (.bool true))).value [] { args := args, res := some (.bool true), after := args } = some (.bool (true == true)) from w_eq_bool (w_res rfl) w_lit) rfl

/-! ### the attachment: holds_open's last premise (the goal 'hc' behind k_head) from a wpAny of the law's body -/
/-- the same from a codeAny of the CALL (for a layer whose function contracts speak of calls) -/
theorem attach_call {l : OpenLaw} {n : Nat} {q : Program} {loose : List Str} {XP : (Str → Option Value) → Heap → Prop} {YP : World → Heap → Prop} {d : DefRec}
    (hn : l.most = some n) (hdf : d.params.defaults = [])
    (call : ∀ (w : World) (s₀ s₁ : Shared) (mg mb : Str → Option Value) (fa : Addr) (o : Obj) (pm cd doc : Value) (a : Addr) (vs : List Value) (ns : List Int),
      Ground q loose [] XP w s₀ mg mb s₁.heap → YP w s₁.heap →
      s₁.heap.get? fa = some o → o.data = .func (docDef d.name d.params d.body d.scope pm cd doc) → s₁.heap.CodeRec cd d.name → mg d.name = some (.ref fa) →
      s₁.heap.get? a = some { cls := .type "list", data := .seq vs.toArray } → IntsAre vs ns → ns.length ≤ n → s₁.gens = #[] →
      codeAny (model l.prog w) callerA (.call (.ref fa) ⟨[.ref a], []⟩) (fun r s' => r = .ok (.ret (.bool true)) ∧ OldK s₁.heap s'.heap ∧ s'.os = s₁.os ∧ AllBare s'.gens) s₁) :
    WalkO q loose XP YP l.row.toRowW d [] (fun f vs => PySem.call f vs) := by
  intro w s₀ s₁ mg mb G Y fa o pm cd doc dV kV ho hd hcd hD hmg hg args vals as hpre hlay hrd hwl hlo
  obtain rfl : dV = .none := Dflts.none hD hdf
  obtain rfl : kV = .none := Dflts.noKw hD
  obtain ⟨a, vs, ns, rfl, rfl, hobj, hints, hlen⟩ := script_of hn hpre hwl
  refine enter_call (codeAny_mono (call w s₀ s₁ mg mb fa o pm cd doc a vs ns G Y ho (fd_plain hd) hcd hmg hobj hints hlen hg) fun r s' hq => ?_)
  obtain ⟨rfl, h2, h3, h4⟩ := hq
  exact ⟨.inl ⟨.bool true, .bool true, [], rfl, fun _ => rfl, .bool true, post_true l _, fun _ => ⟨List.Pairwise.nil, fun _ hm => (nomatch hm)⟩⟩, h2, h3, h4⟩

/-! ### rules over ANY heap (no ledger) from facts about the written part K: the library's own take a ledger (News) for what they write -/
section
variable {prog : Program} {w : World} {A : Around} {E : Value → Shared → Prop} {s : Shared} {K : Frag}

/-! the whole heap as the ledger: makes every rule that writes through a ledger a rule over any heap -/
def ledger (h : Heap) (L d : Addr) : List (Addr × Obj) := (List.range h.objs.size).filterMap fun a => if a = L ∨ a = d then none else (h.get? a).map fun o => (a, o)
end
end Att

namespace L2
open PySem PySem.Spec PyProof.Rows

theorem vals_ints : ∀ {vs : List Value} {ns : List Int}, IntsAre vs ns → Vals (ns.map V.int) vs
  | _, _, .nil => .nil
  | _, _, .cons n t h => .cons ⟨t, rfl⟩ (vals_ints h)

/-- nothing is tracked but the script, known to the object (or it is an object of the module) -/
def Only (H : Hp) : Prop := ∀ b, H b = none ∨ ∃ o xs, H b = some (.frz o (.lst xs))

/-- THE HEAD: the law's promise, at the heap behind the top. F, the promise of the law's def, may use that base is part of the heap (so K.In base, base.Ns mainGlobals mg stand in Mod) -/
theorem law_call {P : Program} {w : World} {K : PySem.W.Frag} {mg mb : Str → Option Value} {CX : CXT} {k : Nat} {fa a : Addr} {fd : FuncData} {x : Str} {sp : Sp} {s₁ : Shared} {vs : List Value} {ns : List Int}
    (KX : K.In s₁.heap) (hns : s₁.heap.Ns mainGlobals mg) (hb : s₁.heap.Ns builtinsNs mb) (hbb : ∀ x : Str, x ≠ "__name__" → mb x = bootBuiltins x) (hlim : s₁.heap.NoLimit) (hg : s₁.gens = #[])
    (ha : s₁.heap.get? a = some { cls := .type "list", data := .seq vs.toArray }) (hi : IntsAre vs ns) (hl : ns.length ≤ sizeLine) (hr : Room k callerA)
    (F : ∀ base : Heap, K.In base → base.Ns mainGlobals mg → FnOk P w K mg base CX k fa fd [x] sp) (hbind : ∀ (s : Shared) (u : Value), BindsTo s fd ⟨[u], []⟩ [(x, u)])
    (hsp : ∀ H : Hp, Only H → SqL K H a (ns.map V.int) → sp [.ref a] H (fun v _ => v = .bl true) fun _ _ _ => False)
    (hCX : ∀ H e s', CX [] H s₁ (fun _ _ _ => False) e s' → False) :
    codeAny (model P w) callerA (.call (.ref fa) ⟨[.ref a], []⟩) (fun r s' => r = .ok (.ret (.bool true)) ∧ OldK s₁.heap s'.heap ∧ s'.os = s₁.os ∧ AllBare s'.gens) s₁ := by
  have rv := vals_ints hi
  have lenV := hi.length
  -- from an abstract heap in which nothing but the script may be tracked
  have core : ∀ H : Hp, Only H → SqL K H a (ns.map V.int) → HOk P w H s₁.heap → (∀ b, H b ≠ none → b = a) → (H a ≠ none → K.lookup a = none) →
      codeAny (model P w) callerA (.call (.ref fa) ⟨[.ref a], []⟩) (fun r s' => r = .ok (.ret (.bool true)) ∧ OldK s₁.heap s'.heap ∧ s'.os = s₁.os ∧ AllBare s'.gens) s₁ := by
    intro H hO hS hok hA hK
    have base_of : ∀ {b : Addr} {o : Obj}, s₁.heap.get? b = some o → H b = none → (hidT s₁.heap H).get? b = some o := fun e n => hidT_get e n
    have noA : ∀ {b : Addr} {o : Obj} {es : Array DictEntry} {ep : Nat}, s₁.heap.get? b = some o → o.data = .dict es ep → H b = none := fun {b o es ep} e d => by
      cases q : H b with
      | none => rfl
      | some u =>
        have e' : b = a := hA b (by rw [q]; simp)
        subst e'
        rw [ha] at e; cases e
        have d' : Data.seq vs.toArray _ = Data.dict es ep := d
        cases d'
    have nsK : ∀ {b : Addr} {m : Str → Option Value}, s₁.heap.Ns b m → (hidT s₁.heap H).Ns b m := fun {b m} ⟨o, es, ep, e, d, r⟩ => ⟨o, es, ep, base_of e (noA e d), d, r⟩
    have hKb : K.In (hidT s₁.heap H) := fun b o e => base_of (KX b o e) (by
      cases q : H b with
      | none => rfl
      | some u =>
        have e' : b = a := hA b (by rw [q]; simp)
        subst e'
        rw [hK (by rw [q]; simp)] at e; cases e)
    have hM : Mod K mg (hidT s₁.heap H) := ⟨hKb, nsK hns, ⟨mb, nsK hb, hbb⟩, let ⟨mc, h1, h2⟩ := hlim; ⟨mc, nsK h1, h2⟩⟩
    have e0 : Env0 P w K mg (hidT s₁.heap H) callerA [] s₁ H := ⟨rfl, hM, fun b o e => of_hidT e, Nat.le_of_eq (hidT_size _ _), trivial, fun b hb => absurd (show b ∈ ([] : List Addr) from hb) (by simp), hok, .of_eq hg⟩
    refine codeAny_mono ((F _ hKb (nsK hns)).run callerA [] s₁ H ⟨[.ref a], []⟩ [.ref a] [.ref a] _ _ hr e0 (hbind s₁ (.ref a)) (.cons rfl .nil) (hsp H hO hS)) fun r s' h => ?_
    cases r with
    | error e => exact (hCX H e s' h).elim
    | ok fl =>
      cases fl with
      | next => exact False.elim h
      | brk => exact False.elim h
      | cont => exact False.elim h
      | ret u =>
        obtain ⟨v, H', os, bare, un, hok', r', q⟩ := h
        have q' : v = .bl true := q
        subst q'
        obtain rfl : u = Value.bool true := r'
        refine ⟨rfl, OldK.of_keep fun b o e => ?_, os, bare⟩
        cases q : H b with
        | none => exact un.keep b o e q (by intro z; exact absurd (show b ∈ ([] : List Addr) from z) (by simp)) (by simp)
        | some u =>
          rcases hO b with z | ⟨ob, xs, z⟩
          · rw [q] at z; cases z
          · have z2 := un.frzs b ob _ z
            obtain ⟨e1, _⟩ := hok b _ z
            obtain ⟨e2, _⟩ := hok' b _ z2
            rw [e] at e1; cases e1
            exact e2
  cases hk : K.lookup a with
  | some o =>
    -- the script is one of the module's own objects
    have e := KX a o hk
    rw [ha] at e
    cases e
    refine core (fun _ => none) (fun _ => .inl rfl) (.inr ⟨_, vs.toArray, _, hk, rfl, rfl, rfl, by rw [List.size_toArray, lenV]; exact hl, by simpa using rv⟩) (fun b u z => by have z' : (none : Option HO) = some u := z; cases z') (fun b z => absurd rfl z) fun z => absurd rfl z
  | none =>
    refine core (fun b => if b = a then some (.frz { cls := .type "list", data := .seq vs.toArray } (.lst (ns.map V.int))) else none) (fun b => ?_) (.inl (.inr ⟨{ cls := .type "list", data := .seq vs.toArray }, if_pos rfl⟩)) (fun b u z => ?_) (fun b z => ?_) fun _ => hk
    · by_cases hb : b = a
      · exact .inr ⟨_, _, if_pos hb⟩
      · exact .inl (if_neg hb)
    · by_cases hb : b = a
      · have z' := (if_pos hb).symm.trans z
        cases z'
        subst hb
        exact ⟨ha, by rw [List.length_map]; exact hl, vs, _, rv, ha⟩
      · have z' := (if_neg hb).symm.trans z
        cases z'
    · by_cases hb : b = a
      · exact hb
      · exact absurd (if_neg hb) z
end L2

namespace L2
open PySem PySem.Spec PyProof.Rows

abbrev KOf {K : PySem.W.Frag} {h : Heap} (_ : K.In h) : PySem.W.Frag := K

/-- the goal that k_head leaves (case hc), from the law's promise. F gives the function object fd (K's own) once, then the promise over every base -/
theorem walk_of {l : PySem.W.OpenLaw} {n k : Nat} {q : Program} {loose : List Str} {XP : (Str → Option Value) → Heap → Prop} {YP : World → Heap → Prop} {d : DefRec} {K : Params → PySem.W.Frag} {CX : World → CXT} {sp : World → Sp} {x : Str}
    (hn : l.most = some n) (hn2 : n ≤ sizeLine) (hdf : d.params.defaults = []) (hr : Room k callerA)
    (hY : ∀ (w : World) (h : Heap), YP w h → (K w.params).In h)
    (F : ∀ (w : World) (mg : Str → Option Value) (fa : Addr) (h : Heap), (K w.params).In h → h.Ns mainGlobals mg → mg d.name = some (.ref fa) →
      ∃ fd : FuncData, (∀ (s : Shared) (u : Value), BindsTo s fd ⟨[u], []⟩ [(x, u)]) ∧
        ∀ base : Heap, (K w.params).In base → base.Ns mainGlobals mg → FnOk l.prog w (K w.params) mg base (CX w) k fa fd [x] (sp w))
    (hsp : ∀ (w : World) (H : Hp) (a : Addr) (ns : List Int), ns.length ≤ n → Only H → SqL (K w.params) H a (ns.map V.int) → sp w [.ref a] H (fun v _ => v = .bl true) fun _ _ _ => False)
    (hCX : ∀ (w : World) (H : Hp) (s : Shared) (e : Value) (s' : Shared), CX w [] H s (fun _ _ _ => False) e s' → False) :
    PySem.W.WalkO q loose XP YP l.row.toRowW d [] (fun f vs => PySem.call f vs) := by
  refine Att.attach_call hn hdf fun w s₀ s₁ mg mb fa o pm cd doc a vs ns G Y ho hd hcd hmg hobj hints hlen hg => ?_
  have KX := hY w _ Y
  obtain ⟨fd, hb, hF⟩ := F w mg fa _ KX G.T.g hmg
  exact law_call KX G.T.g G.T.b G.T.builtins G.T.nolimit hg hobj hints (Nat.le_trans hlen hn2) hr hF hb (fun H hO hS => hsp w H a ns hlen hO hS) fun H e s' => hCX w H s₁ e s'
end L2

/- THE LAST THEOREM (shape; LID, My.* are yours):
   My.Adr: a structure of the addresses that your layer names (classes, functions); My.Txt K t: a structure (Prop) of the equations over K;
   My.txt_mk : {K} {implicit addresses ..} (e1 : nsIn K mainGlobals "law" = some (some (.ref f))) (e2 : K.lookup f = some ⟨oc, od, .func (fnOf "law" "law" params body scope dV kV doc pm an cdv ct), sl⟩) (e3 : codeIn K cdv "law" = true) .. : ∃ t, My.Txt K t

set_option maxRecDepth 100000 in
set_option maxHeartbeats 0 in
theorem PySem.Challenge.cw_LID_holds : PySem.Challenge.rw_LID.Holds := by
  w_on; o_law; k_head; (case hw => w_witness2)
  k_fill
  refine L2.walk_of (l := PySem.Challenge.rw_LID) (n := 63) (k := 40) (x := "script") (CX := fun w => ..) (sp := fun _ => My.sp_law) rfl (by decide) rfl ⟨rfl, by decide, by decide⟩ (fun w h Y => PySem.W.kIn_of Y) ?F ?S ?C
  case F =>
    intro w mg fa h KX G hmg
    have T : ∃ t, My.Txt (L2.KOf KX) t := by
      dsimp only [L2.KOf]                          -- K must stand as «<heap const> w.params» for k_is
      refine' My.txt_mk ?e1 ?e2 ?e3 ..
      (case e1 => PySem.W.k_is)                    -- in the order: a name -> its address -> its object -> its parts
      (case e2 => PySem.W.k_is)
      ..
    obtain ⟨t, T⟩ := T
    have e0 := hmg.symm.trans (PySem.W.mg_of KX G T.law)
    cases e0                                       -- fa is the law's own address
    exact ⟨_, fun s u => .of_eq rfl, fun base kb nb => My.law_fn T kb nb⟩     -- if «.of_eq rfl» comes too early: refine' ⟨_, ?b, fun base kb nb => My.law_fn T kb nb⟩; exact fun s u => .of_eq rfl
  case S => exact fun w H a ns hl hO hS => ..
  case C => exact ..
(the tactic k_is has no namespace: write k_is) -/

/-! SHORT WORDS over the layer: a def of the text, its body, what a loop and a test want. -/
namespace L2
open PySem PySem.Spec PyProof.Rows

/-! ### the text by places -/
def defArgs (s : Stmt) : Arguments := match s with
  | .FunctionDef _ a _ _ _ _ _ _ _ _ => a
  | _ => { posonlyargs := [], args := [], vararg := none, kwonlyargs := [], kw_defaults := [], kwarg := none, defaults := [] }
def defBody (s : Stmt) : List Stmt := match s with
  | .FunctionDef _ _ b _ _ _ _ _ _ _ => b
  | _ => []
def defScope (s : Stmt) : Scope := match s with
  | .FunctionDef _ _ _ _ _ _ sc _ _ _ => sc
  | _ => { kind := .function, names := [], isGenerator := false, isCoroutine := false }

/-! ### no exception leaves a def -/
abbrev CX0 : CXT := fun _ _ _ _ _ _ => False
abbrev E0 : XK := fun _ _ _ => False
theorem pass0 {X : Cx} : Passes CX0 X E0 := fun _ _ _ _ _ _ _ h => h.elim

/-! ### a def (or method) of the text as it stands behind the top -/
structure Fun (K : PySem.W.Frag) (x qual : Str) (st : Stmt) (f : Addr) (fd : FuncData) : Prop where
  ex : ∃ (oc : Value) (od : Option Addr) (kV doc pm : Value) (an : Option Addr) (cdv ct : Value) (osl : Array (Option Value)),
    fd = PySem.W.fnOf x qual (defArgs st) (defBody st) (defScope st) .none kV doc pm an cdv ct ∧ K.lookup f = some ⟨oc, od, .func fd, osl⟩ ∧ PySem.W.codeIn K cdv qual = true
  kp : PySem.W.keepIn K (.ref f) = true
section
variable {P : Program} {w : World} {K : PySem.W.Frag} {mg : Str → Option Value} {base : Heap}
/-- THE RULE for a def: its body as a term of rules, and the reading of that term -/
theorem Fun.ok {x qual : Str} {st : Stmt} {f : Addr} {fd : FuncData} {N ps : List Str} {k : Nat} {sp : Sp} (F : Fun K x qual st f fd) (S : FnScope N ps (defScope st)) (len : ∀ vs H Q E, sp vs H Q E → vs.length = ps.length)
    (hbody : ∀ (cdv : Value) (A : Around) (outer : List Env) (s : Shared) (H : Hp) (vs : List V) (Q : VK) (E : XK), Room k (A.deeper (envOfC qual (defScope st) s.heap.objs.size f cdv)) → sp vs H Q E →
      ∃ t, PSs (cxOf CX0 P w K mg base N qual (defScope st) f cdv A outer s H E).nox (defBody st) t ∧ t { nx := fun _ H' => Q .non H', rt := Q } (start N vs) H) : FnOk P w K mg base CX0 (k + 1) f fd ps sp := by
  obtain ⟨oc, od, kV, doc, pm, an, cdv, ct, osl, rfl, lk, hcd⟩ := F.ex
  refine fn_of lk hcd S len fun A outer s H vs Q E hr hsp => ?_
  obtain ⟨t, h, q⟩ := hbody cdv A outer s H vs Q E hr hsp
  exact ⟨t, h.nox, q⟩
/-- how its arguments bind (no defaults): h is «fun _ _ _ _ _ _ us hl => match us, hl with | [_, _], _ => rfl», one _ a parameter -/
theorem Fun.binds {x qual : Str} {st : Stmt} {f : Addr} {fd : FuncData} {ps : List Str} (F : Fun K x qual st f fd)
    (h : ∀ (kV doc pm : Value) (an : Option Addr) (cdv ct : Value) (us : List Value), us.length = ps.length → bindArgs (PySem.W.fnOf x qual (defArgs st) (defBody st) (defScope st) .none kV doc pm an cdv ct) ⟨us, []⟩ = pure (ps.zip us)) : Binds K fd ps [] := by
  obtain ⟨oc, od, kV, doc, pm, an, cdv, ct, osl, rfl, lk, hcd⟩ := F.ex
  exact .all (h kV doc pm an cdv ct)
theorem fun_mk {x qual : Str} {st : Stmt} {f : Addr} {oc : Value} {od an : Option Addr} {osl : Array (Option Value)} {kV doc pm cdv ct : Value} (l : K.lookup f = some ⟨oc, od, .func (PySem.W.fnOf x qual (defArgs st) (defBody st) (defScope st) .none kV doc pm an cdv ct), osl⟩)
    (c : PySem.W.codeIn K cdv qual = true) (k : PySem.W.keepIn K (.ref f) = true) : Fun K x qual st f (PySem.W.fnOf x qual (defArgs st) (defBody st) (defScope st) .none kV doc pm an cdv ct) := ⟨⟨oc, od, kV, doc, pm, an, cdv, ct, osl, rfl, l, c⟩, k⟩
end
theorem hu_of {A : Around} {k : Nat} (hr : Room k A) : A.units + 1 < cLine := Nat.lt_of_le_of_lt (Nat.add_le_add_left (by decide : 1 ≤ 64) _) hr.units
theorem small1000 {n : Nat} (h : n ≤ 1000) : n < sizeLine := Nat.lt_of_le_of_lt h (by decide)

/-! ### expressions in short: the name that stands in the i-th slot -/
section
variable {X : Cx}
theorem pv (i : Nat) {x : Str} {pos : Pos} (hN : X.N[i]? = some x := by rfl) (hv : Vis X.env.scope x := by first | exact Or.inl rfl | exact Or.inr (Or.inl rfl) | exact Or.inr (Or.inr rfl)) (hd : (x == ("__debug__" : Str)) = false := by decide)
    (hcd : (x == ("__classdict__" : Str)) = false := by decide) : PE X (.Name x pos) (tVar i) := pe_var hN hv hd hcd
end

/-! ### tests -/
theorem iteF {A B : Prop} (h : B) : if false = true then A else B := by
  rw [if_neg Bool.false_ne_true]
  exact h
theorem iteT {A B : Prop} (h : A) : if true = true then A else B := by
  rw [if_pos rfl]
  exact h
theorem ite2 {c A B : Prop} [Decidable c] (h1 : c → A) (h2 : ¬ c → B) : if c then A else B := by
  by_cases h : c
  · rw [if_pos h]
    exact h1 h
  · rw [if_neg h]
    exact h2 h
theorem iteNS {c A B : Prop} [Decidable c] (hc : c) (h : B) : if (!decide c) = true then A else B := by
  rw [decide_eq_true hc]
  exact iteF h

/-! ### heaps -/
/-- all that was tracked is as it was -/
def Same (H H' : Hp) : Prop := ∀ b o, H b = some o → H' b = some o
theorem Same.refl (H : Hp) : Same H H := fun _ _ h => h
theorem Same.trans {H H1 H2 : Hp} (a : Same H H1) (b : Same H1 H2) : Same H H2 := fun c o h => b c o (a c o h)
theorem Same.free {H H' : Hp} (e : Same H H') {l : Addr} (h : H' l = Option.none) : H l = Option.none := by
  cases q : H l with
  | none => rfl
  | some o =>
    rw [e l o q] at h
    cases h
theorem Same.seq {K : PySem.W.Frag} {H H' : Hp} {a : Addr} {xs : List V} (e : Same H H') (h : SqL K H a xs) : SqL K H' a xs := by
  rcases h with (h | ⟨o, h⟩) | h
  · exact .inl (.inl (e _ _ h))
  · exact .inl (.inr ⟨o, e _ _ h⟩)
  · exact .inr h

end L2

set_option Elab.async false
set_option linter.all false
set_option maxRecDepth 100000
set_option maxHeartbeats 4000000
namespace L2
open PySem PySem.Spec PyProof.Rows

/-! ### a list comprehension of one clause -/
theorem compLoop_go {prog : Program} {w : World} {A : Around} {R : Result → Shared → Prop} {s : Shared} {elt target iter : Expr} {ifs : List Expr} {scope : Scope} {pos : Pos} {it acc : Value} {env : Env} (I : Nat → Shared → Prop)
    (turn : ∀ n s, I n s → wpAny (model prog w) A (pyNext it) (fun r s1 => match r with
      | none => R (.ok .next) s1
      | some v => wpAny (model prog w) A (letOwnedTupleGo target it v) (fun _ s2 => wpAny (model prog w) A (assign target env v) (fun _ s3 =>
          wpAny (model prog w) A (forIn ifs true fun c r => if r = true then do let ok ← isTrue c env (eval c env); pure (ForInStep.yield ok) else pure (ForInStep.yield r)) (fun ok s4 =>
            if ok = true then wpAny (model prog w) A (eval elt env) (fun x s5 =>
              wpAny (model prog w) A (call (.builtin "list.append") [acc, x]) (fun _ s6 => ∃ m, m < n ∧ I m s6) (fun _ _ => False) s5) (fun _ _ => False) s4
            else ∃ m, m < n ∧ I m s4) (fun _ _ => False) s3) (fun _ _ => False) s2) (fun _ _ => False) s1) (fun _ _ => False) s)
    (n : Nat) (h : I n s) : codeAny (model prog w) A (.compLoop (.ListComp elt [⟨target, iter, ifs, 0⟩] scope pos) 0 it acc env) R s := by
  refine codeAny_loop rfl I (fun n s hI => ?_) n h
  show wpAny _ A ((compTurn (.ListComp elt [⟨target, iter, ifs, 0⟩] scope pos) 0 it acc env).onRaise (fun x => do noteFrame x env; theTreesLotGoes x)) _ _ s
  refine wpAny_noted ?_
  rw [compTurn_list]
  refine wpAny_bind (wpAny_standAt (wpAny_bind (wpAny_mono (turn n s hI) (fun r s1 h1 => ?_) fun _ _ z => z.elim)))
  cases r with
  | none => exact wpAny_pure h1
  | some v =>
    refine wpAny_bind (wpAny_mono h1 (fun _ s2 h2 => ?_) fun _ _ z => z.elim)
    refine wpAny_bind (wpAny_mono h2 (fun _ s3 h3 => wpAny_bind (wpAny_mono h3 (fun ok s4 h4 => ?_) fun _ _ z => z.elim)) fun _ _ z => z.elim)
    cases ok with
    | false => exact wpAny_pure ⟨rfl, h4⟩
    | true =>
      exact wpAny_bind (wpAny_bind (wpAny_mono h4 (fun x s5 h5 => wpAny_bind (wpAny_mono h5 (fun _ s6 h6 => wpAny_pure (wpAny_pure ⟨rfl, h6⟩)) fun _ _ z => z.elim)) fun _ _ z => z.elim))

/-- the clause's tests -/
def PTs (X : Cx) (ifs : List Expr) (t : TT) : Prop :=
  ∀ (pins : List (Addr × Obj)) (s : Shared) (σ : St) (H : Hp) (Q : Bool → Hp → Prop), Inv X pins σ H s → t σ H Q →
    wpAny (model X.prog X.w) X.A (forIn ifs true fun c r => if r = true then do let ok ← isTrue c X.env (eval c X.env); pure (ForInStep.yield ok) else pure (ForInStep.yield r)) (TP X pins σ Q) X.xe s
def tNoIf : TT := fun _ H Q => Q true H
theorem pts_nil {X : Cx} : PTs X [] tNoIf := fun _ _ _ H _ I h => wpAny_tests_nil ⟨H, I, h⟩
theorem pts_one {X : Cx} {c : Expr} {t : TT} (hc : PT X c t) : PTs X [c] t := fun pins s σ H Q I h => wpAny_tests_one (hc pins s σ H Q I h)

/-- closureFor picks the cells of the frame around -/
theorem cells_for (env : Env) (g : (Str × NameKind) → List (Str × Addr) → Sem (ForInStep (List (Str × Addr)))) (hg : ∀ x cs, g x cs = if (x.2 == NameKind.free) = true then cellOf env x.1 >>= fun c => pure (ForInStep.yield ((x.1, c) :: cs)) else pure (ForInStep.yield cs)) :
    ∀ (names : List (Str × NameKind)) (cs : List (Str × Addr)), (∀ y ∈ names, y.2 = .free → ∃ c, env.cells.lookup y.1 = some c) → (∀ x c, cs.lookup x = some c → env.cells.lookup x = some c) →
    ∃ cl, forIn names cs g = pure cl ∧ (∀ x c, cl.lookup x = some c → env.cells.lookup x = some c) ∧ (∀ x, (x, NameKind.free) ∈ names ∨ (∃ c, cs.lookup x = some c) → ∃ c, cl.lookup x = some c) := by
  intro names
  induction names with
  | nil =>
    intro cs _ hcs
    exact ⟨cs, rfl, hcs, fun x h => h.elim (fun z => nomatch z) id⟩
  | cons y r ih =>
    intro cs hfr hcs
    obtain ⟨n, k⟩ := y
    by_cases hk : k = .free
    · subst hk
      obtain ⟨c, hc⟩ := hfr (n, .free) List.mem_cons_self rfl
      obtain ⟨cl, e, h1, h2⟩ := ih ((n, c) :: cs) (fun z hz => hfr z (List.mem_cons_of_mem _ hz)) (fun x c' hx => by
        by_cases hxn : x = n
        · subst hxn; simp [List.lookup_cons] at hx; rw [hc, hx]
        · have : (x == n) = false := by simpa using hxn
          simp [List.lookup_cons, this] at hx; exact hcs x c' hx)
      refine ⟨cl, ?_, h1, fun x hx => h2 x ?_⟩
      · rw [List.forIn_cons, hg]
        simp only [beq_self_eq_true, if_true]
        have ec : cellOf env n = pure c := by unfold cellOf; rw [hc]
        rw [ec]
        simpa using e
      · rcases hx with hx | ⟨c', hx⟩
        · rcases List.mem_cons.mp hx with z | z
          · cases z; exact .inr ⟨c, by simp [List.lookup_cons]⟩
          · exact .inl z
        · refine .inr ?_
          by_cases hxn : x = n
          · subst hxn; exact ⟨c, by simp [List.lookup_cons]⟩
          · have : (x == n) = false := by simpa using hxn
            exact ⟨c', by simpa [List.lookup_cons, this] using hx⟩
    · obtain ⟨cl, e, h1, h2⟩ := ih cs (fun z hz => hfr z (List.mem_cons_of_mem _ hz)) hcs
      refine ⟨cl, ?_, h1, fun x hx => h2 x ?_⟩
      · rw [List.forIn_cons, hg]
        have : (k == NameKind.free) = false := by simpa using hk
        simp only [this, Bool.false_eq_true, if_false]
        simpa using e
      · rcases hx with hx | hx
        · rcases List.mem_cons.mp hx with z | z
          · cases z; exact absurd rfl hk
          · exact .inl z
        · exact .inr hx
theorem closure_of {scope : Scope} {env : Env} (hfr : ∀ y ∈ scope.names, y.2 = .free → ∃ c, env.cells.lookup y.1 = some c) :
    ∃ cl, closureFor scope env = pure cl ∧ (∀ x c, cl.lookup x = some c → env.cells.lookup x = some c) ∧ ∀ x, (x, NameKind.free) ∈ scope.names → ∃ c, cl.lookup x = some c := by
  obtain ⟨cl, e, h1, h2⟩ := cells_for env _ (fun x cs => rfl) scope.names [] hfr (fun x c h => by simp at h)
  refine ⟨cl, ?_, h1, fun x hx => h2 x (.inl hx)⟩
  unfold closureFor
  simp only [bind_pure]
  refine Eq.trans ?_ e
  congr 1

/-- the block's context -/
def Cx.comp (X : Cx) (N : List Str) (scope : Scope) (cl : List (Str × Addr)) (s : Shared) (H : Hp) (fp : List Addr) (C : Addr) : Cx :=
  { X with N := N, s₀ := s, H₀ := H, env := compEnvC scope cl C X.env, outer := X.stack, stack := X.stack, ex := fp, fn := fun _ => false, pn := [], xe := fun _ _ => False }
/-- the block's slots: the names it closes over have their places (in the frame around), the others none -/
def inner (im : List (Option Nat)) (σ : St) : St := im.map fun o => match o with
  | none => none
  | some i => (σ[i]?).getD none
def CompAt (im : List (Option Nat)) (g : TG) (tc : TT) (te : TE) (σ : St) (Q : VK) (J : It) (H1 : Hp) : Prop := ∃ W : Nat → Nat → List V → Hp → Prop, (∃ m, W 0 m [] H1) ∧ ∀ i m ys H, W i m ys H →
  ys.length ≤ sizeLine ∧ ((J.stop i H ∧ ∀ D, H D = none → Q (.ref D) (upd H D (.lst ys))) ∨
    (J.go i H ∧ ∀ x H', J.yld i H x H' → g x (inner im σ) H' fun σ2 H2 => tc σ2 H2 fun b H3 =>
      if b = true then te σ2 H3 fun y H4 => ∃ m', m' < m ∧ W (i + 1) m' (ys ++ [y]) H4 else ∃ m', m' < m ∧ W (i + 1) m' ys H3))
def tComp (im : List (Option Nat)) (wi : TI) (g : TG) (tc : TT) (te : TE) : TE := fun σ H Q => wi σ H (CompAt im g tc te σ Q)

theorem lookup_relabel_free {env : Env} : ∀ {names : List (Str × NameKind)} {x : Str}, names.lookup x = some .free →
    (names.map fun (n, k) => if (k == NameKind.free && env.scope.kind == .function && env.kindOf n == some .cell) then (n, NameKind.cell) else (n, k)).lookup x = some .cell ∨
    (names.map fun (n, k) => if (k == NameKind.free && env.scope.kind == .function && env.kindOf n == some .cell) then (n, NameKind.cell) else (n, k)).lookup x = some .free
  | [], _, h => by simp at h
  | (n, k) :: r, x, h => by
    have ih := @lookup_relabel_free env r x
    cases hx : x == n with
    | true =>
      simp only [List.lookup_cons, hx] at h
      cases h
      by_cases hc : (NameKind.free == NameKind.free && env.scope.kind == .function && env.kindOf n == some .cell) = true
      · left; rw [List.map_cons]; simp only [if_pos hc, List.lookup_cons, hx]
      · right; rw [List.map_cons]; simp only [if_neg hc, List.lookup_cons, hx]
    | false =>
      simp only [List.lookup_cons, hx] at h
      rw [List.map_cons]
      by_cases hc : (k == NameKind.free && env.scope.kind == .function && env.kindOf n == some .cell) = true
      · simp only [if_pos hc, List.lookup_cons, hx]; exact ih h
      · simp only [if_neg hc, List.lookup_cons, hx]; exact ih h
theorem relabel_inv {env : Env} : ∀ {names : List (Str × NameKind)} {x : Str} {k : NameKind},
    (names.map fun (n, k) => if (k == NameKind.free && env.scope.kind == .function && env.kindOf n == some .cell) then (n, NameKind.cell) else (n, k)).lookup x = some k → (k = .cell ∨ k = .free) → (∀ y ∈ names, y.2 ≠ NameKind.cell) → (x, NameKind.free) ∈ names
  | [], _, _, h, _, _ => by simp at h
  | (n, k0) :: r, x, k, h, hk, hc => by
    rw [List.map_cons] at h
    have ih := @relabel_inv env r x k
    by_cases hcc : (k0 == NameKind.free && env.scope.kind == .function && env.kindOf n == some .cell) = true
    · simp only [if_pos hcc, List.lookup_cons] at h
      have hk0 : k0 = .free := by simp at hcc; exact hcc.1.1
      cases hx : x == n with
      | true => have e : x = n := by simpa using hx
                subst e; subst hk0; exact List.mem_cons_self
      | false => simp only [hx] at h; exact List.mem_cons_of_mem _ (ih h hk fun y hy => hc y (List.mem_cons_of_mem _ hy))
    · simp only [if_neg hcc, List.lookup_cons] at h
      cases hx : x == n with
      | true =>
        simp only [hx] at h
        cases h
        have e : x = n := by simpa using hx
        subst e
        rcases hk with z | z
        · exact absurd z (hc (x, k0) List.mem_cons_self)
        · subst z; exact List.mem_cons_self
      | false => simp only [hx] at h; exact List.mem_cons_of_mem _ (ih h hk fun y hy => hc y (List.mem_cons_of_mem _ hy))

section
variable {X : Cx} {N : List Str} {scope : Scope} {cl : List (Str × Addr)} {fp : List Addr} {C : Addr}
theorem Cx.comp_ok {pins : List (Addr × Obj)} {σ : St} {H : Hp} {s : Shared} (I : Inv X pins σ H s) (hkind : scope.kind = .function) (hcell : ∀ y ∈ scope.names, y.2 ≠ .cell)
    (h1 : ∀ x c, cl.lookup x = some c → X.env.cells.lookup x = some c) (h2 : ∀ x, (x, NameKind.free) ∈ scope.names → ∃ c, cl.lookup x = some c)
    (hf : ∀ b ∈ fp, FpOk X pins H b) (hC : s.heap.objs.size ≤ C) (hfs : ∀ b ∈ fp, b < C) : (X.comp N scope cl s H fp C).Ok where
  mod := I.ok.mod
  kind := hkind
  glob := I.ok.glob
  blt := I.ok.blt
  above := hC
  inj := fun x y c a b => I.ok.inj x y c (h1 x c a) (h1 y c b)
  has := fun x hx => by
    refine h2 x ?_
    rcases hx with hx | hx
    · exact relabel_inv hx (.inl rfl) hcell
    · exact relabel_inv hx (.inr rfl) hcell
  cab := fun x c z => nomatch z
  hd := I.ok.hd
  frames := I.ok.frames
  stk := .inl rfl
  exf := fun b hb => ⟨Nat.ne_of_lt (hfs b hb), fun x c e => (hf b hb).2.2.2.2.1 x c (h1 x c e)⟩
  bs := I.bs
  bsz := Nat.le_trans I.ok.bsz (Nat.le_trans I.ok.above (Nat.le_of_lt I.lt))
  noex := fun b o e hb => by
    obtain ⟨_, _, _, z, _⟩ := hf b hb
    rcases z with z | z
    · exact I.ok.noex b o e z
    · exact absurd (Nat.lt_of_lt_of_le (Heap.lt_size (I.ok.bs b o e).1) z) (Nat.lt_irrefl _)
  exfs := fun b hb hs => by
    obtain ⟨_, z1, z2, _⟩ := hf b hb
    rcases List.mem_cons.mp (I.stkSub b hs) with z | z
    · exact z1 z
    · exact z2 z
  funs := I.stack
  frf := I.stkFree

/-- a cell that stood at the block's entry stands -/
theorem Inv.cellK {pins : List (Addr × Obj)} {σ : St} {H H0 : Hp} {s s0 : Shared} (I : Inv (X.comp N scope cl s0 H0 fp C) pins σ H s) {pins0 : List (Addr × Obj)} {σ0 : St} (I0 : Inv X pins0 σ0 H0 s0)
    (h1 : ∀ x c, cl.lookup x = some c → X.env.cells.lookup x = some c) (hf : ∀ b ∈ fp, FpOk X pins0 H0 b) {x : Str} {c : Addr} (hc : cl.lookup x = some c) {v : Option Value} (q : s0.heap.IsCell c v) : s.heap.IsCell c v := by
  obtain ⟨o, e, d⟩ := q
  have hx := h1 x c hc
  have nf : c ∉ fp := fun z => (hf c z).2.2.2.2.1 x c hx rfl
  obtain ⟨sl, e'⟩ := I.base.any (show s0.heap.get? c = some o from e) (I0.freeC x c hx) nf
  exact ⟨_, e', d⟩
/-- the block's slots as at its entry -/
theorem Inv.reset {pins : List (Addr × Obj)} {σ : St} {H H0 : Hp} {s s0 : Shared} {im : List (Option Nat)} (I : Inv (X.comp N scope cl s0 H0 fp C) pins σ H s) {pins0 : List (Addr × Obj)} {σ0 : St} (I0 : Inv X pins0 σ0 H0 s0)
    (h1 : ∀ x c, cl.lookup x = some c → X.env.cells.lookup x = some c) (h2 : ∀ x, (x, NameKind.free) ∈ scope.names → ∃ c, cl.lookup x = some c) (hf : ∀ b ∈ fp, FpOk X pins0 H0 b) (hl : N.length = im.length)
    (him : ∀ (i : Nat) (x : Str) (j : Nat), N[i]? = some x → im[i]? = some (some j) → X.N[j]? = some x ∧ scope.names.lookup x = some .free ∧ (x, NameKind.free) ∈ scope.names ∧ (X.env.kindOf x = some .cell ∨ X.env.kindOf x = some .free)) :
    Inv (X.comp N scope cl s0 H0 fp C) pins (inner im σ0) H s := by
  refine ⟨I.ok, I.os, I.bare, I.base, ?_, I.cell, I.free, I.freeC, I.pin, I.hok, ?_⟩
  · obtain ⟨m, hn, _⟩ := I.loc
    refine ⟨m, hn, fun i x v e1 e2 _ => ?_⟩
    unfold inner at e2
    rw [List.getElem?_map] at e2
    cases q : im[i]? with
    | none => rw [q] at e2; cases e2
    | some o =>
      rw [q] at e2
      cases o with
      | none => cases e2
      | some j =>
        have e2' : (σ0[j]?).getD none = some v := by simpa using e2
        obtain ⟨a1, a2, a3, a4⟩ := him i x j e1 q
        have e3 : σ0[j]? = some (some v) := by
          cases z : σ0[j]? with
          | none => rw [z] at e2'; cases e2'
          | some w => rw [z] at e2'; simp at e2'; rw [e2']
        have vis : Vis X.env.scope x := .inr a4
        obtain ⟨m0, hn0, hl0⟩ := I0.loc
        obtain ⟨u, ru, lk⟩ := hl0 j x v a1 e3 vis
        refine ⟨u, ru, ?_⟩
        rcases lk with ⟨k, _⟩ | ⟨_, c, hc, q⟩
        · rcases a4 with a4 | a4 <;> (rw [a4] at k; cases k)
        · obtain ⟨c', hc'⟩ := h2 x a3
          have : c' = c := by have := h1 x c' hc'; rw [hc] at this; exact (Option.some.inj this).symm
          subst this
          refine .inr ⟨lookup_relabel_free a2, c', hc', I.cellK I0 h1 hf hc' q⟩
  · show (im.map _).length = N.length
    rw [List.length_map, hl]
end

section
variable {X : Cx}
theorem comp_core {elt tg iter : Expr} {ifs : List Expr} {scope : Scope} {pos : Pos} {wi : TI} {g : TG} {tc : TT} {te : TE} (N : List Str) (im : List (Option Nat))
    (hi : PI X tg iter wi)
    (hg : ∀ cl s H fp C, PG (X.comp N scope cl s H fp C) tg g)
    (ht : ∀ cl s H fp C, PTs (X.comp N scope cl s H fp C) ifs tc)
    (he : ∀ cl s H fp C, PE (X.comp N scope cl s H fp C) elt te)
    (hc : X.calm = true := by rfl) (hkind : scope.kind = .function := by rfl) (hcell : ∀ y ∈ scope.names, y.2 ≠ .cell := by decide +kernel)
    (hnames : ∀ y ∈ scope.names, y.2 = .local → scope.names.lookup y.1 = some .local := by decide +kernel)
    (hfree : (scope.names.all fun y => y.2 != .free || (X.env.kindOf y.1 == some .cell || X.env.kindOf y.1 == some .free)) = true := by rfl)
    (hl : N.length = im.length := by rfl)
    (him : ((N.zip im).all fun p => match p.2 with
      | none => true
      | some j => X.N[j]? == some p.1 && scope.names.lookup p.1 == some .free) = true := by rfl)
    (hs : ∀ x, foldedSetIterable iter X.env x = pure x := by intro _; rfl)
    {use : Option (Value → Sem Unit)} {QQ : Value → Shared → Prop} {pins : List (Addr × Obj)} {s : Shared} {σ : St} {H : Hp} {Q : VK} {pos2 : Pos} (I : Inv X pins σ H s) (h : tComp im wi g tc te σ H Q)
    (fin : ∀ (s4 : Shared) (m : Str → Option Value) (C D : Addr) (H4 : Hp), s4.heap.Ns C m → (∀ h', Heap.SameBut C s4.heap h' → Inv X pins σ H4 { s4 with heap := h' }) → H4 C = none → C ≠ X.env.locals → C ∉ X.fs → (∀ x c, X.env.cells.lookup x = some c → c ≠ C) → (∀ p ∈ X.pn ++ pins, C ≠ p.1) → X.s₀.heap.objs.size ≤ C → Q (.ref D) H4 →
      compPost (model X.prog X.w) X.A X.xe use QQ (.ref D) C (.ok .next) s4) :
    wpAny (model X.prog X.w) X.A (comprehension (.ListComp elt [⟨tg, iter, ifs, 0⟩] scope pos) scope X.env pos2 (newList []) false (eval iter X.env) use) QQ X.xe s := by
  have hfree' : ∀ y ∈ scope.names, y.2 = .free → (X.env.kindOf y.1 = some .cell ∨ X.env.kindOf y.1 = some .free) := fun y hy hyf => by
    have := List.all_eq_true.mp hfree y hy
    simpa [hyf] using this
  obtain ⟨cl, hclos, h1, h2⟩ := closure_of (scope := scope) (env := X.env) fun y hy hyf => I.ok.has y.1 (hfree' y hy hyf)
  have him' : ∀ (i : Nat) (x : Str) (j : Nat), N[i]? = some x → im[i]? = some (some j) → X.N[j]? = some x ∧ scope.names.lookup x = some .free ∧ (x, NameKind.free) ∈ scope.names ∧ (X.env.kindOf x = some .cell ∨ X.env.kindOf x = some .free) := fun i x j e1 e2 => by
    have hm : (x, some j) ∈ N.zip im := by
      refine List.mem_iff_getElem?.mpr ⟨i, ?_⟩
      rw [List.getElem?_zip_eq_some]; exact ⟨e1, e2⟩
    have z := List.all_eq_true.mp him _ hm
    simp at z
    have m : (x, NameKind.free) ∈ scope.names := by
      have lk := z.2
      clear z hm
      revert lk
      generalize scope.names = ns
      induction ns with
      | nil => intro lk; simp at lk
      | cons y r ih =>
        intro lk
        obtain ⟨n, k⟩ := y
        cases hx : x == n with
        | true => simp only [List.lookup_cons, hx] at lk; cases lk; have e : x = n := by simpa using hx
                  subst e; exact List.mem_cons_self
        | false => simp only [List.lookup_cons, hx] at lk; exact List.mem_cons_of_mem _ (ih lk)
    exact ⟨z.1, z.2, m, hfree' _ m rfl⟩
  refine wpAny_comprehension_free (use := use) rfl hs hclos hkind hnames (thn (hi pins s σ H _ I h) fun v s1 hh1 => thn hh1 fun itv s2 hh2 => ?_)
  obtain ⟨it, fp, tn, J, H2, e, I2, T, st2, f2, W, ⟨m0, w0⟩, turn⟩ := hh2
  subst e
  refine wpAny_newObj_type (wpAny_newFunctionEnv hcell (by intro y hy; simp at hy) (fun h₁ hns₁ hsb₁ => ?_) hkind)
  dsimp only at hns₁ hsb₁ ⊢
  have hD : s2.heap.objs.size = s2.heap.objs.size := rfl
  generalize hP : s2.heap.push { cls := .type "list", dict := none, data := .seq ([] : List Value).toArray } = P2 at hns₁ hsb₁ ⊢
  have hCs : P2.objs.size = s2.heap.objs.size + 1 := by rw [← hP, Heap.size_push]
  generalize hC : P2.objs.size = C at hns₁ hsb₁ ⊢
  have hC' : C = s2.heap.objs.size + 1 := by rw [← hC, hCs]
  generalize hDD : s2.heap.objs.size = D at hC' ⊢
  have hCle : s2.heap.objs.size ≤ C := by rw [hDD, hC']; exact Nat.le_succ _
  have hDC : D ≠ C := by rw [hC']; exact Nat.ne_of_lt (Nat.lt_succ_self _)
  have old : ∀ b o, s2.heap.get? b = some o → h₁.get? b = some o := fun b o e =>
    hsb₁.extBut b o (Nat.ne_of_lt (Nat.lt_of_lt_of_le (Heap.lt_size e) hCle)) (Heap.get?_push_of_some _ (hP ▸ Heap.get?_push_of_some _ e))
  have hacc : h₁.get? D = some { cls := .type "list", data := .seq ([] : List Value).toArray 0 } := by
    refine hsb₁.extBut _ _ hDC (Heap.get?_push_of_some _ ?_)
    rw [← hP, ← hDD]
    exact Heap.get?_push_size _ rfl
  have fpl : ∀ b ∈ fp, b < s2.heap.objs.size := fun b hb => by obtain ⟨o, e, _⟩ := T.obj _ _ st2 b hb; exact Heap.lt_size e
  have fpC : ∀ b ∈ fp, b < C := fun b hb => Nat.lt_of_lt_of_le (fpl b hb) hCle
  have fpD : ∀ b ∈ fp, b ≠ D := fun b hb => by have := fpl b hb; rw [hDD] at this; exact Nat.ne_of_lt this
  have Yok : (X.comp N scope cl s2 H2 fp C).Ok := Cx.comp_ok I2 hkind hcell h1 h2 f2 hCle fpC
  -- the block's invariant at its entry
  have IY0 : Inv (X.comp N scope cl s2 H2 fp C) [] (inner im σ) H2 { s2 with heap := h₁, toks := s2.toks + ([] : List (Str × Value)).length } := by
    have I3 : Inv (X.comp N scope cl s2 H2 fp C) [] (N.map fun _ => none) H2 { s2 with heap := h₁, toks := s2.toks + ([] : List (Str × Value)).length } := by
      refine ⟨Yok, rfl, I2.bare, Un.kept old, ⟨_, hns₁, fun i x v e1 e2 _ => ?_⟩, fun x c e => ?_, ?_, fun x c e => I2.freeC x c (h1 x c e), (fun p hp => nomatch hp), I2.hok.kept old, by rw [List.length_map]; rfl⟩
      · rw [List.getElem?_map] at e2
        cases q : N[i]? with
        | none => rw [q] at e2; cases e2
        | some o => rw [q] at e2; cases e2
      · obtain ⟨v, o, q, d⟩ := I2.cell x c (h1 x c e)
        exact ⟨v, o, old _ _ q, d⟩
      · show H2 C = none
        exact I2.hok.fresh hCle
    exact I3.reset I2 h1 h2 f2 hl him'
  have fpok : ∀ {H3 : Hp} {pp : List (Addr × Obj)}, (∀ b ∈ fp, H3 b = none) → (∀ p ∈ pp, p.1 = D) → ∀ b ∈ fp, FpOk (X.comp N scope cl s2 H2 fp C) pp H3 b := fun {H3 pp} hn hp b hb =>
    ⟨hn b hb, Nat.ne_of_lt (fpC b hb), fun z => Yok.exfs b hb z, .inl hb, fun x c e => (f2 b hb).2.2.2.2.1 x c (h1 x c e), fun p hpp => by
      rcases List.mem_append.mp hpp with z | z
      · exact nomatch z
      · rw [hp p z]; exact Ne.symm (fpD b hb)⟩
  have hH2D : H2 D = none := I2.hok.fresh (by rw [hDD]; exact Nat.le_refl _)
  have loop : ∀ s3 : Shared, s3 = { s2 with heap := h₁, toks := s2.toks + ([] : List (Str × Value)).length } →
      codeAny (model X.prog X.w) X.A (.compLoop (.ListComp elt [⟨tg, iter, ifs, 0⟩] scope pos) 0 (.ref it) (.ref D) (compEnvC scope cl C X.env))
        (compPost (model X.prog X.w) X.A X.xe use QQ (.ref D) C) s3 := by
    rintro s3 rfl
    refine compLoop_go (fun k s' => ∃ i ys its n σ' H', Inv (X.comp N scope cl s2 H2 fp C) [] σ' H' s' ∧ tn i s'.heap ∧ (∀ b ∈ fp, H' b = none) ∧ H' D = none ∧ s'.heap.get? D = some { cls := .type "list", data := .seq its n } ∧ Vals ys its.toList ∧ W i k ys H') ?_ m0
      ⟨0, [], _, 0, _, H2, IY0, T.keep _ _ _ st2 (fun b hb o e => old b o e), fun b hb => (f2 b hb).1, hH2D, hacc, .nil, w0⟩
    rintro k s' ⟨i, ys, its, n, σ', H3, I3, st3, fr3, hD3, e3, v3, w3⟩
    have I3' := I3.reset I2 h1 h2 f2 hl him'
    obtain ⟨hsz, alt⟩ := turn i k ys H3 w3
    have hDs : s2.heap.objs.size ≤ D := by rw [hDD]; exact Nat.le_refl _
    have hDfs : D ∉ (X.comp N scope cl s2 H2 fp C).fs := fun z => by
      obtain ⟨_, o, ho, _⟩ := Yok.funs.mem z
      exact absurd (Nat.lt_of_lt_of_le (Heap.lt_size ho) hDs) (Nat.lt_irrefl _)
    have hDc : ∀ x c, cl.lookup x = some c → c ≠ D := fun x c e z => by
      obtain ⟨v, q⟩ := I2.cell x c (h1 x c e)
      exact absurd (Nat.lt_of_lt_of_le q.lt (by rw [z]; exact hDs)) (Nat.lt_irrefl _)
    have I3p : Inv (X.comp N scope cl s2 H2 fp C) [(D, { cls := .type "list", data := .seq its n })] (inner im σ) H3 s' := I3'.pins_of fun p hp => by
      have : p = (D, { cls := .type "list", data := .seq its n }) := by simpa using hp
      subst this
      exact ⟨e3, hD3, hDC, hDfs, fun v z => by cases z⟩
    have onlyD : ∀ p ∈ [((D, { cls := .type "list", data := .seq its n }) : Addr × Obj)], p.1 = D := fun p hp => by
      have : p = (D, { cls := .type "list", data := .seq its n }) := by simpa using hp
      rw [this]
    rcases alt with ⟨stop, q⟩ | ⟨go, step⟩
    · refine thn (T.done (X.comp N scope cl s2 H2 fp C) rfl rfl rfl hc i _ s' _ H3 _ I3p (fpok fr3 onlyD) st3 stop) fun r s4 hh4 => ?_
      obtain ⟨hr, I4⟩ := hh4
      subst hr
      have e4 : s4.heap.get? D = some { cls := .type "list", data := .seq its n } := (I4.pin (D, _) (List.mem_append_right _ (by simp))).1
      obtain ⟨m, hn, _⟩ := I4.loc
      have KK : ∀ h', Heap.SameBut C s4.heap h' → Inv X pins σ (upd H3 D (.lst ys)) { s4 with heap := h' } := fun h' hs' => by
        have keep' : ∀ b o, b ≠ C → s4.heap.get? b = some o → h'.get? b = some o := fun b o hb e => hs'.extBut b o hb e
        have nC : ∀ b o, s2.heap.get? b = some o → b ≠ C := fun b o e => Nat.ne_of_lt (Nat.lt_of_lt_of_le (Heap.lt_size e) hCle)
        have nD : ∀ b o, s2.heap.get? b = some o → b ≠ D := fun b o e => Nat.ne_of_lt (Nat.lt_of_lt_of_le (Heap.lt_size e) hDs)
        have u4 := I4.base
        have un : Un (frs X.stack) fp H2 (upd H3 D (.lst ys)) s2.heap h' := by
          refine ⟨fun b o e nn hb hx => keep' b o (nC b o e) (u4.keep b o e nn hb hx), fun b o e nn hb hx => ?_, fun b o e nn hx => ?_, fun b o e hx => ?_, fun b xs e => ?_, fun b o xs e => ?_, fun b ps e => ?_⟩
          · obtain ⟨sl, z⟩ := u4.slot b o e nn hb hx
            exact ⟨sl, keep' b _ (nC b o e) z⟩
          · rw [upd_ne (nD b o e)]; exact u4.free b o e nn hx
          · obtain ⟨o', z⟩ := u4.there b o e hx
            exact ⟨o', keep' b _ (nC b o e) z⟩
          · rw [upd_ne (ne_of_none (u4.tups b xs e) hD3)]; exact u4.tups b xs e
          · rw [upd_ne (ne_of_none (u4.frzs b o xs e) hD3)]; exact u4.frzs b o xs e
          · obtain ⟨more, z⟩ := u4.tbls b ps e
            exact ⟨more, by rw [upd_ne (ne_of_none z hD3)]; exact z⟩
        have hH3C : H3 C = none := I4.free
        have hok : HOk X.prog X.w (upd H3 D (.lst ys)) h' := fun b o e => by
          by_cases hb : b = D
          · subst hb
            rw [upd_same] at e
            cases e
            refine ⟨hsz, its.toList, n, v3, ?_⟩
            have z := keep' _ _ hDC e4
            simpa using z
          · rw [upd_ne hb] at e
            refine (I4.hok b o e).stay (fun c v hcc z => keep' c v ?_ z) (fun c z => by rw [upd_ne (ne_of_none z hD3)]; exact z) fun c xs z => by rw [upd_ne (ne_of_none z hD3)]; exact z
            rintro rfl
            rcases hcc with z | z
            · rw [← z] at e; rw [hH3C] at e; cases e
            · rw [hH3C] at z; cases z
        refine I2.call' (s' := { s4 with heap := h' }) I4.os un hok I4.bare (fun b hb => ?_)
        obtain ⟨_, g1, _, g2, g3, g4⟩ := f2 b hb
        exact ⟨g2, g1, g3, g4⟩
      have hH3C : H3 C = none := I4.free
      refine fin s4 m C D _ hn KK ?_ ?_ ?_ ?_ ?_ ?_ (q D hD3)
      · rw [upd_ne (Ne.symm hDC)]; exact hH3C
      · exact Ne.symm (Nat.ne_of_lt (Nat.lt_of_lt_of_le I2.lt hCle))
      · exact I2.nofs hCle
      · intro x c e z
        obtain ⟨v, qq⟩ := I2.cell x c e
        exact absurd (Nat.lt_of_lt_of_le qq.lt (by rw [z]; exact hCle)) (Nat.lt_irrefl _)
      · intro p hp z
        have := (I2.pin p hp).1
        exact absurd (Nat.lt_of_lt_of_le (Heap.lt_size this) (by rw [← z]; exact hCle)) (Nat.lt_irrefl _)
      · exact Nat.le_trans I2.sz hCle
    · refine thn (T.item (X.comp N scope cl s2 H2 fp C) rfl rfl rfl hc i _ s' _ H3 _ I3p (fpok fr3 onlyD) st3 go) fun r s4 hh4 => ?_
      obtain ⟨u, hr, hh4⟩ := hh4
      subst hr
      refine thn hh4 fun _ s5 ⟨x, H5, I5, r5, y5, st5, fr5⟩ => ?_
      have I5' := I5.pinned (fpok fr5 onlyD) (T.obj _ _ st5)
      refine thn (hg cl s2 H2 fp C _ s5 _ H5 x u _ I5' r5 (step x H5 y5)) fun _ s6 ⟨σ6, H6, I6, q6⟩ => ?_
      refine thn (ht cl s2 H2 fp C _ s6 σ6 H6 _ I6 q6) fun b s7 ⟨H7, I7, q7⟩ => ?_
      have after : ∀ {s8 : Shared} {σ8 : St} {H8 : Hp}, Inv (X.comp N scope cl s2 H2 fp C) ([(D, { cls := .type "list", data := .seq its n })] ++ pinsAt fp s5.heap) σ8 H8 s8 → tn (i + 1) s8.heap ∧ (∀ b ∈ fp, H8 b = none) ∧ H8 D = none ∧ s8.heap.get? D = some { cls := .type "list", data := .seq its n } := fun {s8 σ8 H8} I8 => by
        refine ⟨T.keep _ _ _ st5 fun b hb o e => (I8.pin (b, o) (List.mem_append_right _ (List.mem_append_right _ (mem_pinsAt hb e)))).1, fun b hb => ?_, ?_⟩
        · obtain ⟨o, e, d⟩ := T.obj _ _ st5 b hb
          exact (I8.pin (b, o) (List.mem_append_right _ (List.mem_append_right _ (mem_pinsAt hb e)))).2.1
        · have z := I8.pin (D, { cls := .type "list", data := .seq its n }) (List.mem_append_right _ (List.mem_append_left _ (by simp)))
          exact ⟨z.2.1, z.1⟩
      cases b with
      | false =>
        rw [if_neg Bool.false_ne_true] at q7 ⊢
        obtain ⟨m', hm, w7⟩ := q7
        obtain ⟨a1, a2, a3, a4⟩ := after I7
        exact ⟨m', hm, i + 1, ys, its, n, σ6, H7, I7.pins_of (fun p hp => nomatch hp), a1, a2, a3, a4, v3, w7⟩
      | true =>
        rw [if_pos rfl] at q7 ⊢
        refine thn (he cl s2 H2 fp C _ s7 σ6 H7 _ I7 q7) fun u8 s8 ⟨y8, H8, I8, r8, m', hm, w8⟩ => ?_
        obtain ⟨a1, a2, a3, a4⟩ := after I8
        have hlen : its.size ≤ sizeLine := by
          have z := v3.length
          have el : its.toList.length = its.size := by simp
          omega
        refine append_at (hsz := hlen) a4 fun h9 hs9 e9 => ?_
        have I9 : Inv (X.comp N scope cl s2 H2 fp C) [] σ6 H8 { s8 with heap := h9, toks := s8.toks } :=
          Inv.turned (I8.pins_of (pins' := []) (fun p hp => nomatch hp)) (fun b o hb e => hs9.extBut b o hb e) a3 hDC (.inr hDs) hDc (fun p hp => by
            rcases List.mem_append.mp hp with z | z <;> exact nomatch z)
        refine ⟨m', hm, i + 1, ys ++ [y8], its.push u8, n + 1, σ6, H8, I9, T.keep _ _ _ a1 (fun b hb o e => hs9.extBut b o (fpD b hb) e), a2, a3, e9, ?_, w8⟩
        rw [Array.toList_push]
        exact Vals.append v3 (.cons r8 .nil)
  exact codeAny_compStart_list (loop _ rfl) (T.self _ 0 _ _ _ (T.keep _ _ _ st2 (fun b hb o e => old b o e)) (loop _ rfl))
theorem pe_comp {elt tg iter : Expr} {ifs : List Expr} {scope : Scope} {pos : Pos} {wi : TI} {g : TG} {tc : TT} {te : TE} (N : List Str) (im : List (Option Nat))
    (hi : PI X tg iter wi)
    (hg : ∀ cl s H fp C, PG (X.comp N scope cl s H fp C) tg g)
    (ht : ∀ cl s H fp C, PTs (X.comp N scope cl s H fp C) ifs tc)
    (he : ∀ cl s H fp C, PE (X.comp N scope cl s H fp C) elt te)
    (hc : X.calm = true := by rfl) (hkind : scope.kind = .function := by rfl) (hcell : ∀ y ∈ scope.names, y.2 ≠ .cell := by decide +kernel)
    (hnames : ∀ y ∈ scope.names, y.2 = .local → scope.names.lookup y.1 = some .local := by decide +kernel)
    (hfree : (scope.names.all fun y => y.2 != .free || (X.env.kindOf y.1 == some .cell || X.env.kindOf y.1 == some .free)) = true := by rfl)
    (hl : N.length = im.length := by rfl)
    (him : ((N.zip im).all fun p => match p.2 with
      | none => true
      | some j => X.N[j]? == some p.1 && scope.names.lookup p.1 == some .free) = true := by rfl)
    (hs : ∀ x, foldedSetIterable iter X.env x = pure x := by intro _; rfl) :
    PE X (.ListComp elt [⟨tg, iter, ifs, 0⟩] scope pos) (tComp im wi g tc te) := by
  intro pins s σ H Q I h
  rw [eval_ListComp]
  exact comp_core N im hi hg ht he hc hkind hcell hnames hfree hl him hs I h fun s4 m C D H4 hn KK _ _ _ _ _ _ q => ⟨m, hn, fun h' hs' => ⟨.ref D, H4, KK h' hs', rfl, q⟩⟩
/-- x = [..], a name of the def's own: the value is stored while the block still stands -/
theorem ps_setC {i : Nat} {y : Str} {elt tg iter : Expr} {ifs : List Expr} {scope : Scope} {pos pos' spos : Pos} {wi : TI} {g : TG} {tc : TT} {te : TE} (hN : X.N.Nodup) (hy : X.N[i]? = some y) (hx : Loc X.env.scope y) (N : List Str) (im : List (Option Nat))
    (hi : PI X tg iter wi)
    (hg : ∀ cl s H fp C, PG (X.comp N scope cl s H fp C) tg g)
    (ht : ∀ cl s H fp C, PTs (X.comp N scope cl s H fp C) ifs tc)
    (he : ∀ cl s H fp C, PE (X.comp N scope cl s H fp C) elt te)
    (hc : X.calm = true := by rfl) (hkind : scope.kind = .function := by rfl) (hcell : ∀ y ∈ scope.names, y.2 ≠ .cell := by decide +kernel)
    (hnames : ∀ y ∈ scope.names, y.2 = .local → scope.names.lookup y.1 = some .local := by decide +kernel)
    (hfree : (scope.names.all fun y => y.2 != .free || (X.env.kindOf y.1 == some .cell || X.env.kindOf y.1 == some .free)) = true := by rfl)
    (hl : N.length = im.length := by rfl)
    (him : ((N.zip im).all fun p => match p.2 with
      | none => true
      | some j => X.N[j]? == some p.1 && scope.names.lookup p.1 == some .free) = true := by rfl)
    (hs : ∀ x, foldedSetIterable iter X.env x = pure x := by intro _; rfl)
    (hsw : swapsWith (.ListComp elt [⟨tg, iter, ifs, 0⟩] scope pos) (some (.Name y pos')) spos.line X.env = pure true := by rfl) (hf : X.fn y = true ∨ X.env.scope.names.lookup y = some .local := by first | exact .inl rfl | exact .inr rfl | assumption) :
    PS X (.Assign [.Name y pos'] (.ListComp elt [⟨tg, iter, ifs, 0⟩] scope pos) spos) (tAsg (tComp im wi g tc te) (gName i)) := by
  intro pins s σ H D0 I h
  rw [exec_Assign_Name_used _ _ _ _ hsw]
  refine wpAny_bind (wpAny_standAt (wpAny_bind ?_))
  show wpAny _ X.A (do let _ ← comprehension (.ListComp elt [⟨tg, iter, ifs, 0⟩] scope pos) scope X.env _ (newList []) false (eval iter X.env) (some (assign (.Name y pos') X.env))) _ _ s
  refine wpAny_bind (wpAny_mono (comp_core (use := some (assign (.Name y pos') X.env)) (QQ := fun _ s' => SP X pins D0 .next s') N im hi hg ht he hc hkind hcell hnames hfree hl him hs I h ?_) (fun _ s' hq => wpAny_pure (wpAny_pure hq)) fun _ _ e => e)
  intro s4 m C D H4 hn KK hC1 hC2 hC3 hC4 hC5 hC6 q
  have I4 : Inv X pins σ H4 s4 := KK s4.heap (Heap.SameBut.refl _ _)
  obtain ⟨o, es, ep, ho, ro⟩ := id hn
  have I5 : Inv X ((C, o) :: pins) σ H4 s4 := I4.pins_of fun p hp => by
    rcases List.mem_cons.mp hp with z | z
    · subst z
      exact ⟨ho, hC1, hC2, hC3, fun v z => by rw [ro.1] at z; cases z⟩
    · exact I4.pin p (List.mem_append_right _ z)
  show wpAny _ X.A (assign (.Name y pos') X.env (.ref D)) _ _ _
  refine wpAny_assign_Name (store_ok I5 hN hy hx (show RelV (.ref D) (.ref D) from rfl) (fun s6 I6 => ?_) hf)
  have p6 := (I6.pin (C, o) (List.mem_append_right _ List.mem_cons_self)).1
  refine ⟨m, hn.at' fun o' e' => ?_, fun h' hs' => ?_⟩
  · rw [ho] at e'; cases e'; exact p6
  · have I7 : Inv X pins _ H4 s6 := I6.pins_of fun p hp => I6.pin p (List.mem_append_right _ (List.mem_cons_of_mem _ hp))
    exact ⟨_, H4, I7.turned (t' := s6.toks) (it := C) (fun b o hb e => hs'.extBut b o hb e) hC1 hC2 (.inr hC6) hC4 (fun p hp => Ne.symm (hC5 p hp)), q⟩
end
end L2

set_option Elab.async false
set_option linter.all false
set_option maxRecDepth 100000
set_option maxHeartbeats 4000000
namespace L2
open PySem PySem.Spec PyProof.Rows
section
variable {X : Cx}
/-! ### texts -/
def rSlS : V → Option Int → Option Int → Hp → VK → Prop := fun x lo hi H Q => ∃ z, x = .str z ∧ z.length ≤ sizeLine ∧ Q (.str (Txt.slice z lo hi)) H
theorem sl_str : SlR X rSlS := by
  intro pins s σ H x v vl vu lo hi sl Q I rx hs pl pu h
  obtain ⟨z, rfl, hz, q⟩ := h
  obtain ⟨t, rfl⟩ := rx
  refine ⟨"str", _, F.slot_str_getitem.lookup, typeIs_str _ _ _, ?_⟩
  have go : ∀ (l u : Option (Int × Tok)), vl = partValue l → vu = partValue u → l.map (·.1) = lo → u.map (·.1) = hi → wpAny (model X.prog X.w) X.A (getItem (.str z t) (.ref sl)) (EP X pins σ Q) X.xe s := by
    intro l u e1 e2 e3 e4
    subst e1 e2 e3 e4
    refine wpAny_getItem_str_slice (l := l) (u := u) (st := none) hs rfl ?_
    unfold sliceMade
    have q' : Q (.str (Txt.slice z (l.map (·.1)) (u.map (·.1)))) H := q
    unfold Txt.slice at q'
    have hlen : ((PySem.slicePicked z l u none).filterMap (z.cps[·]?)).toArray.size ≤ z.length := by
      rw [List.size_toArray]
      refine Nat.le_trans (List.length_filterMap_le _ _) ?_
      exact sliceIndices_le _ _ _
    show Made.post (if ((1 : Int) == 1 && (PySem.slicePicked z l u none).length == z.length) = true then _ else _) _ s
    unfold PySem.slicePicked at hlen ⊢
    simp only [Option.map_none, Option.getD_none] at hlen ⊢
    split
    · rename_i hc
      rw [if_pos hc] at q'
      exact ⟨.str _, H, I, ⟨_, rfl⟩, q'⟩
    · rename_i hc
      rw [if_neg hc] at q'
      exact ⟨Nat.le_trans hlen hz, .str _, H, I.tok _, ⟨_, rfl⟩, q'⟩
  cases pl with
  | none => cases pu with
    | none => exact go none none rfl rfl rfl rfl
    | int j t' => exact go none (some (j, t')) rfl rfl rfl rfl
  | int i t0 => cases pu with
    | none => exact go (some (i, t0)) none rfl rfl rfl rfl
    | int j t' => exact go (some (i, t0)) (some (j, t')) rfl rfl rfl rfl
/-! ### isinstance -/
theorem call_isinst : CallR X (.builtin "isinstance") (fun xs H Q => ∃ x t c b, xs = [x, .ty c] ∧ TyOf X.K H x t ∧ PySem.W.kitOne X.K t (.type c) = some b ∧ Q (.bl b) H) := by
  intro pins s σ H xs us Q I r h
  obtain ⟨x, t, c, b, rfl, ty, e, q⟩ := h
  obtain ⟨u, w', rfl, ru, rw'⟩ := vals2 r
  cases rw'
  exact isinst_ok I ru ty e fun tk => ⟨.bl b, H, I.tok _, rfl, q⟩
theorem isinst_tup {pins : List (Addr × Obj)} {σ : St} {H : Hp} {s : Shared} {A : Around} {E : Value → Shared → Prop} {Q : Value → Shared → Prop} {b : Bool} {x : V} {u t : Value} {tp : Addr} {its : List Value} {dd : Option Addr} {n : Nat} {sl : Array (Option Value)} (I : Inv X pins σ H s) (rx : RelV x u) (ty : TyOf X.K H x t)
    (htp : s.heap.get? tp = some ⟨.type "tuple", dd, .seq its.toArray n, sl⟩) (e : PySem.W.kitAny X.K t its = some b) (h : ∀ tk, Q (.bool b) { s with toks := tk }) :
    wpAny (model X.prog X.w) A (call (.builtin "isinstance") [u, .ref tp]) Q E s := by
  cases ty with
  | non => cases (show u = Value.none from rx); exact PySem.W.kia_tup PySem.W.kitx_none I.kIn True.intro htp e (fun z => nomatch z) h
  | bl y => cases (show u = Value.bool y from rx); exact PySem.W.kia_tup PySem.W.kitx_bool I.kIn True.intro htp e (fun z => nomatch z) h
  | int i => obtain ⟨t, q⟩ := (show ∃ t, u = Value.int i t from rx); cases q; exact PySem.W.kia_tup PySem.W.kitx_int I.kIn True.intro htp e (fun z => nomatch z) h
  | str y => obtain ⟨t, q⟩ := (show ∃ t, u = Value.str y t from rx); cases q; exact PySem.W.kia_tup PySem.W.kitx_str I.kIn True.intro htp e (fun z => nomatch z) h
  | flt y => obtain ⟨t, q⟩ := (show ∃ t, u = Value.float y t from rx); cases q; exact PySem.W.kia_tup PySem.W.kitx_float I.kIn True.intro htp e (fun z => nomatch z) h
  | @lst a xs ea =>
    cases (show u = Value.ref a from rx)
    obtain ⟨_, _, n, _, h1⟩ := (show ObjOk X.prog X.w H s.heap a (.lst xs) from I.hok a _ ea)
    exact PySem.W.kia_tup PySem.W.kitx_list I.kIn ⟨_, h1, rfl⟩ htp e (fun z => nomatch z) h
  | @frz a ob xs ea =>
    cases (show u = Value.ref a from rx)
    obtain ⟨_, _, _, n, _, h1⟩ := (show ObjOk X.prog X.w H s.heap a (.frz ob (.lst xs)) from I.hok a _ ea)
    exact PySem.W.kia_tup PySem.W.kitx_list I.kIn ⟨_, h1, rfl⟩ htp e (fun z => nomatch z) h
  | @tup a xs ea =>
    cases (show u = Value.ref a from rx)
    obtain ⟨_, _, _, p⟩ := (show ObjOk X.prog X.w H s.heap a (.tup xs) from I.hok a _ ea)
    obtain ⟨o, h1, h2, _⟩ := p
    exact PySem.W.kia_tup PySem.W.kitx_tuple I.kIn ⟨o, h1, h2⟩ htp e (fun z => nomatch z) h
  | @dK a kvs ea =>
    cases (show u = Value.ref a from rx)
    obtain ⟨_, _, vs, _, p⟩ := (show ObjOk X.prog X.w H s.heap a (.dK kvs) from I.hok a _ ea)
    obtain ⟨o, es, ep, h1, h2, _⟩ := p
    exact PySem.W.kia_tup PySem.W.kitx_dict I.kIn ⟨o, h1, h2.1⟩ htp e (fun z => nomatch z) h
  | @dT a kvs ea =>
    cases (show u = Value.ref a from rx)
    obtain ⟨_, _, xs, _, o, es, ep, h1, h2, _⟩ := (show ObjOk X.prog X.w H s.heap a (.dT kvs) from I.hok a _ ea)
    exact PySem.W.kia_tup PySem.W.kitx_dict I.kIn ⟨o, h1, h2.1⟩ htp e (fun z => nomatch z) h
  | @ins a C dx fs ea cl ha hn htk hm =>
    cases (show u = Value.ref a from rx)
    obtain ⟨mA, O, _⟩ := ins_get I.hok ea
    obtain ⟨od, J, _⟩ := O.look
    exact PySem.W.kia_tup (PySem.W.kitx_own (cl.get _) cl.hd ha hn htk hm) I.kIn J htp e (fun z => nomatch z) h
theorem tys_of : ∀ {cs : List String} {us : List Value}, Vals (cs.map V.ty) us → us = cs.map Value.type
  | [], _, r => by cases r; rfl
  | c :: cs, _, r => by
    cases r with
    | cons r1 r2 => cases r1; rw [tys_of r2]; rfl
theorem call_isinstT : CallR X (.builtin "isinstance") (fun xs H Q => ∃ (x : V) (t : Value) (tp : Addr) (cs : List String) (b : Bool), xs = [x, .ref tp] ∧ H tp = some (.tup (cs.map V.ty)) ∧ TyOf X.K H x t ∧ PySem.W.kitAny X.K t (cs.map Value.type) = some b ∧ Q (.bl b) H) := by
  intro pins s σ H xs us Q I r h
  obtain ⟨x, t, tp, cs, b, rfl, htp, ty, e, q⟩ := h
  obtain ⟨u, w', rfl, ru, rw'⟩ := vals2 r
  cases rw'
  obtain ⟨_, its, rv, p⟩ := (show ObjOk X.prog X.w H s.heap tp (.tup (cs.map V.ty)) from I.hok tp _ htp)
  have ei := tys_of rv
  subst ei
  obtain ⟨o, h1, h2, n, h3⟩ := p
  obtain ⟨oc, od, dt, sl⟩ := o
  have h2' : oc = .type "tuple" := h2
  have h3' : dt = .seq (cs.map Value.type).toArray n := h3
  subst h2' h3'
  exact isinst_tup I ru ty h1 e fun tk => ⟨.bl b, H, I.tok _, rfl, q⟩
/-! ### // by a larger number -/
def CDivB (i j : Int) : Prop := 0 < j ∧ j < 2 ^ 200
theorem op_fdivB : OpR X (binaryOp .FloorDiv) (rI CDivB fun i j => .int (i / j)) := opI fun i j _ _ _ _ _ hc q => by
  obtain ⟨h1, h2⟩ := hc
  rw [← Int.fdiv_eq_ediv_of_nonneg i (by omega)] at q
  refine floordiv_int (by omega) q (.inl (PyProof.noPylong_of_log2 ?_))
  have hj : j.natAbs ≠ 0 := by omega
  rw [Nat.log2_lt hj]
  have h3 : (j.natAbs : Int) < 2 ^ 200 := by omega
  have h4 : j.natAbs < 2 ^ 200 := by exact_mod_cast h3
  exact Nat.lt_of_lt_of_le h4 (Nat.pow_le_pow_right (by decide) (by decide))

/-! ### join, split -/
theorem strs_are : ∀ {ys : List Str} {us : List Value}, Vals (ys.map V.str) us → StrsAre us ys
  | [], _, r => by cases r; exact .nil
  | y :: ys, _, r => by
    cases r with
    | cons r1 r2 => obtain ⟨t, e⟩ := r1; subst e; exact .cons y t (strs_are r2)
def rJoin (K : PySem.W.Frag) : V → List V → Hp → VK → Prop := fun x vs H Q => ∃ z p ys, x = .str z ∧ vs = [.ref p] ∧ SqL K H p (ys.map V.str) ∧ (ys.map (·.length)).sum + ys.length * z.length ≤ 16777216 ∧ Q (.str (Txt.join z ys)) H
theorem mt_join : MtR X "str.join" (rJoin X.K) := by
  intro pins s σ H x xs v us Q I rx rs h
  obtain ⟨z, p, ys, rfl, rfl, hl, hz, q⟩ := h
  obtain ⟨t, rfl⟩ := rx
  obtain ⟨u, rfl, ru⟩ := vals1 rs
  cases ru
  obtain ⟨its, rv, pl, _⟩ := I.list hl
  exact join_list pl.isList (by simpa using strs_are rv) hz fun t' k => ⟨.str _, H, I.tok _, ⟨_, rfl⟩, q⟩
/-! ### all, of a list of bools -/
theorem bools_of : ∀ {bs : List Bool} {us : List Value}, Vals (bs.map V.bl) us → us = bs.map Value.bool
  | [], _, r => by cases r; rfl
  | b :: bs, _, r => by
    cases r with
    | cons r1 r2 => cases r1; rw [bools_of r2]; rfl
end

/-! ### signs of a text, one by one -/
section
variable {X : Cx} {tg : Expr}
/-! ### two lists beside one another -/
def Itz (K : PySem.W.Frag) (a b : Addr) : It :=
  ⟨fun i H => ∃ xs ys x y, SqL K H a xs ∧ SqL K H b ys ∧ xs[i]? = some x ∧ ys[i]? = some y,
   fun i H u H' => ∃ T, u = .ref T ∧ H T = none ∧ (∀ xs ys, SqL K H a xs → SqL K H b ys → ∃ x y, xs[i]? = some x ∧ ys[i]? = some y ∧ H' = upd H T (.tup [x, y])),
   fun i H => ∃ xs ys, SqL K H a xs ∧ SqL K H b ys ∧ min xs.length ys.length = i⟩
theorem turn_zip {P : Program} {w : World} {K : PySem.W.Frag} {es : List Expr} {k : Nat} {tp : Pos} (z TI TO i1 i2 a b : Addr) (D : ZipApart z TI TO i1 i2 a b) :
    Turn P w K (.Tuple es k tp) (Itz K a b) [z, TI, TO, i1, i2] z (fun i h => IsZip h z TI TO .none ∧ IsPair h TI (.ref i1) (.ref i2) ∧ (∃ x y, IsPair h TO x y) ∧ h.IsListIter i1 a i ∧ h.IsListIter i2 b i) where
  mem := by simp
  obj := fun i h st c hc => by
    obtain ⟨s1, s2, ⟨x, y, s3⟩, ⟨o4, e4, c4, d4⟩, ⟨o5, e5, c5, d5⟩⟩ := st
    simp at hc
    rcases hc with rfl | rfl | rfl | rfl | rfl
    · exact ⟨_, s1, fun v q => by cases q⟩
    · exact ⟨_, s2, fun v q => by cases q⟩
    · exact ⟨_, s3, fun v q => by cases q⟩
    · exact ⟨_, e4, fun v q => by rw [d4] at q; cases q⟩
    · exact ⟨_, e5, fun v q => by rw [d5] at q; cases q⟩
  keep := fun i h h' st kk => by
    obtain ⟨s1, s2, ⟨x, y, s3⟩, s4, s5⟩ := st
    exact ⟨kk z (by simp) _ s1, kk TI (by simp) _ s2, ⟨x, y, kk TO (by simp) _ s3⟩, s4.at fun o e => kk i1 (by simp) o e, s5.at fun o e => kk i2 (by simp) o e⟩
  item := by
    intro X hP hw hK hc i pins s σ H E I hf st hg
    subst hP hw hK
    obtain ⟨xs, ys, x, y, h1, h2, hx, hy⟩ := hg
    obtain ⟨its1, rv1, p1, _⟩ := I.list h1
    obtain ⟨its2, rv2, p2, _⟩ := I.list h2
    have W := WalksT.zip2 (prog := X.prog) (w := X.w) (I.ok.hd hc) z TI TO i1 i2 a b D its1.toArray its2.toArray
    have l1 : i < its1.length := by rw [← rv1.length]; exact (List.getElem?_eq_some_iff.mp hx).1
    have l2 : i < its2.length := by rw [← rv2.length]; exact (List.getElem?_eq_some_iff.mp hy).1
    obtain ⟨s1, s2, s3, s4, s5⟩ := st
    refine W.item i s _ _ (by simp; omega) ⟨s1, s2, s3, s4, s5, p1.isList, p2.isList⟩ fun T vals h' tk hP hT hTup hMid kk => ?_
    refine ⟨_, rfl, W.go es k tp i T _ _ _ hMid fun h'' st'' kk2 => ?_⟩
    obtain ⟨u1, u2, hu1, hu2, rfl⟩ := hP
    obtain ⟨w1, hw1, r1⟩ := rv1.get hx
    obtain ⟨w2, hw2, r2⟩ := rv2.get hy
    have e1 : u1 = w1 := by have : its1[i]? = some u1 := by simpa using hu1
                            rw [hw1] at this; exact (Option.some.inj this).symm
    have e2 : u2 = w2 := by have : its2[i]? = some u2 := by simpa using hu2
                            rw [hw2] at this; exact (Option.some.inj this).symm
    subst e1 e2
    have hTn : H T = none := I.hok.fresh hT
    have Twr : T ∉ [z, TO, i1, i2] := W.apart i T _ hMid
    have keep2 : ∀ c o, c ∉ [z, TO, i1, i2] → s.heap.get? c = some o → h''.get? c = some o := fun c o hc e => kk2 c o hc (kk c o hc e)
    have frOf : ∀ c ∈ [z, TO, i1, i2], c ∈ [z, TI, TO, i1, i2] := fun c hc => by simp at hc ⊢; rcases hc with rfl | rfl | rfl | rfl <;> simp
    have nwr : ∀ c u, H c = some u → c ∉ [z, TO, i1, i2] := fun c u e hc => by rw [(hf c (frOf c hc)).1] at e; cases e
    have hTup2 : IsTup h'' T #[u1, u2] := by
      obtain ⟨o, e, r⟩ := hTup
      exact ⟨o, kk2 T o Twr e, r⟩
    have I2 : Inv X pins σ (upd H T (.tup [x, y])) { s with heap := h'', toks := tk } := by
      refine I.step (g' := s.gens) (d' := s.drawn) (ch := [z, TO, i1, i2]) (fun c hc => ?_) (fun c o _ _ hc e _ => keep2 c o hc e) (fun c o _ _ hc e _ => ⟨o.slots, keep2 c o hc e⟩) (fun c o hc e n => ?_) (fun c o hc e => ⟨o, keep2 c o hc e⟩)
        (fun c xs e => ?_) (fun c o xs e => ?_) (fun c ps e => ⟨#[], ?_⟩) (fun m hm => ?_) ?_ I.bare
      · obtain ⟨g0, g1, g2, g3, g4, g5⟩ := hf c (frOf c hc)
        exact ⟨g3, g1, g4, g5⟩
      · rw [upd_ne (Nat.ne_of_lt (Nat.lt_of_lt_of_le (Heap.lt_size e) hT))]; exact n
      · rw [upd_ne (ne_of_none e hTn)]; exact e
      · rw [upd_ne (ne_of_none e hTn)]; exact e
      · rw [upd_ne (ne_of_none e hTn), e]; simp
      · obtain ⟨o, es, ep, ho, r⟩ := hm
        refine ⟨o, es, ep, keep2 _ o (fun hc => ?_) ho, r⟩
        exact (hf _ (frOf _ hc)).2.1 rfl
      · intro c u e
        by_cases hcT : c = T
        · subst hcT
          rw [upd_same] at e
          cases e
          exact ⟨by show 2 ≤ sizeLine; rw [sizeLine_eq]; decide, [u1, u2], .cons r1 (.cons r2 .nil), hTup2⟩
        · rw [upd_ne hcT] at e
          refine (I.hok c u e).stay (fun d v hd q => keep2 d v ?_ q) (fun d q => by rw [upd_ne (ne_of_none q hTn)]; exact q) fun d xs q => by rw [upd_ne (ne_of_none q hTn)]; exact q
          rcases hd with rfl | hd
          · exact nwr d u e
          · exact nwr d _ hd
    obtain ⟨t1, t2, t3, t4, t5, _⟩ := st''
    refine ⟨.ref T, _, I2, rfl, ⟨T, rfl, hTn, fun xs' ys' h1' h2' => ⟨x, y, ?_, ?_, rfl⟩⟩, ⟨t1, t2, t3, t4, t5⟩, fun c hc => ?_⟩
    · rw [I.list_inj h1' h1]; exact hx
    · rw [I.list_inj h2' h2]; exact hy
    · obtain ⟨o, eo, _⟩ : ∃ o, s.heap.get? c = some o ∧ True := by
        simp at hc
        obtain ⟨x', y', s3⟩ := s3
        rcases hc with rfl | rfl | rfl | rfl | rfl
        · exact ⟨_, s1, trivial⟩
        · exact ⟨_, s2, trivial⟩
        · exact ⟨_, s3, trivial⟩
        · obtain ⟨o, e, _⟩ := s4; exact ⟨o, e, trivial⟩
        · obtain ⟨o, e, _⟩ := s5; exact ⟨o, e, trivial⟩
      rw [upd_ne (Nat.ne_of_lt (Nat.lt_of_lt_of_le (Heap.lt_size eo) hT))]
      exact (hf c hc).1
  done := by
    intro X hP hw hK hc i pins s σ H E I hf st hg
    subst hP hw hK
    obtain ⟨xs, ys, h1, h2, hi⟩ := hg
    obtain ⟨its1, rv1, p1, _⟩ := I.list h1
    obtain ⟨its2, rv2, p2, _⟩ := I.list h2
    have W := WalksT.zip2 (prog := X.prog) (w := X.w) (I.ok.hd hc) z TI TO i1 i2 a b D its1.toArray its2.toArray
    obtain ⟨s1, s2, s3, s4, s5⟩ := st
    have en : min its1.toArray.size its2.toArray.size = i := by
      have := rv1.length
      have := rv2.length
      simp; omega
    refine W.done s _ _ (by rw [en]; exact ⟨s1, s2, s3, s4, s5, p1.isList, p2.isList⟩) fun h' tk kk => ⟨rfl, ?_⟩
    have frOf : ∀ c ∈ [z, TO, i1, i2], c ∈ [z, TI, TO, i1, i2] := fun c hc => by simp at hc ⊢; rcases hc with rfl | rfl | rfl | rfl <;> simp
    have nwr : ∀ c u, H c = some u → c ∉ [z, TO, i1, i2] := fun c u e hc => by rw [(hf c (frOf c hc)).1] at e; cases e
    refine I.step (g' := s.gens) (d' := s.drawn) (ch := [z, TO, i1, i2]) (fun c hc => ?_) (fun c o _ _ hc e _ => kk c o hc e) (fun c o _ _ hc e _ => ⟨o.slots, kk c o hc e⟩) (fun c o hc e n => n) (fun c o hc e => ⟨o, kk c o hc e⟩)
        (fun c xs e => e) (fun c o xs e => e) (fun c ps e => ⟨#[], by rw [e]; simp⟩) (fun m hm => ?_) ?_ I.bare
    · obtain ⟨g0, g1, g2, g3, g4, g5⟩ := hf c (frOf c hc)
      exact ⟨g3, g1, g4, g5⟩
    · obtain ⟨o, es, ep, ho, r⟩ := hm
      refine ⟨o, es, ep, kk _ o (fun hc => ?_) ho, r⟩
      exact (hf _ (frOf _ hc)).2.1 rfl
    · intro c u e
      refine (I.hok c u e).stay (fun d v hd q => kk d v ?_ q) (fun d q => q) fun d xs q => q
      rcases hd with rfl | hd
      · exact nwr d u e
      · exact nwr d _ hd
  self := fun A i s Q E st h => by
    exact wpAny_pyIter_zip st.1 h
def iZip (K : PySem.W.Frag) (ta : TA) : TI := fun σ H R => ta σ H fun vs H1 => ∃ a b, vs = [.ref a, .ref b] ∧ (∃ xs, SqL K H1 a xs) ∧ (∃ ys, SqL K H1 b ys) ∧ R (Itz K a b) H1
theorem pi_zip {a b : Expr} {ta : TA} {p pos tp : Pos} {es : List Expr} {k : Nat} (hg : Gl X "zip") (hm : X.mg "zip" = none) (ha : PA X [a, b] ta) (hs : starEach [a, b] X.env = [(false, eval a X.env), (false, eval b X.env)] := by rfl) (hs2 : starEach [b] X.env = [(false, eval b X.env)] := by rfl) :
    PI X (.Tuple es k tp) (.Call (.Name "zip" p) [a, b] [] pos) (iZip X.K ta) := by
  intro pins s σ H R I h
  refine Call_ (ld_blt I hg hm boot_zip (PyProof.Rows.callWith_type1 (thn (ha pos pins s σ H _ I h) fun us s1 ⟨vs, H1, I1, r1, q1⟩ => ?_) (by rw [hs, hs2]) (by rw [hs2]; rfl)))
  obtain ⟨a', b', e, ⟨xs, h1⟩, ⟨ys, h2⟩, q⟩ := q1
  subst e
  obtain ⟨u, w', rfl, ru, rw'⟩ := vals2 r1
  cases ru
  cases rw'
  obtain ⟨its1, rv1, p1, _⟩ := I1.list h1
  obtain ⟨its2, rv2, p2, _⟩ := I1.list h2
  have a1 : a' < s1.heap.objs.size := by obtain ⟨_, e, _⟩ := p1.isList; exact Heap.lt_size e
  have a2 : b' < s1.heap.objs.size := by obtain ⟨_, e, _⟩ := p2.isList; exact Heap.lt_size e
  refine call_zip_2 p1.isList p2.isList fun h' hz hTI hTO hi1 hi2 _ hk => ?_
  refine wpAny_pyIter_zip hz ?_
  refine ⟨_, _, _, _, H1, rfl, I1.kept (t' := s1.toks) hk, turn_zip _ _ _ _ _ a' b' (zipApart_new a1 a2), ⟨hz, hTI, ⟨_, _, hTO⟩, hi1, hi2⟩, fun c hc => ?_, q⟩
  have hle : s1.heap.objs.size ≤ c := by
    simp at hc
    rcases hc with rfl | rfl | rfl | rfl | rfl
    · exact Nat.le_add_right _ _
    · exact Nat.le_add_right _ _
    · exact Nat.le_add_right _ _
    · exact Nat.le_refl _
    · exact Nat.le_add_right _ _
  exact I1.fpOk hle (I1.hok.fresh hle)
end
end L2

set_option Elab.async false
set_option linter.all false
set_option maxRecDepth 100000
set_option maxHeartbeats 4000000
namespace L2
open PySem PySem.Spec PyProof.Rows
section
variable {X : Cx}
/-! ### == and != of two lists of flat things -/
def eqLs (xs ys : List V) : Bool := (xs.length == ys.length) && (List.zipWith eqV xs ys).all id
theorem zip_all : ∀ (xs ys : List V), xs.length = ys.length → ((List.range xs.length).all fun j => eqV (xs.getD j .non) (ys.getD j .non)) = (List.zipWith eqV xs ys).all id := by
  intro xs ys h
  rw [Bool.eq_iff_iff, List.all_eq_true, List.all_eq_true]
  constructor
  · intro q b hb
    obtain ⟨i, hi⟩ := List.mem_iff_getElem?.mp hb
    rw [List.getElem?_zipWith] at hi
    cases e1 : xs[i]? with
    | none => rw [e1] at hi; cases hi
    | some x =>
      cases e2 : ys[i]? with
      | none => rw [e1, e2] at hi; cases hi
      | some y =>
        rw [e1, e2] at hi
        have lt := (List.getElem?_eq_some_iff.mp e1).1
        have z := q i (List.mem_range.mpr lt)
        simp only [List.getD_eq_getElem?_getD, e1, e2, Option.getD_some] at z
        have hi' : eqV x y = b := by simpa using hi
        rw [← hi', id, z]
  · intro q i hi
    have lt := List.mem_range.mp hi
    have lt2 : i < ys.length := by omega
    have e1 := List.getElem?_eq_getElem lt
    have e2 := List.getElem?_eq_getElem lt2
    have m : eqV xs[i] ys[i] ∈ List.zipWith eqV xs ys := by
      refine List.mem_iff_getElem?.mpr ⟨i, ?_⟩
      rw [List.getElem?_zipWith, e1, e2]
    have z := q _ m
    simp only [List.getD_eq_getElem?_getD, e1, e2, Option.getD_some]
    simpa using z
def rEqL (K : PySem.W.Frag) (neg : Bool) : R2 := fun x y H Q => ∃ p q xs ys, x = .ref p ∧ y = .ref q ∧ SqL K H p xs ∧ SqL K H q ys ∧ xs.all flatV = true ∧ ys.all flatV = true ∧ Q (.bl (if neg then !eqLs xs ys else eqLs xs ys)) H
theorem op_eqL (hu : X.A.units < cLine) : OpR X (compareOp .Eq) (rEqL X.K false) := by
  intro pins s σ H x y v u Q I rx ry h
  obtain ⟨p, q, xs, ys, rfl, rfl, h1, h2, f1, f2, k⟩ := h
  cases rx
  cases ry
  obtain ⟨its1, r1, p1, _⟩ := I.list h1
  obtain ⟨its2, r2, p2, _⟩ := I.list h2
  by_cases hl : xs.length = ys.length
  · refine SeqAt.eq_listAt (e := fun j => eqV (xs.getD j .non) (ys.getD j .non)) p1.isList p2.isList (by simp only [List.size_toArray]; rw [← r1.length, ← r2.length]; exact hl) hu (fun j j1 j2 => ?_) ⟨.bl _, H, I, rfl, ?_⟩
    · have l1 : j < xs.length := by rw [r1.length]; simpa using j1
      have l2 : j < ys.length := by rw [r2.length]; simpa using j2
      obtain ⟨u1, e1, ru1⟩ := r1.get (List.getElem?_eq_getElem l1)
      obtain ⟨u2, e2, ru2⟩ := r2.get (List.getElem?_eq_getElem l2)
      have a1 : its1.toArray[j] = u1 := by
        have : its1[j]? = some its1.toArray[j] := by simp
        rw [e1] at this; exact (Option.some.inj this).symm
      have a2 : its2.toArray[j] = u2 := by
        have : its2[j]? = some its2.toArray[j] := by simp
        rw [e2] at this; exact (Option.some.inj this).symm
      rw [a1, a2]
      have g1 : xs.getD j .non = xs[j] := by simp [List.getD_eq_getElem?_getD, List.getElem?_eq_getElem l1]
      have g2 : ys.getD j .non = ys[j] := by simp [List.getD_eq_getElem?_getD, List.getElem?_eq_getElem l2]
      show SeqAt.EqAt X.A.in1 s u1 u2 (eqV (xs.getD j .non) (ys.getD j .non))
      rw [g1, g2]
      exact eqAt_V ru1 ru2 (List.all_eq_true.mp f1 _ (List.getElem_mem l1)) (List.all_eq_true.mp f2 _ (List.getElem_mem l2))
    · have es : its1.toArray.size = xs.length := by rw [List.size_toArray]; exact r1.length.symm
      rw [es, zip_all xs ys hl]
      have k' : Q (.bl (eqLs xs ys)) H := k
      unfold eqLs at k'
      rw [hl] at k'
      simpa using k'
  · refine SeqAt.eq_list_lengthsAt p1.isList p2.isList ?_ hu ⟨.bl false, H, I, rfl, ?_⟩
    · simp only [List.size_toArray]; rw [← r1.length, ← r2.length]; simpa using hl
    · have k' : Q (.bl (eqLs xs ys)) H := k
      unfold eqLs at k'
      have : (xs.length == ys.length) = false := by simpa using hl
      rw [this, Bool.false_and] at k'
      exact k'
theorem op_neL (hu : X.A.units < cLine) : OpR X (compareOp .NotEq) (rEqL X.K true) := by
  intro pins s σ H x y v u Q I rx ry h
  obtain ⟨p, q, xs, ys, rfl, rfl, h1, h2, f1, f2, k⟩ := h
  cases rx
  cases ry
  obtain ⟨its1, r1, p1, _⟩ := I.list h1
  obtain ⟨its2, r2, p2, _⟩ := I.list h2
  have k0 : Q (.bl (!eqLs xs ys)) H := k
  by_cases hl : xs.length = ys.length
  · refine SeqAt.RcNeAt.lists (e := fun j => eqV (xs.getD j .non) (ys.getD j .non)) p1.isList p2.isList (by simp only [List.size_toArray]; rw [← r1.length, ← r2.length]; exact hl) hu (fun j j1 j2 => ?_) X.prog X.w X.xe _ ⟨.bl _, H, I, rfl, ?_⟩
    · have l1 : j < xs.length := by rw [r1.length]; simpa using j1
      have l2 : j < ys.length := by rw [r2.length]; simpa using j2
      obtain ⟨u1, e1, ru1⟩ := r1.get (List.getElem?_eq_getElem l1)
      obtain ⟨u2, e2, ru2⟩ := r2.get (List.getElem?_eq_getElem l2)
      have a1 : its1.toArray[j] = u1 := by
        have : its1[j]? = some its1.toArray[j] := by simp
        rw [e1] at this; exact (Option.some.inj this).symm
      have a2 : its2.toArray[j] = u2 := by
        have : its2[j]? = some its2.toArray[j] := by simp
        rw [e2] at this; exact (Option.some.inj this).symm
      rw [a1, a2]
      have g1 : xs.getD j .non = xs[j] := by simp [List.getD_eq_getElem?_getD, List.getElem?_eq_getElem l1]
      have g2 : ys.getD j .non = ys[j] := by simp [List.getD_eq_getElem?_getD, List.getElem?_eq_getElem l2]
      show SeqAt.EqAt X.A.in1 s u1 u2 (eqV (xs.getD j .non) (ys.getD j .non))
      rw [g1, g2]
      exact eqAt_V ru1 ru2 (List.all_eq_true.mp f1 _ (List.getElem_mem l1)) (List.all_eq_true.mp f2 _ (List.getElem_mem l2))
    · have es : its1.toArray.size = xs.length := by rw [List.size_toArray]; exact r1.length.symm
      rw [es, zip_all xs ys hl]
      unfold eqLs at k0
      rw [hl] at k0
      simpa using k0
  · refine SeqAt.RcNeAt.lists_lengths p1.isList p2.isList ?_ hu X.prog X.w X.xe _ ⟨.bl true, H, I, rfl, ?_⟩
    · simp only [List.size_toArray]; rw [← r1.length, ← r2.length]; simpa using hl
    · unfold eqLs at k0
      have : (xs.length == ys.length) = false := by simpa using hl
      rw [this, Bool.false_and] at k0
      exact k0
end
end L2

set_option Elab.async false
set_option linter.all false
set_option maxRecDepth 100000
set_option maxHeartbeats 4000000
namespace L2
open PySem PySem.Spec PyProof.Rows
/-! ### an exception in flight: its class, its dict, its arguments; st: no traceback yet, or the mark of the frame that holds it -/
def ExAt (B : Heap) (e : Addr) (c : Value) (dc : Option Addr) (a0 : Value) (st : Option Value) (h : Heap) : Prop :=
  ∃ vs : Array Value, h.get? e = some ⟨c, dc, .fields vs, #[]⟩ ∧ vs.size = 6 ∧ vs[0]? = some a0 ∧
    match st with
    | none => vs[1]? = some .none
    | some fl => ∃ (T : Addr) (oT : Obj) (ts : Array Value), vs[1]? = some (.ref T) ∧ B.get? T = none ∧ T ≠ e ∧ h.get? T = some oT ∧ oT.data = .fields ts ∧ 3 < ts.size ∧ ts[3]? = some fl
structure Fl (B : Heap) (l : List Env) (e : Addr) (c : Value) (dc : Option Addr) (a0 : Value) (st : Option Value) (h : Heap) : Prop where
  stays : B.StaysIn h
  ne : B.get? e = none
  frs : h.FunFrames B l
  ex : ExAt B e c dc a0 st h
section
variable {M : Model} {A : Around} {E : Value → Shared → Prop} {s : Shared} {B : Heap} {l : List Env} {env : Env} {outer : List Env} {e L : Addr} {c a0 : Value} {dc : Option Addr} {st : Option Value} {Q : Unit → Shared → Prop}
/-- the mark is taken off -/
theorem fl_set {fl : Value} (F : Fl B l e c dc a0 (some fl) s.heap) (h : ∀ h', Fl B l e c dc a0 (some .none) h' → s.heap.UpToSlots h' → Q () { s with heap := h' }) : wpAny M A (setFlight (.ref e) none) Q E s := by
  obtain ⟨f1, f2, f3, vs, he, hz, h0, T, oT, ts, h1, hBT, hTe, hT, hd, h3, hfl⟩ := F
  unfold setFlight
  refine wpAny_bind (wpAny_field he rfl h1 ?_)
  rw [if_pos (show (Value.ref T != Value.none) = true by simp)]
  have oth : ∀ b, b ≠ T → ∀ f, (s.heap.update T f).get? b = s.heap.get? b := fun b hb f => Heap.get?_update_other _ _ (Ne.symm hb)
  have hup : ∀ b o, s.heap.get? b = some o → (∀ vs, o.data ≠ .fields vs) → b ≠ T := fun b o hb hn z => by
    rw [z, hT] at hb; cases hb; exact hn ts hd
  refine wpAny_setField hT hd h3 (h _ ⟨fun b o q => ?_, f2, f3.of_keeps fun b o q hn => ⟨o, by rw [oth b (hup b o q hn)]; exact q, rfl⟩, vs, ?_, hz, h0, T, _, _, h1, hBT, hTe, Heap.get?_update_self _ hT (Obj.isFreed_of_fields (Obj.data_mapFields hd _)), Obj.data_mapFields hd _, by simpa using h3, by simp [h3]⟩ fun b o q hn => ⟨o.slots, by rw [oth b (hup b o q hn)]; exact q⟩)
  · rw [oth b fun z => by rw [z, hBT] at q; cases q]; exact f1 b o q
  · rw [oth e (Ne.symm hTe)]; exact he
/-- a frame is noted: a new entry -/
theorem fl_entry {head : Value} {hadNext : Bool} (hfr : A.frames = some (env :: outer)) (hf : env.frame = some L) (f1 : B.StaysIn s.heap) (f2 : B.get? e = none) (f3 : s.heap.FunFrames B (env :: outer)) {vs : Array Value}
    (he : s.heap.get? e = some ⟨c, dc, .fields vs, #[]⟩) (hz : vs.size = 6) (h0 : vs[0]? = some a0)
    (h : ∀ h', Fl B (env :: outer) e c dc a0 (some (rawInt L)) h' → s.heap.UpToSlots h' → Q () { s with heap := h' }) :
    wpAny M A (do let a ← frameOf env; let pl ← entryPlaceOf L hadNext; let b ← EntryCells.newEntry head a .none (rawInt L) .none pl; setField (.ref e) 1 b) Q E s := by
  refine wpAny_bind (wpAny_frameOf_fun hfr f3 hf fun h1 hs1 => ?_)
  refine wpAny_bind (wpAny_entryPlaceOf fun pl hpl => ?_)
  unfold EntryCells.newEntry newFields
  refine wpAny_bind (wpAny_newObj_type ?_ (hpl.sizeOk5 _ _ _ _ _))
  have nfr : ∀ b o ws, s.heap.get? b = some o → o.data = .fields ws → h1.get? b = some o := fun b o ws q hd => by
    refine (hs1.2.1 b fun hm => ?_).trans q
    obtain ⟨_, o', ho', hn⟩ := f3.mem hm
    rw [q] at ho'; cases ho'; exact hn ws hd
  have he1 := nfr e _ vs he rfl
  have kb : B.StaysIn h1 := fun b o q => (hs1.2.1 b fun hm => by rw [(f3.mem hm).1] at q; cases q).trans (f1 b o q)
  generalize hN : ({ cls := .type "traceback", dict := none, data := .fields ([head, .ref L, .none, rawInt L, .none] ++ (if pl.isEmpty then List.replicate 6 Value.none else pl)).toArray } : Obj) = nT
  have hTe : h1.objs.size ≠ e := Nat.ne_of_gt (Heap.lt_size he1)
  have he2 : (h1.push nT).get? e = some ⟨c, dc, .fields vs, #[]⟩ := Heap.get?_push_of_some _ he1
  have oth : ∀ b o, b ≠ e → h1.get? b = some o → ∀ f, ((h1.push nT).update e f).get? b = some o := fun b o hb q f => by
    rw [Heap.get?_update_other _ _ (Ne.symm hb)]; exact Heap.get?_push_of_some _ q
  refine wpAny_setField he2 rfl (by omega) (h _ ⟨fun b o q => oth b o (fun z => by rw [z, f2] at q; cases q) (kb b o q) _, f2, f3.of_keeps fun b o q hn => ?_, vs.setIfInBounds 1 (.ref h1.objs.size), ?_, by simpa using hz, ?_, h1.objs.size, nT, _, ?_, ?_, hTe, ?_, by rw [← hN], ?_, ?_⟩ fun b o q hn => ?_)
  · obtain ⟨sl, z⟩ := hs1.2.2 b o q
    exact ⟨_, oth b _ (fun y => by rw [y, he] at q; cases q; exact hn vs rfl) z _, rfl⟩
  · rw [Heap.get?_update_self _ he2 rfl]; rfl
  · rw [Array.getElem?_setIfInBounds_ne (by decide)]; exact h0
  · simp [hz]
  · cases q : B.get? h1.objs.size with
    | none => rfl
    | some o => exact absurd (Heap.lt_size (kb _ o q)) (Nat.lt_irrefl _)
  · rw [Heap.get?_update_other _ _ (Ne.symm hTe)]
    exact Heap.get?_push_size _ (by rw [← hN]; rfl)
  · simp
  · simp
  · obtain ⟨sl, z⟩ := hs1.2.2 b o q
    exact ⟨sl, oth b _ (fun y => by rw [y, he] at q; cases q; exact hn vs rfl) z _⟩
theorem fl_note (hfr : A.frames = some (env :: outer)) (hf : env.frame = some L) (F : Fl B (env :: outer) e c dc a0 st s.heap) (hst : st = none ∨ st = some .none)
    (h : ∀ h', Fl B (env :: outer) e c dc a0 (some (rawInt L)) h' → s.heap.UpToSlots h' → Q () { s with heap := h' }) : wpAny M A (noteFrame (.ref e) env) Q E s := by
  obtain ⟨f1, f2, f3, vs, he, hz, h0, r⟩ := F
  unfold noteFrame
  simp only [hf]
  rcases hst with rfl | rfl
  · have r' : vs[1]? = some .none := r
    refine wpAny_bind (wpAny_field he rfl r' ?_)
    rw [if_neg (by decide)]
    exact fl_entry hfr hf f1 f2 f3 he hz h0 h
  · obtain ⟨T, oT, ts, h1, hBT, hTe, hT, hd, h3, hfl⟩ := r
    refine wpAny_bind (wpAny_field he rfl h1 ?_)
    rw [if_pos (show (Value.ref T != Value.none) = true by simp)]
    refine wpAny_bind (wpAny_field hT hd hfl ?_)
    rw [if_neg (show ¬ ((Value.none == rawInt L) = true) by simp [rawInt])]
    refine wpAny_bind (wpAny_setField hT hd h3 ?_)
    have oth : ∀ b, b ≠ T → ∀ f, (s.heap.update T f).get? b = s.heap.get? b := fun b hb f => Heap.get?_update_other _ _ (Ne.symm hb)
    have hup : ∀ b o, s.heap.get? b = some o → (∀ vs, o.data ≠ .fields vs) → b ≠ T := fun b o hb hn z => by
      rw [z, hT] at hb; cases hb; exact hn ts hd
    refine fl_entry (s := { s with heap := s.heap.update T _ }) hfr hf (fun b o q => ?_) f2 (f3.of_keeps fun b o q hn => ⟨o, by rw [oth b (hup b o q hn)]; exact q, rfl⟩) (by rw [oth e (Ne.symm hTe)]; exact he) hz h0 fun h' F' u => h h' F' fun b o q hn => u b o (by rw [oth b (hup b o q hn)]; exact q) hn
    rw [oth b fun z => by rw [z, hBT] at q; cases q]; exact f1 b o q
theorem fl_leave (hfr : A.frames = some (env :: outer)) (hf : env.frame = some L) (F : Fl B (env :: outer) e c dc a0 st s.heap) (hst : st = none ∨ st = some .none)
    (h : ∀ h', Fl B outer e c dc a0 (some .none) h' → s.heap.UpToSlots h' → Q () { s with heap := h' }) : wpAny M A (leaving env (.ref e)) Q E s := by
  unfold leaving
  refine wpAny_bind (fl_note hfr hf F hst fun h1 F1 u1 => fl_set (s := { s with heap := h1 }) F1 fun h2 F2 u2 => ?_)
  obtain ⟨k1, k2, ⟨_, _, k3⟩, k4⟩ := F2
  exact h h2 ⟨k1, k2, k3, k4⟩ (u1.trans u2)
end

/-! ### an exception that left a def -/
/-- what stood at s stands in B (the frames at l up to slots, in h); tracked things as H' says -/
structure XUn (l : List Env) (H H' : Hp) (h0 B h : Heap) : Prop where
  keep : ∀ b o, h0.get? b = some o → H b = none → b ∉ frs l → B.get? b = some o
  slot : ∀ b o, h0.get? b = some o → H b = none → b ∈ frs l → ∃ sl, h.get? b = some { o with slots := sl }
  free : ∀ b o, h0.get? b = some o → H b = none → H' b = none
  there : ∀ b o, h0.get? b = some o → b ∉ frs l → ∃ o', B.get? b = some o'
  fthere : ∀ b o, h0.get? b = some o → b ∈ frs l → ∃ o', h.get? b = some o'
  tups : ∀ b xs, H b = some (.tup xs) → H' b = some (.tup xs)
  frzs : ∀ b o u, H b = some (.frz o u) → H' b = some (.frz o u)
  tbls : ∀ b ps, H b = some (.tbl ps) → ∃ more, H' b = some (.tbl (ps ++ more))
theorem XUn.un {l : List Env} {H H' : Hp} {h0 B h : Heap} (x : XUn l H H' h0 B h) (st : B.StaysIn h) : Un (frs l) [] H H' h0 h :=
  ⟨fun b o q n hb _ => st b o (x.keep b o q n hb), fun b o q n hb _ => x.slot b o q n hb, fun b o q n _ => x.free b o q n, fun b o q _ => by
    by_cases hb : b ∈ frs l
    · exact x.fthere b o q hb
    · obtain ⟨o', z⟩ := x.there b o q hb
      exact ⟨o', st b o' z⟩, x.tups, x.frzs, x.tbls⟩
def CX1 (P : Program) (w : World) : CXT := fun outer H s E e s' =>
  ∃ (ea t C : Addr) (dx : Option Addr) (H' : Hp) (B : Heap), e = .ref ea ∧ s'.os = s.os ∧ AllBare s'.gens ∧ Fl B outer ea (.ref C) dx (.ref t) (some .none) s'.heap ∧ HOk P w H' B ∧ XUn outer H H' s.heap B s'.heap ∧ H' ea = none ∧ s.heap.objs.size ≤ ea ∧ E (.ref C) dx H'
section
variable {P : Program} {w : World} {K : PySem.W.Frag} {mg : Str → Option Value} {base : Heap} {N : List Str} {qual : Str} {scope : Scope} {f : Addr} {cd : Value} {A : Around} {outer : List Env} {s0 : Shared} {H0 : Hp} {E : XK}
/-- it passes a def's frame -/
theorem pass1 : Passes (CX1 P w) (cxOf (CX1 P w) P w K mg base N qual scope f cd A outer s0 H0 E) E := by
  intro pins σ H s e s' I h
  obtain ⟨ea, t, C, dx, H', B, rfl, ho, hg, F, hok, x, hn, hea, q⟩ := h
  have hfr : (A.deeper (envOfC qual scope s0.heap.objs.size f cd)).frames = some (envOfC qual scope s0.heap.objs.size f cd :: outer) := I.ok.frames
  show wpAny (model P w) (A.deeper (envOfC qual scope s0.heap.objs.size f cd)) (leaving (envOfC qual scope s0.heap.objs.size f cd) (.ref ea)) _ _ s'
  refine fl_leave hfr rfl F (.inr rfl) fun h' F' u' => ?_
  have ab : ∀ b o, s0.heap.get? b = some o → b ≠ s0.heap.objs.size := fun b o q => Nat.ne_of_lt (Heap.lt_size q)
  have I0 : Un (frs outer) [] H0 H s0.heap s.heap := I.base
  have nst : ∀ b o, s0.heap.get? b = some o → b ∉ frs outer → b ∉ frs (envOfC qual scope s0.heap.objs.size f cd :: outer) := fun b o q hb hm => by
    unfold frs at hm
    rw [List.filterMap_cons] at hm
    rcases List.mem_cons.mp hm with z | z
    · exact ab b o q z
    · exact hb z
  have sub : ∀ b, b ∈ frs outer → b ∈ frs (envOfC qual scope s0.heap.objs.size f cd :: outer) := fun b hb => by
    unfold frs
    rw [List.filterMap_cons]
    exact List.mem_cons_of_mem _ hb
  have fro : ∀ b, b ∈ frs outer → ∀ o, s'.heap.get? b = some o → ∀ vs, o.data ≠ .fields vs := fun b hb o q vs hd => by
    obtain ⟨_, o', ho', hn'⟩ := F.frs.mem (sub b hb)
    rw [q] at ho'; cases ho'; exact hn' vs hd
  refine ⟨ea, t, C, dx, H', B, rfl, ho.trans I.os, hg, F', hok, ⟨fun b o q n hb => ?_, fun b o q n hb => ?_, fun b o q n => ?_, fun b o q hb => ?_, fun b o q hb => ?_, fun b xs q => x.tups b xs (I0.tups b xs q), fun b o u q => x.frzs b o u (I0.frzs b o u q), fun b ps q => ?_⟩, hn, Nat.le_trans (Nat.le_trans I.sz (Nat.le_refl _)) hea, q⟩
  · exact x.keep b o (I0.keep b o q n hb (by simp)) (I0.free b o q n (by simp)) (nst b o q hb)
  · obtain ⟨sl, z⟩ := I0.slot b o q n hb (by simp)
    obtain ⟨sl2, z2⟩ := x.slot b _ z (I0.free b o q n (by simp)) (sub b hb)
    obtain ⟨sl3, z3⟩ := u' b _ z2 (fro b hb _ z2)
    exact ⟨sl3, z3⟩
  · obtain ⟨o', z⟩ := I0.there b o q (by simp)
    exact x.free b o' z (I0.free b o q n (by simp))
  · obtain ⟨o', z⟩ := I0.there b o q (by simp)
    exact x.there b o' z (nst b o q hb)
  · obtain ⟨o', z⟩ := I0.there b o q (by simp)
    obtain ⟨o2, z2⟩ := x.fthere b o' z (sub b hb)
    obtain ⟨sl, z3⟩ := u' b _ z2 (fro b hb _ z2)
    exact ⟨_, z3⟩
  · obtain ⟨m1, e1⟩ := I0.tbls b ps q
    obtain ⟨m2, e2⟩ := x.tbls b _ e1
    exact ⟨m1 ++ m2, by rw [e2, Array.append_assoc]⟩
/-- a raise in a def's own body: the exception at e, just made -/
def XO (C t : Addr) (dx : Option Addr) (e : Addr) : HO := .ext fun h => h.get? e = some ⟨.ref C, dx, .fields #[.ref t, .none, .none, .none, .bool false, .none], #[]⟩
def rm (H : Hp) (e : Addr) : Hp := fun b => if b = e then none else H b
theorem rm_self {H : Hp} {e : Addr} : rm H e e = none := by unfold rm; rw [if_pos rfl]
theorem rm_ne {H : Hp} {e b : Addr} (h : b ≠ e) : rm H e b = H b := by unfold rm; rw [if_neg h]
theorem xe_raise {pins : List (Addr × Obj)} {σ : St} {H : Hp} {s : Shared} {e C t : Addr} {dx : Option Addr} (I : Inv (cxOf (CX1 P w) P w K mg base N qual scope f cd A outer s0 H0 E) pins σ H s) (he : H e = some (XO C t dx e)) (hnew : s0.heap.objs.size ≤ e)
    (q : E (.ref C) dx (rm H e)) : (cxOf (CX1 P w) P w K mg base N qual scope f cd A outer s0 H0 E).xe (.ref e) s := by
  have hfr : (A.deeper (envOfC qual scope s0.heap.objs.size f cd)).frames = some (envOfC qual scope s0.heap.objs.size f cd :: outer) := I.ok.frames
  show wpAny (model P w) (A.deeper (envOfC qual scope s0.heap.objs.size f cd)) (leaving (envOfC qual scope s0.heap.objs.size f cd) (.ref e)) _ _ s
  obtain ⟨hφ, _, _⟩ : (s.heap.get? e = some ⟨.ref C, dx, .fields #[.ref t, .none, .none, .none, .bool false, .none], #[]⟩) ∧ _ ∧ _ := I.hok e _ he
  let hid : List Addr := e :: frs (envOfC qual scope s0.heap.objs.size f cd :: outer)
  have st : (PySem.W.hideAll s.heap hid).StaysIn s.heap := fun b o q => PySem.W.of_hideAll _ q
  have hB : ∀ b o, s.heap.get? b = some o → b ∉ hid → (PySem.W.hideAll s.heap hid).get? b = some o := fun b o q hb => PySem.W.hideAll_get _ q hb
  have hBn : ∀ b, b ∈ hid → (PySem.W.hideAll s.heap hid).get? b = none := fun b hb => PySem.W.hideAll_none _ hb
  have stk : s.heap.FunFrames base (envOfC qual scope s0.heap.objs.size f cd :: outer) := I.stack
  have hfun : s.heap.FunFrames (PySem.W.hideAll s.heap hid) (envOfC qual scope s0.heap.objs.size f cd :: outer) :=
    PySem.W.funFrames_hide stk fun env he' b hb => List.mem_cons_of_mem _ (List.mem_filterMap.mpr ⟨env, he', hb⟩)
  have hfree : ∀ b ∈ frs (envOfC qual scope s0.heap.objs.size f cd :: outer), H b = none := I.stkFree
  refine fl_leave hfr rfl (st := none) ⟨st, hBn e (List.mem_cons_self ..), hfun, _, hφ, rfl, rfl, rfl⟩ (.inl rfl) fun h' F' u' => ?_
  have ab : ∀ b o, s0.heap.get? b = some o → b ≠ s0.heap.objs.size := fun b o q => Nat.ne_of_lt (Heap.lt_size q)
  have I0 : Un (frs outer) [] H0 H s0.heap s.heap := I.base
  have ne : ∀ b o, s0.heap.get? b = some o → b ≠ e := fun b o q => Nat.ne_of_lt (Nat.lt_of_lt_of_le (Heap.lt_size q) hnew)
  have nh : ∀ b o, s0.heap.get? b = some o → b ∉ frs outer → b ∉ hid := fun b o q hb hm => by
    rcases List.mem_cons.mp hm with z | z
    · exact ne b o q z
    · unfold frs at z
      rw [List.filterMap_cons] at z
      rcases List.mem_cons.mp z with z | z
      · exact ab b o q z
      · exact hb z
  have fro : ∀ b, b ∈ frs outer → ∀ o, s.heap.get? b = some o → ∀ vs, o.data ≠ .fields vs := fun b hb o q vs hd => by
    obtain ⟨_, o', ho', hn'⟩ := stk.mem (b := b) (by rw [List.filterMap_cons]; exact List.mem_cons_of_mem _ hb)
    rw [q] at ho'; cases ho'; exact hn' vs hd
  refine ⟨e, t, C, dx, rm H e, PySem.W.hideAll s.heap hid, rfl, I.os, I.bare, F', fun b o q => ?_, ⟨fun b o q n hb => ?_, fun b o q n hb => ?_, fun b o q n => ?_, fun b o q hb => ?_, fun b o q hb => ?_, fun b xs q => ?_, fun b o u q => ?_, fun b ps q => ?_⟩, rm_self, hnew, q⟩
  · have hbe : b ≠ e := fun z => by rw [z, rm_self] at q; cases q
    rw [rm_ne hbe] at q
    refine (I.hok b o q).stay (fun c v hc z => hB c v z fun hm => ?_) (fun c z => ?_) fun c xs z => ?_
    · rcases List.mem_cons.mp hm with y | y
      · subst y
        rcases hc with y | y
        · exact hbe y.symm
        · rw [he] at y; cases y
      · have := hfree c y
        rcases hc with y' | y'
        · rw [y', q] at this; cases this
        · rw [y'] at this; cases this
    · rw [rm_ne fun y => by rw [y, he] at z; cases z]; exact z
    · rw [rm_ne fun y => by rw [y, he] at z; cases z]; exact z
  · exact hB b o (I0.keep b o q n hb (by simp)) (nh b o q hb)
  · obtain ⟨sl, z⟩ := I0.slot b o q n hb (by simp)
    obtain ⟨sl2, z2⟩ := u' b _ z (fro b hb _ z)
    exact ⟨sl2, z2⟩
  · rw [rm_ne (ne b o q)]; exact I0.free b o q n (by simp)
  · obtain ⟨o', z⟩ := I0.there b o q (by simp)
    exact ⟨o', hB b o' z (nh b o q hb)⟩
  · obtain ⟨o', z⟩ := I0.there b o q (by simp)
    obtain ⟨sl2, z2⟩ := u' b _ z (fro b hb _ z)
    exact ⟨_, z2⟩
  · have z := I0.tups b xs q
    rw [rm_ne fun y => by rw [y, he] at z; cases z]; exact z
  · have z := I0.frzs b o u q
    rw [rm_ne fun y => by rw [y, he] at z; cases z]; exact z
  · obtain ⟨m, z⟩ := I0.tbls b ps q
    exact ⟨m, by rw [rm_ne fun y => by rw [y, he] at z; cases z]; exact z⟩
end
end L2

set_option Elab.async false
set_option linter.all false
set_option maxRecDepth 100000
set_option maxHeartbeats 4000000
namespace L2
open PySem PySem.Spec PyProof.Rows PySem.W PySem.Builtin PySem.Builtin.ObjectAttr
/-- what the class of an exception must have, by the fragment -/
structure XCls (K : PySem.W.Frag) (C : Addr) (cd : ClassData) (f : Addr) : Prop where
  cls : PySem.W.clsIn K C = some cd
  dct : cd.hasDict = true
  own : ∃ pre, cd.mro = pre ++ [.type "ValueError", .type "Exception", .type "BaseException", .type "object"] ∧ ∀ v ∈ pre, ∃ c, v = Value.ref c
  setA : PySem.W.findIn K (.ref C) "__setattr__" = some (some (.builtin "object.__setattr__"))
section
variable {prog : Program} {w : World} {K : PySem.W.Frag} {A : Around} {E : Value → Shared → Prop} {s : Shared} {e C f : Addr} {cd : ClassData} {name : Str} {v : Value} {vs : Array Value}
end
end L2

set_option Elab.async false
set_option linter.all false
set_option maxRecDepth 100000
set_option maxHeartbeats 4000000
namespace L2
open PySem PySem.Spec PyProof.Rows PySem.W
section
variable {X : Cx} {pins : List (Addr × Obj)} {σ : St} {H : Hp} {s : Shared} {C f : Addr} {cd : ClassData}
theorem XO_ok {P : Program} {w : World} {H : Hp} {h : Heap} {C t e : Addr} {dx : Option Addr} (he : h.get? e = some ⟨.ref C, dx, .fields #[.ref t, .none, .none, .none, .bool false, .none], #[]⟩) : ObjOk P w H h e (XO C t dx e) :=
  ⟨he, ⟨_, he⟩, fun h1 h2 q k => k _ q⟩
end
/-- self.n = value, self an exception just made -/
def sXf (K : PySem.W.Frag) (ta tv : TE) (n : Str) : TS := fun D σ H => tv σ H fun y H1 => ta σ H1 fun x H2 => ∃ a C t cd f, x = .ref a ∧ H2 a = some (XO C t none a) ∧ XCls K C cd f ∧ takerIn K C n = some none ∧
  ∀ dx, H2 dx = none → dx ≠ a → D.nx σ (upd (upd H2 dx (.xd [(n, y)])) a (XO C t (some dx) a))
section
variable {X : Cx} {o value : Expr} {n : Str} {pos pos' : Pos} {ta tv : TE}
end
end L2

set_option Elab.async false
set_option linter.all false
set_option maxRecDepth 100000
set_option maxHeartbeats 4000000
namespace L2
open PySem PySem.Spec PyProof.Rows PySem.W
abbrev vErr : List Value := [.type "ValueError", .type "Exception", .type "BaseException", .type "object"]
/-- an exception class of the text, with an __init__ (at f) of its own -/
structure XMk (K : PySem.W.Frag) (C f : Addr) (cd : ClassData) : Prop where
  cls : XCls K C cd f
  obj : ∃ (nm q : Str) (N : Addr) (bs bm : List Value) (hdct : Bool) (sn : List Str) (sub : List Value) (ab : Bool) (col : Option Bool) (dd : Option Addr) (k0 k1 k2 k3 k5 : Option Value),
    K.lookup C = some (excClassObj nm q C N bs bm hdct sn sub ab col dd k0 k1 k2 k3 k5 "ValueError.__new__") ∧ tailIn K vErr bm = true ∧ bm.contains (.type "BaseException") = true
  init : findIn K (.ref C) "__init__" = some (some (.ref f))
  fn : typeIn K (.ref f) = some (.type "function")
  kp : keepIn K (.ref C) = true
/-- what the __init__ with one field promises -/
def spInit (K : PySem.W.Frag) (n : Str) : Sp := fun vs H Q _ => ∃ (a C t f : Addr) (cd : ClassData) (y : V), vs = [.ref a, y] ∧ H a = some (XO C t none a) ∧ XCls K C cd f ∧ takerIn K C n = some none ∧
  ∀ dx, H dx = none → dx ≠ a → Q .non (upd (upd H dx (.xd [(n, y)])) a (XO C t (some dx) a))
section
variable {X : Cx} {C f : Addr} {fd : FuncData} {cd : ClassData} {k : Nat} {n : Str} {ps : List Str}
end
/-- raise, the exception just made -/
theorem raise_x {M : Model} {A : Around} {E : Value → Shared → Prop} {s : Shared} {env : Env} {K : PySem.W.Frag} {C : Addr} {nm q : Str} {N : Addr} {bs bm : List Value} {hdct : Bool} {sn : List Str} {sub : List Value} {ab : Bool} {col : Option Bool} {dd : Option Addr} {k0 k1 k2 k3 k5 : Option Value} {newId : String} {x : Sem Value} {Q : Flow → Shared → Prop}
    (hbase : bm.contains (.type "BaseException") = true) (hh : A.handled = none)
    (h : wpAny M A x (fun v s1 => ∃ e t dc, v = .ref e ∧ s1.heap.get? C = some (excClassObj nm q C N bs bm hdct sn sub ab col dd k0 k1 k2 k3 k5 newId) ∧ s1.heap.get? e = some ⟨.ref C, dc, .fields #[.ref t, .none, .none, .none, .bool false, .none], #[]⟩ ∧ E (.ref e) s1) E s) :
    wpAny M A (raiseStmt env (some x) none) Q E s := by
  have hcB : (Value.ref C :: bm).contains (.type "BaseException") = true := by rw [List.contains_cons, hbase, Bool.or_true]
  unfold raiseStmt
  refine wpAny_bind (wpAny_mono h (fun v s1 h1 => ?_) fun _ _ z => z)
  obtain ⟨e, t, dc, rfl, hC, he, hE⟩ := h1
  obtain ⟨hp, g, d, tk, os⟩ := s1
  repeat (first | with_reducible refine wpAny_loadPart_at he ?_ | with_reducible refine wpAny_loadPart_at hC ?_ | (with_reducible refine wpAny_isSubtype_exc hC ?_; rw [hcB]) | wp_step)
  exact wpAny_raiseNew_none hh hE
section
variable {P : Program} {w : World} {K : PySem.W.Frag} {mg : Str → Option Value} {base : Heap} {N : List Str} {qual : Str} {scope : Scope} {fa : Addr} {cd0 : Value} {A : Around} {outer : List Env} {s0 : Shared} {H0 : Hp} {E : XK}
  {C f : Addr} {fd : FuncData} {cd : ClassData} {k : Nat} {n x : Str} {ps : List Str} {a : Expr} {te : TE} {p cpos pos : Pos}
end
end L2

set_option Elab.async false
set_option linter.all false
set_option maxRecDepth 100000
set_option maxHeartbeats 4000000
namespace L2
open PySem PySem.Spec PyProof.Rows PySem.W
/-! ### try .. except C as e, the exception caught -/
def blank (N : List Str) : St := N.map fun _ => none
section
variable {X : Cx} {pins : List (Addr × Obj)} {σ : St} {H H' : Hp} {s s1 : Shared} {B h' : Heap} {ea C dx t : Addr} {fl : Value}
/-- the frame's names are forgotten -/
theorem Inv.forget {m' : Str → Option Value} {tk : Nat} (I : Inv X pins σ H s) (hn : h'.Ns X.env.locals m') (hs : Heap.SameBut X.env.locals s.heap h') : Inv X pins (blank X.N) H { s with heap := h', toks := tk } := by
  have ab : ∀ b o, X.s₀.heap.get? b = some o → b ≠ X.env.locals := fun b o e => Nat.ne_of_lt (Nat.lt_of_lt_of_le (Heap.lt_size e) I.ok.above)
  refine ⟨I.ok, I.os, I.bare, ⟨fun b o e n hb hx => (hs.2 b (ab b o e)).trans (I.base.keep b o e n hb hx), fun b o e n hb hx => ?_, I.base.free, fun b o e hx => ?_, I.base.tups, I.base.frzs, I.base.tbls⟩, ⟨m', hn, fun i x v e1 e2 _ => ?_⟩, fun x c e => ?_, I.free, I.freeC, fun p hp => ?_, fun b o e => ?_, by unfold blank; rw [List.length_map]⟩
  · obtain ⟨sl, z⟩ := I.base.slot b o e n hb hx
    exact ⟨sl, (hs.2 b (ab b o e)).trans z⟩
  · obtain ⟨o', z⟩ := I.base.there b o e hx
    exact ⟨o', (hs.2 b (ab b o e)).trans z⟩
  · unfold blank at e2
    rw [List.getElem?_map] at e2
    cases q : X.N[i]? with
    | none => rw [q] at e2; cases e2
    | some y => rw [q] at e2; cases e2
  · obtain ⟨v, z⟩ := I.cell x c e
    exact ⟨v, z.sameBut hs (I.cne x c e)⟩
  · obtain ⟨e, n, ne, nf, d⟩ := I.pin p hp
    exact ⟨(hs.2 p.1 ne).trans e, n, ne, nf, d⟩
  · refine (I.hok b o e).stay (fun c v hc z => (hs.2 c ?_).trans z) (fun _ z => z) fun _ _ z => z
    intro y
    rcases hc with y' | y'
    · rw [← y', y] at e; rw [I.free] at e; cases e
    · rw [y, I.free] at y'; cases y'
end
/-- the body of a try; the suite of an except -/
def Cx.tryc (X : Cx) (pn : List (Addr × Obj)) (XE : Value → Shared → Prop) : Cx := { X with pn := pn, xe := XE }
def Cx.hand (X : Cx) (e : Addr) : Cx := { X with A := X.A.mark (some (.ref e)), calm := false, xe := fun _ _ => False }
section
variable {X : Cx} {pins pn : List (Addr × Obj)} {σ : St} {H : Hp} {s : Shared} {XE : Value → Shared → Prop} {e : Addr}
theorem tryc_ok (ok : X.Ok) : (X.tryc pn XE).Ok :=
  ⟨ok.mod, ok.kind, ok.glob, ok.blt, ok.above, ok.inj, ok.has, ok.cab, ok.hd, ok.frames, ok.stk, ok.exf, ok.bs, ok.bsz, ok.noex, ok.exfs, ok.funs, ok.frf⟩
theorem of_tryc_ok (ok : (X.tryc pn XE).Ok) : X.Ok :=
  ⟨ok.mod, ok.kind, ok.glob, ok.blt, ok.above, ok.inj, ok.has, ok.cab, ok.hd, ok.frames, ok.stk, ok.exf, ok.bs, ok.bsz, ok.noex, ok.exfs, ok.funs, ok.frf⟩
theorem hand_ok (ok : X.Ok) : (X.hand e).Ok :=
  ⟨ok.mod, ok.kind, ok.glob, ok.blt, ok.above, ok.inj, ok.has, ok.cab, (fun z => nomatch z), ok.frames, ok.stk, ok.exf, ok.bs, ok.bsz, ok.noex, ok.exfs, ok.funs, ok.frf⟩
theorem of_hand_ok (ok : (X.hand e).Ok) (hd : X.calm = true → X.A.handled = none) : X.Ok :=
  ⟨ok.mod, ok.kind, ok.glob, ok.blt, ok.above, ok.inj, ok.has, ok.cab, hd, ok.frames, ok.stk, ok.exf, ok.bs, ok.bsz, ok.noex, ok.exfs, ok.funs, ok.frf⟩
theorem Inv.tryc (I : Inv X pins σ H s) : Inv (X.tryc (X.pn ++ pins) XE) [] σ H s :=
  ⟨tryc_ok I.ok, I.os, I.bare, I.base, I.loc, I.cell, I.free, I.freeC, fun p hp => I.pin p (by simpa [Cx.tryc] using hp), I.hok, I.len⟩
theorem Inv.of_tryc {pins' : List (Addr × Obj)} (I : Inv (X.tryc (X.pn ++ pins) XE) pins' σ H s) : Inv X pins σ H s :=
  ⟨of_tryc_ok I.ok, I.os, I.bare, I.base, I.loc, I.cell, I.free, I.freeC, fun p hp => I.pin p (List.mem_append_left _ hp), I.hok, I.len⟩
theorem Inv.hand (I : Inv X pins σ H s) : Inv (X.hand e) pins σ H s := ⟨hand_ok I.ok, I.os, I.bare, I.base, I.loc, I.cell, I.free, I.freeC, I.pin, I.hok, I.len⟩
theorem Inv.of_hand (I : Inv (X.hand e) pins σ H s) (hd : X.calm = true → X.A.handled = none) : Inv X pins σ H s := ⟨of_hand_ok I.ok hd, I.os, I.bare, I.base, I.loc, I.cell, I.free, I.freeC, I.pin, I.hok, I.len⟩
end
end L2

set_option Elab.async false
set_option linter.all false
set_option maxRecDepth 100000
set_option maxHeartbeats 4000000
namespace L2
open PySem PySem.Spec PyProof.Rows PySem.W
/-- a class of the text that an except may name -/
def XL (K : PySem.W.Frag) (L : Addr) : Prop := ∃ (nm q : Str) (N : Addr) (bs bm : List Value) (hdct : Bool) (sn : List Str) (sub : List Value) (ab : Bool) (col : Option Bool) (dd : Option Addr) (k0 k1 k2 k3 k5 : Option Value) (nid : String),
  K.lookup L = some (excClassObj nm q L N bs bm hdct sn sub ab col dd k0 k1 k2 k3 k5 nid) ∧ bm.contains (.type "BaseException") = true
theorem match_exc {M : Model} {A : Around} {E : Value → Shared → Prop} {K : PySem.W.Frag} {s : Shared} {e L C : Addr} {oe : Obj} {b : Bool} {Q : Bool → Shared → Prop} (KI : K.In s.heap) (hL : XL K L) (he : s.heap.get? e = some oe) (hcls : oe.cls = .ref C)
    (hs : mroIn K C (.ref L) = some b) (hq : Q b s) : wpAny M A (excMatches (.ref e) (.ref L)) Q E s := by
  obtain ⟨nm, q, N, bs, bm, hdct, sn, sub, ab, col, dd, k0, k1, k2, k3, k5, nid, hl, hbase⟩ := hL
  have hC := KI _ _ hl
  have hcB : (Value.ref L :: bm).contains (.type "BaseException") = true := by rw [List.contains_cons, hbase, Bool.or_true]
  have hsub : Looks M s.heap (isSubtype (.ref C) (.ref L)) b := looks_mroIn KI hs
  have f := tc_notTuple
  obtain ⟨h, g, d, t, os⟩ := s
  unfold excMatches
  repeat (first | (with_reducible refine wpAny_loadPart_at he ?_; rw [hcls]) | with_reducible refine wpAny_loadPart_at hC ?_ | (with_reducible refine wpAny_isSubtype_exc hC ?_; rw [hcB]) | with_reducible refine Looks.here (s := ⟨h, g, d, t, os⟩) hsub ?_ | wp_step)
  cases b <;> (wp_walk; exact hq)
section
variable {X : Cx} {x n : Str} {L : Addr} {j : Nat} {body suite : List Stmt} {b0 : Stmt} {p1 p2 p3 : Pos} {tb : XK → TS} {ts : Addr → TS}
end
end L2

set_option Elab.async false
set_option linter.all false
set_option maxRecDepth 100000
set_option maxHeartbeats 4000000
namespace L2
open PySem PySem.Spec PyProof.Rows PySem.W PySem.Builtin PySem.Builtin.ObjectAttr
/-- reading a field of a caught exception -/
structure XGet (K : PySem.W.Frag) (C : Addr) (n : Str) : Prop where
  ga : findIn K (.ref C) "__getattribute__" = some (some (.builtin "BaseException.__getattribute__"))
  gt : findIn K (.ref C) "__getattr__" = some none
  no : findIn K (.ref C) n = some none
  hd : hasDictIn K C = true
  up : mroIn K C (.type "BaseException") = some true
section
variable {X : Cx} {e : Expr} {n : Str} {pos : Pos} {ta : TE}
/-- isinstance of a caught exception: yes -/
theorem kit_yes {K : PySem.W.Frag} {x t c : Value} {H : Heap → Prop} (ty : ∀ (M : Model) (h : Heap), K.In h → H h → Looks M h (typeOf x) t) (e : kitOne K t c = some true) : Answers (fun s => K.In s.heap ∧ H s.heap) x c true := by
  intro dep tk prog w A R s hs
  obtain ⟨h0, g, d, t0, os⟩ := s
  obtain ⟨⟨KI, p⟩, hq⟩ := hs
  have T := ty (model prog w) h0 KI p
  unfold kitOne at e
  unfold Builtin.«isinstance.nested»
  refine wpAny_bind (T.at ?_)
  by_cases q : (t == c) = true
  · rw [if_pos q]
    exact wpAny_bind (wpAny_rule (wpAny_pure (hq t0)))
  · rw [if_neg q] at e ⊢
    obtain ⟨h1, h2, h3⟩ := kit_cls (M := model prog w) KI e
    have J : Looks (model prog w) h0 (isInstance x c) true := T.andThen h3
    refine wpAny_bind (h1.at ?_)
    rw [if_pos (by decide)]
    k_delta "plainIsInstance"
    refine wpAny_bind (wpAny_bind (h2.at ?_))
    simp only [Bool.not_true, Bool.false_eq_true, if_false]
    refine wpAny_bind (J.at ?_)
    first
      | exact wpAny_pure (wpAny_pure (hq t0))
      | (simp only [if_true]; first | exact wpAny_pure (wpAny_pure (hq t0)) | exact wpAny_pure (hq t0) | exact wpAny_bind (wpAny_pure (wpAny_pure (hq t0))))
end
end L2

set_option Elab.async false
set_option linter.all false
set_option maxRecDepth 100000
set_option maxHeartbeats 4000000
namespace L2
open PySem PySem.Spec PyProof.Rows PySem.W
/-! ### methods of a text -/
section
variable {X : Cx}
end
/-! ### f-texts -/
section
variable {X : Cx} {e e2 : Expr} {es : List Expr} {te : TE} {ts : List TE} {pos : Pos}
end
/-! ### an exception class of the text, with one field told to __init__ -/
structure XTx (K : PySem.W.Frag) (C f : Addr) (fd : FuncData) (n qual : Str) (st : Stmt) : Prop where
  made : ∃ cd, XMk K C f cd
  tk : takerIn K C n = some none
  get : XGet K C n
  val : kitOne K (.ref C) (.type "ValueError") = some true
  ini : ∃ (oc : Value) (od : Option Addr) (dV kV doc pm : Value) (an : Option Addr) (cdv ct : Value) (osl : Array (Option Value)),
    fd = fnOf "__init__" qual (defArgs st) (defBody st) (defScope st) dV kV doc pm an cdv ct ∧ K.lookup f = some ⟨oc, od, .func fd, osl⟩ ∧ codeIn K cdv qual = true
  bd : Binds K fd ["self", n] []
theorem tail1 {K : PySem.W.Frag} {L N : Addr} {c0 oN : Value} {d0 dN : Option Addr} {cd : ClassData} {sl sN : Array (Option Value)} {eN : Array DictEntry} {nN : Nat} (hL : K.lookup L = some ⟨c0, d0, .cls cd, sl⟩) (hN : cd.ns = N) (nl : K.lookup N = some ⟨oN, dN, .dict eN nN, sN⟩)
    (ke : (eN.toList.all fun e => match e.key with | .str _ _ => true | _ => false) = true) (ni : nsIn K N "__init__" = some none) : tailIn K vErr (.ref L :: vErr) = true := by
  have h1 : nsOkIn K N = true := by unfold nsOkIn; rw [nl]; dsimp only; rw [← Array.all_toList]; exact ke
  have h2 : tailIn K vErr vErr = true := by unfold tailIn vErr; simp
  unfold tailIn
  dsimp only
  rw [hL]
  dsimp only
  rw [hN, h1, ni, h2]
  simp
/-- the __init__ itself -/
theorem XTx.init {P : Program} {w : World} {K : PySem.W.Frag} {mg : Str → Option Value} {base : Heap} {C f : Addr} {fd : FuncData} {n qual : Str} {st : Stmt} (T : XTx K C f fd n qual st) (S : FnScope ["self", n] ["self", n] (defScope st))
    (hbody : ∀ X : Cx, X.N = (["self", n] : List Str) → X.env.scope = defScope st → X.K = K → PSs X (defBody st) (sXf K (tVar 0) (tVar 1) n)) : FnOk P w K mg base CX0 1 f fd ["self", n] (spInit K n) := by
  obtain ⟨oc, od, dV, kV, doc, pm, an, cdv, ct, osl, rfl, lk, hcd⟩ := T.ini
  refine fn_of lk hcd S (fun vs H Q E h => ?_) fun A outer s H vs Q E hr h => ?_
  · obtain ⟨a, C', t, f', cd, y, rfl, _⟩ := h; rfl
  · obtain ⟨a, C', t, f', cd, y, rfl, ha, xc, tk, q⟩ := h
    exact ⟨_, hbody _ rfl rfl rfl, _, rfl, _, rfl, a, C', t, cd, f', rfl, ha, xc, tk, fun dx h1 h2 => q dx h1 h2⟩
/-- a def of the text that may let an exception go -/
theorem Fun.ok1 {P : Program} {w : World} {K : PySem.W.Frag} {mg : Str → Option Value} {base : Heap} {x qual : Str} {st : Stmt} {f : Addr} {fd : FuncData} {N ps : List Str} {k : Nat} {sp : Sp} (F : Fun K x qual st f fd) (S : FnScope N ps (defScope st)) (len : ∀ vs H Q E, sp vs H Q E → vs.length = ps.length)
    (hbody : ∀ (cdv : Value) (A : Around) (outer : List Env) (s : Shared) (H : Hp) (vs : List V) (Q : VK) (E : XK), Room k (A.deeper (envOfC qual (defScope st) s.heap.objs.size f cdv)) → sp vs H Q E →
      ∃ t, PSs (cxOf (CX1 P w) P w K mg base N qual (defScope st) f cdv A outer s H E) (defBody st) t ∧ t { nx := fun _ H' => Q .non H', rt := Q } (start N vs) H) : FnOk P w K mg base (CX1 P w) (k + 1) f fd ps sp := by
  obtain ⟨oc, od, kV, doc, pm, an, cdv, ct, osl, rfl, lk, hcd⟩ := F.ex
  exact fn_of lk hcd S len fun A outer s H vs Q E hr hsp => hbody cdv A outer s H vs Q E hr hsp
end L2

set_option Elab.async false
set_option linter.all false
set_option maxRecDepth 100000
set_option maxHeartbeats 4000000
namespace L2
open PySem PySem.Spec PyProof.Rows PySem.W
/-! ### try .. except C as e, the names kept -/
/-- an exception of a callee, the names as they are told -/
def PassesAt (CX : CXT) (X : Cx) (E : XK) (σ0 : St) : Prop := ∀ (pins : List (Addr × Obj)) (H : Hp) (s : Shared) (e : Value) (s' : Shared), Inv X pins σ0 H s → CX X.stack H s E e s' → X.xe e s'
def tAt (σ0 : St) (t : TE) : TE := fun σ H Q => σ = σ0 ∧ t σ H Q
section
variable {X : Cx} {CX : CXT} {k : Nat} {f : Addr} {fd : FuncData} {ps : List Str} {sp : Sp} {dvs : List V} {ds : List Value} {E : XK} {x : Str} {p pos : Pos} {e : Expr} {es : List Expr} {t : TA} {σ0 : St}
theorem pe_callA (F : FnOk X.prog X.w X.K X.mg X.base CX k f fd ps sp) (hr : Room k X.A) (hg : Gl X x) (hm : X.mg x = some (.ref f)) (hk : keepIn X.K (.ref f) = true) (hb : Binds X.K fd ps ds) (hd : Vals dvs ds) (hx : PassesAt CX X E σ0)
    (ha : PA X (e :: es) t) (hdb : (x == ("__debug__" : Str)) = false := by decide) (he : starEach (e :: es) X.env = (false, eval e X.env) :: starEach es X.env := by rfl) (hpl : (backTo pos (starEach es X.env)).any (·.1) = false := by rfl) :
    PE X (.Call (.Name x p) (e :: es) [] pos) (tAt σ0 (tCall sp dvs E t)) := by
  intro pins s σ H Q I hh
  obtain ⟨rfl, h⟩ := hh
  refine wpAny_Call_Name_kw (ld_glob I hg hm ?_ hdb)
  refine callWith_K (h₀ := X.base) I.ok.mod.kin hk (thn (ha pos pins s σ H _ I h) fun us s1 hq => ?_) he hpl
  obtain ⟨vs, H1, I1, r, q⟩ := hq
  refine ⟨I1.kIn, ?_⟩
  have r2 : Vals (vs ++ dvs) (us ++ ds) := r.append hd
  have q' : sp (vs ++ dvs) H1 Q E := q
  have hl : (us ++ ds).length = ps.length := r2.length ▸ F.len _ _ _ _ q'
  refine wpAny_call (codeAny_mono (F.run X.A X.stack s1 H1 ⟨us, []⟩ (us ++ ds) (vs ++ dvs) Q E hr I1.env0 (hb s1 us I1.kIn hl) r2 q') fun r s' z => ?_)
  match r, z with
  | .error e, z => exact hx pins H1 s1 e s' I1 z
  | .ok (.ret u), z => exact I1.after z
  | .ok .next, z => exact z.elim
  | .ok .brk, z => exact z.elim
  | .ok .cont, z => exact z.elim
end
section
variable {X : Cx} {pins : List (Addr × Obj)} {σ σ2 : St} {H : Hp} {s : Shared} {h' : Heap}
/-- the frame's names anew -/
theorem Inv.renamed {m' : Str → Option Value} {tk : Nat} (I : Inv X pins σ H s) (hn : h'.Ns X.env.locals m') (hs : Heap.SameBut X.env.locals s.heap h') (hl : σ2.length = X.N.length)
    (hσ : ∀ (i : Nat) (x : Str) (v : V), X.N[i]? = some x → σ2[i]? = some (some v) → Vis X.env.scope x → ∃ u, RelV v u ∧ Look X.env h' m' x u) : Inv X pins σ2 H { s with heap := h', toks := tk } := by
  have J := I.forget (tk := tk) hn hs
  exact ⟨J.ok, J.os, J.bare, J.base, ⟨m', hn, hσ⟩, J.cell, J.free, J.freeC, J.pin, J.hok, hl⟩
theorem name_goes {M : Model} {A : Around} {E : Value → Shared → Prop} {n : Str} {j : Nat} {pos : Pos} {Q : Unit → Shared → Prop} (I : Inv X pins σ H s) (hnd : X.N.Nodup) (hj : X.N[j]? = some n) (hk : X.env.kindOf n = some .local)
    (h : ∀ s', Inv X pins (σ.set j none) H s' → Q () s') : wpAny M A (do bindName X.env n .none; unbindBehindTheSuite X.env n pos) Q E s := by
  refine wpAny_bind (wpAny_bindName (store_ok (i := j) (v := .non) (u := Value.none) I hnd hj (.inl hk) rfl (fun s1 I1 => ?_) (.inr hk)))
  unfold unbindBehindTheSuite
  refine wpAny_onRaise ?_
  obtain ⟨m, hm, hl⟩ := I1.loc
  have hjl : j < σ.length := by rw [I.len]; exact (List.getElem?_eq_some_iff.mp hj).1
  obtain ⟨u, ru, lk⟩ := hl j n .non hj (by rw [List.getElem?_set_self hjl]) (.inl hk)
  have hmn : m n = some u := by
    rcases lk with ⟨_, z⟩ | ⟨z, _⟩
    · exact z
    · rw [hk] at z; rcases z with z | z <;> cases z
  have kk : (X.env.scope.kind == .class || (X.env.scope.kind == .module && X.env.locals != X.env.globals)) = false := by rw [I1.ok.kind]; rfl
  refine wpAny_unbindName_local hk hm hmn kk fun h' u' hn' hs' => h _ (I1.renamed hn' hs' (by rw [List.length_set]; exact I.len) fun i y v e1 e2 e3 => ?_)
  by_cases hij : i = j
  · subst hij
    rw [List.getElem?_set_self hjl] at e2
    cases e2
  · rw [List.getElem?_set_ne (Ne.symm hij)] at e2
    have e2' : (σ.set j (some .non))[i]? = some (some v) := by rw [List.getElem?_set_ne (Ne.symm hij)]; exact e2
    obtain ⟨u2, r2, l2⟩ := hl i y v e1 e2' e3
    have hyn : y ≠ n := fun z => hij (nodup_ix hnd e1 (z ▸ hj))
    refine ⟨u2, r2, ?_⟩
    rcases l2 with ⟨z1, z2⟩ | ⟨z1, c, z2, z3⟩
    · exact .inl ⟨z1, (if_neg hyn).trans z2⟩
    · exact .inr ⟨z1, c, z2, z3.sameBut hs' (I1.cne y c z2)⟩
end
section
variable {X : Cx} {x n : Str} {L : Addr} {j : Nat} {body suite : List Stmt} {b0 : Stmt} {p1 p2 p3 : Pos} {tb : XK → St → TS} {ts : Addr → TS}
end
end L2

set_option Elab.async false
set_option linter.all false
set_option maxRecDepth 100000
namespace L2
open PySem PySem.Spec PyProof.Rows

/-! ### lists of pairs as tables -/
section
variable {κ : Type} [DecidableEq κ]
def valV (kvs : List (κ × V)) (k : κ) : Option V := (kvs.find? fun kv => decide (kv.1 = k)).map (·.2)
/-- in its place, or at the end -/
def putK (kvs : List (κ × V)) (k : κ) (v : V) : List (κ × V) :=
  if (kvs.any fun kv => decide (kv.1 = k)) = true then kvs.map (fun kv => if kv.1 = k then (kv.1, v) else kv) else kvs ++ [(k, v)]
def dropK (kvs : List (κ × V)) (k : κ) : List (κ × V) := kvs.filter fun kv => decide (kv.1 ≠ k)

theorem valV_pos {p : κ × V} {r : List (κ × V)} {k : κ} (e : p.1 = k) : valV (p :: r) k = some p.2 := by simp [valV, List.find?_cons, e]
theorem valV_neg {p : κ × V} {r : List (κ × V)} {k : κ} (e : ¬ p.1 = k) : valV (p :: r) k = valV r k := by simp [valV, List.find?_cons, e]
theorem valV_any (k : κ) : ∀ kvs : List (κ × V), (kvs.any fun kv => decide (kv.1 = k)) = (valV kvs k).isSome
  | [] => rfl
  | p :: r => by
    rw [List.any_cons]
    by_cases e : p.1 = k
    · simp only [valV_pos e, decide_eq_true e, Bool.true_or, Option.isSome_some]
    · rw [valV_neg e, decide_eq_false e, Bool.false_or]; exact valV_any k r
theorem valV_map (k j : κ) (y : V) : ∀ kvs : List (κ × V), valV (kvs.map fun kv => if kv.1 = k then (kv.1, y) else kv) j = (valV kvs j).map fun x => if j = k then y else x
  | [] => rfl
  | p :: r => by
    have ih := valV_map k j y r
    rw [List.map_cons]
    by_cases h : p.1 = k
    · rw [if_pos h]
      by_cases e : p.1 = j
      · rw [valV_pos (p := (p.1, y)) e, valV_pos e, Option.map_some, if_pos (e.symm.trans h)]
      · rw [valV_neg (p := (p.1, y)) e, valV_neg e, ih]
    · rw [if_neg h]
      by_cases e : p.1 = j
      · rw [valV_pos (p := p) e, valV_pos e, Option.map_some, if_neg (fun z => h (e.trans z))]
      · rw [valV_neg (p := p) e, valV_neg e, ih]
theorem valV_snoc (k j : κ) (y : V) : ∀ kvs : List (κ × V), valV kvs k = none → valV (kvs ++ [(k, y)]) j = if j = k then some y else valV kvs j
  | [], _ => by
    by_cases e : k = j
    · rw [if_pos e.symm]; exact valV_pos (p := (k, y)) e
    · rw [if_neg (fun z => e z.symm)]; exact valV_neg (p := (k, y)) e
  | p :: r, hn => by
    rw [List.cons_append]
    have hk : ¬ p.1 = k := fun z => by rw [valV_pos z] at hn; cases hn
    rw [valV_neg hk] at hn
    have ih := valV_snoc k j y r hn
    by_cases e : p.1 = j
    · rw [valV_pos e, valV_pos e, if_neg (fun z => hk (e.trans z))]
    · rw [valV_neg e, valV_neg e, ih]
theorem valV_put (kvs : List (κ × V)) (k j : κ) (y : V) : valV (putK kvs k y) j = if j = k then some y else valV kvs j := by
  unfold putK
  by_cases a : (kvs.any fun kv => decide (kv.1 = k)) = true
  · rw [if_pos a, valV_map]
    rw [valV_any] at a
    by_cases e : j = k
    · obtain ⟨x, hx⟩ := Option.isSome_iff_exists.mp a
      rw [if_pos e, e, hx, Option.map_some, if_pos rfl]
    · rw [if_neg e]
      cases valV kvs j with
      | none => rfl
      | some x => rw [Option.map_some, if_neg e]
  · rw [if_neg a]
    refine valV_snoc k j y kvs ?_
    rw [valV_any] at a
    cases q : valV kvs k with
    | none => rfl
    | some x => rw [q] at a; exact (a rfl).elim
theorem length_putK (kvs : List (κ × V)) (k : κ) (v : V) : (putK kvs k v).length ≤ kvs.length + 1 := by
  unfold putK
  split
  · rw [List.length_map]; omega
  · rw [List.length_append, List.length_cons, List.length_nil]; omega
theorem RelO.isSome_eq {o : Option V} {u : Option Value} (r : RelO o u) : o.isSome = u.isSome := by
  cases o with
  | none => cases u with
    | none => rfl
    | some _ => exact (show False from r).elim
  | some _ => cases u with
    | none => exact (show False from r).elim
    | some _ => rfl
theorem RelO.getD {o : Option V} {u : Option Value} {d : V} {d' : Value} (r : RelO o u) (rd : RelV d d') : RelV (o.getD d) (u.getD d') := by
  cases o with
  | none => cases u with
    | none => exact rd
    | some _ => exact (show False from r).elim
  | some _ => cases u with
    | none => exact (show False from r).elim
    | some _ => exact r

/-- raw tables of the same keys -/
theorem KV.val {kvs : List (κ × V)} {vs : List (κ × Value)} (r : KV kvs vs) (k : κ) : RelO (valV kvs k) (valueAt vs k) := by
  unfold KV at r
  induction r with
  | nil => exact True.intro
  | @cons p q ps qs h t ih =>
    obtain ⟨h1, h2⟩ := h
    by_cases e : p.1 = k
    · have e' : q.1 = k := h1.symm.trans e
      have b : valueAt (q :: qs) k = some q.2 := by simp [valueAt, List.find?_cons, e']
      rw [valV_pos e, b]; exact h2
    · have e' : ¬ q.1 = k := fun z => e (h1.trans z)
      have b : valueAt (q :: qs) k = valueAt qs k := by simp [valueAt, List.find?_cons, e']
      rw [valV_neg e, b]; exact ih
theorem KV.any {kvs : List (κ × V)} {vs : List (κ × Value)} (r : KV kvs vs) (k : κ) : (kvs.any fun kv => decide (kv.1 = k)) = vs.any fun kv => decide (kv.1 = k) := by
  unfold KV at r
  induction r with
  | nil => rfl
  | cons h t ih => rw [List.any_cons, List.any_cons, ih, h.1]
theorem KV.repl {kvs : List (κ × V)} {vs : List (κ × Value)} (r : KV kvs vs) (k : κ) {y : V} {u : Value} (ry : RelV y u) :
    KV (kvs.map fun kv => if kv.1 = k then (kv.1, y) else kv) (vs.map fun kv => if kv.1 = k then (kv.1, u) else kv) := by
  unfold KV at r ⊢
  induction r with
  | nil => exact .nil
  | @cons p q ps qs h t ih =>
    rw [List.map_cons, List.map_cons]
    refine .cons ?_ ih
    obtain ⟨h1, h2⟩ := h
    by_cases e : p.1 = k
    · rw [if_pos e, if_pos (h1.symm.trans e)]; exact ⟨h1, ry⟩
    · rw [if_neg e, if_neg (fun z => e (h1.trans z))]; exact ⟨h1, h2⟩
theorem KV.put {kvs : List (κ × V)} {vs : List (κ × Value)} (r : KV kvs vs) (k : κ) {y : V} {u : Value} (ry : RelV y u) : KV (putK kvs k y) (stored vs k u) := by
  unfold putK stored
  rw [r.any k]
  by_cases e : (vs.any fun kv => decide (kv.1 = k)) = true
  · rw [if_pos e, if_pos e]; exact r.repl k ry
  · rw [if_neg e, if_neg e]; exact Paired.snoc r ⟨rfl, ry⟩
theorem KV.drop {kvs : List (κ × V)} {vs : List (κ × Value)} (r : KV kvs vs) (k : κ) : KV (dropK kvs k) (without vs k) := by
  unfold KV at r ⊢
  unfold dropK without
  induction r with
  | nil => exact .nil
  | @cons p q ps qs h t ih =>
    obtain ⟨h1, h2⟩ := h
    rw [List.filter_cons, List.filter_cons]
    by_cases e : p.1 = k
    · have a : ¬ decide (p.1 ≠ k) = true := by simp [e]
      have b : ¬ decide (q.1 ≠ k) = true := by simp [h1.symm.trans e]
      rw [if_neg a, if_neg b]; exact ih
    · have e' : ¬ q.1 = k := fun z => e (h1.trans z)
      have a : decide (p.1 ≠ k) = true := by simp [e]
      have b : decide (q.1 ≠ k) = true := by simp [e']
      rw [if_pos a, if_pos b]; exact .cons ⟨h1, h2⟩ ih
theorem KV.keys {kvs : List (κ × V)} {vs : List (κ × Value)} (r : KV kvs vs) : kvs.map (·.1) = vs.map (·.1) := by
  unfold KV at r
  induction r with
  | nil => rfl
  | cons h t ih => rw [List.map_cons, List.map_cons, ih, h.1]
theorem KV.length {kvs : List (κ × V)} {vs : List (κ × Value)} (r : KV kvs vs) : kvs.length = vs.length := Paired.length r
end


/-! ### a tracked dict, its keys ints and texts or tuples of these -/
theorem kV_is {P : Program} {w : World} {k : Key} {u : Value} (r : RelV (kV k) u) : (mixKind P w).is k u = true := by
  cases k with
  | inl i => obtain ⟨t, e⟩ := (show ∃ t, u = Value.int i t from r); subst e; exact mixKind_int P w i t
  | inr x => obtain ⟨t, e⟩ := (show ∃ t, u = Value.str x t from r); subst e; exact mixKind_str P w x t
theorem items_are {P : Program} {w : World} : ∀ {ks : List Key} {us : List Value}, Vals (ks.map kV) us → ItemsAre (mixKind P w) ks us
  | [], _, r => by rw [List.map_nil] at r; cases r; exact .nil
  | k :: ks, _, r => by
    rw [List.map_cons] at r
    cases r with
    | cons h t => exact .cons (kV_is h) (items_are t)

/-- raw entries of a dict with tuple keys -/
abbrev KT (H : Hp) : List (List Key × V) → List (List Key × Addr × Value) → Prop := Paired fun p q => p.1 = q.1 ∧ H q.2.1 = some (.tup (p.1.map kV)) ∧ RelV p.2 q.2.2
theorem KT.val {H : Hp} {kvs : List (List Key × V)} {xs : List (List Key × Addr × Value)} (r : KT H kvs xs) (k : List Key) : RelO (valV kvs k) ((atKey xs k).map (·.2)) := by
  induction r with
  | nil => exact True.intro
  | @cons p q ps qs h t ih =>
    obtain ⟨h1, _, h2⟩ := h
    by_cases e : p.1 = k
    · have e' : q.1 = k := h1.symm.trans e
      have b : atKey (q :: qs) k = some q.2 := by simp [atKey, List.find?_cons, e']
      rw [valV_pos e, b]; exact h2
    · have e' : ¬ q.1 = k := fun z => e (h1.trans z)
      have b : atKey (q :: qs) k = atKey qs k := by simp [atKey, List.find?_cons, e']
      rw [valV_neg e, b]; exact ih
theorem KT.repl {H : Hp} {kvs : List (List Key × V)} {xs : List (List Key × Addr × Value)} (r : KT H kvs xs) (k : List Key) {y : V} {u : Value} (ry : RelV y u) :
    KT H (kvs.map fun kv => if kv.1 = k then (kv.1, y) else kv) (xs.map (putAt k u)) := by
  induction r with
  | nil => exact .nil
  | @cons p q ps qs h t ih =>
    rw [List.map_cons, List.map_cons]
    refine .cons ?_ ih
    obtain ⟨h1, h2, h3⟩ := h
    unfold putAt
    by_cases e : p.1 = k
    · rw [if_pos e, if_pos (h1.symm.trans e)]; exact ⟨h1, h2, ry⟩
    · rw [if_neg e, if_neg (fun z => e (h1.trans z))]; exact ⟨h1, h2, h3⟩
theorem KT.put {H : Hp} {kvs : List (List Key × V)} {xs : List (List Key × Addr × Value)} (r : KT H kvs xs) (k : List Key) {b : Addr} {y : V} {u : Value} (hb : H b = some (.tup (k.map kV))) (ry : RelV y u) :
    KT H (putK kvs k y) (storedH xs k b u) := by
  have e : (kvs.any fun kv => decide (kv.1 = k)) = (atKey xs k).isSome := by
    rw [valV_any, (r.val k).isSome_eq, Option.isSome_map]
  unfold putK storedH
  rw [e]
  by_cases q : (atKey xs k).isSome = true
  · rw [if_pos q, if_pos q]; exact r.repl k ry
  · rw [if_neg q, if_neg q]; exact Paired.snoc r ⟨rfl, hb, ry⟩
theorem KT.keeps {H H' : Hp} {kvs : List (List Key × V)} {xs : List (List Key × Addr × Value)} (r : KT H kvs xs) (ht : ∀ b ys, H b = some (.tup ys) → H' b = some (.tup ys)) : KT H' kvs xs :=
  Paired.mapP r fun _ _ z => ⟨z.1, ht _ _ z.2.1, z.2.2⟩

section
variable {P : Program} {w : World} {H : Hp} {h : Heap} {a : Addr}
theorem rd_of {u : HO} (ok : HOk P w H h) (e : Rd H a u) : ObjOk P w H h a u := e.ok ok
theorem dk_rd {kvs : List (Key × V)} (ok : HOk P w H h) (e : Rd H a (.dK kvs)) : kvs.length ≤ sizeLine ∧ (a == sysModules) = false ∧ ∃ vs, KV kvs vs ∧ h.DictOf (mixKind P w) a vs :=
  show ObjOk P w H h a (.dK kvs) from rd_of ok e
theorem dk_of {kvs : List (Key × V)} (ok : HOk P w H h) (e : H a = some (.dK kvs)) : kvs.length ≤ sizeLine ∧ (a == sysModules) = false ∧ ∃ vs, KV kvs vs ∧ h.DictOf (mixKind P w) a vs := dk_rd ok (.inl e)
/-- a tracked tuple of ints and texts is a key -/
theorem key_of {ks : List Key} (ok : HOk P w H h) (e : H a = some (.tup (ks.map kV))) : (tupleKind (mixKind P w)).is h ks a := by
  obtain ⟨_, its, r, o, h1, h2, n, h3⟩ := (show ObjOk P w H h a (.tup (ks.map kV)) from ok a _ e)
  exact ⟨o, its.toArray, n, h1, h2, h3, by simpa using items_are r⟩
theorem dt_rd {kvs : List (List Key × V)} (ok : HOk P w H h) (e : Rd H a (.dT kvs)) : kvs.length ≤ sizeLine ∧ (a == sysModules) = false ∧
    ∃ xs, KT H kvs xs ∧ h.DictOfH (tupleKind (mixKind P w)) a xs := by
  obtain ⟨z, y, xs, r, o, es, ep, h1, h2, h3, h4, h5⟩ := (show ObjOk P w H h a (.dT kvs) from rd_of ok e)
  refine ⟨z, y, xs, r, o, es, ep, h1, h2, h3, h4, fun x hx => ?_, h5⟩
  have all : ∀ {l : List (List Key × V)} {m : List (List Key × Addr × Value)}, KT H l m → ∀ x ∈ m, (tupleKind (mixKind P w)).is h x.1 x.2.1 := by
    intro l m q
    induction q with
    | nil => intro x hx; exact nomatch hx
    | @cons p q ps qs hq t ih =>
      intro x hx
      rcases List.mem_cons.mp hx with e | hx
      · subst e
        exact key_of ok (by rw [← hq.1]; exact hq.2.1)
      · exact ih x hx
  exact all r x hx
end

/-- what the dict at a holds at the key y -/
def DGet (H : Hp) (a : Addr) (y : V) (r : Option V) : Prop :=
  (∃ kvs k, Rd H a (.dK kvs) ∧ y = kV k ∧ r = valV kvs k) ∨ ∃ kvs k b, Rd H a (.dT kvs) ∧ y = .ref b ∧ H b = some (.tup (k.map kV)) ∧ r = valV kvs k
/-- the heap behind a[y] = v -/
def DPut (H : Hp) (a : Addr) (y v : V) (H' : Hp) : Prop :=
  (∃ kvs k, H a = some (.dK kvs) ∧ y = kV k ∧ kvs.length < sizeLine ∧ H' = upd H a (.dK (putK kvs k v))) ∨
  ∃ kvs k b, H a = some (.dT kvs) ∧ y = .ref b ∧ H b = some (.tup (k.map kV)) ∧ kvs.length < sizeLine ∧ H' = upd H a (.dT (putK kvs k v))
theorem DGet.k {H : Hp} {a : Addr} {kvs : List (Key × V)} {k : Key} (e : H a = some (.dK kvs)) : DGet H a (kV k) (valV kvs k) := .inl ⟨kvs, k, .inl e, rfl, rfl⟩
theorem DGet.t {H : Hp} {a b : Addr} {kvs : List (List Key × V)} {k : List Key} (e : H a = some (.dT kvs)) (eb : H b = some (.tup (k.map kV))) : DGet H a (.ref b) (valV kvs k) := .inr ⟨kvs, k, b, .inl e, rfl, eb, rfl⟩
theorem DPut.k {H : Hp} {a : Addr} {kvs : List (Key × V)} {k : Key} {v : V} (e : H a = some (.dK kvs)) (hl : kvs.length < sizeLine) : DPut H a (kV k) v (upd H a (.dK (putK kvs k v))) := .inl ⟨kvs, k, e, rfl, hl, rfl⟩
theorem DPut.t {H : Hp} {a b : Addr} {kvs : List (List Key × V)} {k : List Key} {v : V} (e : H a = some (.dT kvs)) (eb : H b = some (.tup (k.map kV))) (hl : kvs.length < sizeLine) :
    DPut H a (.ref b) v (upd H a (.dT (putK kvs k v))) := .inr ⟨kvs, k, b, e, rfl, eb, hl, rfl⟩


section
variable {X : Cx} {pins : List (Addr × Obj)} {σ : St} {H : Hp} {s : Shared} {a : Addr} {y v : V} {u r : Value} {o : Option V} {A : Around} {E : Value → Shared → Prop}

theorem Inv.big (I : Inv X pins σ H s) : sysModules < s.heap.objs.size := by
  have h : mainGlobals < s.heap.objs.size := (I.mod.glob.keeps I.bk).lt
  exact Nat.lt_trans (by decide) h

/-- d[y], there -/
theorem d_getItem {Q : Value → Shared → Prop} (hu : A.units + 1 < cLine) (I : Inv X pins σ H s) (g : DGet H a y (some v)) (ry : RelV y u) (h : ∀ w' s', Inv X pins σ H s' → RelV v w' → Q w' s') :
    wpAny (model X.prog X.w) A (getItem (.ref a) u) Q E s := by
  rcases g with ⟨kvs, k, e, ey, l⟩ | ⟨kvs, k, b, e, ey, eb, l⟩
  · subst ey
    obtain ⟨z, hd, vs, rel, dd⟩ := dk_rd I.hok e
    obtain ⟨w', hw, rw'⟩ := RelO.some_of (v := v) (o := valueAt vs k) (by rw [l]; exact rel.val k)
    exact wpAny_getItem_of (kV_is ry) dd.mapOf hw (h w' _ (I.tok _) rw')
  · subst ey
    cases (show u = Value.ref b from ry)
    obtain ⟨z, hd, xs, rel, dd⟩ := dt_rd I.hok e
    obtain ⟨w', hw, rw'⟩ := RelO.some_of (v := v) (o := (atKey xs k).map (·.2)) (by rw [l]; exact rel.val k)
    obtain ⟨p, hp, hp2⟩ := Option.map_eq_some_iff.mp hw
    refine wpAny_getItem_heap (tupleKind_room_in1 hu) (key_of I.hok eb) dd hp ?_
    rw [hp2]
    exact h w' _ (I.tok _) rw'
theorem d_notIn {Q : Value → Shared → Prop} (hu : A.units + 1 < cLine) (I : Inv X pins σ H s) (g : DGet H a y o) (ry : RelV y u) (h : ∀ s', Inv X pins σ H s' → Q (.bool (!o.isSome)) s') :
    wpAny (model X.prog X.w) A (compareOp .NotIn u (.ref a)) Q E s := by
  rcases g with ⟨kvs, k, e, ey, l⟩ | ⟨kvs, k, b, e, ey, eb, l⟩
  · subst ey
    obtain ⟨z, hd, vs, rel, dd⟩ := dk_rd I.hok e
    refine wpAny_notIn_of (kV_is ry) hd dd.mapOf ?_
    rw [← (rel.val k).isSome_eq, ← l]
    exact h _ (I.tok _)
  · subst ey
    cases (show u = Value.ref b from ry)
    obtain ⟨z, hd, xs, rel, dd⟩ := dt_rd I.hok e
    refine wpAny_notIn_heap (tupleKind_room_in1 hu) (key_of I.hok eb) hd dd ?_
    have q := (rel.val k).isSome_eq
    rw [Option.isSome_map] at q
    rw [← q, ← l]
    exact h _ (I.tok _)
end

section
variable {X : Cx} {pins : List (Addr × Obj)} {σ : St} {H : Hp} {s : Shared} {a : Addr} {kvs : List (Key × V)} {k : Key} {u : Value} {A : Around} {E : Value → Shared → Prop}
end


/-! ### readings and rules -/
/-- the element of a subscription, not a slice -/
def NoSl (i : Expr) : Prop := ∀ ov iv, subscripted i false ov iv = operate [ov, iv] (getItem ov iv)
theorem subD_of {prog : Program} {w : World} {A : Around} {E : Value → Shared → Prop} {s : Shared} {env : Env} {value slice : Expr} {pos : Pos} {T id : String} {Q : Value → Shared → Prop}
    (hl : typeLookup (.type T) "__getitem__" = pure (some (.builtin id))) (hs : NoSl slice)
    (h : wpAny (model prog w) A (eval value env) (fun o s₁ => wpAny (model prog w) A (eval slice env) (fun i s₂ => s₂.TypeIs o T ∧ wpAny (model prog w) A (getItem o i) Q E s₂) E s₁) E s) :
    wpAny (model prog w) A (eval (.Subscript value slice pos) env) Q E s := by
  refine Subscript_ (wpAny_mono h (fun o s₁ h₁ => wpAny_mono h₁ (fun i s₂ h₂ => ?_) fun _ _ x => x) fun _ _ x => x)
  obtain ⟨hT, h₂⟩ := h₂
  unfold subscriptTail
  refine wpAny_bind ?_
  rw [getitemInPython_of_ne hT.not_modules]
  refine wpAny_bind (wpAny_specialOf hT hl ?_)
  have fin : wpAny (model prog w) A (subscripted slice false o i) (fun r s₃ => wpAny (model prog w) A (letTemporaryGo value o r >>= fun _ => pure r) Q E s₃) E s₂ := by
    rw [hs o i]
    exact wpAny_operating (wpAny_mono h₂ (fun r s₃ h₃ => wpAny_bind (wpAny_letTemporaryGo (wpAny_pure h₃))) fun _ _ x => x)
  first
    | exact wpAny_pure (wpAny_bind fin)
    | exact wpAny_bind (wpAny_pure (wpAny_bind fin))
    | exact wpAny_bind fin

theorem dict_typeIs {X : Cx} {pins : List (Addr × Obj)} {σ : St} {H : Hp} {s : Shared} {a : Addr} {y : V} {o : Option V} (I : Inv X pins σ H s) (g : DGet H a y o) : s.TypeIs (.ref a) "dict" := by
  rcases g with ⟨kvs, k, e, _, _⟩ | ⟨kvs, k, b, e, _, _, _⟩
  · obtain ⟨_, _, vs, _, dd⟩ := dk_rd I.hok e
    exact dd.typeIs
  · obtain ⟨_, _, xs, _, dd⟩ := dt_rd I.hok e
    exact dd.typeIs
/-- d[y] -/
def tDGet (td ty : TE) : TE := fun σ H Q => td σ H fun x H1 => ty σ H1 fun y H2 => ∃ a v, x = .ref a ∧ DGet H2 a y (some v) ∧ Q v H2
def tDNotIn (ty td : TE) : TE := fun σ H Q => ty σ H fun y H1 => td σ H1 fun x H2 => ∃ a o, x = .ref a ∧ DGet H2 a y o ∧ Q (.bl (!o.isSome)) H2
section
variable {X : Cx} {o i e value : Expr} {pos pos' tpos : Pos} {td ty tv : TE}
theorem pe_dget (hu : X.A.units + 1 < cLine) (ho : PE X o td) (hi : PE X i ty) (hs : NoSl i) : PE X (.Subscript o i pos) (tDGet td ty) := by
  intro pins s σ H Q I h
  refine subD_of PySem.F.slot_dict_getitem.lookup hs (thn (ho pins s σ H _ I h) fun u s1 ⟨x, H1, I1, rx, q1⟩ => thn (hi pins s1 σ H1 _ I1 q1) fun iv s2 ⟨y, H2, I2, ry, a, v, ex, g, q2⟩ => ?_)
  subst ex
  obtain rfl : u = Value.ref a := rx
  exact ⟨dict_typeIs I2 g, d_getItem hu I2 g ry fun w' s3 I3 rw' => ⟨v, H2, I3, rw', q2⟩⟩
theorem pc_dnotin (hu : X.A.units + 1 < cLine) (hi : PE X i ty) (ho : PE X o td) : PC X .NotIn i o (tDNotIn ty td) := by
  intro pins s σ H Q I h
  refine thn (hi pins s σ H _ I h) fun iv s1 ⟨y, H1, I1, ry, q1⟩ => thn (ho pins s1 σ H1 _ I1 q1) fun u s2 ⟨x, H2, I2, rx, a, ov, ex, g, q2⟩ => ?_
  subst ex
  obtain rfl : u = Value.ref a := rx
  exact d_notIn hu I2 g ry fun s3 I3 => ⟨.bl (!ov.isSome), H2, I3, rfl, q2⟩
end


/-! ### displays -/
section
variable {X : Cx} {pos : Pos}
end

/-! ### methods -/
structure M2 (X : Cx) (o : Expr) (m : Str) (apos : Pos) (e f : Expr) (cpos : Pos) : Prop where
  base : attributeBase o m X.env (eval o X.env) = eval o X.env
  few : ((backTo cpos (starEach [e, f] X.env)).all (fun x => !x.1) && (backToKw cpos (keywordEach [] X.env)).all (fun x => x.1.isSome)
    && decide (([e, f] : List Expr).length + ([] : List Keyword).length + (if ([] : List Keyword).isEmpty then 0 else 1) < 30)) = true
  line : (apos.endLine == cpos.line) = true
  trees : backTo cpos (starEach [e, f] X.env) = [(false, eval e X.env), (false, eval f X.env)]

/-- a is a dict, whatever its keys -/
def IsD (H : Hp) (a : Addr) : Prop := (∃ kvs, Rd H a (.dK kvs)) ∨ ∃ kvs, Rd H a (.dT kvs)
theorem isD_at {X : Cx} {pins : List (Addr × Obj)} {σ : St} {H : Hp} {s : Shared} {a : Addr} (I : Inv X pins σ H s) (d : IsD H a) :
    s.TypeIs (.ref a) "dict" ∧ (∀ b, Value.ref a = .ref b → ∃ ob, s.heap.get? b = some ob ∧ ob.dict = none) ∧ (a == sysModules) = false := by
  rcases d with ⟨kvs, e⟩ | ⟨kvs, e⟩
  · obtain ⟨_, hd, vs, _, dd⟩ := dk_rd I.hok e
    refine ⟨dd.typeIs, fun b q => ?_, hd⟩
    cases q
    obtain ⟨ob, _, _, h1, h2, _⟩ := dd
    exact ⟨ob, h1, h2.2.1⟩
  · obtain ⟨_, hd, xs, _, dd⟩ := dt_rd I.hok e
    refine ⟨dd.typeIs, fun b q => ?_, hd⟩
    cases q
    obtain ⟨ob, _, _, h1, h2, _⟩ := dd
    exact ⟨ob, h1, h2.2.1⟩

section
variable {X : Cx} {pins : List (Addr × Obj)} {σ : St} {H : Hp} {s : Shared} {a : Addr} {y d : V} {u r : Value} {o : Option V} {A : Around} {E : Value → Shared → Prop}
/-- d.get(y, x) -/
theorem d_get2 {Q : Value → Shared → Prop} (hu : A.units + 1 < cLine) (I : Inv X pins σ H s) (g : DGet H a y o) (ry : RelV y u) (rd : RelV d r) (h : ∀ w' s', Inv X pins σ H s' → RelV (o.getD d) w' → Q w' s') :
    wpAny (model X.prog X.w) A (call (.builtin "dict.get") [.ref a, u, r]) Q E s := by
  rcases g with ⟨kvs, k, e, ey, l⟩ | ⟨kvs, k, b, e, ey, eb, l⟩
  · subst ey
    obtain ⟨z, hd, vs, rel, dd⟩ := dk_rd I.hok e
    refine call_meetsIn PySem.F.slot_dict_get dd.typeIs PySem.F.entry_dict_get (PySem.F.args_dict_get_3 _ _ _) (meets_dict_get_default (mixKind X.prog X.w) a (kV_is ry) hd r) ⟨_, dd.mapOf, h _ _ (I.tok _) ?_⟩
    rw [l]
    exact (rel.val k).getD rd
  · subst ey
    cases (show u = Value.ref b from ry)
    obtain ⟨z, hd, xs, rel, dd⟩ := dt_rd I.hok e
    refine call_meetsIn PySem.F.slot_dict_get dd.typeIs PySem.F.entry_dict_get (PySem.F.args_dict_get_3 _ _ _) (meetsH_dict_get_default (tupleKind (mixKind X.prog X.w)) a b hd r) ⟨tupleKind_room_in1 hu, k, xs, key_of I.hok eb, dd, h _ _ (I.tok _) ?_⟩
    rw [l]
    exact (rel.val k).getD rd
end

def tDGet2 (td ty tx : TE) : TE := fun σ H Q => td σ H fun x H1 => ∃ a, x = .ref a ∧ IsD H1 a ∧ ty σ H1 fun y H2 => tx σ H2 fun z H3 => ∃ o, DGet H3 a y o ∧ Q (o.getD z) H3
section
variable {X : Cx} {o e f : Expr} {apos cpos : Pos} {td ty tx : TE}
theorem pe_dget2 (hu : X.A.units + 1 < cLine) (ho : PE X o td) (he : PE X e ty) (hf : PE X f tx) (m : M2 X o "get" apos e f cpos) : PE X (.Call (.Attribute o "get" apos) [e, f] [] cpos) (tDGet2 td ty tx) := by
  intro pins s σ H Q I h
  refine wpAny_Call_method m.base m.few m.line PySem.F.plainAttrs_dict PySem.F.slot_dict_get PySem.F.type_dict_get (thn (ho pins s σ H _ I h) fun u s1 ⟨x, H1, I1, rx, a, ex, d, q1⟩ => ?_)
  subst ex
  obtain rfl : u = Value.ref a := rx
  obtain ⟨t1, t2, _⟩ := isD_at I1 d
  refine ⟨t1, t2, ?_⟩
  rw [m.trees]
  refine Calls.callWith_builtin rfl (Calls.evalArgs_plain (Calls.spliced_cons (thn (he pins s1 σ H1 _ I1 q1) fun iv s2 ⟨y, H2, I2, ry, q2⟩ =>
    Calls.spliced_cons (thn (hf pins s2 σ H2 _ I2 q2) fun fv s3 ⟨z, H3, I3, rz, ov, g, q3⟩ => Calls.spliced_nil ?_))))
  exact d_get2 hu I3 g ry rz fun w' s4 I4 rw' => ⟨_, H3, I4, rw', q3⟩
end

/-! ### dict(d): a copy -/
section
variable {X : Cx} {pins : List (Addr × Obj)} {σ : St} {H : Hp} {s : Shared} {a : Addr} {kvs : List (Key × V)} {A : Around} {E : Value → Shared → Prop}
end


section
variable {X : Cx} {pins : List (Addr × Obj)} {σ : St} {H : Hp} {s : Shared} {a : Addr} {y : V} {u : Value} {A : Around} {E : Value → Shared → Prop}
end
section
variable {X : Cx}
end
/-! ### a dict's pairs: keys that differ -/
section
variable {κ : Type} [DecidableEq κ]
end
end L2

set_option Elab.async false
set_option linter.all false
set_option maxRecDepth 100000
set_option maxHeartbeats 4000000
namespace L2
open PySem PySem.Spec PyProof.Rows PySem.W
theorem ent_loop : entryFor table "dict.update.loop" = some Builtin.«dict.update.loop» := entryFor_of_tree (by kernel_rfl)
theorem pl_loop : plainId "dict.update.loop" = true := by decide +kernel
theorem list_keys : typeLookup (.type "list") "keys" = pure none := by rw [typeLookup_type, builtinLookup_eq_fast]; kernel_rfl
/-- a list has no keys -/
theorem keys_miss {prog : Program} {w : World} {A : Around} {E : Value → Shared → Prop} {s : Shared} {a : Addr} {xs : Array Value} {k : Nat} {sl : Array (Option Value)} {Q : Option Value → Shared → Prop} (hh : A.handled = none)
    (hx : s.heap.get? a = some { cls := .type "list", dict := none, data := .seq xs k, slots := sl }) (h : ∀ h' tk, (∀ b o, s.heap.get? b = some o → h'.get? b = some o) → Q none { s with heap := h', toks := tk }) :
    wpAny (model prog w) A (getAttr? (.ref a) "keys") Q E s := by
  obtain ⟨hp, g, d, tk, os⟩ := s
  have hT : ∀ tk', (⟨hp, g, d, tk', os⟩ : Shared).TypeIs (.ref a) "list" := fun _ => ⟨_, hx, rfl⟩
  have f1 := sub_AttributeError
  have f3 := F.slot_list_getattribute.lookup
  have f4 := F.slot_list_getattribute.bind (.ref a)
  have f5 := am_list_getattr_none
  unfold getAttr? getAttrBy?
  refine wpAny_bind (wpAny_mkText (wpAny_bind (wpAny_attempt ?_)))
  unfold getAttrBy
  repeat (any_goals (first | assumption | exact hT _ | ((with_reducible show wpAny _ _ (call (Value.builtin "list.__getattribute__") _ _) _ _ _); refine call_meets F.slot_list_getattribute (hT _) am_entry_list_getattribute (F.args_list_getattribute_2 _ _) (meets_getattribute_miss_list a xs k sl "keys" _ list_keys (by decide +kernel) (by decide +kernel)) ⟨hx, hh, fun h' tk' e hx' => ?_⟩) | wp_step))
  obtain ⟨t', u', he⟩ := hx'.there
  show wpAny _ _ (getattributeRaised _ _ _ _ _ _ _) _ _ _
  unfold getattributeRaised
  repeat (any_goals (first | assumption | wp_step))
  exact h _ _ hx'.keeps
section
variable {prog : Program} {w : World} {A : Around} {s : Shared} {it l d : Addr} {items : Array Value}
def foldP (ps : List (Key × Value)) : List (Key × Value) := ps.foldl (fun a p => stored a p.1 p.2) []
theorem foldP_snoc (ps : List (Key × Value)) (p : Key × Value) : foldP (ps ++ [p]) = stored (foldP ps) p.1 p.2 := by unfold foldP; rw [List.foldl_append]; rfl
theorem stored_len (a : List (Key × Value)) (k : Key) (v : Value) : (stored a k v).length ≤ a.length + 1 := by
  unfold stored
  split
  · rw [List.length_map]; omega
  · rw [List.length_append]; simp
theorem foldP_len (ps : List (Key × Value)) : (foldP ps).length ≤ ps.length := by
  have g : ∀ (ps a : List (Key × Value)), (ps.foldl (fun a p => stored a p.1 p.2) a).length ≤ a.length + ps.length := by
    intro ps
    induction ps with
    | nil => intro a; exact Nat.le_refl _
    | cons p ps ih =>
      intro a
      have h1 := ih (stored a p.1 p.2)
      have h2 := stored_len a p.1 p.2
      rw [List.foldl_cons, List.length_cons]
      omega
  have := g ps []
  rw [List.length_nil, Nat.zero_add] at this
  exact this
/-- the pairs that a list holds -/
def PairsAt (h : Heap) (d it : Addr) (items : Array Value) (ps : List (Key × Value)) : Prop := items.size = ps.length ∧ ∀ (j : Nat) (p : Key × Value), ps[j]? = some p → ∃ T kv, items[j]? = some (.ref T) ∧ h.IsTuple T #[kv, p.2] ∧ keyIs p.1 kv = true ∧ T ≠ it ∧ T ≠ d
theorem loop_pairs (hh : A.handled = none) (hli : l ≠ it) (hld : l ≠ d) (hdi : d ≠ it) (ps : List (Key × Value)) (hz : ps.length ≤ sizeLine) : ∀ (n i : Nat) (s : Shared) (R : Result → Shared → Prop), ps.length - i = n → i ≤ ps.length → s.heap.IsListIter it l i → s.heap.IsList l items → PairsAt s.heap d it items ps →
    s.heap.DictOf (mixKind prog w) d (foldP (ps.take i)) →
    (∀ h' tk, h'.DictOf (mixKind prog w) d (foldP ps) → (∀ b o, b ≠ it → b ≠ d → s.heap.get? b = some o → h'.get? b = some o) → R (.ok (.ret .none)) { s with heap := h', toks := tk }) →
    codeAny (model prog w) A (.builtin "dict.update.loop" ⟨[.ref d, .ref it, rawInt i, .none], []⟩) R s := by
  intro n
  induction n with
  | zero =>
    intro i s R hn hi hit hl hp hd hR
    refine codeAny_builtin ent_loop ?_
    rw [Around.under_plainId pl_loop _]
    unfold Builtin.«dict.update.loop»
    have e : i = ps.length := by omega
    refine wpAny_bind (wpAny_pyNext_list_end hh hit hl (by rw [Array.getElem?_eq_none]; rw [hp.1]; omega) fun h' he => ?_)
    refine wpAny_bind (m := Builtin.Dict.addKeywords d []) (wpAny_pure (wpAny_pure ?_))
    have e2 : ps.take i = ps := by rw [e, List.take_length]
    rw [e2] at hd
    exact hR h' s.toks (hd.extBut he hdi) fun b o hb _ q => he b o hb q
  | succ n ih =>
    intro i s R hn hi hit hl hp hd hR
    refine codeAny_builtin ent_loop ?_
    rw [Around.under_plainId pl_loop _]
    unfold Builtin.«dict.update.loop»
    obtain ⟨p, hpi⟩ : ∃ p, ps[i]? = some p := ⟨_, List.getElem?_eq_getElem (by omega)⟩
    obtain ⟨T, kv, h1, h2, h3, h4, h5⟩ := hp.2 i p hpi
    refine wpAny_bind (wpAny_pyNext_list_item hit hl h1 fun h' hit' sb => ?_)
    have hT := h2.extBut sb.extBut h4
    have hd1 := hd.extBut sb.extBut hdi
    have hl1 := hl.extBut sb.extBut hli
    refine wpAny_bind (wpAny_holding (wpAny_bind (wpAny_tryCatch ?_)))
    unfold Builtin.Dict.pairItems
    obtain ⟨oT, hoT, hcT, nT, hdT⟩ := id hT
    refine wpAny_bind (wpAny_typeOf (s := { s with heap := h' }) (T := "tuple") ⟨oT, hoT, hcT⟩ ?_)
    rw [if_pos (by decide)]
    refine wpAny_bind (wpAny_seqItems hoT hdT (wpAny_pure ?_))
    show wpAny _ _ (holding [kv, p.2] (dictSet d kv p.2)) _ _ _
    have hlen : (foldP (ps.take i)).length ≤ sizeLine := by
      have a1 := foldP_len (ps.take i)
      have a2 : (ps.take i).length ≤ ps.length := by rw [List.length_take]; omega
      omega
    refine wpAny_holding (wpAny_dictSet_pairs (s := { s with heap := h' }) (hsz := hlen) (knd := mixKind prog w) h3 hd1 fun h2' hd2 sb2 => ?_)
    refine wpAny_pure ⟨Code.quiet_builtin _ (by decide +kernel), ?_⟩
    have et : ps.take (i + 1) = ps.take i ++ [p] := by rw [List.take_add_one, hpi]; rfl
    have ei : ((i : Int) + 1) = ((i + 1 : Nat) : Int) := by omega
    show codeAny (model prog w) A (.builtin "dict.update.loop" ⟨[.ref d, .ref it, rawInt ((i : Int) + 1), .none], []⟩) R _
    rw [ei]
    refine ih (i + 1) _ R (by omega) (by have := (List.getElem?_eq_some_iff.mp hpi).1; omega) (hit'.extBut sb2.extBut (Ne.symm hdi)) (hl1.extBut sb2.extBut hld) ⟨hp.1, fun j q hq => ?_⟩ (by rw [et, foldP_snoc]; exact hd2) fun h3' tk hd3 hk => ?_
    · obtain ⟨T', kv', a1, a2, a3, a4, a5⟩ := hp.2 j q hq
      exact ⟨T', kv', a1, (a2.extBut sb.extBut a4).extBut sb2.extBut a5, a3, a4, a5⟩
    · exact hR h3' tk hd3 fun b o hb1 hb2 q => hk b o hb1 hb2 (sb2.extBut b o hb2 (sb.extBut b o hb1 q))
theorem dict_of_pairs {E : Value → Shared → Prop} {Q : Value → Shared → Prop} {n : Nat} (hh : A.handled = none) (ho : s.heap.get? l = some { cls := .type "list", dict := none, data := .seq items n, slots := #[] }) (ps : List (Key × Value)) (hz : ps.length ≤ sizeLine)
    (hp : items.size = ps.length ∧ ∀ (j : Nat) (p : Key × Value), ps[j]? = some p → ∃ T kv, items[j]? = some (.ref T) ∧ s.heap.IsTuple T #[kv, p.2] ∧ keyIs p.1 kv = true)
    (h : ∀ h' tk, h'.DictOf (mixKind prog w) s.heap.objs.size (foldP ps) → (∀ b o, s.heap.get? b = some o → h'.get? b = some o) → Q (.ref s.heap.objs.size) { s with heap := h', toks := tk }) :
    wpAny (model prog w) A (call (.type "dict") [.ref l]) Q E s := by
  refine callType_codes (Q₁ := fun obj s₁ => obj = .ref s.heap.objs.size ∧ s₁ = { s with heap := s.heap.push { cls := .type "dict", data := .dict #[] } }) F.kt_called_dict (F.kt_typeCall_dict_1 _) F.entry_dict_init (kt_code_dict_new _ ⟨rfl, rfl⟩) ?_
  rintro obj s₁ ⟨rfl, rfl⟩
  have hnew : (s.heap.push { cls := .type "dict", data := .dict #[] }).DictOf (mixKind prog w) s.heap.objs.size [] := Heap.DictOf.new s.heap
  have up : ∀ b o, s.heap.get? b = some o → (s.heap.push { cls := .type "dict", data := .dict #[] }).get? b = some o := fun b o q => Heap.get?_push_of_some _ q
  have hlt : l < s.heap.objs.size := Heap.lt_size ho
  refine ⟨hnew.typeIs, F.args_dict_init_2 _ _, ?_⟩
  unfold Builtin.«dict.__init__»
  refine wpAny_bind ?_
  unfold Builtin.Dict.selfAndRest
  refine wpAny_bind (wpAny_notOrdered_dict hnew.typeIs ?_)
  show wpAny _ _ (pure (s.heap.objs.size, [Value.ref l])) _ _ _
  refine wpAny_pure ?_
  show wpAny _ _ (Builtin.Dict.updateFrom "dict.__init__" s.heap.objs.size (.ref l) [] .none) _ _ _
  unfold Builtin.Dict.updateFrom
  refine wpAny_bind (wpAny_typeOf (T := "list") ⟨_, up l _ ho, rfl⟩ ?_)
  rw [if_pos (by decide)]
  refine wpAny_bind (keys_miss (A := A.in1.in1) hh (up l _ ho) fun h1 tk1 k1 => ?_)
  rw [if_pos (by rfl)]
  have k01 : ∀ b o, s.heap.get? b = some o → h1.get? b = some o := fun b o q => k1 b o (up b o q)
  have hl1 : h1.IsList l items := ⟨_, k01 l _ ho, rfl, n, rfl⟩
  have hd1 : h1.DictOf (mixKind prog w) s.heap.objs.size [] := hnew.at fun o q => k1 _ o q
  refine wpAny_bind (wpAny_rule (wpAny_bind (wpAny_pyIter_list (s := { s with heap := h1, toks := tk1 }) hl1 (wpAny_pure ⟨Code.quiet_builtin _ (by decide +kernel), ?_⟩))))
  have hsz : s.heap.objs.size < h1.objs.size := by
    obtain ⟨_, _, _, e, _⟩ := hd1
    exact Heap.lt_size e
  have tlt : ∀ T xs, s.heap.IsTuple T xs → T < s.heap.objs.size := fun T xs ⟨_, e, _⟩ => Heap.lt_size e
  refine loop_pairs (l := l) (items := items) (A := A.in1) hh (Nat.ne_of_lt (Nat.lt_trans hlt hsz)) (Nat.ne_of_lt hlt) (Nat.ne_of_lt hsz) ps hz _ 0 _ _ rfl (Nat.zero_le _) ⟨_, Heap.get?_push_size _ rfl, rfl, rfl⟩ (hl1.push _) ⟨hp.1, fun j p hj => ?_⟩ (hd1.push _) fun h' tk hd' hk => ?_
  · obtain ⟨T, kv, a1, a2, a3⟩ := hp.2 j p hj
    have := tlt T _ a2
    exact ⟨T, kv, a1, (a2.at fun o q => Heap.get?_push_of_some _ (k01 _ o q)), a3, Nat.ne_of_lt (Nat.lt_trans this hsz), Nat.ne_of_lt this⟩
  · refine ⟨rfl, h h' tk hd' fun b o q => hk b o ?_ ?_ (Heap.get?_push_of_some _ (k01 b o q))⟩
    · exact Nat.ne_of_lt (Nat.lt_trans (Heap.lt_size q) hsz)
    · exact Nat.ne_of_lt (Heap.lt_size q)
end
section
variable {X : Cx}
/-! ### sorted, of a list of texts -/
theorem vals_of_strs : ∀ {us : List Value} {ys : List Str}, StrsAre us ys → Vals (ys.map V.str) us := by
  intro us ys h
  induction h with
  | nil => exact .nil
  | cons y t _ ih => exact .cons ⟨t, rfl⟩ ih
theorem call_sortedS : CallR X (.builtin "sorted") (fun xs H Q => ∃ p ss, xs = [.ref p] ∧ SqL X.K H p (ss.map V.str) ∧ ss.length < 64 ∧ ∀ ss' l, ss'.Perm ss → sortedS ss' = true → H l = none → Q (.ref l) (upd H l (.lst (ss'.map V.str)))) := by
  intro pins s σ H xs us Q I r h
  obtain ⟨p, ss, rfl, hq, hz, q⟩ := h
  obtain ⟨u, rfl, ru⟩ := vals1 r
  cases ru
  obtain ⟨its, rv, pl, _⟩ := I.list hq
  have hS := strs_are rv
  have hl : its.length < 64 := by rw [← rv.length, List.length_map]; exact hz
  refine sorted_strs pl.isList (by simpa using hS) hl fun out ss' a1 a2 a3 => ?_
  obtain ⟨e, he⟩ := sortedAll_at s.heap its out
  have hf : H (s.heap.objs.size + 1) = none := I.hok.fresh (Nat.le_succ _)
  have hl' : ss'.length = ss.length := a2.length_eq
  exact ⟨.ref (s.heap.objs.size + 1), _, I.laid (t' := s.toks) (o := .lst (ss'.map V.str)) (fun b o z => sortedAll_old z) (Nat.le_succ _) ⟨by rw [List.length_map, hl', sizeLine_eq]; omega, out.toList, e, vals_of_strs a1, he⟩, rfl, q ss' _ a2 a3 hf⟩
/-! ### list(d), the keys of a dict -/
theorem rel_key {k : Key} {v : Value} (h : keyIs k v = true) : RelV (kV k) v := by
  rcases keyIs_shape h with ⟨i, t, rfl, rfl⟩ | ⟨x, t, rfl, rfl⟩
  · exact ⟨t, rfl⟩
  · exact ⟨t, rfl⟩
theorem vals_keys : ∀ (ks : List Key) (acc : List Value), acc.length = ks.length → (∀ (j : Nat) (v : Value), acc[j]? = some v → ∃ k, ks[j]? = some k ∧ keyIs k v = true) → Vals (ks.map kV) acc
  | [], [], _, _ => .nil
  | k :: ks, v :: acc, hl, h => by
    obtain ⟨k', e, hk⟩ := h 0 v rfl
    have e' : k = k' := by simpa using e
    subst e'
    exact .cons (rel_key hk) (vals_keys ks acc (by simpa using hl) fun j u hu => by simpa using h (j + 1) u (by simpa using hu))
  | [], _ :: _, hl, _ => by simp at hl
  | _ :: _, [], hl, _ => by simp at hl
theorem call_listD (hc : X.calm = true) : CallR X (.type "list") (fun xs H Q => ∃ d kvs, xs = [.ref d] ∧ Rd H d (.dK kvs) ∧ ∀ l, H l = none → Q (.ref l) (upd H l (.lst ((kvs.map (·.1)).map kV)))) := by
  intro pins s σ H xs us Q I r h
  obtain ⟨d, kvs, rfl, hd, q⟩ := h
  obtain ⟨u, rfl, ru⟩ := vals1 r
  cases ru
  obtain ⟨z, lo, vs, rel, dd⟩ := dk_rd I.hok hd
  obtain ⟨ep, hat⟩ := dd.dictAt
  refine kdl_call (kdl_dict (knd := mixKind X.prog X.w) (kvs := vs) (ep := ep) lo) (I.ok.hd hc) hat (by rw [← rel.length]; exact z) fun h' tk acc c kp he hit => ?_
  have hl : acc.toList.length = kvs.length := by rw [Array.length_toList, hit.1, rel.length]
  have hv : Vals ((kvs.map (·.1)).map kV) acc.toList := vals_keys _ _ (by rw [List.length_map]; exact hl) fun j v hj => by
    obtain ⟨k, x, e, hk⟩ := hit.2 j v (by rw [← Array.getElem?_toList]; exact hj)
    refine ⟨k, ?_, hk⟩
    rw [rel.keys, List.getElem?_map, e]
    rfl
  refine ⟨.ref s.heap.objs.size, _, I.laid (t' := tk) (o := .lst ((kvs.map (·.1)).map kV)) kp (Nat.le_refl _) ⟨by rw [List.length_map, List.length_map]; exact z, acc.toList, c, hv, ?_⟩, rfl, q _ (I.hok.fresh (Nat.le_refl _))⟩
  rw [Array.toArray_toList]
  exact he
/-! ### dict(l), of a list of pairs -/
def foldK (kvs : List (Key × V)) : List (Key × V) := kvs.foldl (fun a p => putK a p.1 p.2) []
theorem kv_fold {kvs : List (Key × V)} {vs : List (Key × Value)} (r : KV kvs vs) : KV (foldK kvs) (foldP vs) := by
  have g : ∀ {kvs : List (Key × V)} {vs : List (Key × Value)}, KV kvs vs → ∀ {a : List (Key × V)} {b : List (Key × Value)}, KV a b → KV (kvs.foldl (fun a p => putK a p.1 p.2) a) (vs.foldl (fun a p => stored a p.1 p.2) b) := by
    intro kvs vs h
    unfold KV at h
    induction h with
    | nil => intro a b h; exact h
    | @cons p q _ _ h1 _ ih =>
      intro a b h
      rw [List.foldl_cons, List.foldl_cons]
      have z := KV.put h p.1 h1.2
      rw [← h1.1]
      exact ih z
  exact g r .nil
theorem pair_vals {P : Program} {w : World} {H : Hp} {h : Heap} (hok : HOk P w H h) : ∀ (ts : List Addr) (kvs : List (Key × V)) (us : List Value), ts.length = kvs.length → (∀ (j : Nat) (t : Addr) (kv : Key × V), ts[j]? = some t → kvs[j]? = some kv → H t = some (.tup [kV kv.1, kv.2])) → Vals (ts.map V.ref) us →
    ∃ vs : List (Key × Value), KV kvs vs ∧ us.length = vs.length ∧ ∀ (j : Nat) (p : Key × Value), vs[j]? = some p → ∃ T kv, us[j]? = some (.ref T) ∧ h.IsTuple T #[kv, p.2] ∧ keyIs p.1 kv = true
  | [], [], us, _, _, r => by cases r; exact ⟨[], .nil, rfl, fun j p hj => by simp at hj⟩
  | t :: ts, kv :: kvs, us, hl, hH, r => by
    cases r with
    | cons r1 r2 =>
      cases r1
      obtain ⟨vs, h1, h2, h3⟩ := pair_vals hok ts kvs _ (by simpa using hl) (fun j t' kv' a b => hH (j + 1) t' kv' (by simpa using a) (by simpa using b)) r2
      obtain ⟨_, its, rv, pl⟩ := (show ObjOk P w H h t (.tup [kV kv.1, kv.2]) from hok t _ (hH 0 t kv rfl rfl))
      obtain ⟨u1, u2, rfl, ru1, ru2⟩ := vals2 rv
      refine ⟨(kv.1, u2) :: vs, .cons ⟨rfl, ru2⟩ h1, by rw [List.length_cons, List.length_cons, h2], fun j p hj => ?_⟩
      cases j with
      | zero =>
        have e : (kv.1, u2) = p := by simpa using hj
        subst e
        exact ⟨t, u1, rfl, pl, kV_is (P := P) (w := w) ru1⟩
      | succ j =>
        obtain ⟨T, k, a1, a2, a3⟩ := h3 j p (by simpa using hj)
        exact ⟨T, k, by simpa using a1, a2, a3⟩
  | [], _ :: _, _, hl, _, _ => by simp at hl
  | _ :: _, [], _, hl, _, _ => by simp at hl
theorem foldK_len (kvs : List (Key × V)) : (foldK kvs).length ≤ kvs.length := by
  have g : ∀ (ps a : List (Key × V)), (ps.foldl (fun a p => putK a p.1 p.2) a).length ≤ a.length + ps.length := by
    intro ps
    induction ps with
    | nil => intro a; exact Nat.le_refl _
    | cons p ps ih =>
      intro a
      have h1 := ih (putK a p.1 p.2)
      have h2 := length_putK a p.1 p.2
      rw [List.foldl_cons, List.length_cons]
      omega
  have := g kvs []
  rw [List.length_nil, Nat.zero_add] at this
  exact this
theorem call_dictP (hc : X.calm = true) : CallR X (.type "dict") (fun xs H Q => ∃ (p : Addr) (ts : List Addr) (kvs : List (Key × V)), xs = [.ref p] ∧ H p = some (.lst (ts.map V.ref)) ∧ ts.length = kvs.length ∧
    (∀ (j : Nat) (t : Addr) (kv : Key × V), ts[j]? = some t → kvs[j]? = some kv → H t = some (.tup [kV kv.1, kv.2])) ∧ ∀ d, H d = none → Q (.ref d) (upd H d (.dK (foldK kvs)))) := by
  intro pins s σ H xs us Q I r h
  obtain ⟨p, ts, kvs, rfl, hp, hl, hH, q⟩ := h
  obtain ⟨u, rfl, ru⟩ := vals1 r
  cases ru
  obtain ⟨hz, its, n, rv, hg⟩ := (show ObjOk X.prog X.w H s.heap p (.lst (ts.map V.ref)) from I.hok p _ hp)
  obtain ⟨vs, h1, h2, h3⟩ := pair_vals I.hok ts kvs its hl hH rv
  have hz' : kvs.length ≤ sizeLine := by rw [← hl]; rw [List.length_map] at hz; exact hz
  refine dict_of_pairs (I.ok.hd hc) hg vs (by rw [← h1.length]; exact hz') ⟨by rw [List.size_toArray]; exact h2, fun j p hj => ?_⟩ fun h' tk hd kp => ?_
  · obtain ⟨T, kv, a1, a2, a3⟩ := h3 j p hj
    exact ⟨T, kv, by simpa using a1, a2, a3⟩
  · refine ⟨.ref s.heap.objs.size, _, I.laid (t' := tk) (o := .dK (foldK kvs)) kp (Nat.le_refl _) ⟨Nat.le_trans (foldK_len kvs) hz', ?_, foldP vs, kv_fold h1, hd⟩, rfl, q _ (I.hok.fresh (Nat.le_refl _))⟩
    exact beq_eq_false_iff_ne.mpr (Nat.ne_of_gt I.big)
end
end L2

set_option Elab.async false
set_option linter.all false
set_option maxRecDepth 100000
set_option maxHeartbeats 4000000
namespace L2
open PySem PySem.Spec PyProof.Rows PySem.W
/-! ### a dict that is walked: frozen while that lasts -/
section
variable {X : Cx} {pins : List (Addr × Obj)} {σ : St} {H : Hp} {s : Shared} {d : Addr} {kvs : List (Key × V)} {o : Obj}
/-- another word for the same object -/
theorem Inv.reword {u u' : HO} (I : Inv X pins σ H s) (e : H d = some u) (e' : ObjOk X.prog X.w (upd H d u') s.heap d u') (hu : ∀ xs, u ≠ .tup xs) (hw : ∀ a, u ≠ .own a) (ht : ∀ ps, u ≠ .tbl ps) (hf : ∀ o v, X.H₀ d ≠ some (.frz o v)) : Inv X pins σ (upd H d u') s := by
  have nd : ∀ b, H b = none → b ≠ d := fun b q z => by rw [z, e] at q; cases q
  refine ⟨I.ok, I.os, I.bare, ⟨I.base.keep, I.base.slot, fun b o q n hx => ?_, I.base.there, fun b xs q => ?_, fun b o v q => ?_, fun b ps q => ?_⟩, I.loc, I.cell, ?_, fun x c q => ?_, fun p hp => ?_, fun b v q => ?_, I.len⟩
  · have z := I.base.free b o q n hx
    rw [upd_ne (nd b z)]; exact z
  · have z := I.base.tups b xs q
    rw [upd_ne fun y => hu xs (Option.some.inj ((y ▸ e).symm.trans z))]; exact z
  · have z := I.base.frzs b o v q
    rw [upd_ne (show b ≠ d from fun y => hf o v (by rw [← y]; exact q))]; exact z
  · obtain ⟨m, z⟩ := I.base.tbls b ps q
    exact ⟨m, by rw [upd_ne fun y => ht _ (Option.some.inj ((y ▸ e).symm.trans z))]; exact z⟩
  · rw [upd_ne (nd _ I.free)]; exact I.free
  · rw [upd_ne (nd _ (I.freeC x c q))]; exact I.freeC x c q
  · obtain ⟨a1, a2, a3⟩ := I.pin p hp
    exact ⟨a1, by rw [upd_ne (nd _ a2)]; exact a2, a3⟩
  · by_cases hb : b = d
    · subst hb
      rw [upd_same] at q
      cases q
      exact e'
    · rw [upd_ne hb] at q
      refine (I.hok b v q).stay (fun _ _ _ z => z) (fun c z => ?_) fun c xs z => ?_
      · rw [upd_ne fun y => hw b (Option.some.inj ((y ▸ e).symm.trans z))]; exact z
      · rw [upd_ne fun y => hu xs (Option.some.inj ((y ▸ e).symm.trans z))]; exact z
theorem Inv.h0 (I : Inv X pins σ H s) (e : H d = some (.dK kvs)) : ∀ o v, X.H₀ d ≠ some (.frz o v) := fun o v q => by
  have z := I.base.frzs d o v q
  rw [e] at z; cases z
theorem Inv.freeze (I : Inv X pins σ H s) (e : H d = some (.dK kvs)) : ∃ o, Inv X pins σ (upd H d (.frz o (.dK kvs))) s := by
  obtain ⟨z, lo, vs, rel, o, es, ep, ho, r⟩ := dk_of I.hok e
  exact ⟨o, I.reword e ⟨ho, z, lo, vs, rel, o, es, ep, ho, r⟩ (fun _ y => nomatch y) (fun _ y => nomatch y) (fun _ y => nomatch y) (I.h0 e)⟩
theorem Inv.thaw (I : Inv X pins σ H s) (e : H d = some (.frz o (.dK kvs))) (hf : ∀ o v, X.H₀ d ≠ some (.frz o v)) : Inv X pins σ (upd H d (.dK kvs)) s := by
  obtain ⟨ho, z, lo, vs, rel, dd⟩ := (show ObjOk X.prog X.w H s.heap d (.frz o (.dK kvs)) from I.hok d _ e)
  exact I.reword e ⟨z, lo, vs, rel, dd⟩ (fun _ y => nomatch y) (fun _ y => nomatch y) (fun _ y => nomatch y) hf
end
/-- behind a walk over a dict -/
def tThaw (H0 : Hp) (t : TE) : TE := fun σ H Q => t σ H fun v H1 => Q v H1 ∨ ∃ d o kvs, H1 d = some (.frz o (.dK kvs)) ∧ (∀ o u, H0 d ≠ some (.frz o u)) ∧ Q v (upd H1 d (.dK kvs))
theorem pe_thaw {X : Cx} {e : Expr} {t : TE} (h : PE X e t) : PE X e (tThaw X.H₀ t) := by
  intro pins s σ H Q I hq
  refine thn (h pins s σ H _ I hq) fun u s1 ⟨x, H1, I1, r, q⟩ => ?_
  rcases q with q | ⟨d, o, kvs, e, hf, q⟩
  · exact ⟨x, H1, I1, r, q⟩
  · exact ⟨x, _, I1.thaw e hf, r, q⟩
/-- the keys of the dict at d, in their order -/
def Itd (d : Addr) (o : Obj) (kvs : List (Key × V)) : It :=
  ⟨fun i H => H d = some (.frz o (.dK kvs)) ∧ i < kvs.length, fun i H x H' => H' = H ∧ ∃ k, (kvs.map (·.1))[i]? = some k ∧ x = kV k, fun i H => H d = some (.frz o (.dK kvs)) ∧ kvs.length ≤ i⟩
theorem at_frz {P : Program} {w : World} {H : Hp} {h : Heap} {d : Addr} {o : Obj} {kvs : List (Key × V)} (hok : HOk P w H h) (e : H d = some (.frz o (.dK kvs))) :
    ∃ vs es ep, KV kvs vs ∧ (d == sysModules) = false ∧ h.DictAt (mixKind P w) d vs ep ∧ o.data = .dict es ep := by
  obtain ⟨ho, z, lo, vs, rel, o', es, ep, ho', hc, hd, r⟩ := (show ObjOk P w H h d (.frz o (.dK kvs)) from hok d _ e)
  rw [ho] at ho'
  cases ho'
  exact ⟨vs, es, ep, rel, lo, ⟨o, es, ho, hc, hd, r⟩, hd⟩
theorem turn_dict {P : Program} {w : World} {K : PySem.W.Frag} {tg : Expr} (d it : Addr) (o : Obj) (kvs : List (Key × V)) (es : Array DictEntry) (ep : Nat) (hd : o.data = .dict es ep) :
    Turn P w K tg (Itd d o kvs) [it] it (fun i h => h.IsKeyIter it d i kvs.length ep) where
  mem := by simp
  obj := fun i h st b hb => by
    have e : b = it := by simpa using hb
    subst e
    obtain ⟨o, e, c, dd⟩ := st
    exact ⟨o, e, fun v z => by rw [dd] at z; cases z⟩
  keep := fun i h h' st k => st.at fun o e => k it (by simp) o e
  item := by
    intro X hP hw hK hc i pins s σ H E I hf st hg
    subst hP hw hK
    obtain ⟨he, hlt⟩ := hg
    obtain ⟨vs, es', ep', rel, lo, hat, hd'⟩ := at_frz I.hok he
    rw [hd] at hd'
    cases hd'
    obtain ⟨f0, f1, f2, f3, f4, f5⟩ := hf it (by simp)
    obtain ⟨⟨k, x⟩, hx⟩ : ∃ p, vs[i]? = some p := ⟨_, List.getElem?_eq_getElem (by rw [← rel.length]; exact hlt)⟩
    rw [rel.length] at st
    refine wpAny_pyNext_dict_item st hat hx fun key h' hkey st' sb => ?_
    have I1 : Inv X pins σ H { s with heap := h' } := I.turned (t' := s.toks) (fun b o hb e => (sb.2 b hb).trans e) f0 f1 f3 f4 f5
    obtain ⟨o1, e1, c1, d1⟩ := id st'
    refine ⟨key, rfl, go_of (s := { s with heap := h' }) e1 c1 d1 (by decide) ⟨kV k, H, I1, rel_key hkey, ⟨rfl, k, ?_, rfl⟩, by rw [rel.length]; exact st', fun b hb => (hf b hb).1⟩⟩
    rw [rel.keys, List.getElem?_map, hx]; rfl
  done := by
    intro X hP hw hK hc i pins s σ H E I hf st hg
    subst hP hw hK
    obtain ⟨he, hle⟩ := hg
    obtain ⟨vs, es', ep', rel, lo, hat, hd'⟩ := at_frz I.hok he
    rw [hd] at hd'
    cases hd'
    obtain ⟨f0, f1, f2, f3, f4, f5⟩ := hf it (by simp)
    rw [rel.length] at st
    exact wpAny_pyNext_dict_end (I.ok.hd hc) st hat (by rw [List.getElem?_eq_none]; rw [← rel.length]; exact hle) fun h' eb => ⟨rfl, I.turned (t' := s.toks) (fun b o hb e => eb b o hb e) f0 f1 f3 f4 f5⟩
  self := fun _ _ _ _ _ st h => wpAny_pyIter_keyiter st h
def iDict (tl : TE) : TI := fun σ H R => tl σ H fun x H1 => ∃ d kvs, x = .ref d ∧ ((H1 d = some (.dK kvs) ∧ ∀ o, R (Itd d o kvs) (upd H1 d (.frz o (.dK kvs)))) ∨ ∃ o, H1 d = some (.frz o (.dK kvs)) ∧ R (Itd d o kvs) H1)
theorem pi_dict {X : Cx} {tg l : Expr} {tl : TE} (hl : PE X l tl) : PI X tg l (iDict tl) := by
  intro pins s σ H R I h
  refine thn (hl pins s σ H _ I h) fun v s1 hq => ?_
  obtain ⟨x, H1, I1, r1, d, kvs, rfl, q⟩ := hq
  cases r1
  have go : ∀ {H2 : Hp} {o : Obj}, Inv X pins σ H2 s1 → H2 d = some (.frz o (.dK kvs)) → R (Itd d o kvs) H2 → wpAny (model X.prog X.w) X.A (pyIter (.ref d)) (PIE X pins σ tg R) X.xe s1 := fun {H2 o} I2 he q2 => by
    obtain ⟨vs, es, ep, rel, lo, hat, hd⟩ := at_frz I2.hok he
    refine wpAny_pyIter_dict lo hat ⟨s1.heap.objs.size, [s1.heap.objs.size], _, _, H2, rfl, I2.kept (t' := s1.toks) (fun b o e => Heap.get?_push_of_some _ e), turn_dict d _ o kvs es ep hd, ⟨_, Heap.get?_push_size _ rfl, rfl, ?_⟩, fun b hb => ?_, q2⟩
    · rw [rel.length]; rfl
    · have e : b = s1.heap.objs.size := by simpa using hb
      subst e
      exact I2.fpOk (Nat.le_refl _) (I2.hok.fresh (Nat.le_refl _))
  rcases q with ⟨e, q⟩ | ⟨o, e, q⟩
  · obtain ⟨o, I2⟩ := I1.freeze e
    exact go I2 upd_same (q o)
  · exact go I1 e q
end L2

set_option Elab.async false
set_option linter.all false
set_option maxRecDepth 100000
set_option maxHeartbeats 4000000
namespace L2
open PySem PySem.Spec PyProof.Rows PySem.W
/-! ### two tuples beside one another -/
section
variable {prog : Program} {w : World} {A : Around} {E : Value → Shared → Prop} {s : Shared}
end
end L2

set_option Elab.async false
set_option linter.all false
set_option maxRecDepth 100000
set_option maxHeartbeats 4000000
namespace L2
open PySem PySem.Spec PyProof.Rows PySem.W
section
variable {X : Cx}
end
end L2

set_option Elab.async false
set_option linter.all false
set_option maxRecDepth 100000
set_option maxHeartbeats 4000000
namespace L2
open PySem PySem.Spec PyProof.Rows
section
variable {X : Cx} {e : Expr} {te : TE} {pos p2 : Pos}
/-! ### a list the other way about -/
def tRev (K : PySem.W.Frag) (te : TE) : TE := fun σ H Q => te σ H fun x H1 => ∃ a xs, x = .ref a ∧ SqL K H1 a xs ∧ ∀ p, H1 p = none → Q (.ref p) (upd H1 p (.lst xs.reverse))
theorem pe_rev {k : Nat} {p3 p4 : Pos} (he : PE X e te) : PE X (.Subscript e (.Slice none none (some (.UnaryOp .USub (.Constant (.int 1) k p3) p4)) p2) pos) (tRev X.K te) := by
  intro pins s σ H Q I h
  refine Subscript_ (thn (he pins s σ H _ I h) fun v s1 ⟨x, H1, I1, r1, q1⟩ => ?_)
  refine wpAny_Slice ?_
  rw [evalPart_none]
  refine wpAny_pure (wpAny_pure ?_)
  have hp : PE X (.UnaryOp .USub (.Constant (.int 1) k p3) p4) (tUn (rU fun i => .int (-i)) (tC (.int 1))) := pe_un un_neg pe_int
  refine thn (po_some hp pins s1 σ H1 (fun o H' => o = some (-1) ∧ H' = H1) I1 ⟨_, rfl, _, rfl, rfl, rfl⟩) fun vs s2 ⟨o, H2, I2, ps, eo, eh⟩ => ?_
  subst eo eh
  obtain ⟨a, xs, rfl, hx, q⟩ := q1
  cases r1
  have I4 : Inv X pins σ H2 { s2 with heap := s2.heap.push { cls := .type "slice", data := .fields #[.none, .none, vs] } } := I2.kept (t' := s2.toks) fun b ob q => Heap.get?_push_of_some _ q
  obtain ⟨its, r, ht, hz⟩ := I4.list hx
  have hlen := r.length
  refine tail_any (ops := [.ref a, .ref s2.heap.objs.size]) ht.isList.typeIs slot_list_getitem.lookup ?_ (by with_unfolding_all rfl)
  refine wpAny_getItem_list_slice ht.isList (Heap.IsSliceOf.new ..) .none .none ps (by simp) ?_ (by rw [List.size_toArray] <;> omega)
  rw [PySem.W.krv_pick]
  refine ⟨.ref _, _, I4.laid (t' := s2.toks) (o := .lst xs.reverse) (fun b ob q => Heap.get?_push_of_some _ q) (Nat.le_refl _) ?_, rfl, q _ (I4.hok.fresh (Nat.le_refl _))⟩
  refine ⟨by rw [List.length_reverse]; exact hz, its.reverse, 0, ?_, Heap.get?_push_size _ rfl⟩
  exact Vals.reverse r
end
/-! ### extend by a tuple -/
section
open AutoSeq1
set_option maxRecDepth 8000
theorem extT (l b : Addr) (xs ys : Array Value) (n m : Nat) (dd : Option Addr) (sl : Array (Option Value)) (h0 : ¬(!xs.isEmpty && Builtin.List.listTooLong (xs.size + ys.size)) = true) (h1 : xs.size ≤ sizeLine) (h2 : xs.size + ys.size ≤ sizeLine + 1) :
    Meets (Builtin.«list.extend» ⟨[.ref l, .ref b], []⟩) (fun _ R s => s.heap.get? l = some ⟨.type "list", none, .seq xs n, #[]⟩ ∧ s.heap.get? b = some ⟨.type "tuple", dd, .seq ys m, sl⟩ ∧ R (.ok (.ret Value.none)) { s with heap := s.heap.update l (Obj.mapSeq fun x => x ++ ys), toks := s.toks }) :=
  .of_wp fun prog w A R s h => by
    obtain ⟨hp, g, d, tk, os⟩ := s
    obtain ⟨hl, hb, h⟩ := h
    have f1 := idx_int; have f2 := AutoSeq1.sub_tuple_tuple; have f3 := AutoSeq1.sub_list_list; have f4 := AutoSeq1.sub_tuple_list; have f5 := AutoSeq1.sub_list_tuple
    have hz' : (xs ++ ys).size ≤ sizeLine + 1 := by rw [Array.size_append]; exact h2
    wp_walk using (wpAny_updateSeq hl rfl (hz := h1) (_hz' := hz')), wpAny_loadPart' hl, wpAny_loadPart' hb
    exact ⟨_, rfl, h⟩
end
def rExtT (K : PySem.W.Frag) : V → List V → Hp → VK → Prop := fun x vs H Q => ∃ l b xs zs, x = .ref l ∧ vs = [.ref b] ∧ H l = some (.lst xs) ∧ SqT K H b zs ∧ xs.length + zs.length ≤ sizeLine ∧ Q .non (upd H l (.lst (xs ++ zs)))
theorem mt_extT {X : Cx} : MtM X "list.extend" (rExtT X.K) := by
  intro pins s σ H x vs v us Q I rx rv h
  obtain ⟨l, b, xs, zs, rfl, rfl, hH, hB, hz, q⟩ := h
  cases rx
  obtain ⟨u, rfl, ru⟩ := rv.one
  cases ru
  obtain ⟨z, its, n, r, hl, e⟩ := I.lstM hH
  obtain ⟨its2, r2, ⟨⟨oc, od, odt, osl⟩, e2, ec, n2, en⟩, z2⟩ := I.tuple hB
  simp only at ec en
  subst ec en
  have hl2 := r2.length
  have hsz : its.toArray.size + its2.toArray.size ≤ sizeLine := by rw [List.size_toArray, List.size_toArray]; omega
  have hlong : ¬ (!its.toArray.isEmpty && Builtin.List.listTooLong (its.toArray.size + its2.toArray.size)) = true := by
    rw [notLongL hsz, Bool.and_false]; exact Bool.false_ne_true
  refine call_meets F.slot_list_extend ⟨_, e, rfl⟩ F.entry_list_extend (F.args_list_extend_2 _ _) (extT l b its.toArray its2.toArray n n2 _ _ hlong (by rw [List.size_toArray]; omega) (by omega)) ⟨e, e2, ?_⟩
  refine ⟨.non, _, I.lset (its' := its ++ its2) hH e (by simp) (r.append r2) ?_, rfl, q⟩
  rw [List.length_append]; omega
end L2

set_option Elab.async false
set_option linter.all false
set_option maxRecDepth 100000
set_option maxHeartbeats 4000000
namespace L2
open PySem PySem.Spec PyProof.Rows PySem.W PySem.Calls
/-! ### a def that a name of the frame holds -/
section
variable {X : Cx} {CX : CXT} {k : Nat} {f : Addr} {fd : FuncData} {ps : List Str} {sp : Sp} {dvs : List V} {ds : List Value} {E : XK} {x : Str} {p pos : Pos} {e : Expr} {es : List Expr} {t : TA}
def KeptAt (K : PySem.W.Frag) (f : Addr) (h : Heap) : Prop := (K.In h ∧ PySem.W.keepIn K (.ref f) = true) ∨ PySem.W.FnAt f h
def KeptBy (P : Program) (w : World) (K : PySem.W.Frag) (base : Heap) (f : Addr) (sp : Sp) : Prop := ∀ vs H Q E (h : Heap), HOk P w H h → K.In h → (∀ b o, base.get? b = some o → h.get? b = some o) → sp vs H Q E → KeptAt K f h
theorem keeps_at {M : Model} {K : PySem.W.Frag} (h : Heap) (X : KeptAt K f h) : ∃ k, (k = Keeper.frame ∨ k = Keeper.machine ∨ k = Keeper.boundFrame) ∧ Looks M h (keeperOf (.ref f)) k := by
  rcases X with ⟨a, b⟩ | a
  · exact PySem.W.keeps_K b h a
  · exact PySem.W.keeps_F h a
def tCallV (i : Nat) (f : Addr) (sp : Sp) (dvs : List V) (E : XK) (t : TA) : TE := fun σ H Q => σ[i]? = some (some (.ref f)) ∧ t σ H fun vs H1 => sp (vs ++ dvs) H1 Q E
theorem pe_callV {i : Nat} (F : FnOk X.prog X.w X.K X.mg X.base CX k f fd ps sp) (hr : Room k X.A) (hN : X.N[i]? = some x) (hv : Vis X.env.scope x) (hk : KeptBy X.prog X.w X.K X.base f sp) (hb : Binds X.K fd ps ds) (hd : Vals dvs ds) (hx : Passes CX X E)
    (ha : PA X (e :: es) t) (hdb : (x == ("__debug__" : Str)) = false := by decide) (hcd : (x == ("__classdict__" : Str)) = false := by decide) (he : starEach (e :: es) X.env = (false, eval e X.env) :: starEach es X.env := by rfl) (hpl : (backTo pos (starEach es X.env)).any (·.1) = false := by rfl) :
    PE X (.Call (.Name x p) (e :: es) [] pos) (tCallV i f sp dvs E t) := by
  intro pins s σ H Q I h
  obtain ⟨hs, h⟩ := h
  refine wpAny_Call_Name_kw (thn (pe_var (pos := p) hN hv hdb hcd pins s σ H (fun v H' => v = .ref f ∧ H' = H) I ⟨_, hs, rfl, rfl⟩) fun u s1 ⟨v, H1, I1, r, ev, eh⟩ => ?_)
  subst ev eh
  cases r
  have hh := thn (ha pos pins s1 σ H1 _ I1 h) (Q' := fun us s2 => KeptAt X.K f s2.heap ∧ wpAny (model X.prog X.w) X.A (call (.ref f) ([] ++ us)) (EP X pins σ Q) X.xe s2) fun us s2 ⟨vs, H2, I2, r2, q⟩ => ⟨hk _ _ _ _ _ I2.hok I2.kIn I2.bk q, run_fn F hr hb hd hx I2 r2 q⟩
  rw [he] at hh
  show wpAny _ _ (callWith pos (.ref f) [] (backTo pos (starEach (e :: es) X.env)) []) _ _ _
  rw [he]
  exact PySem.W.callWith_of (P := KeptAt X.K f) (by show ((false || (backTo pos (starEach es X.env)).any (·.1)) || false) = false; rw [hpl]; rfl) keeps_at (evalArgs_plain hh)
end

/-! ### del xs[k:] -/
theorem del_tail (sel : Int → Int → Int → Nat → Bool) (hs : ∀ a b i, sel a b 1 i = (decide (a ≤ (i : Int)) && decide ((i : Int) < b) && ((i : Int) - a) % 1 == 0)) (xs : List Value) (k : Nat) (hk : k ≤ xs.length) :
    (xs.zipIdx.filterMap fun x => if sel (k : Int) (xs.length : Int) 1 x.2 = true then none else some x.1) = xs.take k := by
  have gen : ∀ (xs : List Value) (n b : Nat), n + xs.length ≤ b → (xs.zipIdx n).filterMap (fun x => if sel (k : Int) (b : Int) 1 x.2 = true then none else some x.1) = xs.take (k - n) := by
    intro xs
    induction xs with
    | nil => intro n b _; simp
    | cons x xs ih =>
      intro n b hb
      rw [List.length_cons] at hb
      rw [List.zipIdx_cons, List.filterMap_cons]
      have hsel : sel (k : Int) (b : Int) 1 n = decide (k ≤ n) := by
        rw [hs, Int.emod_one]
        have h2 : decide ((n : Int) < (b : Int)) = true := decide_eq_true (by omega)
        rw [h2]
        by_cases h : k ≤ n
        · rw [decide_eq_true h, decide_eq_true (by omega : (k : Int) ≤ (n : Int))]; rfl
        · rw [decide_eq_false h, decide_eq_false (by omega : ¬ (k : Int) ≤ (n : Int))]; rfl
      have := ih (n + 1) b (by omega)
      rw [this]
      dsimp only
      rw [hsel]
      by_cases h : k ≤ n
      · rw [decide_eq_true h]
        have e1 : k - n = 0 := by omega
        have e2 : k - (n + 1) = 0 := by omega
        rw [e1, e2]; rfl
      · rw [decide_eq_false h]
        have e1 : k - n = (k - (n + 1)) + 1 := by omega
        rw [e1]; rfl
  have := gen xs 0 xs.length (by omega)
  simpa using this
section
variable {prog : Program} {w : World} {A : Around} {E : Value → Shared → Prop} {s : Shared}
theorem delItem_tail {l sl : Addr} {its : List Value} {n k : Nat} {vl : Value} {Q : Unit → Shared → Prop} (ho : s.heap.get? l = some { cls := .type "list", data := .seq its.toArray n })
    (hsl : s.heap.IsSliceOf sl vl .none .none) (pl : IsPart vl (some (k : Int))) (hk : k ≤ its.length) (hz : its.length ≤ sizeLine)
    (h : ∀ F : Array Value → Array Value, F its.toArray = (its.take k).toArray → Q () { s with heap := s.heap.update l (Obj.mapSeq F) }) : wpAny (model prog w) A (delItem (.ref l) (.ref sl)) Q E s := by
  have hT : s.TypeIs (.ref l) "list" := ⟨_, ho, rfl⟩
  obtain ⟨os, hos, hcs, hds⟩ := id hsl
  have hTs : s.TypeIs (.ref sl) "slice" := ⟨os, hos, hcs⟩
  refine wpAny_delItem_slot hT (by decide) F.slot_list_delitem (wpAny_call_entry F.slot_list_delitem hT F.entry_list_delitem ?_ (F.args_list_delitem_2 _ _))
  show wpAny _ _ (Builtin.List.listSubscript? (.ref sl) >>= _) _ _ s
  refine wpAny_bind ?_
  unfold Builtin.List.listSubscript?
  refine wpAny_bind (wpAny_specialOf hTs slice_no_index ?_)
  simp only [Option.isNone_none, if_true]
  refine wpAny_pure ?_
  show wpAny _ _ (typeOf (.ref sl) >>= _) _ _ s
  refine wpAny_bind (wpAny_typeOf hTs ?_)
  rw [if_neg (by decide)]
  rw [listSliceParts_eq]
  refine wpAny_bind (wpAny_bind (wpAny_field hos hds (x := .none) rfl (wpAny_bind (wpAny_listPart .none ?_))))
  rw [if_neg (show ¬ ((rawPart none == rawInt 0) = true) from Bool.false_ne_true)]
  refine wpAny_bind (wpAny_field hos hds (x := vl) rfl (wpAny_bind (wpAny_listPart pl ?_)))
  refine wpAny_bind (wpAny_field hos hds (x := .none) rfl (wpAny_bind (wpAny_listPart .none (wpAny_pure ?_))))
  refine wpAny_bind (m := Builtin.List.listItems (.ref l)) ?_
  unfold Builtin.List.listItems
  refine wpAny_bind (wpAny_seqItems ho rfl (wpAny_pure ?_))
  refine wpAny_bind (wpAny_of_eq (sliceIndices_raw (some (k : Int)) none none its.toArray.size (by simp)) ?_)
  have hb : sliceBounds (some (k : Int)) none none its.toArray.size = ((k : Int), (its.length : Int), 1) := by
    unfold sliceBounds
    simp only [Option.getD_none, List.size_toArray]
    rw [if_neg (by omega : ¬ ((k : Int) < 0))]
    have e : max (0 : Int) (min (k : Int) (its.length : Int)) = (k : Int) := by omega
    simp [e]
    try omega
  rw [hb]
  refine wpAny_bind (wpAny_rule (wpAny_bind (m := Builtin.List.listUpdate (.ref l) _) ?_))
  show wpAny _ _ (updateSeq l _) _ _ _
  refine wpAny_updateSeq ho rfl (wpAny_bind (wpAny_letGo (wpAny_pure ⟨_, rfl, h _ ?_⟩))) (hz := by rw [List.size_toArray]; exact hz) (_hz' := ?_)
  · show (List.filterMap _ its.toArray.toList.zipIdx).toArray = _
    rw [List.toList_toArray]
    dsimp only
    refine congrArg List.toArray (del_tail _ ?hs its k hk)
    intro a b i; rfl
  · show (List.filterMap _ its.toArray.toList.zipIdx).toArray.size ≤ _
    rw [List.toList_toArray, List.size_toArray]
    refine Nat.le_trans (List.length_filterMap_le _ _) ?_
    rw [List.length_zipIdx]; omega
end
section
variable {X : Cx} {o e : Expr} {td te : TE} {pos tpos p2 : Pos}
def sDelT (td te : TE) : TS := fun D σ H => td σ H fun x H1 => te σ H1 fun y H2 => ∃ l xs, ∃ k : Nat, x = .ref l ∧ H2 l = some (.lst xs) ∧ y = .int k ∧ k ≤ xs.length ∧ D.nx σ (upd H2 l (.lst (xs.take k)))
theorem ps_delT (ho : PE X o td) (hi : PE X e te) : PS X (.Delete [.Subscript o (.Slice (some e) none none p2) tpos] pos) (sDelT td te) := by
  intro pins s σ H D I h
  refine wpAny_Delete (wpAny_deleteEach_cons (wpAny_delete_Subscript (thn (ho pins s σ H _ I h) fun u s1 ⟨x, H1, I1, rx, q1⟩ => ?_)))
  refine wpAny_Slice ?_
  rw [evalPart_some]
  refine thn (hi pins s1 σ H1 _ I1 q1) fun iv s2 ⟨y, H2, I2, ry, l, xs, k, ex, hl, ey, hk, q⟩ => ?_
  rw [evalPart_none]
  refine wpAny_pure (wpAny_pure ?_)
  subst ex ey
  cases rx
  obtain ⟨t, rfl⟩ := ry
  have I4 : Inv X pins σ H2 { s2 with heap := s2.heap.push { cls := .type "slice", data := .fields #[.int k t, .none, .none] } } := I2.kept (t' := s2.toks) fun b ob q => Heap.get?_push_of_some _ q
  obtain ⟨z, its, n, r, hlen, e'⟩ := I4.lstM hl
  have hkl : k ≤ its.length := by have := r.length; omega
  have hz : its.length ≤ sizeLine := by have := r.length; omega
  refine delItem_tail e' (Heap.IsSliceOf.new ..) (.int _ _) hkl hz fun F hF => wpAny_deleteEach_nil ⟨σ, _, ?_, q⟩
  refine I4.lset (t' := s2.toks) (its' := its.take k) hl e' hF (r.take k) ?_
  have := r.length
  rw [List.length_take]; omega
end
end L2

set_option Elab.async false
set_option linter.all false
set_option maxRecDepth 100000
set_option maxHeartbeats 4000000
namespace L2
open PySem PySem.Spec PyProof.Rows PySem.W
/-! ### enumerate of a tuple, of a list -/
section
open AutoSeq1 (wpAny_loadPart')
end
section
variable {X : Cx}
end
section
variable {X : Cx}
end
end L2

set_option Elab.async false
set_option linter.all false
set_option maxRecDepth 100000
set_option maxHeartbeats 4000000
namespace L2
open PySem PySem.Spec PyProof.Rows PySem.W
/-! ### a cut: what is wanted in between -/
section
variable {X : Cx} {e : Expr} {st : Stmt} {te : TE} {tt : TT} {ts : TS}
def tCut (te : TE) : TE := fun σ H Q => ∃ R : VK, te σ H R ∧ ∀ v H', R v H' → Q v H'
theorem pe_cut (he : PE X e te) : PE X e (tCut te) := fun pins s σ H Q I ⟨R, h, q⟩ => thn (he pins s σ H R I h) fun u s1 ⟨v, H1, I1, r, z⟩ => ⟨v, H1, I1, r, q v H1 z⟩
def tCutT (tt : TT) : TT := fun σ H Q => ∃ R : Bool → Hp → Prop, tt σ H R ∧ ∀ v H', R v H' → Q v H'
theorem pt_cut (he : PT X e tt) : PT X e (tCutT tt) := fun pins s σ H Q I ⟨R, h, q⟩ => thn (he pins s σ H R I h) fun b s1 ⟨H1, I1, z⟩ => ⟨H1, I1, q b H1 z⟩
def sCut (ts : TS) : TS := fun D σ H => ∃ N : St → Hp → Prop, ts { D with nx := N } σ H ∧ ∀ σ' H', N σ' H' → D.nx σ' H'
theorem ps_cut (hs : PS X st ts) : PS X st (sCut ts) := fun pins s σ H D I ⟨N, h, q⟩ => thn (hs pins s σ H { D with nx := N } I h) fun f s1 z => by
  cases f with
  | next => obtain ⟨σ', H', I', z⟩ := z; exact ⟨σ', H', I', q σ' H' z⟩
  | brk => exact z
  | cont => exact z
  | ret u => exact z
end
/-- the last ones -/
theorem cut_tail (xs ys : List V) : cutV (xs ++ ys) (some (xs.length : Int)) none = ys := by
  have h : ¬ ((xs.length : Int) < 0) := by omega
  unfold cutV HT.sIx
  simp [h]
end L2

set_option Elab.async false
set_option linter.all false
set_option maxRecDepth 100000
set_option maxHeartbeats 4000000
namespace L2
open PySem PySem.Spec PyProof.Rows PySem.W
/-! ### the same in a box, for what must not be run ahead (a display of constants) -/
structure Box (p : Prop) : Prop where un : p
section
variable {X : Cx} {st : Stmt} {rest : List Stmt} {t u : TS} {e o f : Expr} {te td ty tx : TE} {pos apos cpos : Pos}
theorem bss_cons (h1 : Box (PS X st t)) (h2 : Box (PSs X rest u)) : Box (PSs X (st :: rest) (tSeq t u)) := ⟨pss_cons h1.un h2.un⟩
theorem bss_one (h1 : Box (PS X st t)) : Box (PSs X [st] t) := ⟨pss_one h1.un⟩
theorem bs_ret (he : Box (PE X e te)) : Box (PS X (.Return (some e) pos) (tRet te)) := ⟨ps_ret he.un⟩
end
end L2

set_option Elab.async false
set_option linter.all false
set_option maxRecDepth 100000
set_option maxHeartbeats 4000000
namespace L2
open PySem PySem.Spec PyProof.Rows PySem.W
/-! ### a lambda that takes one name from the frame around it -/
abbrev lamEnv (qual : Str) (scope : Scope) (L f : Addr) (cv : Value) (cl : List (Str × Addr)) : Env := newEnv scope L mainGlobals cl (qual ++ ".<locals>.") (some f) cv none builtinsNs
def cxL (CX : CXT) (P : Program) (w : World) (K : PySem.W.Frag) (mg : Str → Option Value) (base : Heap) (N : List Str) (qual : Str) (scope : Scope) (f : Addr) (cv : Value) (cl : List (Str × Addr)) (A : Around) (outer : List Env) (s : Shared) (H : Hp) (E : XK) : Cx where
  prog := P
  w := w
  K := K
  mg := mg
  base := base
  A := A.deeper (lamEnv qual scope s.heap.objs.size f cv cl)
  N := N
  s₀ := s
  H₀ := H
  env := lamEnv qual scope s.heap.objs.size f cv cl
  outer := outer
  stack := lamEnv qual scope s.heap.objs.size f cv cl :: outer
  ex := []
  calm := true
  fn := fun _ => false
  pn := []
  xe := fun e s' => wpAny (model P w) (A.deeper (lamEnv qual scope s.heap.objs.size f cv cl)) (leaving (lamEnv qual scope s.heap.objs.size f cv cl) e) (fun _ s'' => CX outer H s E e s'') (fun e' s'' => CX outer H s E e' s'') s'
structure LamScope (ps : List Str) (y : Str) (sc : Scope) : Prop where
  kind : sc.kind = .function
  co : sc.isCoroutine = false
  gen : sc.isGenerator = false
  nd : ps.Nodup
  par : ∀ x ∈ ps, sc.names.lookup x = some .local
  free : sc.names.lookup y = some .free
  nocell : ∀ z ∈ sc.names, z.2 ≠ .cell
  one : ∀ z ∈ sc.names, z.2 = .free → z.1 = y
theorem zip_rev {ps : List Str} (nd : ps.Nodup) : ∀ {us : List Value} {i : Nat} {x : Str} {u : Value}, ps[i]? = some x → us[i]? = some u → (ps.zip us).reverse.lookup x = some u := by
  have gen : ∀ (l : List (Str × Value)) (x : Str) (u : Value), (l.map (·.1)).Nodup → (x, u) ∈ l → l.lookup x = some u := by
    intro l
    induction l with
    | nil => intro x u _ h; cases h
    | cons p l ih =>
      intro x u hn h
      obtain ⟨a, b⟩ := p
      rw [List.map_cons, List.nodup_cons] at hn
      rcases List.mem_cons.mp h with e | h
      · cases e; simp [List.lookup_cons]
      · have hne : x ≠ a := fun z => hn.1 (by rw [← z]; exact List.mem_map.mpr ⟨_, h, rfl⟩)
        have : (x == a) = false := by simpa using hne
        rw [List.lookup_cons, this]
        exact ih x u hn.2 h
  intro us i x u h1 h2
  refine gen _ x u ?_ ?_
  · rw [List.map_reverse]
    refine (List.Perm.nodup_iff (List.reverse_perm _)).mpr ?_
    have sub : ∀ (a : List Str) (b : List Value), ((a.zip b).map (·.1)).Sublist a := by
      intro a
      induction a with
      | nil => intro b; simp
      | cons x a ih =>
        intro b
        cases b with
        | nil => simp
        | cons z b => rw [List.zip_cons_cons, List.map_cons]; exact (ih b).cons₂ _
    exact nd.sublist (sub _ _)
  · rw [List.mem_reverse]
    have : (ps.zip us)[i]? = some (x, u) := by
      rw [List.getElem?_zip_eq_some]; exact ⟨h1, h2⟩
    exact List.mem_of_getElem? this
theorem lam_of {CX : CXT} {P : Program} {w : World} {K : PySem.W.Frag} {mg : Str → Option Value} {base : Heap} {k : Nat} {f c c' : Addr} {name qual : Str} {params : Arguments} {body : Expr} {scope : Scope} {pm ct u : Value} {y : Str} {vy : V} {ps : List Str} {sp : Sp}
    (ho : base.get? f = some (kla_obj name qual params body scope [(y, c)] pm c' ct)) (hcd : ∀ vs H Q E (h : Heap), sp vs H Q E → HOk P w H h → h.CodeRec (.ref c') qual) (S : LamScope ps y scope) (hc : base.IsCell c (some u)) (ru : RelV vy u)
    (len : ∀ vs H Q E, sp vs H Q E → vs.length = ps.length)
    (hbody : ∀ (A : Around) (outer : List Env) (s : Shared) (H : Hp) (vs : List V) (Q : VK) (E : XK), Room k (A.deeper (lamEnv qual scope s.heap.objs.size f (.ref c') [(y, c)])) → sp vs H Q E →
      ∃ t, PE (cxL CX P w K mg base (ps ++ [y]) qual scope f (.ref c') [(y, c)] A outer s H E) body t ∧ t (vs.map some ++ [some vy]) H Q) :
    FnOk P w K mg base CX (k + 1) f (kla_fn name qual params body scope [(y, c)] pm (.ref c') ct) ps sp := by
  refine ⟨len, fun A outer s H args us vs Q E hr e0 hb r hsp => ?_⟩
  have hl := len _ _ _ _ hsp
  have hul : us.length = ps.length := by rw [← r.length]; exact hl
  have bk : ∀ b o, base.get? b = some o → s.heap.get? b = some o := fun b o e => (e0.bs b o e).1
  have lim : s.heap.NoLimit := e0.mod.nolimit.keeps bk
  have hcode : s.heap.CodeRec (.ref c') qual := hcd _ _ _ _ _ hsp e0.hok
  refine kla_callFunE hr.depth (bk _ _ ho) rfl S.co S.gen rfl hcode (hb _ _ _ _ ?_)
  refine wpAny_newFunctionEnv S.nocell (fun z hz => S.par z.1 (List.of_mem_zip hz).1) (fun h' hns hsb => ?_) S.kind
  have hk : ∀ b o, s.heap.get? b = some o → h'.get? b = some o := fun b o e => hsb.extBut b o (Nat.ne_of_lt (Heap.lt_size e)) (Heap.get?_push_of_some _ e)
  refine ⟨lim.keeps hk, ?_⟩
  obtain ⟨t, ht, hq⟩ := hbody A outer s H vs Q E (hr.deeper _) hsp
  have hcs : s.heap.IsCell c (some u) := by
    obtain ⟨o, e, d⟩ := hc
    exact ⟨o, bk _ _ e, d⟩
  have hcn : H c = none := by
    obtain ⟨o, e, d⟩ := hc
    exact (e0.bs _ _ e).2
  have clk : ∀ x c2, ([(y, c)] : List (Str × Addr)).lookup x = some c2 → x = y ∧ c2 = c := by
    intro x c2 h
    by_cases e : x = y
    · subst e; simp [List.lookup_cons] at h; exact ⟨rfl, h.symm⟩
    · have : (x == y) = false := by simpa using e
      simp [List.lookup_cons, this] at h
  have cly : ([(y, c)] : List (Str × Addr)).lookup y = some c := by simp [List.lookup_cons]
  have I : Inv (cxL CX P w K mg base (ps ++ [y]) qual scope f (.ref c') [(y, c)] A outer s H E) [] (vs.map some ++ [some vy]) H { s with heap := h', toks := s.toks + (ps.zip us).length } := by
    have noA : ∀ b : Addr, b ∉ (cxL CX P w K mg base (ps ++ [y]) qual scope f (.ref c') [(y, c)] A outer s H E).ex := fun b z => absurd (show b ∈ ([] : List Addr) from z) (by simp)
    refine ⟨⟨e0.mod, S.kind, rfl, rfl, Nat.le_refl _, fun x z c2 h1 h2 => ?_, fun x hx => ?_, (fun x c2 z h => nomatch z), fun _ => hr.hd, Around.frames_deeper e0.frames, .inr ⟨rfl, rfl⟩, fun b z => absurd z (noA b), e0.bs, e0.bsz, fun b _ _ => noA b, fun b z => absurd z (noA b), e0.funs, e0.frf⟩,
      rfl, e0.bare, Un.kept hk, ⟨_, hns, fun i x v h1 h2 h3 => ?_⟩, fun x c2 h => ?_, e0.hok.fresh (Nat.le_refl _), fun x c2 h => ?_, fun p hp => absurd (show p ∈ ([] : List (Addr × Obj)) from hp) (by simp), e0.hok.kept hk, ?_⟩
    · rw [(clk x c2 h1).1, (clk z c2 h2).1]
    · have hx : scope.names.lookup x = some .cell ∨ scope.names.lookup x = some .free := hx
      rcases hx with hx | hx
      · exact absurd rfl (S.nocell _ (PySem.mem_of_lookup hx))
      · have := S.one _ (PySem.mem_of_lookup hx) rfl
        dsimp only at this
        subst this
        exact ⟨c, cly⟩
    · by_cases hi : i < ps.length
      · rw [List.getElem?_append_left (by rw [List.length_map]; omega), List.getElem?_map] at h2
        have h1' : ps[i]? = some x := by
          have h1 : (ps ++ [y])[i]? = some x := h1
          rw [List.getElem?_append_left hi] at h1; exact h1
        cases e : vs[i]? with
        | none => rw [e] at h2; cases h2
        | some a =>
          rw [e] at h2; cases h2
          obtain ⟨u2, hu2, rv⟩ := r.get e
          exact ⟨u2, rv, .inl ⟨S.par x (List.mem_of_getElem? h1'), zip_rev S.nd h1' hu2⟩⟩
      · have h1 : (ps ++ [y])[i]? = some x := h1
        rw [List.getElem?_append_right (by omega)] at h1
        rw [List.getElem?_append_right (by rw [List.length_map]; omega), List.length_map] at h2
        have e0' : i - ps.length = 0 := by
          cases hh : i - ps.length with
          | zero => rfl
          | succ n => rw [hh] at h1; simp at h1
        rw [e0'] at h1
        have ey : y = x := by simpa using h1
        subst ey
        have e1 : i - vs.length = 0 := by omega
        rw [e1] at h2
        have ev : vy = v := by simpa using h2
        subst ev
        exact ⟨u, ru, .inr ⟨.inr S.free, c, cly, by obtain ⟨o, e, d⟩ := hcs; exact ⟨o, hk _ _ e, d⟩⟩⟩
    · obtain ⟨_, rfl⟩ := clk x c2 h
      obtain ⟨o, e, d⟩ := hcs
      exact ⟨_, o, hk _ _ e, d⟩
    · obtain ⟨_, rfl⟩ := clk x c2 h
      exact hcn
    · show _ = (ps ++ [y]).length
      rw [List.length_append, List.length_map, List.length_append]
      simp; omega
  refine kla_codeExpr (wpAny_mono (ht [] _ _ H Q I hq) (fun v s' hs => ?_) fun e s' hs => hs)
  obtain ⟨v2, H', J, rv, q⟩ := hs
  exact ⟨v2, H', J.os, J.bare, J.base, J.hok, rv, q⟩
end L2

set_option Elab.async false
set_option linter.all false
set_option maxRecDepth 100000
set_option maxHeartbeats 4000000
namespace L2
open PySem PySem.Spec PyProof.Rows PySem.W
/-! ### a lambda made; the table of the code around it -/
def CodeO (c : Addr) (qual : Str) : HO := .ext fun h => h.CodeRec (.ref c) qual
def TabHit (H : Hp) (Pt c' : Addr) (qual : Str) (pos : Pos) : Prop := H Pt = some (.tbl #[rawInt pos.line, rawInt pos.col, .ref c']) ∧ H c' = some (CodeO c' qual)
def TabI (H : Hp) (Pt : Addr) (qual : Str) (pos : Pos) : Prop := H Pt = some (.tbl #[]) ∨ ∃ c', TabHit H Pt c' qual pos
def BM (mg : Str → Option Value) (base : Heap) : Prop := ∃ bm ob, mg "__builtins__" = some (.ref bm) ∧ bm ≠ builtinsNs ∧ base.get? bm = some ob ∧ ob.cls = .type "module" ∧ ob.dict = some builtinsNs ∧ ob.data = .plain
theorem BM.keeps {mg : Str → Option Value} {b b' : Heap} (h : BM mg b) (k : ∀ a o, b.get? a = some o → b'.get? a = some o) : BM mg b' := let ⟨bm, ob, h1, h2, h3, h4⟩ := h; ⟨bm, ob, h1, h2, k _ _ h3, h4⟩
theorem codeO_ok {P : Program} {w : World} {H : Hp} {h : Heap} {c : Addr} {qual : Str} (x : h.CodeRec (.ref c) qual) : ObjOk P w H h c (CodeO c qual) := by
  obtain ⟨c2, o, vs, t, e, g, r⟩ := id x
  cases e
  refine ⟨x, ⟨o, g⟩, fun h1 h2 y k => ?_⟩
  obtain ⟨c2, o, vs, t, e, g, r⟩ := y
  cases e
  exact ⟨c, o, vs, t, rfl, k _ g, r⟩
theorem codeO_at {P : Program} {w : World} {H : Hp} {h : Heap} {c : Addr} {qual : Str} (hok : HOk P w H h) (e : H c = some (CodeO c qual)) : h.CodeRec (.ref c) qual := (hok c _ e).1
section
variable {X : Cx}
theorem Inv.notStk {pins : List (Addr × Obj)} {σ : St} {H : Hp} {s : Shared} (I : Inv X pins σ H s) {b : Addr} (h1 : b ≠ X.env.locals) (h2 : b ∉ X.fs) : b ∉ frs X.stack := fun hb => by
  rcases List.mem_cons.mp (I.stkSub b hb) with e | e
  · exact h1 e
  · exact h2 e
theorem ev_lambda {pins : List (Addr × Obj)} {σ : St} {H : Hp} {s : Shared} {R : Value → Shared → Prop} {params : Arguments} {body : Expr} {scope : Scope} {pos : Pos} {Pt c0 : Addr} {qual y : Str} {i : Nat} {vy : V} (I : Inv X pins σ H s)
    (hq : X.env.qual ++ "<lambda>" = qual) (hd0 : params.defaults = []) (hk0 : params.kw_defaults = []) (hcode : X.env.code = .ref c0) (hC : codeHdIn X.K c0 Pt = true) (hB : BM X.mg X.base)
    (hcl : ∀ c, X.env.cells.lookup y = some c → closureFor scope X.env = pure [(y, c)]) (hN : X.N[i]? = some y) (hck : X.env.scope.names.lookup y = some .cell) (hfn : X.fn y = true)
    (ht : TabI H Pt qual pos) (hs : σ[i]? = some (some vy))
    (h : ∀ f c c' pm ct u H2 s2, Inv X pins σ H2 s2 → RelV vy u → s2.heap.get? f = some (kla_obj "<lambda>" qual params body scope [(y, c)] pm c' ct) → H2 f = none → s2.heap.IsCell c (some u) → H2 c = none → (∀ b o, b ≠ Pt → H b = some o → H2 b = some o) → TabHit H2 Pt c' qual pos →
      f ∉ frs X.stack → c ∉ frs X.stack → R (.ref f) s2) :
    wpAny (model X.prog X.w) X.A (eval (.Lambda params body scope pos) X.env) R X.xe s := by
  obtain ⟨m, hn, hl⟩ := I.loc
  obtain ⟨u, ru, lk⟩ := hl i y vy hN hs (.inr (.inl hck))
  have hck' : X.env.kindOf y = some .cell := hck
  obtain ⟨c, hc, hcell⟩ : ∃ c, X.env.cells.lookup y = some c ∧ s.heap.IsCell c (some u) := by
    rcases lk with ⟨hk, _⟩ | ⟨_, c, h1, h2⟩
    · rw [hck'] at hk; cases hk
    · exact ⟨c, h1, h2⟩
  have hcn : H c = none := I.freeC y c hc
  have hcs : c ∉ frs X.stack := I.notStk (I.cne y c hc) (fun hb => by
    obtain ⟨_, o, ho, _⟩ := I.ok.funs.mem hb
    exact absurd (Nat.lt_of_lt_of_le (Heap.lt_size ho) (I.ok.cab y c hfn hc)) (Nat.lt_irrefl _))
  have C : CodeHd s.heap c0 Pt := codeHd_of_K I.kIn hC
  have hg : s.heap.Ns mainGlobals X.mg := I.mod.glob.keeps I.bk
  have tabAt : ∀ {ps : Array Value}, H Pt = some (.tbl ps) → s.heap.get? Pt = some (tabObj ps) := fun e => I.hok Pt _ e
  have blt : ∀ {ps : Array Value}, H Pt = some (.tbl ps) → s.heap.BuiltinsAt X.mg Pt := fun {ps} e => by
    obtain ⟨bm, ob, b1, b2, b3, b4, b5, b6⟩ := hB
    have e3 := I.bk _ _ b3
    refine ⟨bm, ob, b1, b2, fun z => ?_, fun z => ?_, e3, b4, b5, b6⟩
    · obtain ⟨o, es, ep, e, d, _⟩ := hg
      rw [z, e] at e3; cases e3; rw [d] at b6; cases b6
    · rw [z, tabAt e] at e3; cases e3; cases b6
  have hgP : ∀ {ps : Array Value}, H Pt = some (.tbl ps) → mainGlobals ≠ Pt := fun {ps} e z => by
    obtain ⟨o, es, ep, e', d, _⟩ := hg
    rw [z, tabAt e] at e'; cases e'; cases d
  rw [arm_eval_Lambda, defaultsOf_eq, hd0, hk0]
  show wpAny _ _ (do let dv ← evalAll (evalEach [] X.env); let kdv ← holding dv (evalAllOpt []); makeFunction "<lambda>" (X.env.qual ++ "<lambda>") params (.expr body) scope X.env dv kdv [] pos pos.line) _ _ s
  refine wpAny_bind (evalAll_nil (wpAny_bind (wpAny_holding (wpAny_pure ?_))))
  rw [hq]
  rcases ht with ht | ⟨c', ht, htc⟩
  · refine kla_makeFunction (hcl c hc) I.ok.glob hg hcode C (tabAt ht) trivial rfl (hgP ht) (blt ht) fun c' ctv h' tk hx hge hlt hrec htb => ?_
    have hPl : X.env.locals ≠ Pt := fun z => by rw [← z, I.free] at ht; cases ht
    have hc'n : H c' = none := I.hok.fresh hge
    have hPc : Pt ≠ c' := ne_of_none ht hc'n
    have kp : ∀ b o, b ≠ Pt → s.heap.get? b = some o → (h'.push (kla_obj "<lambda>" qual params body scope [(y, c)] ((X.mg "__name__").getD .none) c' ctv)).get? b = some o := fun b o hb e => Heap.get?_push_of_some _ (hx b o hb e)
    have I2 : Inv X pins σ (upd (upd H Pt (.tbl #[rawInt pos.line, rawInt pos.col, .ref c'])) c' (CodeO c' qual)) { s with heap := h'.push (kla_obj "<lambda>" qual params body scope [(y, c)] ((X.mg "__name__").getD .none) c' ctv), toks := tk } := by
      refine I.step (t' := tk) (g' := s.gens) (d' := s.drawn) (ch := []) (fun b hb => nomatch hb) (fun b o _ _ _ e n => kp b o (fun z => by rw [z, ht] at n; cases n) e) (fun b o _ _ _ e n => ⟨o.slots, kp b o (fun z => by rw [z, ht] at n; cases n) e⟩)
        (fun b o _ e n => ?_) (fun b o _ e => ?_) (fun b xs e => ?_) (fun b o xs e => ?_) (fun b ps e => ?_) (fun m hm => (hm.extBut hx hPl).push _) ?_ I.bare
      · rw [upd_ne (Nat.ne_of_lt (Nat.lt_of_lt_of_le (Heap.lt_size e) hge)), upd_ne (fun z => by rw [z, ht] at n; cases n)]; exact n
      · by_cases hb : b = Pt
        · rw [hb]; exact ⟨_, Heap.get?_push_of_some _ htb⟩
        · exact ⟨_, kp b o hb e⟩
      · rw [upd_ne (ne_of_none e hc'n), upd_ne (ne_of e ht (by intro z; cases z))]; exact e
      · rw [upd_ne (ne_of_none e hc'n), upd_ne (ne_of e ht (by intro z; cases z))]; exact e
      · by_cases hb : b = Pt
        · rw [hb] at e ⊢
          rw [ht] at e
          cases e
          exact ⟨#[rawInt pos.line, rawInt pos.col, .ref c'], by rw [upd_ne hPc, upd_same]; simp⟩
        · exact ⟨#[], by rw [upd_ne (ne_of_none e hc'n), upd_ne hb, e]; simp⟩
      · intro b o e
        by_cases hb : b = c'
        · rw [hb, upd_same] at e
          cases e
          rw [hb]
          exact codeO_ok (hrec.push _)
        · rw [upd_ne hb] at e
          by_cases hb2 : b = Pt
          · rw [hb2, upd_same] at e
            cases e
            rw [hb2]
            exact Heap.get?_push_of_some _ htb
          · rw [upd_ne hb2] at e
            refine (I.hok b o e).stay (fun d v hd q => kp d v ?_ q) (fun d q => ?_) fun d xs q => ?_
            · rcases hd with rfl | hd
              · exact hb2
              · exact ne_of hd ht (by intro z; cases z)
            · rw [upd_ne (ne_of_none q hc'n), upd_ne (ne_of q ht (by intro z; cases z))]; exact q
            · rw [upd_ne (ne_of_none q hc'n), upd_ne (ne_of q ht (by intro z; cases z))]; exact q
    have hfl : s.heap.objs.size ≤ h'.objs.size := Nat.le_of_lt (Nat.lt_of_le_of_lt hge hlt)
    have hfn2 : (upd (upd H Pt (.tbl #[rawInt pos.line, rawInt pos.col, .ref c'])) c' (CodeO c' qual)) h'.objs.size = none := by
      rw [upd_ne (Nat.ne_of_gt hlt), upd_ne (fun z => by
        have := I.hok.fresh hfl
        rw [z, ht] at this; cases this)]
      exact I.hok.fresh hfl
    have hcPt : c ≠ Pt := fun z => by rw [z, ht] at hcn; cases hcn
    refine h _ c c' _ ctv u _ _ I2 ru (Heap.get?_push_size _ rfl) hfn2 ?_ ?_ (fun b o hb e => ?_) ⟨by rw [upd_ne hPc, upd_same], upd_same⟩ (I.notStk (Nat.ne_of_gt (Nat.lt_of_lt_of_le I.lt hfl)) (I.nofs hfl)) hcs
    · obtain ⟨o, e, d⟩ := hcell
      exact ⟨o, kp _ _ hcPt e, d⟩
    · rw [upd_ne (fun z => by
        obtain ⟨o, e, d⟩ := hcell
        exact absurd (Heap.lt_size e) (by rw [z]; exact Nat.not_lt.mpr hge)), upd_ne hcPt]
      exact hcn
    · rw [upd_ne (ne_of_none e hc'n), upd_ne hb]; exact e
  · refine kla_makeFunctionHit (cv := .ref c') (hcl c hc) I.ok.glob hg hcode C (tabAt ht) trivial (by simp [codeAmong, rawInt]) (blt ht) fun ctv h' tk hk hsz => ?_
    have kp : ∀ b o, s.heap.get? b = some o → (h'.push { cls := .type "function", data := .func (kla_fn "<lambda>" qual params body scope [(y, c)] ((X.mg "__name__").getD .none) (.ref c') ctv) }).get? b = some o := fun b o e => Heap.get?_push_of_some _ (hk b o e)
    have I2 := I.kept (t' := tk) kp
    refine h _ c c' _ ctv u _ _ I2 ru (Heap.get?_push_size _ rfl) (I.hok.fresh hsz) ?_ hcn (fun b o hb e => e) ⟨ht, htc⟩ (I.notStk (Nat.ne_of_gt (Nat.lt_of_lt_of_le I.lt hsz)) (I.nofs hsz)) hcs
    obtain ⟨o, e, d⟩ := hcell
    exact ⟨o, kp _ _ e, d⟩
end
end L2

set_option Elab.async false
set_option linter.all false
set_option maxRecDepth 100000
set_option maxHeartbeats 4000000
namespace L2
open PySem PySem.Spec PyProof.Rows PySem.W
/-! ### g(e, lambda ..) -/
theorem frames_swap {h b b' : Heap} : ∀ {l : List Env}, h.FunFrames b l → (∀ L ∈ frs l, b'.get? L = none) → h.FunFrames b' l
  | [], _, _ => trivial
  | env :: r, ⟨hk, ⟨L, o, hf, hn, ho⟩, hr⟩, z => ⟨hk, ⟨L, o, hf, z L (by unfold frs; rw [List.filterMap_cons, hf]; exact List.mem_cons_self), ho⟩, frames_swap hr fun b hb => z b (by unfold frs; rw [List.filterMap_cons, hf]; exact List.mem_cons_of_mem _ hb)⟩
theorem Mod.keeps {K : PySem.W.Frag} {mg : Str → Option Value} {b b' : Heap} (m : Mod K mg b) (k : ∀ a o, b.get? a = some o → b'.get? a = some o) : Mod K mg b' :=
  ⟨m.kin.keeps k, m.glob.keeps k, let ⟨mb, h1, h2⟩ := m.blt; ⟨mb, h1.keeps k, h2⟩, m.nolimit.keeps k⟩
section
variable {X : Cx} {CX : CXT} {k : Nat} {g : Addr} {gd : FuncData} {gps : List Str} {E : XK} {x : Str} {p pos lpos : Pos} {e : Expr} {te : TE} {params : Arguments} {body : Expr} {scope : Scope} {Pt c0 : Addr} {qual y : Str} {i : Nat}
def tCallLam (X : Cx) (CX : CXT) (k : Nat) (g : Addr) (gd : FuncData) (gps : List Str) (E : XK) (Pt : Addr) (qual y : Str) (i : Nat) (params : Arguments) (body : Expr) (scope : Scope) (lpos : Pos) (te : TE) : TE := fun σ H Q => te σ H fun v H1 => TabI H1 Pt qual lpos ∧ ∃ vy, σ[i]? = some (some vy) ∧
  ∀ (base' : Heap) (f c c' : Addr) (pm ct u : Value) (H2 : Hp), (∀ b o, X.base.get? b = some o → base'.get? b = some o) → RelV vy u → base'.get? f = some (kla_obj "<lambda>" qual params body scope [(y, c)] pm c' ct) → base'.IsCell c (some u) → (∀ b o, b ≠ Pt → H1 b = some o → H2 b = some o) → TabHit H2 Pt c' qual lpos →
    ∃ sp, FnOk X.prog X.w X.K X.mg base' CX k g gd gps sp ∧ sp [v, .ref f] H2 Q E
theorem pe_callLam (hr : Room k X.A) (hg : Gl X x) (hm : X.mg x = some (.ref g)) (hk : PySem.W.keepIn X.K (.ref g) = true) (hb : Binds X.K gd gps []) (hx : Passes CX X E) (he : PE X e te)
    (hq : X.env.qual ++ "<lambda>" = qual) (hcode : X.env.code = .ref c0) (hC : codeHdIn X.K c0 Pt = true) (hB : BM X.mg X.base) (hcl : ∀ c, X.env.cells.lookup y = some c → closureFor scope X.env = pure [(y, c)])
    (hN : X.N[i]? = some y) (hck : X.env.scope.names.lookup y = some .cell) (hfn : X.fn y = true) (hd0 : params.defaults = []) (hk0 : params.kw_defaults = [])
    (hdb : (x == ("__debug__" : Str)) = false := by decide)
    (hs : starEach [e, .Lambda params body scope lpos] X.env = (false, eval e X.env) :: starEach [.Lambda params body scope lpos] X.env := by rfl) (hs2 : starEach [.Lambda params body scope lpos] X.env = [(false, eval (.Lambda params body scope lpos) X.env)] := by rfl)
    (hpl : (backTo pos (starEach [.Lambda params body scope lpos] X.env)).any (·.1) = false := by rfl) :
    PE X (.Call (.Name x p) [e, .Lambda params body scope lpos] [] pos) (tCallLam X CX k g gd gps E Pt qual y i params body scope lpos te) := by
  intro pins s σ H Q I h
  refine wpAny_Call_Name_kw (ld_glob I hg hm ?_ hdb)
  refine PySem.W.callWith_K (h₀ := X.base) I.ok.mod.kin hk ?_ hs hpl
  rw [hs]
  show wpAny _ _ (spliced ((false, eval e X.env) :: backTo pos (starEach [.Lambda params body scope lpos] X.env))) _ _ s
  rw [hs2]
  refine Calls.spliced_cons (thn (he pins s σ H _ I h) fun u1 s1 ⟨v, H1, I1, r1, hT, vy, hvy, q⟩ => ?_)
  show wpAny _ _ (spliced [(false, eval (.Lambda params body scope lpos) X.env)]) _ _ s1
  refine Calls.spliced_cons (ev_lambda I1 hq hd0 hk0 hcode hC hB hcl hN hck hfn hT hvy fun f c c' pm ct u H2 s2 I2 ru hf hfn2 hcell hcn hsame htab hfs hcs => Calls.spliced_nil ⟨I2.kIn, ?_⟩)
  let HH : Hp := fun b => if b ∈ frs X.stack then some (.rng 0 0) else H2 b
  have hhNone : ∀ b, HH b = none → H2 b = none ∧ b ∉ frs X.stack := fun b z => by
    by_cases hb : b ∈ frs X.stack
    · have z' : (if b ∈ frs X.stack then some (HO.rng 0 0) else H2 b) = none := z
      rw [if_pos hb] at z'; cases z'
    · have z' : (if b ∈ frs X.stack then some (HO.rng 0 0) else H2 b) = none := z
      rw [if_neg hb] at z'; exact ⟨z', hb⟩
  have bget : ∀ b o, s2.heap.get? b = some o → H2 b = none → b ∉ frs X.stack → (hidT s2.heap HH).get? b = some o := fun b o e1 e2 e3 => hidT_get e1 (by show (if b ∈ frs X.stack then some (HO.rng 0 0) else H2 b) = none; rw [if_neg e3]; exact e2)
  have bof : ∀ b o, (hidT s2.heap HH).get? b = some o → s2.heap.get? b = some o ∧ H2 b = none ∧ b ∉ frs X.stack := fun b o e1 => ⟨(of_hidT e1).1, hhNone b (of_hidT e1).2⟩
  have sub : ∀ b o, X.base.get? b = some o → (hidT s2.heap HH).get? b = some o := fun b o e1 => bget b o (I2.bs b o e1).1 (I2.bs b o e1).2 fun hb => by
    have := (I2.stack.mem hb).1
    rw [e1] at this; cases this
  obtain ⟨sp, F, hsp⟩ := q (hidT s2.heap HH) f c c' pm ct u H2 sub ru (bget _ _ hf hfn2 hfs) (by obtain ⟨o, e1, d⟩ := hcell; exact ⟨o, bget _ _ e1 hcn hcs, d⟩) hsame htab
  have e0 : Env0 X.prog X.w X.K X.mg (hidT s2.heap HH) X.A X.stack s2 H2 :=
    ⟨I2.ok.frames, I2.ok.mod.keeps sub, fun b o e1 => ⟨(bof b o e1).1, (bof b o e1).2.1⟩, Nat.le_of_eq (hidT_size _ _), frames_swap I2.stack fun L hL => by
      cases hh : (hidT s2.heap HH).get? L with
      | none => rfl
      | some o => exact absurd hL (bof L o hh).2.2, I2.stkFree, I2.hok, I2.bare⟩
  have hlen : ([u1, .ref f] : List Value).length = gps.length := F.len _ _ _ _ hsp
  refine wpAny_call (codeAny_mono (F.run X.A X.stack s2 H2 ⟨[] ++ [u1, .ref f], []⟩ ([u1, .ref f] ++ []) [v, .ref f] Q E hr e0 (hb s2 [u1, .ref f] I2.kIn (by simpa using hlen)) (.cons r1 (.cons rfl .nil)) hsp) fun r s' hq' => ?_)
  cases r with
  | error e => exact hx pins σ H2 s2 e s' I2 hq'
  | ok fl =>
    cases fl with
    | ret u => exact I2.after hq'
    | next => exact False.elim hq'
    | brk => exact False.elim hq'
    | cont => exact False.elim hq'
end

/-! ### the head, with tables of code that grow -/
theorem law_callT {P : Program} {w : World} {K : PySem.W.Frag} {mg mb : Str → Option Value} {CX : CXT} {k : Nat} {fa a : Addr} {fd : FuncData} {x : Str} {sp : Sp} {s₁ : Shared} {vs : List Value} {ns : List Int} {ts : List Addr}
    (KX : K.In s₁.heap) (hns : s₁.heap.Ns mainGlobals mg) (hb : s₁.heap.Ns builtinsNs mb) (hbb : ∀ x : Str, x ≠ "__name__" → mb x = bootBuiltins x) (hlim : s₁.heap.NoLimit) (hg : s₁.gens = #[])
    (ha : s₁.heap.get? a = some { cls := .type "list", data := .seq vs.toArray }) (hi : IntsAre vs ns) (hl : ns.length ≤ sizeLine) (hr : Room k callerA)
    (hT : ∀ q ∈ ts, s₁.heap.get? q = some (tabObj #[]) ∧ (∃ c, codeHdIn K c q = true) ∧ K.lookup q = none) (hBM : BM mg s₁.heap)
    (F : ∀ base : Heap, K.In base → base.Ns mainGlobals mg → BM mg base → FnOk P w K mg base CX k fa fd [x] sp) (hbind : ∀ (s : Shared) (u : Value), BindsTo s fd ⟨[u], []⟩ [(x, u)])
    (hsp : ∀ H : Hp, (∀ q ∈ ts, H q = some (.tbl #[])) → SqL K H a (ns.map V.int) → sp [.ref a] H (fun v _ => v = .bl true) fun _ _ _ => False)
    (hCX : ∀ H e s', CX [] H s₁ (fun _ _ _ => False) e s' → False) :
    codeAny (model P w) callerA (.call (.ref fa) ⟨[.ref a], []⟩) (fun r s' => r = .ok (.ret (.bool true)) ∧ OldK s₁.heap s'.heap ∧ s'.os = s₁.os ∧ AllBare s'.gens) s₁ := by
  have rv := vals_ints hi
  have lenV := hi.length
  have hat : a ∉ ts := fun z => by
    have := (hT a z).1
    rw [ha] at this; cases this
  have core : ∀ H : Hp, (∀ q ∈ ts, H q = some (.tbl #[])) → (∀ b, H b = none ∨ (∃ o xs, H b = some (.frz o (.lst xs))) ∨ b ∈ ts) → SqL K H a (ns.map V.int) → HOk P w H s₁.heap → (∀ b, H b ≠ none → b = a ∨ b ∈ ts) → (H a ≠ none → K.lookup a = none) →
      codeAny (model P w) callerA (.call (.ref fa) ⟨[.ref a], []⟩) (fun r s' => r = .ok (.ret (.bool true)) ∧ OldK s₁.heap s'.heap ∧ s'.os = s₁.os ∧ AllBare s'.gens) s₁ := by
    intro H hTb hO hS hok hA hK
    have base_of : ∀ {b : Addr} {o : Obj}, s₁.heap.get? b = some o → H b = none → (hidT s₁.heap H).get? b = some o := fun e n => hidT_get e n
    have noA : ∀ {b : Addr} {o : Obj}, s₁.heap.get? b = some o → (∀ ps, o.data ≠ .fields ps) → (∀ xs n, o.data ≠ .seq xs n) → H b = none := fun {b o} e d1 d2 => by
      cases q : H b with
      | none => rfl
      | some u =>
        rcases hA b (by rw [q]; simp) with e' | e'
        · subst e'
          rw [ha] at e; cases e
          exact absurd rfl (d2 _ _)
        · rw [(hT b e').1] at e; cases e
          exact absurd rfl (d1 _)
    have nsK : ∀ {b : Addr} {m : Str → Option Value}, s₁.heap.Ns b m → (hidT s₁.heap H).Ns b m := fun {b m} ⟨o, es, ep, e, d, r⟩ => ⟨o, es, ep, base_of e (noA e (fun ps z => by rw [d] at z; cases z) fun xs n z => by rw [d] at z; cases z), d, r⟩
    have hKb : K.In (hidT s₁.heap H) := fun b o e => base_of (KX b o e) (by
      cases q : H b with
      | none => rfl
      | some u =>
        rcases hA b (by rw [q]; simp) with e' | e'
        · subst e'
          rw [hK (by rw [q]; simp)] at e; cases e
        · rw [(hT b e').2.2] at e; cases e)
    have hM : Mod K mg (hidT s₁.heap H) := ⟨hKb, nsK hns, ⟨mb, nsK hb, hbb⟩, let ⟨mc, h1, h2⟩ := hlim; ⟨mc, nsK h1, h2⟩⟩
    have hBM' : BM mg (hidT s₁.heap H) := by
      obtain ⟨bm, ob, b1, b2, b3, b4, b5, b6⟩ := hBM
      exact ⟨bm, ob, b1, b2, base_of b3 (noA b3 (fun ps z => by rw [b6] at z; cases z) fun xs n z => by rw [b6] at z; cases z), b4, b5, b6⟩
    have e0 : Env0 P w K mg (hidT s₁.heap H) callerA [] s₁ H := ⟨rfl, hM, fun b o e => of_hidT e, Nat.le_of_eq (hidT_size _ _), trivial, fun b hb => absurd (show b ∈ ([] : List Addr) from hb) (by simp), hok, .of_eq hg⟩
    refine codeAny_mono ((F _ hKb (nsK hns) hBM').run callerA [] s₁ H ⟨[.ref a], []⟩ [.ref a] [.ref a] _ _ hr e0 (hbind s₁ (.ref a)) (.cons rfl .nil) (hsp H hTb hS)) fun r s' h => ?_
    cases r with
    | error e => exact (hCX H e s' h).elim
    | ok fl =>
      cases fl with
      | next => exact False.elim h
      | brk => exact False.elim h
      | cont => exact False.elim h
      | ret u =>
        obtain ⟨v, H', os, bare, un, hok', r', q⟩ := h
        have q' : v = .bl true := q
        subst q'
        obtain rfl : u = Value.bool true := r'
        have tb : ∀ b ∈ ts, ∃ more, s'.heap.get? b = some (tabObj (#[] ++ more)) := fun b hb => by
          obtain ⟨more, e2⟩ := un.tbls b _ (hTb b hb)
          exact ⟨more, hok' b _ e2⟩
        refine ⟨rfl, ⟨fun b o e => ?_, fun b o e => ?_⟩, os, bare⟩
        · rcases hO b with z | ⟨ob, xs, z⟩ | z
          · exact .inl (un.keep b o e z (by intro z; exact absurd (show b ∈ ([] : List Addr) from z) (by simp)) (by simp))
          · have z2 := un.frzs b ob _ z
            obtain ⟨e1, _⟩ := hok b _ z
            obtain ⟨e2, _⟩ := hok' b _ z2
            rw [e] at e1; cases e1
            exact .inl e2
          · obtain ⟨more, e2⟩ := tb b z
            obtain ⟨e1, ⟨c, hc⟩, _⟩ := hT b z
            rw [e] at e1; cases e1
            exact .inr (.inl ⟨((codeHd_of_K KX hc).tab e).isCodeTable, rfl, #[], more, rfl, e2⟩)
        · exact un.there b o e (by simp)
  cases hk : K.lookup a with
  | some o =>
    have e := KX a o hk
    rw [ha] at e
    cases e
    refine core (fun b => if b ∈ ts then some (.tbl #[]) else none) (fun q hq => if_pos hq) (fun b => ?_) (.inr ⟨_, vs.toArray, _, hk, rfl, rfl, rfl, by rw [List.size_toArray, lenV]; exact hl, by simpa using rv⟩) (fun b u z => ?_) (fun b z => ?_) fun z => ?_
    · by_cases hb : b ∈ ts
      · exact .inr (.inr hb)
      · exact .inl (if_neg hb)
    · by_cases hb : b ∈ ts
      · have z' : some (HO.tbl #[]) = some u := (if_pos hb).symm.trans z
        cases z'
        exact (hT b hb).1
      · have z' : none = some u := (if_neg hb).symm.trans z
        cases z'
    · by_cases hb : b ∈ ts
      · exact .inr hb
      · exact absurd (if_neg hb) z
    · exact absurd (if_neg hat) z
  | none =>
    refine core (fun b => if b ∈ ts then some (.tbl #[]) else if b = a then some (.frz { cls := .type "list", data := .seq vs.toArray } (.lst (ns.map V.int))) else none) (fun q hq => if_pos hq) (fun b => ?_) (.inl (.inr ⟨{ cls := .type "list", data := .seq vs.toArray }, (if_neg hat).trans (if_pos rfl)⟩)) (fun b u z => ?_) (fun b z => ?_) fun _ => hk
    · by_cases hb : b ∈ ts
      · exact .inr (.inr hb)
      · by_cases hb2 : b = a
        · exact .inr (.inl ⟨_, _, (if_neg hb).trans (if_pos hb2)⟩)
        · exact .inl ((if_neg hb).trans (if_neg hb2))
    · dsimp only at z
      by_cases hb : b ∈ ts
      · rw [if_pos hb] at z
        cases z
        exact (hT b hb).1
      · rw [if_neg hb] at z
        by_cases hb2 : b = a
        · rw [if_pos hb2] at z
          cases z
          subst hb2
          exact ⟨ha, by rw [List.length_map]; exact hl, vs, _, rv, ha⟩
        · rw [if_neg hb2] at z
          cases z
    · by_cases hb : b ∈ ts
      · exact .inr hb
      · by_cases hb2 : b = a
        · exact .inl hb2
        · exact absurd ((if_neg hb).trans (if_neg hb2)) z
theorem walk_ofT {l : PySem.W.OpenLaw} {n k : Nat} {q : Program} {loose : List Str} {XP : (Str → Option Value) → Heap → Prop} {YP : World → Heap → Prop} {d : DefRec} {K : Params → PySem.W.Frag} {sp : PySem.W.Frag → Sp} {x : Str} {ts : List Addr}
    (hn : l.most = some n) (hn2 : n ≤ sizeLine) (hdf : d.params.defaults = []) (hr : Room k callerA)
    (hY : ∀ (w : World) (h : Heap), YP w h → (K w.params).In h) (hYt : ∀ (w : World) (h : Heap), YP w h → ∀ P ∈ ts, h.get? P = some (tabObj #[]))
    (F : ∀ (w : World) (mg : Str → Option Value) (fa : Addr) (h : Heap), (K w.params).In h → h.Ns mainGlobals mg → mg d.name = some (.ref fa) →
      (∀ P ∈ ts, (∃ c, codeHdIn (K w.params) c P = true) ∧ (K w.params).lookup P = none) ∧ ∃ fd : FuncData, (∀ (s : Shared) (u : Value), BindsTo s fd ⟨[u], []⟩ [(x, u)]) ∧
        ∀ base : Heap, (K w.params).In base → base.Ns mainGlobals mg → BM mg base → FnOk l.prog w (K w.params) mg base CX0 k fa fd [x] (sp (K w.params)))
    (hsp : ∀ (K : PySem.W.Frag) (H : Hp) (a : Addr) (ns : List Int), ns.length ≤ n → (∀ q ∈ ts, H q = some (.tbl #[])) → SqL K H a (ns.map V.int) → sp K [.ref a] H (fun v _ => v = .bl true) fun _ _ _ => False) :
    PySem.W.WalkO q loose XP YP l.row.toRowW d [] (fun f vs => PySem.call f vs) := by
  refine Att.attach_call hn hdf fun w s₀ s₁ mg mb fa o pm cd doc a vs ns G Y ho hd hcd hmg hobj hints hlen hg => ?_
  have KX := hY w _ Y
  obtain ⟨hC, fd, hb, hF⟩ := F w mg fa _ KX G.T.g hmg
  refine law_callT (ts := ts) KX G.T.g G.T.b G.T.builtins G.T.nolimit hg hobj hints (Nat.le_trans hlen hn2) hr (fun P hP => ⟨hYt w _ Y P hP, hC P hP⟩) ?_ hF hb (fun H hO hS => hsp _ H a ns hlen hO hS) fun H e s' z => z
  obtain ⟨bm, ob, b1, b2, b3, b4, b5, b6⟩ := G.T.bmain
  exact ⟨bm, ob, b1, b2, b3, b4, b5, b6⟩
end L2

set_option Elab.async false
set_option linter.all false
set_option maxRecDepth 100000
set_option maxHeartbeats 4000000
namespace L2
open PySem PySem.Spec PyProof.Rows PySem.W
section
variable {X : Cx}
/-! ### == and != of two tuples of as many flat things -/
/-! ### is True, is False -/
/-! ### products of any size that is not out of all bounds -/
/-! ### any, of a list of bools -/
theorem range_any (bs : List Bool) : ((List.range bs.length).any fun i => bs.getD i true) = bs.any id := by
  rw [Bool.eq_iff_iff, List.any_eq_true, List.any_eq_true]
  constructor
  · rintro ⟨i, hi, z⟩
    have hlt := List.mem_range.mp hi
    simp only [List.getD_eq_getElem?_getD, List.getElem?_eq_getElem hlt, Option.getD_some] at z
    exact ⟨bs[i], List.getElem_mem hlt, z⟩
  · rintro ⟨b, hb, z⟩
    obtain ⟨i, hi⟩ := List.mem_iff_getElem?.mp hb
    have hlt : i < bs.length := (List.getElem?_eq_some_iff.mp hi).1
    exact ⟨i, List.mem_range.mpr hlt, by simp only [List.getD_eq_getElem?_getD, hi, Option.getD_some]; exact z⟩
theorem call_any (hc : X.calm = true) : CallR X (.builtin "any") (fun xs H Q => ∃ (p : Addr) (bs : List Bool), xs = [.ref p] ∧ SqL X.K H p (bs.map V.bl) ∧ Q (.bl (bs.any id)) H) := by
  intro pins s σ H xs us Q I r h
  obtain ⟨p, bs, rfl, hl, q⟩ := h
  obtain ⟨u, rfl, ru⟩ := vals1 r
  cases ru
  obtain ⟨its, rv, pl, hz⟩ := I.list hl
  have ei := bools_of rv
  subst ei
  refine call_any_walk (wpAny_pyIter_list pl.isList ?_)
  have hlt : p < s.heap.objs.size := by obtain ⟨_, e, _⟩ := pl.isList; exact Heap.lt_size e
  have hh : X.A.in1.handled = none := I.ok.hd hc
  refine ⟨_, _, _, _, _, _, fun i => bs.getD i true, rfl, Walks.list hh s.heap.objs.size p (Nat.ne_of_lt hlt) (bs.map Value.bool).toArray, ⟨⟨_, Heap.get?_push_size _ rfl, rfl, rfl⟩, pl.isList.push _⟩, ?_, fun h' tk k => ?_⟩
  · intro i v s' Q' E' hv hq
    have hv' : (bs.map Value.bool)[i]? = some v := by rw [← List.getElem?_toArray]; exact hv
    rw [List.getElem?_map] at hv'
    cases hb : bs[i]? with
    | none => rw [hb] at hv'; cases hv'
    | some b =>
    rw [hb] at hv'
    cases hv'
    refine wpAny_truthy_bool ?_
    have e : bs.getD i true = b := by simp [List.getD_eq_getElem?_getD, hb]
    have hq' : Q' (bs.getD i true) s' := hq
    rw [e] at hq'
    exact hq'
  · have e : (List.range (bs.map Value.bool).toArray.size).any (fun i => bs.getD i true) = bs.any id := by
      rw [List.size_toArray, List.length_map]; exact range_any bs
    rw [e]
    refine ⟨.bl _, H, I.kept (fun b o eo => k b o ?_ (Heap.get?_push_of_some _ eo)), rfl, q⟩
    intro hb
    have : b = s.heap.objs.size := by simpa using hb
    exact absurd (Heap.lt_size eo) (by rw [this]; exact Nat.lt_irrefl _)
/-! ### match, by texts -/
end
/-! ### a def that makes a lambda: the code of its frame is known -/
section
variable {P : Program} {w : World} {K : PySem.W.Frag} {mg : Str → Option Value} {base : Heap}
end
theorem cell_one {env : Env} {y : Str} {c : Addr} (h : env.cells.lookup y = some c) : cellOf env y = pure c := by unfold cellOf; rw [h]
theorem closure_many {env : Env} {y : Str} {c : Addr} (h : env.cells.lookup y = some c) (g : (Str × NameKind) → List (Str × Addr) → Sem (ForInStep (List (Str × Addr)))) (hg : ∀ x cs, g x cs = if (x.2 == NameKind.free) = true then cellOf env x.1 >>= fun c => pure (ForInStep.yield ((x.1, c) :: cs)) else pure (ForInStep.yield cs)) :
    ∀ (names : List (Str × NameKind)) (cs : List (Str × Addr)), (∀ z ∈ names, z.2 = .free → z.1 = y) → forIn names cs g = pure (List.replicate (names.filter fun x => x.2 == .free).length (y, c) ++ cs) := by
  intro names
  induction names with
  | nil => intro cs _; rfl
  | cons x r ih =>
    intro cs hy
    have hr := fun cs => ih cs fun z hz => hy z (List.mem_cons_of_mem _ hz)
    rw [List.forIn_cons, hg]
    by_cases hk : x.2 = .free
    · have e : (x.2 == NameKind.free) = true := by rw [hk]; rfl
      have ex := hy x List.mem_cons_self hk
      rw [if_pos e, ex, cell_one h, List.filter_cons_of_pos (by exact e), List.length_cons]
      simp only [pure_bind]
      rw [hr]
      congr 1
      rw [List.replicate_succ', List.append_assoc]
      rfl
    · have e : (x.2 == NameKind.free) = false := by simpa using hk
      rw [if_neg (by rw [e]; decide), List.filter_cons_of_neg (by rw [e]; decide)]
      simp only [pure_bind]
      exact hr cs
theorem closure_one {scope : Scope} {env : Env} {y : Str} {c : Addr} (h : env.cells.lookup y = some c) (h1 : ∀ z ∈ scope.names, z.2 = .free → z.1 = y) (h2 : (scope.names.filter fun x => x.2 == .free).length = 1) : closureFor scope env = pure [(y, c)] := by
  have e := closure_many h _ (fun x cs => rfl) scope.names [] h1
  rw [h2] at e
  unfold closureFor
  simp only [bind_pure]
  refine Eq.trans ?_ e
  congr 1
/-- all is as it was but for the table -/
def SameX (Pt : Addr) (H H' : Hp) : Prop := ∀ b o, b ≠ Pt → H b = some o → H' b = some o
theorem SameX.trans {Pt : Addr} {H H1 H2 : Hp} (a : SameX Pt H H1) (b : SameX Pt H1 H2) : SameX Pt H H2 := fun c o n h => b c o n (a c o n h)
theorem SameX.then {Pt : Addr} {H H1 H2 : Hp} (a : SameX Pt H H1) (b : Same H1 H2) : SameX Pt H H2 := fun c o n h => b c o (a c o n h)
theorem TabI.same {Pt : Addr} {q : Str} {pos : Pos} {H H' : Hp} (h : TabI H Pt q pos) (g : Same H H') : TabI H' Pt q pos := by
  rcases h with h | ⟨c, h1, h2⟩
  · exact .inl (g _ _ h)
  · exact .inr ⟨c, g _ _ h1, g _ _ h2⟩
theorem TabHit.same {Pt c : Addr} {q : Str} {pos : Pos} {H H' : Hp} (h : TabHit H Pt c q pos) (g : Same H H') : TabHit H' Pt c q pos := ⟨g _ _ h.1, g _ _ h.2⟩
theorem TabI.some {Pt : Addr} {q : Str} {pos : Pos} {H : Hp} (h : TabI H Pt q pos) : ∃ ps, H Pt = Option.some (.tbl ps) := by
  rcases h with h | ⟨c, h1, h2⟩
  · exact ⟨_, h⟩
  · exact ⟨_, h1⟩
end L2

set_option Elab.async false
set_option linter.all false
set_option maxRecDepth 100000
set_option maxHeartbeats 4000000
namespace L2
open PySem PySem.Spec PyProof.Rows PySem.W
/-! ### more in a box -/
section
variable {X : Cx} {e o : Expr} {es : List Expr} {te to : TE} {t : TA} {pos apos cpos : Pos} {name : Str} {T id : String} {r : V → List V → Hp → VK → Prop}
theorem bpa_nil : Box (PA X [] tNil) := ⟨pa_nil⟩
theorem bpa_cons (ha : Box (PE X e te)) (hr : Box (PA X es t)) (hs : starEach (e :: es) X.env = (false, eval e X.env) :: starEach es X.env) : Box (PA X (e :: es) (tCons te t)) := ⟨pa_cons ha.un hr.un hs⟩
theorem be_tup {x1} (h : Box (PA X es t)) : Box (PE X (.Tuple es x1 pos) (tTup t)) := ⟨pe_tup h.un⟩
theorem be_lst (h : Box (PA X es t)) : Box (PE X (.List es pos) (tLst t)) := ⟨pe_lst h.un⟩
theorem bs_set {i : Nat} {x : Str} {pos' : Pos} (hN : X.N.Nodup) (hi : X.N[i]? = some x) (hx : Loc X.env.scope x) (he : Box (PE X e te)) (hs : swapsWith e (some (.Name x pos')) pos.line X.env = pure false) (hf : X.fn x = true ∨ X.env.scope.names.lookup x = some .local) :
    Box (PS X (.Assign [.Name x pos'] e pos) (tAsg te (gName i))) := ⟨ps_set hN hi hx he.un hs hf⟩
end
/-! ### x, y = (e, e') -/
section
variable {X : Cx} {e : Expr} {te : TE} {pos tpos px py : Pos} {x y : Str} {i j k : Nat}
end
end L2

set_option Elab.async false
set_option linter.all false
set_option maxRecDepth 100000
set_option maxHeartbeats 4000000
namespace L2
open PySem PySem.Spec PyProof.Rows PySem.W
/-! ### repr of a dict of flat things -/
def reprV : V → Str
  | .non => "None"
  | .bl b => if b then "True" else "False"
  | .int i => toString i
  | .str x => reprText x
  | _ => ""
def fitsV : V → Prop
  | .non => True
  | .bl _ => True
  | .int i => i.natAbs.log2 < 1920 ∧ (Str.ofString (toString i)).length ≤ 1000
  | .str x => (reprText x).length ≤ 1000
  | _ => False
theorem reprIs_V {P : Program} {w : World} {v : V} {u : Value} (r : RelV v u) (h : fitsV v) : ReprIs P w u (reprV v) := by
  cases v with
  | non => cases r; exact ReprIs.none
  | bl b => cases r; exact ReprIs.bool b
  | int i => obtain ⟨t, rfl⟩ := r; exact ReprIs.int t h.1
  | str x => obtain ⟨t, rfl⟩ := r; exact ReprIs.str x t (by have : (reprText x).length ≤ 1000 := h; rw [sizeLine_eq]; omega)
  | byt b => cases h
  | flt b => cases h
  | ref b => cases h
  | ty b => cases h
theorem reprV_len {v : V} (h : fitsV v) : (reprV v).length ≤ 1000 := by
  cases v with
  | non => show ("None" : Str).length ≤ 1000; decide +kernel
  | bl b => cases b <;> (show (_ : Str).length ≤ 1000; decide +kernel)
  | int i => exact h.2
  | str x => exact h
  | byt b => cases h
  | flt b => cases h
  | ref b => cases h
  | ty b => cases h
def entR (kv : Key × V) : Str := reprV (kV kv.1) ++ ": " ++ reprV kv.2
def dictR (kvs : List (Key × V)) : Str := dictText (kvs.map entR)
theorem len_cat (x y : Str) : (x ++ y).length = x.length + y.length := Array.size_append
theorem ent_len {kv : Key × V} (h1 : fitsV (kV kv.1)) (h2 : fitsV kv.2) : (entR kv).length ≤ 2002 := by
  have l : (": " : Str).length = 2 := by decide +kernel
  unfold entR
  rw [len_cat, len_cat, l]
  have := reprV_len h1
  have := reprV_len h2
  omega
theorem piled_len : ∀ (ts : List Str), (∀ t ∈ ts, t.length ≤ 2002) → piled ts ≤ 2004 * ts.length
  | [], _ => Nat.le_refl _
  | t :: ts, h => by
    rw [piled_cons, List.length_cons]
    have := piled_len ts fun x hx => h x (List.mem_cons_of_mem _ hx)
    have := h t List.mem_cons_self
    omega
theorem dict_len {kvs : List (Key × V)} (hn : kvs.length ≤ 1000) (hf : ∀ kv ∈ kvs, fitsV (kV kv.1) ∧ fitsV kv.2) : (dictR kvs).length ≤ sizeLine := by
  have l1 : ("{" : Str).length = 1 := by decide +kernel
  have l2 : ("}" : Str).length = 1 := by decide +kernel
  unfold dictR dictText
  rw [len_cat, len_cat, l1, l2]
  have hj : (Str.join ", " (kvs.map entR)).length ≤ 2004 * 1000 := by
    by_cases he : kvs.map entR = []
    · rw [he]; show (Str.join ", " []).length ≤ _; exact Nat.zero_le _
    · have := join_length_add (kvs.map entR) he
      have hp := piled_len (kvs.map entR) fun t ht => by
        obtain ⟨kv, hkv, rfl⟩ := List.mem_map.mp ht
        exact ent_len (hf kv hkv).1 (hf kv hkv).2
      rw [List.length_map] at hp
      omega
  rw [sizeLine_eq]
  omega
theorem key_rel {k : Key} {v : Value} (h : keyIs k v = true) : RelV (kV k) v := by
  rcases keyIs_shape h with ⟨i, t, rfl, rfl⟩ | ⟨x, t, rfl, rfl⟩
  · exact ⟨t, rfl⟩
  · exact ⟨t, rfl⟩
theorem entries_R {P : Program} {w : World} {h₀ : Heap} {es : List DictEntry} {vs : List (Key × Value)} (p : Pairs (mixKind P w) es vs) : ∀ {kvs : List (Key × V)}, KV kvs vs → (∀ kv ∈ kvs, fitsV (kV kv.1) ∧ fitsV kv.2) → ReprEntriesK P w [] h₀ 0 es (kvs.map entR) := by
  induction p with
  | nil => intro kvs r _; cases r; exact .nil
  | @cons e kv es vs h1 h2 _ ih =>
    intro kvs r hf
    cases r with
    | @cons p' _ kvs' _ r1 rr =>
      obtain ⟨e1, r2⟩ := r1
      have hk : RelV (kV p'.1) e.key := by rw [e1]; exact key_rel h1
      have hv : RelV p'.2 e.val := by rw [h2]; exact r2
      obtain ⟨f1, f2⟩ := hf p' List.mem_cons_self
      exact .cons (.of_is (reprIs_V hk f1) _ _ _) (.of_is (reprIs_V hv f2) _ _ _) (ih rr fun kv hkv => hf kv (List.mem_cons_of_mem _ hkv))
section
variable {X : Cx}
theorem call_reprD (hg : X.A.guards = some []) (hu : X.A.units + 64 < cLine) : CallR X (.builtin "repr") (fun xs H Q => ∃ a kvs, xs = [.ref a] ∧ H a = some (.dK kvs) ∧ kvs.length ≤ 1000 ∧ (∀ kv ∈ kvs, fitsV (kV kv.1) ∧ fitsV kv.2) ∧ Q (.str (dictR kvs)) H) := by
  intro pins s σ H xs us Q I r h
  obtain ⟨a, kvs, rfl, ha, hn, hf, q⟩ := h
  obtain ⟨u, rfl, ru⟩ := vals1 r
  cases ru
  obtain ⟨z, hsys, vs, kv, o, es, ep, ho, hex, hd, hko, hp, hnd⟩ := dk_of I.hok ha
  have hc : o.cls = .type "dict" := hex.1
  refine call_repr_slot (by omega) ⟨o, ho, hc⟩ PySem.F.slot_dict_repr (call_dict_reprK (h₀ := s.heap) (as := []) (d := 0) ho hc hd hsys (by simp) (entries_R hp kv hf) (show X.A.in1.guards = some [] from hg) (fun b _ => Clear.nil b) (by show X.A.units + 1 + (0 + 1) < cLine; omega) (fun _ _ e => e) (fun h' u tk hk => ⟨_, _, rfl, .str (dictR kvs), H, I.kept (t' := tk) hk, ⟨_, rfl⟩, q⟩) (dict_len hn hf))
/-! ### the place of a text in a text -/
end
end L2

set_option Elab.async false
set_option linter.all false
set_option maxRecDepth 100000
set_option maxHeartbeats 4000000
namespace L2
open PySem PySem.Spec PyProof.Rows PySem.W PySem.Builtin PySem.Builtin.ObjectAttr
/-! ### exceptions of a class with no __init__ of its own -/
section
variable {prog : Program} {w : World} {K : PySem.W.Frag} {A : Around} {E : Value → Shared → Prop} {s : Shared} {C : Addr}
/-- C(..): the exception at the heap's size and one -/
theorem make_exc0 {Q : Value → Shared → Prop} {nm q : Str} {N : Addr} {bs bm : List Value} {hdct : Bool} {sn : List Str} {sub : List Value} {ab : Bool} {col : Option Bool} {dd : Option Addr} {k0 k1 k2 k3 k5 : Option Value} {rest : List Value}
    (KI : K.In s.heap) (hC : K.lookup C = some (excClassObj nm q C N bs bm hdct sn sub ab col dd k0 k1 k2 k3 k5 "ValueError.__new__"))
    (tl : tailIn K [.type "ValueError", .type "Exception", .type "BaseException", .type "object"] bm = true) (hi : findIn K (.ref C) "__init__" = some (some (.builtin "ValueError.__init__"))) (hrest : rest.length ≤ sizeLine)
    (h : ∀ h', (∀ b o, s.heap.get? b = some o → h'.get? b = some o) → (∃ t, h'.get? (s.heap.objs.size + 1) = some ⟨.ref C, none, .fields #[.ref t, .none, .none, .none, .bool false, .none], #[]⟩) → Q (.ref (s.heap.objs.size + 1)) { s with heap := h' }) :
    wpAny (model prog w) A (call (.ref C) rest) Q E s := by
  obtain ⟨hp, g, d, t, os⟩ := s
  have hC0 : hp.get? C = some (excClassObj nm q C N bs bm hdct sn sub ab col dd k0 k1 k2 k3 k5 "ValueError.__new__") := KI _ _ hC
  have TL : OwnTail hp [.type "ValueError", .type "Exception", .type "BaseException", .type "object"] bm := tail_of_in KI tl
  have FV := PySem.F.excBase_ValueError
  have f1 := tc_lookup
  have f2 := tc_bind (.ref C)
  have hT : (⟨hp, g, d, t, os⟩ : Shared).TypeIs (.ref C) "type" := ⟨_, hC0, rfl⟩
  refine wpAny_call (codeAny_of_tree ?_); show wpAny _ _ (callAny (.ref C) _) _ _ _
  repeat (any_goals (first | assumption | with_reducible refine wpAny_loadPart_at hC0 ?_ | wp_step))
  refine ⟨rfl, codeAny_call_builtin_at (Code.quiet_builtin _ (by decide +kernel)) entry_typeCall (wpAny_check_type_call_sub hC0 ?_)⟩
  repeat (first | with_reducible refine wpAny_loadPart_at hC0 ?_ | with_reducible refine wpAny_madeBy_exc hC0 ?_ | wp_step)
  refine codeAny_call_builtin_code (Code.quiet_builtin _ FV.quiet) (wpAny_check_new_subU FV (by decide +kernel) TL hC0 ?_)
  refine codeAny_exc_new_subU FV (by decide +kernel) FV TL hC0 ?_ hrest
  dsimp only at h
  show wpAny (model prog w) _ _ _ _ ⟨(hp.push { cls := .type "tuple", data := .seq rest.toArray }).push { cls := .ref C, data := .fields #[.ref hp.objs.size, .none, .none, .none, .bool false, .none] }, g, d, t, os⟩
  have hlt : ∀ b o, hp.get? b = some o → hp.objs.size + 1 ≠ b := fun b o z => Nat.ne_of_gt (Nat.lt_succ_of_lt (Heap.lt_size z))
  generalize hH1 : (hp.push { cls := .type "tuple", data := .seq rest.toArray }).push { cls := .ref C, data := .fields #[.ref hp.objs.size, .none, .none, .none, .bool false, .none] } = h1
  have up : ∀ b o, hp.get? b = some o → h1.get? b = some o := fun b o z => by rw [← hH1]; exact Heap.get?_push_of_some _ (Heap.get?_push_of_some _ z)
  have hC1 := up _ _ hC0
  have K1 : K.In h1 := KI.keeps up
  have T1 := TL.keeps (h' := h1) up
  have hget : h1.get? (hp.objs.size + 1) = some { cls := .ref C, data := .fields #[.ref hp.objs.size, .none, .none, .none, .bool false, .none] } := by rw [← hH1]; heap_get
  have hself : (Value.ref C :: bm).contains (.ref C) = true := by simp
  unfold isInstance
  repeat (first | with_reducible refine wpAny_loadPart_at hget ?_ | (with_reducible refine wpAny_isSubtype_exc hC1 ?_; rw [hself]) | wp_step)
  refine Looks.here (s := ⟨h1, g, d, t, os⟩) (looks_findIn K1 hi) ?_
  refine wpAny_holding (wpAny_bind (wpAny_of_eq (FV.init.bind _) ?_))
  refine wpAny_bind (wpAny_call (codeAny_call_builtin FV.init.plain FV.initEntry (wpAny_check_init_subU FV T1 hC1 hget rfl ?_)))
  wp_walk
  refine h _ (fun b o hb => ?_) ⟨h1.objs.size, ?_⟩
  · rw [Heap.get?_update_other _ _ (hlt b o hb)]
    exact Heap.get?_push_of_some _ (up b o hb)
  · rw [Heap.get?_update_self _ (Heap.get?_push_of_some _ hget) rfl]
    rfl
end
/-- an exception class of the text with no __init__ of its own -/
structure XMk0 (K : PySem.W.Frag) (C : Addr) : Prop where
  obj : ∃ (nm q : Str) (N : Addr) (bs bm : List Value) (hdct : Bool) (sn : List Str) (sub : List Value) (ab : Bool) (col : Option Bool) (dd : Option Addr) (k0 k1 k2 k3 k5 : Option Value),
    K.lookup C = some (excClassObj nm q C N bs bm hdct sn sub ab col dd k0 k1 k2 k3 k5 "ValueError.__new__") ∧ tailIn K vErr bm = true ∧ bm.contains (.type "BaseException") = true
  init : findIn K (.ref C) "__init__" = some (some (.builtin "ValueError.__init__"))
  kp : keepIn K (.ref C) = true
def tRaise0 (C : Addr) (E : XK) : TS := fun _ _ H => E (.ref C) none H
section
variable {P : Program} {w : World} {K : PySem.W.Frag} {mg : Str → Option Value} {base : Heap} {N : List Str} {qual : Str} {scope : Scope} {fa : Addr} {cd0 : Value} {A : Around} {outer : List Env} {s0 : Shared} {H0 : Hp} {E : XK}
  {C : Addr} {k : Nat} {x : Str} {p cpos pos : Pos}
theorem ps_raise0 (M : XMk0 K C)
    (hr : Room k (A.deeper (envOfC qual scope s0.heap.objs.size fa cd0)))
    (hg : Gl (cxOf (CX1 P w) P w K mg base N qual scope fa cd0 A outer s0 H0 E) x) (hm : mg x = some (.ref C)) (hdb : (x == ("__debug__" : Str)) = false := by decide) :
    PS (cxOf (CX1 P w) P w K mg base N qual scope fa cd0 A outer s0 H0 E) (.Raise (some (.Call (.Name x p) [] [] cpos)) none pos) (tRaise0 C E) := by
  intro pins s σ H D I h
  obtain ⟨nm, q, N', bs, bm, hdct, sn, sub, ab, col, dd, k0, k1, k2, k3, k5, hC, tl, hB⟩ := M.obj
  rw [arm_exec_Raise]
  refine wpAny_bind (wpAny_standAt (raise_x (K := K) (C := C) (nm := nm) (q := q) (N := N') (bs := bs) (bm := bm) (hdct := hdct) (sn := sn) (sub := sub) (ab := ab) (col := col) (dd := dd) (k0 := k0) (k1 := k1) (k2 := k2) (k3 := k3) (k5 := k5) (newId := "ValueError.__new__") hB hr.hd ?_))
  refine wpAny_bind (thn (Q := fun v s1 => ∃ e H', v = .ref e ∧ Inv (cxOf (CX1 P w) P w K mg base N qual scope fa cd0 A outer s0 H0 E) pins σ H' s1 ∧ ∃ t, H' e = some (XO C t none e) ∧ s0.heap.objs.size ≤ e ∧ E (.ref C) none (rm H' e)) ?_ fun v s1 h1 => ?_)
  · refine wpAny_Call_Name_kw (ld_glob I hg hm ?_ hdb)
    refine PySem.W.callWith_K0 I.kIn M.kp ?_
    refine make_exc0 I.kIn hC tl M.init (Nat.zero_le _) fun h' st hx => ?_
    obtain ⟨t, ht⟩ := hx
    have hn : H (s.heap.objs.size + 1) = none := I.hok.fresh (Nat.le_succ _)
    refine ⟨_, _, rfl, I.laid (a := s.heap.objs.size + 1) (t' := s.toks) st (Nat.le_succ _) (XO_ok ht), t, upd_same, Nat.le_trans I.sz (Nat.le_succ _), ?_⟩
    have eq : rm (upd H (s.heap.objs.size + 1) (XO C t none (s.heap.objs.size + 1))) (s.heap.objs.size + 1) = H := by
      funext b
      by_cases hb : b = s.heap.objs.size + 1
      · subst hb; rw [rm_self, hn]
      · rw [rm_ne hb, upd_ne hb]
    rw [eq]; exact h
  · obtain ⟨e, H', rfl, I1, t, he', hn, q1⟩ := h1
    obtain ⟨hφ, _, _⟩ : (s1.heap.get? e = some ⟨.ref C, none, .fields #[.ref t, .none, .none, .none, .bool false, .none], #[]⟩) ∧ _ ∧ _ := I1.hok e _ he'
    exact wpAny_bind (wpAny_standAt (wpAny_pure ⟨e, t, none, rfl, I1.kIn _ _ hC, hφ, xe_raise I1 he' hn q1⟩))
end
/-! ### try .. except L as e, for exceptions with a dict or with none -/
/-- an exception that was caught: its class, its dict (if it has one) -/
def XCo (C : Addr) (dx : Option Addr) (e : Addr) : HO := .ext fun h => ∃ vs, h.get? e = some ⟨.ref C, dx, .fields vs, #[]⟩
theorem XCo_ok {P : Program} {w : World} {H : Hp} {h : Heap} {C e : Addr} {dx : Option Addr} {vs : Array Value} (he : h.get? e = some ⟨.ref C, dx, .fields vs, #[]⟩) : ObjOk P w H h e (XCo C dx e) :=
  ⟨⟨vs, he⟩, ⟨_, he⟩, fun h1 h2 q k => let ⟨vs, q⟩ := q; ⟨vs, k _ q⟩⟩
section
variable {X : Cx} {pins : List (Addr × Obj)} {σ : St} {H H' : Hp} {s s1 : Shared} {B h' : Heap} {ea C t : Addr} {dx : Option Addr} {fl : Value}
theorem inv_catchO (I : Inv X pins σ H s) (x : XUn X.stack H H' s.heap B s1.heap) (ho : s1.os = s.os) (hg : AllBare s1.gens) (F : Fl B X.stack ea (.ref C) dx (.ref t) (some fl) h') (F1 : s1.heap.FunFrames B X.stack) (u : s1.heap.UpToSlots h') (hok : HOk X.prog X.w H' B) (hea : s.heap.objs.size ≤ ea) (hn : H' ea = none) :
    Inv X pins σ H' { s1 with heap := h' } ∧ Inv X pins σ (upd H' ea (XCo C dx ea)) { s1 with heap := h' } := by
  have fro : ∀ b, b ∈ frs X.stack → ∀ o, s1.heap.get? b = some o → ∀ vs, o.data ≠ .fields vs := fun b hb o q vs hd => by
    obtain ⟨_, o', ho', hn'⟩ := F1.mem hb
    rw [q] at ho'; cases ho'; exact hn' vs hd
  have x' : XUn X.stack H H' s.heap B h' := by
    refine ⟨x.keep, fun b o q n hb => ?_, x.free, x.there, fun b o q hb => ?_, x.tups, x.frzs, x.tbls⟩
    · obtain ⟨sl, z⟩ := x.slot b o q n hb
      obtain ⟨sl2, z2⟩ := u b _ z (fro b hb _ z)
      exact ⟨sl2, z2⟩
    · obtain ⟨o', z⟩ := x.fthere b o q hb
      obtain ⟨sl2, z2⟩ := u b _ z (fro b hb _ z)
      exact ⟨_, z2⟩
  have un := x'.un F.stays
  have ne : ∀ b o, s.heap.get? b = some o → b ≠ ea := fun b o q => Nat.ne_of_lt (Nat.lt_of_lt_of_le (Heap.lt_size q) hea)
  have I1 : Inv X pins σ H' { s1 with heap := h' } := I.call' (s' := { s1 with heap := h' }) (ch := []) ho un (hok.kept F.stays) hg (fun _ z => nomatch z)
  refine ⟨I1, I.call' (s' := { s1 with heap := h' }) (ch := []) ho ⟨un.keep, un.slot, fun b o q n hx => ?_, un.there, fun b xs q => ?_, fun b o u q => ?_, fun b ps q => ?_⟩ (fun b o q => ?_) hg (fun _ z => nomatch z)⟩
  · rw [upd_ne (ne b o q)]; exact un.free b o q n hx
  · rw [upd_ne (ne_of_none (un.tups b xs q) hn)]; exact un.tups b xs q
  · rw [upd_ne (ne_of_none (un.frzs b o u q) hn)]; exact un.frzs b o u q
  · obtain ⟨m, z⟩ := un.tbls b ps q
    exact ⟨m, by rw [upd_ne (ne_of_none z hn)]; exact z⟩
  · by_cases hb : b = ea
    · subst hb
      rw [upd_same] at q
      cases q
      obtain ⟨vs, z, _⟩ := F.ex
      exact XCo_ok z
    · rw [upd_ne hb] at q
      exact (I1.hok b o q).stay (fun c v _ z => z) (fun c z => by rw [upd_ne (ne_of_none z hn)]; exact z) fun c xs z => by rw [upd_ne (ne_of_none z hn)]; exact z
end
def tTryO (K : PySem.W.Frag) (L : Addr) (j : Nat) (tb : XK → St → TS) (ts : Addr → TS) : TS := fun D σ H =>
  tb (fun c dx H' => ∃ C, c = .ref C ∧ mroIn K C (.ref L) = some true ∧ ∀ ea, H' ea = none →
    ts ea { nx := fun σ' H2 => D.nx (σ'.set j none) H2, rt := D.rt, bk := fun σ' H2 => D.bk (σ'.set j none) H2, ct := fun σ' H2 => D.ct (σ'.set j none) H2 } (σ.set j (some (.ref ea))) (upd H' ea (XCo C dx ea))) σ D σ H
section
variable {X : Cx} {x n : Str} {L : Addr} {j : Nat} {body suite : List Stmt} {b0 : Stmt} {p1 p2 p3 : Pos} {tb : XK → St → TS} {ts : Addr → TS}
theorem ps_tryO (hst : X.stack = X.env :: X.outer) (hfr : X.env.frame = some X.env.locals) (hg : Gl X x) (hm : X.mg x = some (.ref L)) (hL : XL X.K L) (hnd : X.N.Nodup) (hj : X.N[j]? = some n) (hk : X.env.kindOf n = some .local)
    (hb : ∀ pn XE E σ0, PassesAt (CX1 X.prog X.w) (X.tryc pn XE) E σ0 → PSs (X.tryc pn XE) body (tb E σ0)) (hs : ∀ e, PSs (X.hand e) (b0 :: suite) (ts e)) (hdb : (x == ("__debug__" : Str)) = false := by decide) :
    PS X (.Try body [.ExceptHandler (some (.Name x p1)) (some n) (b0 :: suite) p2] [] [] p3) (tTryO X.K L j tb ts) := by
  intro pins s σ H D I h
  refine wpAny_Try_except ?_
  have ps : PassesAt (CX1 X.prog X.w) (X.tryc (X.pn ++ pins) fun e s₁ => wpAny (model X.prog X.w) X.A (noteFrame e X.env) (fun _ s₂ => wpAny (model X.prog X.w) X.A (setFlight e none) (fun _ s₃ => wpAny (model X.prog X.w) X.A (handleBy e X.env [.ExceptHandler (some (.Name x p1)) (some n) (b0 :: suite) p2]) (SP X pins D) X.xe s₃) X.xe s₂) X.xe s₁) (fun c dx H' => ∃ C, c = .ref C ∧ mroIn X.K C (.ref L) = some true ∧ ∀ ea, H' ea = none →
    ts ea { nx := fun σ' H2 => D.nx (σ'.set j none) H2, rt := D.rt, bk := fun σ' H2 => D.bk (σ'.set j none) H2, ct := fun σ' H2 => D.ct (σ'.set j none) H2 } (σ.set j (some (.ref ea))) (upd H' ea (XCo C dx ea))) σ := by
    intro pins' H1 s1 e s2 I1 hx
    have I1' : Inv X pins σ H1 s1 := I1.of_tryc
    obtain ⟨ea, t, C, dx, H', B, rfl, ho, hgn, F, hok, xu, hn, hea, C', hC', hsub, q⟩ := hx
    cases hC'
    have F0 : Fl B X.stack ea (.ref C) dx (.ref t) (some .none) s2.heap := F
    have xu0 : XUn X.stack H1 H' s1.heap B s2.heap := xu
    have F' : Fl B (X.env :: X.outer) ea (.ref C) dx (.ref t) (some .none) s2.heap := hst ▸ F0
    have hA : X.A.frames = some (X.env :: X.outer) := hst ▸ I1'.ok.frames
    refine fl_note hA hfr F' (.inr rfl) fun h3 F3 u3 => fl_set (s := { s2 with heap := h3 }) F3 fun h4 F4 u4 => ?_
    have F4' : Fl B X.stack ea (.ref C) dx (.ref t) (some .none) h4 := by rw [hst]; exact F4
    have J := (inv_catchO (ea := ea) (t := t) I1' xu0 ho hgn F4' F0.frs (u3.trans u4) hok hea hn).1
    refine wpAny_handleBy_cons (codeAny_handlers_test (ld_glob (X := X.hand ea) J.hand hg hm ?_ hdb)) (fun q => nomatch q)
    obtain ⟨vs, hvs, _⟩ := F4'.ex
    refine match_exc (K := X.K) J.kIn hL hvs rfl hsub (codeAny_handlers_suite_as (fl_set (s := { s2 with heap := h4 }) F4' fun h5 F5 u5 => ?_))
    have J2 := (inv_catchO (ea := ea) (t := t) I1' xu0 ho hgn F5 F0.frs ((u3.trans u4).trans u5) hok hea hn).2
    refine store_ok (X := X.hand ea) (i := j) (v := .ref ea) J2.hand hnd hj (.inl hk) rfl (fun s6 J6 => ?_) (.inr hk)
    refine wpAny_mono (hs ea pins s6 _ _ _ J6 (q ea hn)) (fun f s7 hf => ?_) fun _ _ z => z.elim
    have hd : X.calm = true → X.A.handled = none := I1'.ok.hd
    match f, hf with
    | .ret u, ⟨v, σ', H'', J7, rv, qq⟩ => exact name_goes (J7.of_hand hd) hnd hj hk fun s8 J8 => ⟨v, _, H'', J8, rv, qq⟩
    | .next, ⟨σ', H'', J7, qq⟩ => exact name_goes (J7.of_hand hd) hnd hj hk fun s8 J8 => ⟨_, H'', J8, qq⟩
    | .brk, ⟨σ', H'', J7, qq⟩ => exact name_goes (J7.of_hand hd) hnd hj hk fun s8 J8 => ⟨_, H'', J8, qq⟩
    | .cont, ⟨σ', H'', J7, qq⟩ => exact name_goes (J7.of_hand hd) hnd hj hk fun s8 J8 => ⟨_, H'', J8, qq⟩
  refine wpAny_mono (hb _ _ _ σ ps [] s σ H D I.tryc h) (fun f s1 hf => ?_) fun _ _ z => z
  match f, hf with
  | .next, ⟨σ', H', J, q⟩ => exact wpAny_execs_nil ⟨σ', H', J.of_tryc, q⟩
  | .ret u, ⟨v, σ', H', J, rv, q⟩ => exact ⟨v, σ', H', J.of_tryc, rv, q⟩
  | .brk, ⟨σ', H', J, q⟩ => exact ⟨σ', H', J.of_tryc, q⟩
  | .cont, ⟨σ', H', J, q⟩ => exact ⟨σ', H', J.of_tryc, q⟩
end
section
variable {X : Cx}
theorem call_isXo : CallR X (.builtin "isinstance") (fun xs H Q => ∃ (a C : Addr) (d : Option Addr) (c : V) (cv : Value), xs = [.ref a, c] ∧ H a = some (XCo C d a) ∧ (∀ u, RelV c u → u = cv) ∧ kitOne X.K (.ref C) cv = some true ∧ Q (.bl true) H) := by
  intro pins s σ H xs us Q I r h
  obtain ⟨a, C, d, c, cv, rfl, ha, hc, e, q⟩ := h
  obtain ⟨u, w', rfl, ru, rw'⟩ := vals2 r
  obtain rfl := hc _ rw'
  obtain rfl : u = Value.ref a := ru
  obtain ⟨⟨vs, he⟩, _, _⟩ : (∃ vs, s.heap.get? a = some ⟨.ref C, d, .fields vs, #[]⟩) ∧ _ ∧ _ := I.hok a _ ha
  refine call_isinstance (S := fun _ R s => (X.K.In s.heap ∧ (∃ vs, s.heap.get? a = some ⟨.ref C, d, .fields vs, #[]⟩)) ∧ ∀ tk, R (.ok (.ret (.bool true))) { s with toks := tk })
    (fun prog w A R s hs => isinstance_outer (kit_yes (K := X.K) (t := .ref C) (H := fun h => ∃ vs, h.get? a = some ⟨.ref C, d, .fields vs, #[]⟩) (fun M h _ p => ?_) e 0 _ prog w A R s hs) (fun z => nomatch z)) ⟨⟨I.kIn, vs, he⟩, fun tk => ⟨.bl true, H, I.tok _, rfl, q⟩⟩
  obtain ⟨vs, p⟩ := p
  exact (Looks.ld p).andThen .now
end
section
variable {P : Program} {w : World} {K : PySem.W.Frag} {mg : Str → Option Value} {base : Heap} {N : List Str} {qual : Str} {scope : Scope} {f : Addr} {cv : Value} {cl : List (Str × Addr)} {A : Around} {outer : List Env} {s0 : Shared} {H0 : Hp} {E : XK}
/-- an exception passes a lambda's frame -/
theorem passL : Passes (CX1 P w) (cxL (CX1 P w) P w K mg base N qual scope f cv cl A outer s0 H0 E) E := by
  intro pins σ H s e s' I h
  obtain ⟨ea, t, C, dx, H', B, rfl, ho, hg, F, hok, x, hn, hea, q⟩ := h
  have hfr : (A.deeper (lamEnv qual scope s0.heap.objs.size f cv cl)).frames = some (lamEnv qual scope s0.heap.objs.size f cv cl :: outer) := I.ok.frames
  show wpAny (model P w) (A.deeper (lamEnv qual scope s0.heap.objs.size f cv cl)) (leaving (lamEnv qual scope s0.heap.objs.size f cv cl) (.ref ea)) _ _ s'
  refine fl_leave hfr rfl F (.inr rfl) fun h' F' u' => ?_
  have ab : ∀ b o, s0.heap.get? b = some o → b ≠ s0.heap.objs.size := fun b o q => Nat.ne_of_lt (Heap.lt_size q)
  have I0 : Un (frs outer) [] H0 H s0.heap s.heap := I.base
  have nst : ∀ b o, s0.heap.get? b = some o → b ∉ frs outer → b ∉ frs (lamEnv qual scope s0.heap.objs.size f cv cl :: outer) := fun b o q hb hm => by
    unfold frs at hm
    rw [List.filterMap_cons] at hm
    rcases List.mem_cons.mp hm with z | z
    · exact ab b o q z
    · exact hb z
  have sub : ∀ b, b ∈ frs outer → b ∈ frs (lamEnv qual scope s0.heap.objs.size f cv cl :: outer) := fun b hb => by
    unfold frs
    rw [List.filterMap_cons]
    exact List.mem_cons_of_mem _ hb
  have fro : ∀ b, b ∈ frs outer → ∀ o, s'.heap.get? b = some o → ∀ vs, o.data ≠ .fields vs := fun b hb o q vs hd => by
    obtain ⟨_, o', ho', hn'⟩ := F.frs.mem (sub b hb)
    rw [q] at ho'; cases ho'; exact hn' vs hd
  refine ⟨ea, t, C, dx, H', B, rfl, ho.trans I.os, hg, F', hok, ⟨fun b o q n hb => ?_, fun b o q n hb => ?_, fun b o q n => ?_, fun b o q hb => ?_, fun b o q hb => ?_, fun b xs q => x.tups b xs (I0.tups b xs q), fun b o u q => x.frzs b o u (I0.frzs b o u q), fun b ps q => ?_⟩, hn, Nat.le_trans (Nat.le_trans I.sz (Nat.le_refl _)) hea, q⟩
  · exact x.keep b o (I0.keep b o q n hb (by simp)) (I0.free b o q n (by simp)) (nst b o q hb)
  · obtain ⟨sl, z⟩ := I0.slot b o q n hb (by simp)
    obtain ⟨sl2, z2⟩ := x.slot b _ z (I0.free b o q n (by simp)) (sub b hb)
    obtain ⟨sl3, z3⟩ := u' b _ z2 (fro b hb _ z2)
    exact ⟨sl3, z3⟩
  · obtain ⟨o', z⟩ := I0.there b o q (by simp)
    exact x.free b o' z (I0.free b o q n (by simp))
  · obtain ⟨o', z⟩ := I0.there b o q (by simp)
    exact x.there b o' z (nst b o q hb)
  · obtain ⟨o', z⟩ := I0.there b o q (by simp)
    obtain ⟨o2, z2⟩ := x.fthere b o' z (sub b hb)
    obtain ⟨sl, z3⟩ := u' b _ z2 (fro b hb _ z2)
    exact ⟨_, z3⟩
  · obtain ⟨m1, e1⟩ := I0.tbls b ps q
    obtain ⟨m2, e2⟩ := x.tbls b _ e1
    exact ⟨m1 ++ m2, by rw [e2, Array.append_assoc]⟩
end
/-! ### an exception class of the text that tells nothing -/
structure XTx0 (K : PySem.W.Frag) (C L : Addr) : Prop where
  made : XMk0 K C
  sub : mroIn K C (.ref L) = some true
theorem kit_self {K : PySem.W.Frag} {C : Addr} : kitOne K (.ref C) (.ref C) = some true := by unfold kitOne; rw [if_pos (by simp)]
theorem xtx0_mk {K : PySem.W.Frag} {C L N N' : Addr} {nm q nm' q' : Str} {bs bs' : List Value} {hdct hdct' : Bool} {sn sn' : List Str} {sub sub' : List Value} {ab ab' : Bool} {col col' : Option Bool} {dd dd' : Option Addr} {k0 k1 k2 k3 k5 k0' k1' k2' k3' k5' : Option Value} {nid : String}
    {dN : Option Addr} {sN : Array (Option Value)} {oN : Value} {eN : Array DictEntry} {nN : Nat}
    (hC : K.lookup C = some (excClassObj nm q C N bs (.ref L :: vErr) hdct' sn sub ab col dd k0 k1 k2 k3 k5 "ValueError.__new__"))
    (hL : K.lookup L = some (excClassObj nm' q' L N' bs' vErr hdct sn' sub' ab' col' dd' k0' k1' k2' k3' k5' nid))
    (nl : K.lookup N' = some ⟨oN, dN, .dict eN nN, sN⟩) (ke : (eN.toList.all fun e => match e.key with | .str _ _ => true | _ => false) = true) (ni : nsIn K N' "__init__" = some none)
    (hi : findIn K (.ref C) "__init__" = some (some (.builtin "ValueError.__init__"))) (hkp : keepIn K (.ref C) = true) (hm : mroIn K C (.ref L) = some true) : XTx0 K C L ∧ XL K L :=
  ⟨⟨⟨⟨nm, q, N, bs, _, hdct', sn, sub, ab, col, dd, k0, k1, k2, k3, k5, hC, tail1 hL rfl nl ke ni, by rw [List.contains_cons, Bool.or_eq_true]; exact .inr (by decide)⟩, hi, hkp⟩, hm⟩,
    ⟨nm', q', N', bs', _, hdct, sn', sub', ab', col', dd', k0', k1', k2', k3', k5', nid, hL, by decide⟩⟩
section
variable {P : Program} {w : World} {K : PySem.W.Frag} {mg : Str → Option Value} {base : Heap}
/-- a def of the text that may let an exception go, its code told -/
theorem Fun.okC1 {x qual : Str} {st : Stmt} {f : Addr} {fd : FuncData} {N ps : List Str} {k : Nat} {sp : Sp} (F : Fun K x qual st f fd) (S : FnScope N ps (defScope st)) (len : ∀ vs H Q E, sp vs H Q E → vs.length = ps.length)
    (hbody : ∀ (cdv : Value) (A : Around) (outer : List Env) (s : Shared) (H : Hp) (vs : List V) (Q : VK) (E : XK), fd.code = cdv → Room k (A.deeper (envOfC qual (defScope st) s.heap.objs.size f cdv)) → sp vs H Q E →
      ∃ t, PSs (cxOf (CX1 P w) P w K mg base N qual (defScope st) f cdv A outer s H E) (defBody st) t ∧ t { nx := fun _ H' => Q .non H', rt := Q } (start N vs) H) : FnOk P w K mg base (CX1 P w) (k + 1) f fd ps sp := by
  obtain ⟨oc, od, kV, doc, pm, an, cdv, ct, osl, rfl, lk, hcd⟩ := F.ex
  exact fn_of lk hcd S len fun A outer s H vs Q E hr hsp => hbody cdv A outer s H vs Q E rfl hr hsp
end
end L2

set_option Elab.async false
set_option linter.all false
set_option maxRecDepth 100000
set_option maxHeartbeats 4000000
namespace L2
open PySem PySem.Spec PyProof.Rows PySem.W
section
variable {X : Cx}
theorem count_eqU {x : V} : ∀ {xs : List V} {us : List Value}, Vals xs us → xs.all flatV = true → us.countP (eqU x) = xs.countP fun y => eqV y x
  | _, _, .nil, _ => rfl
  | y :: xs, u :: us, .cons r t, f => by
    rw [List.all_cons, Bool.and_eq_true] at f
    rw [List.countP_cons, List.countP_cons, eqU_of r f.1, count_eqU t f.2]
/-- xs.count(y), of flat things -/
def rCountL : V → List V → Hp → VK → Prop := fun x vs H Q => ∃ l xs y, x = .ref l ∧ vs = [y] ∧ H l = some (.lst xs) ∧ flatV y = true ∧ xs.all flatV = true ∧ Q (.int ((xs.countP fun z => eqV z y : Nat) : Int)) H
theorem mt_countL : MtM X "list.count" rCountL := by
  intro pins s σ H x vs v us Q I rx rv h
  obtain ⟨l, xs, y, rfl, rfl, hH, fy, fs, q⟩ := h
  cases rx
  obtain ⟨u, rfl, ru⟩ := rv.one
  obtain ⟨z, its, n, r, hl, e⟩ := I.lstM hH
  refine call_meets F.slot_list_count ⟨_, e, rfl⟩ F.entry_list_count (F.args_list_count_2 _ _) (SeqAt.list_countAt l its.toArray n _ _ u (eqU y)) ⟨e, fun w hw => mem_eqAt ru fy r fs w (by simpa using hw), ?_⟩
  refine ⟨.int _, H, I.tok _, ⟨_, rfl⟩, ?_⟩
  rw [show its.toArray.toList = its from rfl, count_eqU r fs]
  exact q
/-- t + t', of tuples: one of the two where the other is empty -/
def rAddT (K : PySem.W.Frag) : R2 := fun x y H Q => ∃ p p' xs ys, x = .ref p ∧ y = .ref p' ∧ SqT K H p xs ∧ SqT K H p' ys ∧ xs.length + ys.length ≤ sizeLine ∧
  (xs = [] → Q (.ref p') H) ∧ (xs ≠ [] → ys = [] → Q (.ref p) H) ∧ (xs ≠ [] → ys ≠ [] → ∀ n, H n = none → Q (.ref n) (upd H n (.tup (xs ++ ys))))
theorem op_addT : OpR X (binaryOp .Add) (rAddT X.K) := by
  intro pins s σ H x y v u Q I rx ry h
  obtain ⟨p, p', xs, ys, rfl, rfl, hp, hp', hz, q0, q1, q2⟩ := h
  cases rx; cases ry
  obtain ⟨vs, r, ht, _⟩ := I.tuple hp
  obtain ⟨ws, r', hb, _⟩ := I.tuple hp'
  have l1 := r.length
  have l2 := r'.length
  obtain ⟨⟨cls, dd, data, sl⟩, ho, hc, n, hd⟩ := id ht
  obtain ⟨⟨cls2, dd2, data2, sl2⟩, ho2, hc2, n2, hd2⟩ := id hb
  simp only at hc hd hc2 hd2
  subst hc hd hc2 hd2
  by_cases hv : xs = []
  · have hv' : vs = [] := by subst hv; cases r; rfl
    exact concat_meets ⟨_, ho, rfl⟩ ⟨_, ho2, rfl⟩ noFill_tuple_add seq_tuple_add PySem.F.slot_tuple_add PySem.F.entry_tuple_add (PySem.F.args_tuple_add_2 _ _)
      (tuple_addW0 p p' vs.toArray ws.toArray n n2 dd dd2 sl sl2 (by simp [hv'])) ⟨ho, ho2, .ref p', H, I, rfl, q0 hv⟩
  · have hv' : vs ≠ [] := fun z => hv (by subst z; cases r; rfl)
    by_cases hw : ys = []
    · have hw' : ws = [] := by subst hw; cases r'; rfl
      exact concat_meets ⟨_, ho, rfl⟩ ⟨_, ho2, rfl⟩ noFill_tuple_add seq_tuple_add PySem.F.slot_tuple_add PySem.F.entry_tuple_add (PySem.F.args_tuple_add_2 _ _)
        (tuple_addW1 p p' vs.toArray ws.toArray n n2 dd dd2 sl sl2 (by simpa using hv') (by simp [hw'])) ⟨ho, ho2, .ref p, H, I, rfl, q1 hv hw⟩
    · have hw' : ws ≠ [] := fun z => hw (by subst z; cases r'; rfl)
      refine concat_meets ⟨_, ho, rfl⟩ ⟨_, ho2, rfl⟩ noFill_tuple_add seq_tuple_add PySem.F.slot_tuple_add PySem.F.entry_tuple_add (PySem.F.args_tuple_add_2 _ _)
        (tuple_addW2 p p' vs.toArray ws.toArray n n2 dd dd2 sl sl2 (by simpa using hv') (by simpa using hw') (by rw [List.size_toArray, List.size_toArray, ← l1, ← l2]; exact hz)) ⟨ho, ho2, ?_⟩
      have hf : H s.heap.objs.size = none := I.hok.fresh (Nat.le_refl _)
      refine ⟨.ref s.heap.objs.size, upd H s.heap.objs.size (.tup (xs ++ ys)), I.laid (t' := s.toks) (fun b u e => Heap.get?_push_of_some _ e) (Nat.le_refl _) ?_, rfl, q2 hv hw _ hf⟩
      exact ⟨by rw [List.length_append]; exact hz, vs ++ ws, r.append r', ⟨_, Heap.get?_push_size _ rfl, rfl, 0, by simp⟩⟩
end
end L2

set_option Elab.async false
set_option linter.all false
set_option maxRecDepth 100000
set_option maxHeartbeats 4000000
namespace L2
open PySem PySem.Spec PyProof.Rows PySem.W
/-! ### still more in a box -/
section
variable {X : Cx} {t u : TS} {pos : Pos}
theorem bss_nil : Box (PSs X [] tNext) := ⟨pss_nil⟩
theorem bs_if {c : Expr} {a b : List Stmt} {tc : TT} (hc : Box (PT X c tc)) (ha : Box (PSs X a t)) (hb : Box (PSs X b u)) : Box (PS X (.If c a b pos) (tIfS tc t u)) := ⟨ps_if hc.un ha.un hb.un⟩
theorem be_op {a b : Expr} {ta tb : TE} {op : Operator} {r : R2} (ho : OpR X (binaryOp op) r) (ha : Box (PE X a ta)) (hb : Box (PE X b tb)) : Box (PE X (.BinOp a op b pos) (tOp r ta tb)) := ⟨pe_op ho ha.un hb.un⟩
end
end L2

set_option Elab.async false
set_option linter.all false
set_option maxRecDepth 100000
set_option maxHeartbeats 4000000
namespace My
open PySem L2
def top (i : Nat) : Stmt := PySem.Challenge.pw_logdelve_k10_sorts_of_terms.main.body.getD i (.Pass ⟨0, 0, 0, 0⟩)
structure Adr where
  f_built_up : Addr
  d_built_up : FuncData
  f_parts_in : Addr
  d_parts_in : FuncData
  f_sort_of_term : Addr
  d_sort_of_term : FuncData
  f_part_sort : Addr
  d_part_sort : FuncData
  f_wanted_sort : Addr
  d_wanted_sort : FuncData
  f_begin : Addr
  d_begin : FuncData
  f_take : Addr
  d_take : FuncData
  f_of : Addr
  d_of : FuncData
  f_same : Addr
  d_same : FuncData
  f_letters : Addr
  d_letters : FuncData
  f_drawn_word : Addr
  d_drawn_word : FuncData
  f_number : Addr
  d_number : FuncData
  f_value : Addr
  d_value : FuncData
  f_kinds : Addr
  d_kinds : FuncData
  f_leaf : Addr
  d_leaf : FuncData
  f_term : Addr
  d_term : FuncData
  f_two_parts : Addr
  d_two_parts : FuncData
  f_sort : Addr
  d_sort : FuncData
  f_exchanged : Addr
  d_exchanged : FuncData
  f_law : Addr
  d_law : FuncData
  u_NUMBER : Value
  u_WORD : Value
  u_FLAG : Value
  a_LEAVES : Addr
  a_SORTS : Addr
  c_LogError : Addr
  c_BadTerm : Addr
  p_mk : Addr
  c_mk : Addr
structure Txt (K : PySem.W.Frag) (mg : Str → Option Value) (a : Adr) : Prop where
  F_built_up : Fun K "built_up" "built_up" (top 9) a.f_built_up a.d_built_up
  m_built_up : mg "built_up" = some (.ref a.f_built_up)
  b_built_up : Binds K a.d_built_up ["term", "told_of"] []
  F_parts_in : Fun K "parts_in" "parts_in" (top 10) a.f_parts_in a.d_parts_in
  m_parts_in : mg "parts_in" = some (.ref a.f_parts_in)
  b_parts_in : Binds K a.d_parts_in ["term"] []
  F_sort_of_term : Fun K "sort_of_term" "sort_of_term" (top 12) a.f_sort_of_term a.d_sort_of_term
  m_sort_of_term : mg "sort_of_term" = some (.ref a.f_sort_of_term)
  b_sort_of_term : Binds K a.d_sort_of_term ["term", "kinds"] []
  F_part_sort : Fun K "part_sort" "part_sort" (top 13) a.f_part_sort a.d_part_sort
  m_part_sort : mg "part_sort" = some (.ref a.f_part_sort)
  b_part_sort : Binds K a.d_part_sort ["part", "sorts", "kinds"] []
  F_wanted_sort : Fun K "wanted_sort" "wanted_sort" (top 14) a.f_wanted_sort a.d_wanted_sort
  m_wanted_sort : mg "wanted_sort" = some (.ref a.f_wanted_sort)
  b_wanted_sort : Binds K a.d_wanted_sort ["sign", "sorts"] []
  F_begin : Fun K "_law_begin" "_law_begin" (top 16) a.f_begin a.d_begin
  m_begin : mg "_law_begin" = some (.ref a.f_begin)
  b_begin : Binds K a.d_begin ["_law_script"] []
  F_take : Fun K "_law_take" "_law_take" (top 17) a.f_take a.d_take
  m_take : mg "_law_take" = some (.ref a.f_take)
  b_take : Binds K a.d_take ["_law_draw", "_law_many"] []
  F_of : Fun K "_law_of" "_law_of" (top 18) a.f_of a.d_of
  m_of : mg "_law_of" = some (.ref a.f_of)
  b_of : Binds K a.d_of ["_law_draw", "_law_some"] []
  F_same : Fun K "_law_same" "_law_same" (top 19) a.f_same a.d_same
  m_same : mg "_law_same" = some (.ref a.f_same)
  b_same : Binds K a.d_same ["_law_told", "_law_due"] []
  F_letters : Fun K "_law_letters" "_law_letters" (top 20) a.f_letters a.d_letters
  m_letters : mg "_law_letters" = some (.ref a.f_letters)
  b_letters : Binds K a.d_letters ["_law_draw", "_law_signs", "_law_most"] []
  F_drawn_word : Fun K "_law_drawn_word" "_law_drawn_word" (top 21) a.f_drawn_word a.d_drawn_word
  m_drawn_word : mg "_law_drawn_word" = some (.ref a.f_drawn_word)
  b_drawn_word : Binds K a.d_drawn_word ["_law_draw"] []
  F_number : Fun K "_law_number" "_law_number" (top 22) a.f_number a.d_number
  m_number : mg "_law_number" = some (.ref a.f_number)
  b_number : Binds K a.d_number ["_law_draw"] []
  F_value : Fun K "_law_value" "_law_value" (top 23) a.f_value a.d_value
  m_value : mg "_law_value" = some (.ref a.f_value)
  b_value : Binds K a.d_value ["_law_draw", "_law_sort_here"] []
  F_kinds : Fun K "_law_kinds" "_law_kinds" (top 24) a.f_kinds a.d_kinds
  m_kinds : mg "_law_kinds" = some (.ref a.f_kinds)
  b_kinds : Binds K a.d_kinds ["_law_draw"] []
  F_leaf : Fun K "_law_leaf" "_law_leaf" (top 25) a.f_leaf a.d_leaf
  m_leaf : mg "_law_leaf" = some (.ref a.f_leaf)
  b_leaf : Binds K a.d_leaf ["_law_draw", "_law_kinds_here", "_law_sort_here"] []
  F_term : Fun K "_law_term" "_law_term" (top 26) a.f_term a.d_term
  m_term : mg "_law_term" = some (.ref a.f_term)
  b_term : Binds K a.d_term ["_law_draw", "_law_kinds_here", "_law_sort_here", "_law_deep"] []
  F_two_parts : Fun K "_law_two_parts" "_law_two_parts" (top 27) a.f_two_parts a.d_two_parts
  m_two_parts : mg "_law_two_parts" = some (.ref a.f_two_parts)
  b_two_parts : Binds K a.d_two_parts ["_law_draw", "_law_kinds_here", "_law_sort_here", "_law_deep", "_law_sign"] []
  F_sort : Fun K "_law_sort" "_law_sort" (top 28) a.f_sort a.d_sort
  m_sort : mg "_law_sort" = some (.ref a.f_sort)
  b_sort : Binds K a.d_sort ["_law_term_here", "_law_kinds_here"] []
  F_exchanged : Fun K "_law_exchanged" "_law_exchanged" (top 29) a.f_exchanged a.d_exchanged
  m_exchanged : mg "_law_exchanged" = some (.ref a.f_exchanged)
  b_exchanged : Binds K a.d_exchanged ["_law_draw", "_law_term_here", "_law_kinds_here"] []
  F_law : Fun K "law" "law" (top 30) a.f_law a.d_law
  m_law : mg "law" = some (.ref a.f_law)
  b_law : Binds K a.d_law ["_law_script"] []
  g_NUMBER : mg "NUMBER" = some a.u_NUMBER ∧ RelV (.str "number") a.u_NUMBER
  g_WORD : mg "WORD" = some a.u_WORD ∧ RelV (.str "word") a.u_WORD
  g_FLAG : mg "FLAG" = some a.u_FLAG ∧ RelV (.str "flag") a.u_FLAG
  g_LEAVES : mg "LEAVES" = some (.ref a.a_LEAVES) ∧ RelV (.ref a.a_LEAVES) (.ref a.a_LEAVES)
  t_LEAVES : ∀ H, SqT K H a.a_LEAVES [(.str "number"), (.str "word"), (.str "flag"), (.str "field"), (.str "has")]
  g_SORTS : mg "SORTS" = some (.ref a.a_SORTS) ∧ RelV (.ref a.a_SORTS) (.ref a.a_SORTS)
  t_SORTS : ∀ H, SqT K H a.a_SORTS [(.str "number"), (.str "word"), (.str "flag")]
  n_len : mg "len" = none
  n_all : mg "all" = none
  n_any : mg "any" = none
  n_isinstance : mg "isinstance" = none
  n_bool : mg "bool" = none
  n_int : mg "int" = none
  n_str : mg "str" = none
  n_list : mg "list" = none
  n_dict : mg "dict" = none
  n_tuple : mg "tuple" = none
  n_range : mg "range" = none
  n_zip : mg "zip" = none
  n_sorted : mg "sorted" = none
  n_repr : mg "repr" = none
  e_mk : a.d_sort_of_term.code = .ref a.c_mk
  h_mk : PySem.W.codeHdIn K a.c_mk a.p_mk = true
  m_LogError : mg "LogError" = some (.ref a.c_LogError)
  x_LogError : XL K a.c_LogError
  m_BadTerm : mg "BadTerm" = some (.ref a.c_BadTerm)
  x_BadTerm : XTx0 K a.c_BadTerm a.c_LogError
theorem sc_built_up : FnScope ["term", "told_of", "told", "part", "many", "ahead", "made"] ["term", "told_of"] (defScope (top 9)) := ⟨rfl, rfl, rfl, by decide +kernel, rfl, by decide +kernel, by decide +kernel⟩
theorem sc_parts_in : FnScope ["term", "waiting", "parts", "part"] ["term"] (defScope (top 10)) := ⟨rfl, rfl, rfl, by decide +kernel, rfl, by decide +kernel, by decide +kernel⟩
theorem sc_sort_of_term : FnScope ["term", "kinds"] ["term", "kinds"] (defScope (top 12)) := ⟨rfl, rfl, rfl, by decide +kernel, rfl, by decide +kernel, by decide +kernel⟩
theorem sc_part_sort : FnScope ["part", "sorts", "kinds", "kind", "wanted"] ["part", "sorts", "kinds"] (defScope (top 13)) := ⟨rfl, rfl, rfl, by decide +kernel, rfl, by decide +kernel, by decide +kernel⟩
theorem sc_wanted_sort : FnScope ["sign", "sorts"] ["sign", "sorts"] (defScope (top 14)) := ⟨rfl, rfl, rfl, by decide +kernel, rfl, by decide +kernel, by decide +kernel⟩
theorem sc_begin : FnScope ["_law_script"] ["_law_script"] (defScope (top 16)) := ⟨rfl, rfl, rfl, by decide +kernel, rfl, by decide +kernel, by decide +kernel⟩
theorem sc_take : FnScope ["_law_draw", "_law_many", "_law_cell", "_law_digit", "_law_one"] ["_law_draw", "_law_many"] (defScope (top 17)) := ⟨rfl, rfl, rfl, by decide +kernel, rfl, by decide +kernel, by decide +kernel⟩
theorem sc_of : FnScope ["_law_draw", "_law_some"] ["_law_draw", "_law_some"] (defScope (top 18)) := ⟨rfl, rfl, rfl, by decide +kernel, rfl, by decide +kernel, by decide +kernel⟩
theorem sc_same : FnScope ["_law_told", "_law_due"] ["_law_told", "_law_due"] (defScope (top 19)) := ⟨rfl, rfl, rfl, by decide +kernel, rfl, by decide +kernel, by decide +kernel⟩
theorem sc_letters : FnScope ["_law_draw", "_law_signs", "_law_most"] ["_law_draw", "_law_signs", "_law_most"] (defScope (top 20)) := ⟨rfl, rfl, rfl, by decide +kernel, rfl, by decide +kernel, by decide +kernel⟩
theorem sc_drawn_word : FnScope ["_law_draw"] ["_law_draw"] (defScope (top 21)) := ⟨rfl, rfl, rfl, by decide +kernel, rfl, by decide +kernel, by decide +kernel⟩
theorem sc_number : FnScope ["_law_draw", "_law_fork"] ["_law_draw"] (defScope (top 22)) := ⟨rfl, rfl, rfl, by decide +kernel, rfl, by decide +kernel, by decide +kernel⟩
theorem sc_value : FnScope ["_law_draw", "_law_sort_here"] ["_law_draw", "_law_sort_here"] (defScope (top 23)) := ⟨rfl, rfl, rfl, by decide +kernel, rfl, by decide +kernel, by decide +kernel⟩
theorem sc_kinds : FnScope ["_law_draw", "_law_names", "_law_sorts"] ["_law_draw"] (defScope (top 24)) := ⟨rfl, rfl, rfl, by decide +kernel, rfl, by decide +kernel, by decide +kernel⟩
theorem sc_leaf : FnScope ["_law_draw", "_law_kinds_here", "_law_sort_here", "_law_names"] ["_law_draw", "_law_kinds_here", "_law_sort_here"] (defScope (top 25)) := ⟨rfl, rfl, rfl, by decide +kernel, rfl, by decide +kernel, by decide +kernel⟩
theorem sc_term : FnScope ["_law_draw", "_law_kinds_here", "_law_sort_here", "_law_deep", "_law_sign", "_law_fork", "_law_kind"] ["_law_draw", "_law_kinds_here", "_law_sort_here", "_law_deep"] (defScope (top 26)) := ⟨rfl, rfl, rfl, by decide +kernel, rfl, by decide +kernel, by decide +kernel⟩
theorem sc_two_parts : FnScope ["_law_draw", "_law_kinds_here", "_law_sort_here", "_law_deep", "_law_sign", "_law_left"] ["_law_draw", "_law_kinds_here", "_law_sort_here", "_law_deep", "_law_sign"] (defScope (top 27)) := ⟨rfl, rfl, rfl, by decide +kernel, rfl, by decide +kernel, by decide +kernel⟩
theorem sc_sort : FnScope ["_law_term_here", "_law_kinds_here", "_law_sort_here", "_law_sorts"] ["_law_term_here", "_law_kinds_here"] (defScope (top 28)) := ⟨rfl, rfl, rfl, by decide +kernel, rfl, by decide +kernel, by decide +kernel⟩
theorem sc_exchanged : FnScope ["_law_draw", "_law_term_here", "_law_kinds_here", "_law_some", "_law_at"] ["_law_draw", "_law_term_here", "_law_kinds_here"] (defScope (top 29)) := ⟨rfl, rfl, rfl, by decide +kernel, rfl, by decide +kernel, by decide +kernel⟩
theorem sc_law : FnScope ["_law_script", "_law_draw", "_law_kinds_here", "_law_turn", "_law_term_here", "_law_here", "_law_kept", "_law_due", "_law_told", "e"] ["_law_script"] (defScope (top 30)) := ⟨rfl, rfl, rfl, by decide +kernel, rfl, by decide +kernel, by decide +kernel⟩
/-! ### plain functions -/
theorem same_new {H : Hp} {p : Addr} (h : H p = none) (o : HO) : Same H (upd H p o) := fun b u q => by rw [upd_ne (ne_of_none q h)]; exact q
theorem small {n : Nat} (h : n ≤ 1000) : n ≤ sizeLine := Nat.le_of_lt (small1000 h)
def kw : List Str := ["and", "or", "not", "has", "yes", "no", "by", "up", "down", "count", "sum", "least", "most", "unlike", "all", "within"]
def kept (x : Str) : Bool := inV (.str x) (kw.map V.str)
def isLet (c : Nat) : Bool := decide (97 ≤ c) && decide (c ≤ 122)
def isFig (c : Nat) : Bool := decide (48 ≤ c) && decide (c ≤ 57)
def sz (x : Str) : Bool := decide (1 ≤ x.length) && decide (x.length ≤ 12)
def bwl (x : Str) : Bool := match x.cps.toList with
  | [] => false
  | c :: _ => isLet c
def wsg (c : Nat) : Bool := isLet c || isFig c
def wordB (x : Str) : Bool := sz x && (bwl x && x.cps.toList.all wsg)
end My

set_option Elab.async false
set_option linter.all false
set_option maxRecDepth 100000
set_option maxHeartbeats 4000000
namespace My
open PySem L2
/-! ### the draw -/
def Drw (H : Hp) (d : Addr) : Prop := ∃ (l : Addr) (ns : List Int) (p c s : Int), H d = some (.lst [.ref l, .int p, .int c, .int s]) ∧ H l = some (.lst (ns.map V.int)) ∧ 0 ≤ p ∧ 0 ≤ s ∧ s < 2305843009213693951
structure Ev (d : Addr) (H H' : Hp) : Prop where
  same : ∀ b o, b ≠ d → H b = some o → H' b = some o
  drw : Drw H' d
theorem Ev.trans {d : Addr} {H H1 H2 : Hp} (e1 : Ev d H H1) (e2 : Ev d H1 H2) : Ev d H H2 := ⟨fun b o hb e => e2.same b o hb (e1.same b o hb e), e2.drw⟩
theorem Ev.refl {d : Addr} {H : Hp} (h : Drw H d) : Ev d H H := ⟨fun _ _ _ e => e, h⟩
theorem Drw.keep {d : Addr} {H H' : Hp} (h : Drw H d) (g : Same H H') : Drw H' d := by
  obtain ⟨l, ns, p, c, s, h1, h2, r⟩ := h
  exact ⟨l, ns, p, c, s, g _ _ h1, g _ _ h2, r⟩
theorem Ev.of {d : Addr} {H H' : Hp} (h : Drw H d) (g : Same H H') : Ev d H H' := ⟨fun b o _ e => g b o e, h.keep g⟩
theorem Ev.then {d : Addr} {H H1 H2 : Hp} (e : Ev d H H1) (g : Same H1 H2) : Ev d H H2 := e.trans (Ev.of e.drw g)
theorem Drw.some {d : Addr} {H : Hp} (h : Drw H d) : ∃ xs, H d = some (.lst xs) := by obtain ⟨l, ns, p, c, s, h1, _⟩ := h; exact ⟨_, h1⟩
theorem Drw.ne_of_none {d b : Addr} {H : Hp} (h : Drw H d) (hb : H b = Option.none) : b ≠ d := fun z => by
  obtain ⟨xs, e⟩ := h.some
  rw [z, e] at hb; cases hb
/-- an item of a list at a written place -/
theorem ixd {K : PySem.W.Frag} {σ : St} {H : Hp} {Q : VK} {d : Addr} {xs : List V} {i : Nat} (k : Nat) {v : V} (hσ : σ[i]? = some (some (.ref d))) (hd : H d = some (.lst xs)) (hk : xs[k]? = some v) (q : Q v H) : tOp (rIxL K) (tVar i) (tC (.int (k : Nat))) σ H Q :=
  ⟨_, hσ, d, xs, _, v, rfl, rfl, SqL.of hd, atI_nat hk, q⟩
def spTake : Sp := fun vs H Q _ => ∃ (d : Addr) (m : Int), vs = [.ref d, .int m] ∧ Drw H d ∧ 1 ≤ m ∧ m < 2 ^ 200 ∧ ∀ r H', 0 ≤ r → r < m → Ev d H H' → Q (.int r) H'
section
variable {P : Program} {w : World} {K : PySem.W.Frag} {mg : Str → Option Value} {base : Heap} {a : Adr}
theorem ok_take (T : Txt K mg a) : FnOk P w K mg base CX0 1 a.f_take a.d_take ["_law_draw", "_law_many"] spTake := by
  refine T.F_take.ok sc_take (fun vs H Q E h => ?_) (fun cdv A outer s H vs Q E hr h => ?_)
  · obtain ⟨x, s, rfl, _⟩ := h; rfl
  obtain ⟨d, m, rfl, hD, hm1, hm2, q⟩ := h
  obtain ⟨l, ns, p, c, s0, hd, hl, hp, hs0, hs1⟩ := hD
  have hld : l ≠ d := fun z => by
    subst z
    rw [hd] at hl
    cases ns with
    | nil => cases hl
    | cons n ns => injection hl with hl; injection hl with hl; injection hl with h1 _; cases h1
  refine ⟨_, (pss_cons (ps_if (PW.pt (pw_and (pt_cmpR op_lt (pe_ix ix_list (pv 0) pe_int (fun _ _ => rfl)) (pv 1) (nomark _)) (pw_and1 (pt_cmpR op_lt (pe_ix ix_list (pv 0) pe_int (fun _ _ => rfl)) (pe_callB call_len rfl T.n_len PySem.boot_len (pa_cons (pe_ix ix_list (pv 0) pe_int (fun _ _ => rfl)) pa_nil)) (nomark _))))) (pss_cons (ps_set (i := 2) sc_take.nd rfl (by first | exact Or.inl rfl | exact Or.inr rfl) (pe_ix ix_seq (pe_ix ix_list (pv 0) pe_int (fun _ _ => rfl)) (pe_ix ix_list (pv 0) pe_int (fun _ _ => rfl)) (fun _ _ => rfl))) (pss_cons (ps_asg (pe_op op_add (pe_ix ix_list (pv 0) pe_int (fun _ _ => rfl)) pe_int) (pg_sub (pv 0) pe_int set_list)) (pss_cons (ps_asg pe_int (pg_sub (pv 0) pe_int set_list)) (pss_cons (ps_if (pt_cmpR op_ge (pv 2) (pe_op op_pow pe_int pe_int) (nomark _)) (pss_one (ps_asg (pv 2) (pg_sub (pv 0) pe_int set_list))) pss_nil) (pss_one (ps_asg (pe_op op_mod (pe_op op_add (pe_op op_add (pe_op op_mul (pe_ix ix_list (pv 0) pe_int (fun _ _ => rfl)) pe_int) (pe_op op_mul (pv 2) pe_int)) (pe_ix ix_list (pv 0) pe_int (fun _ _ => rfl))) pe_int) (pg_sub (pv 0) pe_int set_list))))))) pss_nil) (pss_cons (ps_if (pt_cmpR op_ge (pe_ix ix_list (pv 0) pe_int (fun _ _ => rfl)) (pv 1) (nomark _)) (pss_cons (ps_set (i := 3) sc_take.nd rfl (by first | exact Or.inl rfl | exact Or.inr rfl) (pe_op op_mod (pe_ix ix_list (pv 0) pe_int (fun _ _ => rfl)) (pv 1))) (pss_cons (ps_asg (pe_op op_fdivB (pe_ix ix_list (pv 0) pe_int (fun _ _ => rfl)) (pv 1)) (pg_sub (pv 0) pe_int set_list)) (pss_one (ps_ret (pv 3))))) pss_nil) (pss_cons (ps_set (i := 4) sc_take.nd rfl (by first | exact Or.inl rfl | exact Or.inr rfl) (pe_op op_mod (pe_op op_mul (pe_ix ix_list (pv 0) pe_int (fun _ _ => rfl)) (pe_ix ix_list (pv 0) pe_int (fun _ _ => rfl))) pe_int)) (pss_cons (ps_asg (pe_op op_mod (pe_op op_add (pe_op op_add (pe_op op_mul (pv 4) pe_int) (pe_op op_mul (pe_ix ix_list (pv 0) pe_int (fun _ _ => rfl)) pe_int)) pe_int) pe_int) (pg_sub (pv 0) pe_int set_list)) (pss_one (ps_ret (pe_op op_mod (pe_op op_fdivB (pe_ix ix_list (pv 0) pe_int (fun _ _ => rfl)) pe_int) (pv 1)))))))), ?_⟩
  refine ixd 2 rfl hd rfl ⟨_, rfl, _, _, rfl, rfl, _, rfl, ?_⟩
  refine ite2 (fun c1 => ?_) (fun c1 => ?_)
  · refine ixd 1 rfl hd rfl (ixd 0 rfl hd rfl ⟨_, _, rfl, .inl ⟨_, SqL.of hl, rfl⟩, _, _, rfl, rfl, _, rfl, ?_⟩)
    refine ite2 (fun c2 => ?_) (fun c2 => ?_)
    · have c2' : p < (ns.map V.int).length := of_decide_eq_true c2
      rw [List.length_map] at c2'
      obtain ⟨cell, hcell⟩ : ∃ v, ns[p.toNat]? = some v := ⟨ns[p.toNat]'(by omega), List.getElem?_eq_getElem _⟩
      have hat : atI (ns.map V.int) p = some (.int cell) := by
        have z : atI (ns.map V.int) ((p.toNat : Nat) : Int) = some (.int cell) := atI_nat (by rw [List.getElem?_map, hcell]; rfl)
        have e : ((p.toNat : Nat) : Int) = p := by omega
        rw [e] at z; exact z
      refine ixd 0 rfl hd rfl (ixd 1 rfl hd rfl (.inl ⟨l, _, _, _, rfl, rfl, SqL.of hl, hat, ?_⟩))
      refine ixd 1 rfl hd rfl ⟨_, _, rfl, rfl, _, rfl, d, _, _, 1, rfl, rfl, hd, rfl, ?_⟩
      refine ⟨_, rfl, d, _, _, 2, rfl, rfl, upd_same, rfl, ?_⟩
      refine ⟨_, rfl, _, _, rfl, rfl, ⟨by decide, by decide, by decide⟩, _, _, rfl, rfl, _, rfl, ?_⟩
      refine ite2 (fun c3 => ?_) (fun c3 => ?_)
      · refine ⟨_, rfl, _, rfl, d, _, _, 2, rfl, rfl, upd_same, rfl, ?_⟩
        refine ixd 3 rfl upd_same rfl ⟨_, _, rfl, rfl, .inr ⟨by decide, by decide⟩, _, rfl, _, _, rfl, rfl, .inr ⟨by decide, by decide⟩, _, _, rfl, rfl, ixd 1 rfl upd_same rfl ⟨_, _, rfl, rfl, _, _, rfl, rfl, (show (0 : Int) < 2305843009213693951 by decide), ?_⟩⟩
        refine ⟨_, rfl, d, _, _, 3, rfl, rfl, upd_same, rfl, ?_⟩
        refine ixd 2 rfl upd_same rfl ⟨_, rfl, _, _, rfl, rfl, _, rfl, ?_⟩
        refine ite2 (fun k1 => ?_) (fun k1 => ?_)
        · refine ixd 2 rfl upd_same rfl ⟨_, rfl, _, _, rfl, rfl, (show 0 < m by omega), ?_⟩
          refine ixd 2 rfl upd_same rfl ⟨_, rfl, _, _, rfl, rfl, (show CDivB _ m from ⟨by omega, hm2⟩), _, rfl, d, _, _, 2, rfl, rfl, upd_same, rfl, ?_⟩
          refine ⟨_, rfl, q _ _ (Int.emod_nonneg _ (by omega)) (Int.emod_lt_of_pos _ (by omega)) ⟨fun b o hb e => by simp only [upd_ne hb]; exact e, l, ns, _, _, _, upd_same, by simp only [upd_ne hld]; exact hl, by omega, by omega, by omega⟩⟩
        · refine ixd 3 rfl upd_same rfl (ixd 3 rfl upd_same rfl ⟨_, _, rfl, rfl, .inl ⟨by omega, by omega⟩, _, _, rfl, rfl, (show (0 : Int) < 2305843009213693951 by decide), ?_⟩)
          refine ⟨_, rfl, _, _, rfl, rfl, .inr ⟨by decide, by decide⟩, ixd 3 rfl upd_same rfl ⟨_, _, rfl, rfl, .inr ⟨by decide, by decide⟩, _, _, rfl, rfl, _, _, rfl, rfl, _, _, rfl, rfl, (show (0 : Int) < 2305843009213693951 by decide), ?_⟩⟩
          refine ⟨_, rfl, d, _, _, 3, rfl, rfl, upd_same, rfl, ?_⟩
          refine ixd 3 rfl upd_same rfl ⟨_, _, rfl, rfl, (show CDivB _ 1021 from ⟨by decide, by decide⟩), _, rfl, _, _, rfl, rfl, (show 0 < m by omega), ?_⟩
          exact q _ _ (Int.emod_nonneg _ (by omega)) (Int.emod_lt_of_pos _ (by omega)) ⟨fun b o hb e => by simp only [upd_ne hb]; exact e, l, ns, _, _, _, upd_same, by simp only [upd_ne hld]; exact hl, by omega, by omega, by omega⟩
      · refine ixd 3 rfl upd_same rfl ⟨_, _, rfl, rfl, .inr ⟨by decide, by decide⟩, _, rfl, _, _, rfl, rfl, .inr ⟨by decide, by decide⟩, _, _, rfl, rfl, ixd 1 rfl upd_same rfl ⟨_, _, rfl, rfl, _, _, rfl, rfl, (show (0 : Int) < 2305843009213693951 by decide), ?_⟩⟩
        refine ⟨_, rfl, d, _, _, 3, rfl, rfl, upd_same, rfl, ?_⟩
        refine ixd 2 rfl upd_same rfl ⟨_, rfl, _, _, rfl, rfl, _, rfl, ?_⟩
        refine ite2 (fun k1 => ?_) (fun k1 => ?_)
        · refine ixd 2 rfl upd_same rfl ⟨_, rfl, _, _, rfl, rfl, (show 0 < m by omega), ?_⟩
          refine ixd 2 rfl upd_same rfl ⟨_, rfl, _, _, rfl, rfl, (show CDivB _ m from ⟨by omega, hm2⟩), _, rfl, d, _, _, 2, rfl, rfl, upd_same, rfl, ?_⟩
          refine ⟨_, rfl, q _ _ (Int.emod_nonneg _ (by omega)) (Int.emod_lt_of_pos _ (by omega)) ⟨fun b o hb e => by simp only [upd_ne hb]; exact e, l, ns, _, _, _, upd_same, by simp only [upd_ne hld]; exact hl, by omega, by omega, by omega⟩⟩
        · refine ixd 3 rfl upd_same rfl (ixd 3 rfl upd_same rfl ⟨_, _, rfl, rfl, .inl ⟨by omega, by omega⟩, _, _, rfl, rfl, (show (0 : Int) < 2305843009213693951 by decide), ?_⟩)
          refine ⟨_, rfl, _, _, rfl, rfl, .inr ⟨by decide, by decide⟩, ixd 3 rfl upd_same rfl ⟨_, _, rfl, rfl, .inr ⟨by decide, by decide⟩, _, _, rfl, rfl, _, _, rfl, rfl, _, _, rfl, rfl, (show (0 : Int) < 2305843009213693951 by decide), ?_⟩⟩
          refine ⟨_, rfl, d, _, _, 3, rfl, rfl, upd_same, rfl, ?_⟩
          refine ixd 3 rfl upd_same rfl ⟨_, _, rfl, rfl, (show CDivB _ 1021 from ⟨by decide, by decide⟩), _, rfl, _, _, rfl, rfl, (show 0 < m by omega), ?_⟩
          exact q _ _ (Int.emod_nonneg _ (by omega)) (Int.emod_lt_of_pos _ (by omega)) ⟨fun b o hb e => by simp only [upd_ne hb]; exact e, l, ns, _, _, _, upd_same, by simp only [upd_ne hld]; exact hl, by omega, by omega, by omega⟩
    · refine ixd 2 rfl hd rfl ⟨_, rfl, _, _, rfl, rfl, _, rfl, ?_⟩
      refine ite2 (fun k1 => ?_) (fun k1 => ?_)
      · refine ixd 2 rfl hd rfl ⟨_, rfl, _, _, rfl, rfl, (show 0 < m by omega), ?_⟩
        refine ixd 2 rfl hd rfl ⟨_, rfl, _, _, rfl, rfl, (show CDivB _ m from ⟨by omega, hm2⟩), _, rfl, d, _, _, 2, rfl, rfl, hd, rfl, ?_⟩
        refine ⟨_, rfl, q _ _ (Int.emod_nonneg _ (by omega)) (Int.emod_lt_of_pos _ (by omega)) ⟨fun b o hb e => by simp only [upd_ne hb]; exact e, l, ns, _, _, _, upd_same, by simp only [upd_ne hld]; exact hl, by omega, by omega, by omega⟩⟩
      · refine ixd 3 rfl hd rfl (ixd 3 rfl hd rfl ⟨_, _, rfl, rfl, .inl ⟨by omega, by omega⟩, _, _, rfl, rfl, (show (0 : Int) < 2305843009213693951 by decide), ?_⟩)
        refine ⟨_, rfl, _, _, rfl, rfl, .inr ⟨by decide, by decide⟩, ixd 3 rfl hd rfl ⟨_, _, rfl, rfl, .inr ⟨by decide, by decide⟩, _, _, rfl, rfl, _, _, rfl, rfl, _, _, rfl, rfl, (show (0 : Int) < 2305843009213693951 by decide), ?_⟩⟩
        refine ⟨_, rfl, d, _, _, 3, rfl, rfl, hd, rfl, ?_⟩
        refine ixd 3 rfl upd_same rfl ⟨_, _, rfl, rfl, (show CDivB _ 1021 from ⟨by decide, by decide⟩), _, rfl, _, _, rfl, rfl, (show 0 < m by omega), ?_⟩
        exact q _ _ (Int.emod_nonneg _ (by omega)) (Int.emod_lt_of_pos _ (by omega)) ⟨fun b o hb e => by simp only [upd_ne hb]; exact e, l, ns, _, _, _, upd_same, by simp only [upd_ne hld]; exact hl, by omega, by omega, by omega⟩
  · refine ixd 2 rfl hd rfl ⟨_, rfl, _, _, rfl, rfl, _, rfl, ?_⟩
    refine ite2 (fun k1 => ?_) (fun k1 => ?_)
    · refine ixd 2 rfl hd rfl ⟨_, rfl, _, _, rfl, rfl, (show 0 < m by omega), ?_⟩
      refine ixd 2 rfl hd rfl ⟨_, rfl, _, _, rfl, rfl, (show CDivB _ m from ⟨by omega, hm2⟩), _, rfl, d, _, _, 2, rfl, rfl, hd, rfl, ?_⟩
      refine ⟨_, rfl, q _ _ (Int.emod_nonneg _ (by omega)) (Int.emod_lt_of_pos _ (by omega)) ⟨fun b o hb e => by simp only [upd_ne hb]; exact e, l, ns, _, _, _, upd_same, by simp only [upd_ne hld]; exact hl, by omega, by omega, by omega⟩⟩
    · refine ixd 3 rfl hd rfl (ixd 3 rfl hd rfl ⟨_, _, rfl, rfl, .inl ⟨by omega, by omega⟩, _, _, rfl, rfl, (show (0 : Int) < 2305843009213693951 by decide), ?_⟩)
      refine ⟨_, rfl, _, _, rfl, rfl, .inr ⟨by decide, by decide⟩, ixd 3 rfl hd rfl ⟨_, _, rfl, rfl, .inr ⟨by decide, by decide⟩, _, _, rfl, rfl, _, _, rfl, rfl, _, _, rfl, rfl, (show (0 : Int) < 2305843009213693951 by decide), ?_⟩⟩
      refine ⟨_, rfl, d, _, _, 3, rfl, rfl, hd, rfl, ?_⟩
      refine ixd 3 rfl upd_same rfl ⟨_, _, rfl, rfl, (show CDivB _ 1021 from ⟨by decide, by decide⟩), _, rfl, _, _, rfl, rfl, (show 0 < m by omega), ?_⟩
      exact q _ _ (Int.emod_nonneg _ (by omega)) (Int.emod_lt_of_pos _ (by omega)) ⟨fun b o hb e => by simp only [upd_ne hb]; exact e, l, ns, _, _, _, upd_same, by simp only [upd_ne hld]; exact hl, by omega, by omega, by omega⟩
end

end My

set_option Elab.async false
set_option linter.all false
set_option maxRecDepth 100000
set_option maxHeartbeats 4000000
namespace My
open PySem L2
/-! ### texts: lengths -/
theorem slice_len (x : Str) (l u : Option Int) : (Txt.slice x l u).length ≤ x.length := by
  unfold Txt.slice
  split
  · exact Nat.le_refl _
  · show (List.toArray _).size ≤ _
    rw [List.size_toArray]
    exact Nat.le_trans (List.length_filterMap_le _ _) (sliceIndices_le _ _ _)
theorem glue_size (ys : List Str) : ∀ (acc : Array Nat), (ys.foldl (fun acc p => acc ++ ("" : Str).cps ++ p.cps) acc).size = acc.size + (ys.map (·.length)).sum := by
  have e0 : ("" : Str).cps.size = 0 := by decide +kernel
  induction ys with
  | nil => intro acc; simp
  | cons y ys ih =>
    intro acc
    rw [List.foldl_cons, ih, Array.size_append, Array.size_append, e0, List.map_cons, List.sum_cons]
    show acc.size + 0 + y.cps.size + _ = acc.size + (y.cps.size + _)
    omega
theorem join_len (ys : List Str) : (Txt.join "" ys).length = (ys.map (·.length)).sum := by
  unfold Txt.join Builtin.Str.glued
  show (List.foldl _ _ _ : Array Nat).size = _
  cases ys with
  | nil => decide +kernel
  | cons y ys =>
    rw [List.drop_succ_cons, List.drop_zero, glue_size, List.headD_cons, List.map_cons, List.sum_cons]
    rfl
theorem sum_ge : ∀ (ys : List Str), (∀ y ∈ ys, y.length = 1) → (ys.map (·.length)).sum = ys.length
  | [], _ => rfl
  | y :: ys, h => by
    rw [List.map_cons, List.sum_cons, List.length_cons, sum_ge ys fun z hz => h z (List.mem_cons_of_mem _ hz), h y List.mem_cons_self]
    omega
theorem cat_len (x y : Str) : (x ++ y).length = x.length + y.length := by
  show (x.cps ++ y.cps).size = x.cps.size + y.cps.size
  rw [Array.size_append]
/-- a comprehension over a range -/
theorem comp_rng {im : List (Option Nat)} {σ : St} {H : Hp} {Q : VK} {te : TE} {n : Nat} {lo : Int} (R : Nat → List V → Hp → Prop) (h0 : R 0 [] H) (hlen : ∀ i ys H', i ≤ n → R i ys H' → ys.length ≤ sizeLine)
    (he : ∀ i ys H', i < n → R i ys H' → te ((inner im σ).set 0 (some (.int (lo + i)))) H' fun y H'' => R (i + 1) (ys ++ [y]) H'')
    (mono : ∀ σ' H' (Q1 Q2 : VK), (∀ v H'', Q1 v H'' → Q2 v H'') → te σ' H' Q1 → te σ' H' Q2)
    (hq : ∀ ys H', R n ys H' → ∀ D, H' D = none → Q (.ref D) (upd H' D (.lst ys))) : CompAt im (gName 0) tNoIf te σ Q (Itr lo n) H := by
  refine ⟨fun i m ys H' => m = n - i ∧ i ≤ n ∧ R i ys H', ⟨n, by simp, Nat.zero_le _, h0⟩, ?_⟩
  rintro i m ys H' ⟨rfl, hi, r⟩
  refine ⟨hlen i ys H' hi r, ?_⟩
  by_cases hlt : i < n
  · refine .inr ⟨hlt, fun x H'' y => ?_⟩
    obtain ⟨e, rfl⟩ := y
    subst e
    exact mono _ _ _ _ (fun v H3 z => ⟨n - (i + 1), by omega, rfl, hlt, z⟩) (he i ys _ hlt r)
  · have e : i = n := by omega
    subst e
    exact .inl ⟨Nat.le_refl _, hq ys H' r⟩
section
variable {P : Program} {w : World} {K : PySem.W.Frag} {mg : Str → Option Value} {base : Heap} {a : Adr}
def spBegin : Sp := fun vs H Q _ => ∃ (b : Addr) (ns : List Int), vs = [.ref b] ∧ SqL K H b (ns.map V.int) ∧ ns.length ≤ 63 ∧ ∀ d H', H d = none → Same H H' → Drw H' d → Q (.ref d) H'
theorem ok_begin (T : Txt K mg a) : FnOk P w K mg base CX0 1 a.f_begin a.d_begin ["_law_script"] (spBegin (K := K)) := by
  refine T.F_begin.ok sc_begin (fun vs H Q E h => ?_) (fun cdv A outer s H vs Q E hr h => ?_)
  · obtain ⟨x, s, rfl, _⟩ := h; rfl
  obtain ⟨b, ns, rfl, hb, hn, q⟩ := h
  refine ⟨_, (pss_one (ps_ret (pe_lst (pa_cons (pe_callTy call_list_of rfl T.n_list (by decide +kernel) (pa_cons (pe_slice sl_list (pv 0) po_none (po_some pe_int)) pa_nil)) (pa_cons pe_int (pa_cons pe_int (pa_cons pe_int pa_nil))))))), ?_⟩
  refine ⟨_, rfl, _, rfl, b, _, rfl, hb, fun p hp => ⟨p, _, rfl, .inl (SqL.of upd_same), fun l hl => ?_⟩⟩
  refine ⟨small (n := 4) (by decide), fun d hd => ?_⟩
  have hcut : ∃ ms : List Int, cutV (ns.map V.int) none (some 63) = ms.map V.int := by
    unfold cutV
    exact ⟨_, by rw [← List.map_drop, ← List.map_take]⟩
  obtain ⟨ms, hms⟩ := hcut
  have g1 := same_new hp (.lst (cutV (ns.map V.int) none (some 63)))
  have g2 := same_new hl (.lst (cutV (ns.map V.int) none (some 63)))
  have g3 := same_new hd (.lst [.ref l, .int 0, .int 0, .int 41])
  have hdl : l ≠ d := fun z => by subst z; rw [upd_same] at hd; cases hd
  refine q d _ ((g1.trans g2).free hd) ((g1.trans g2).trans g3) ⟨l, ms, 0, 0, 41, upd_same, ?_, by decide, by decide, by decide⟩
  rw [upd_ne hdl, upd_same, hms]
def spOf : Sp := fun vs H Q _ => ∃ (d : Addr) (y : V), vs = [.ref d, y] ∧ Drw H d ∧
  ((∃ z : Str, y = .str z ∧ 1 ≤ z.length ∧ z.length ≤ 1000 ∧ ∀ c H', Ev d H H' → c ∈ z.cps.toList → Q (.str ⟨#[c]⟩) H') ∨
   (∃ b xs, y = .ref b ∧ b ≠ d ∧ H b = some (.lst xs) ∧ 1 ≤ xs.length ∧ xs.length ≤ 1000 ∧ ∀ v H', Ev d H H' → v ∈ xs → Q v H'))
theorem atI_of {α : Type} {xs : List α} {r : Int} (h0 : 0 ≤ r) (h1 : r < xs.length) : ∃ v, atI xs r = some v ∧ v ∈ xs := by
  have hk : r.toNat < xs.length := by omega
  refine ⟨xs[r.toNat], ?_, List.getElem_mem hk⟩
  have z : atI xs ((r.toNat : Nat) : Int) = some xs[r.toNat] := atI_nat (List.getElem?_eq_getElem hk)
  have e : ((r.toNat : Nat) : Int) = r := by omega
  rw [e] at z; exact z
theorem lt200 {n : Nat} (h : n ≤ 1000) : (n : Int) < 2 ^ 200 := Int.lt_of_le_of_lt (b := 1000) (by omega) (by decide)
theorem ok_of (T : Txt K mg a) : FnOk P w K mg base CX0 2 a.f_of a.d_of ["_law_draw", "_law_some"] spOf := by
  refine T.F_of.ok sc_of (fun vs H Q E h => ?_) (fun cdv A outer s H vs Q E hr h => ?_)
  · obtain ⟨x, s, rfl, _⟩ := h; rfl
  obtain ⟨d, y, rfl, hD, h⟩ := h
  refine ⟨_, (pss_one (ps_ret (pe_ix ix_seq (pv 1) (pe_call (ok_take T) (hr.mono (by decide)) rfl T.m_take T.F_take.kp T.b_take .nil pass0 (pa_cons (pv 0) (pa_cons (pe_callB call_len rfl T.n_len PySem.boot_len (pa_cons (pv 1) pa_nil)) pa_nil))) (fun _ _ => rfl)))), ?_⟩
  rcases h with ⟨z, rfl, h1, h2, q⟩ | ⟨b, xs, rfl, hbd, hb, h1, h2, q⟩
  · refine ⟨_, rfl, _, rfl, _, rfl, _, _, rfl, ⟨small h2, rfl⟩, d, _, rfl, hD, by omega, lt200 h2, fun r H' r0 r1 ev => .inr (.inr ?_)⟩
    obtain ⟨c, hc, hm⟩ := atI_of (xs := z.cps.toList) r0 (by have : z.cps.toList.length = z.length := by simp [Str.length]
                                                             omega)
    exact ⟨z, r, c, rfl, rfl, small h2, hc, q c H' ev hm⟩
  · refine ⟨_, rfl, _, rfl, _, rfl, _, _, rfl, .inl ⟨_, SqL.of hb, rfl⟩, d, _, rfl, hD, by omega, lt200 h2, fun r H' r0 r1 ev => .inl ?_⟩
    obtain ⟨v, hv, hm⟩ := atI_of (xs := xs) r0 (by omega)
    exact ⟨b, xs, r, v, rfl, rfl, SqL.of (ev.same _ _ hbd hb), hv, q v H' ev hm⟩
end

/-! ### what stands in a cut or glued text -/
theorem slice_mem {x : Str} {l u : Option Int} {c : Nat} (h : c ∈ (Txt.slice x l u).cps.toList) : c ∈ x.cps.toList := by
  unfold Txt.slice at h
  split at h
  · exact h
  · have h' := h
    simp only [List.toList_toArray] at h'
    obtain ⟨i, _, hi⟩ := List.mem_filterMap.mp h'
    exact Array.mem_toList_iff.mpr (Array.mem_of_getElem? hi)
theorem glue_mem (ys : List Str) : ∀ (acc : Array Nat) (c : Nat), c ∈ (ys.foldl (fun acc p => acc ++ ("" : Str).cps ++ p.cps) acc).toList → c ∈ acc.toList ∨ ∃ y ∈ ys, c ∈ y.cps.toList := by
  have e0 : ("" : Str).cps = #[] := by decide +kernel
  induction ys with
  | nil => intro acc c h; exact .inl h
  | cons y ys ih =>
    intro acc c h
    rw [List.foldl_cons] at h
    rcases ih _ c h with h1 | ⟨z, hz, hc⟩
    · rw [e0] at h1
      simp at h1
      rcases h1 with h1 | h1
      · exact .inl (by simpa using h1)
      · exact .inr ⟨y, List.mem_cons_self, by simpa using h1⟩
    · exact .inr ⟨z, List.mem_cons_of_mem _ hz, hc⟩
theorem join_mem {ys : List Str} {c : Nat} (h : c ∈ (Txt.join "" ys).cps.toList) : ∃ y ∈ ys, c ∈ y.cps.toList := by
  unfold Txt.join Builtin.Str.glued at h
  cases ys with
  | nil =>
    have e : (Txt.join "" []).cps.toList = [] := by decide +kernel
    have h' : c ∈ (Txt.join "" []).cps.toList := h
    rw [e] at h'; cases h'
  | cons y ys =>
    rw [List.drop_succ_cons, List.drop_zero, List.headD_cons] at h
    rcases glue_mem ys _ c h with h1 | ⟨z, hz, hc⟩
    · exact ⟨y, List.mem_cons_self, h1⟩
    · exact ⟨z, List.mem_cons_of_mem _ hz, hc⟩
section
variable {P : Program} {w : World} {K : PySem.W.Frag} {mg : Str → Option Value} {base : Heap} {a : Adr}
def spLet : Sp := fun vs H Q _ => ∃ (d : Addr) (z : Str) (m : Int), vs = [.ref d, .str z, .int m] ∧ Drw H d ∧ 1 ≤ z.length ∧ z.length ≤ 1000 ∧ 1 ≤ m ∧ m ≤ 100 ∧ ∀ x H', Ev d H H' → 1 ≤ x.length → (x.length : Int) ≤ m → (∀ c ∈ x.cps.toList, c ∈ z.cps.toList) → Q (.str x) H'
theorem ok_letters (T : Txt K mg a) : FnOk P w K mg base CX0 3 a.f_letters a.d_letters ["_law_draw", "_law_signs", "_law_most"] spLet := by
  refine T.F_letters.ok sc_letters (fun vs H Q E h => ?_) (fun cdv A outer s H vs Q E hr h => ?_)
  · obtain ⟨x, s, r, rfl, _⟩ := h; rfl
  obtain ⟨d, z, m, rfl, hD, h1, h2, h3, h4, q⟩ := h
  refine ⟨_, (pss_one (ps_ret (pe_bm PySem.F.plainAttrs_str PySem.F.slot_str_join PySem.F.type_str_join mt_join pe_str (pa_cons (pe_comp ["_law_step", "_law_draw", "_law_signs"] [none, some 0, some 1] (pi_range1 rfl T.n_range (pa_cons (pe_op op_add pe_int (pe_call (ok_take T) (hr.mono (by decide)) rfl T.m_take T.F_take.kp T.b_take .nil pass0 (pa_cons (pv 0) (pa_cons (pv 2) pa_nil)))) pa_nil)) (fun _ _ _ _ _ => (pg_name (i := 0) (show List.Nodup (["_law_step", "_law_draw", "_law_signs"] : List Str) from by decide +kernel) rfl (Or.inl rfl) (Or.inr rfl))) (fun _ _ _ _ _ => pts_nil) (fun _ _ _ _ _ => (pe_call (ok_of T) (hr.mono (by decide)) rfl T.m_of T.F_of.kp T.b_of .nil pass0 (pa_cons (pv 1) (pa_cons (pv 2) pa_nil))))) pa_nil)))), ?_⟩
  refine ⟨rfl, _, rfl, _, rfl, d, m, rfl, hD, h3, Int.lt_of_le_of_lt (b := 100) h4 (by decide), fun r H1 r0 r1 ev => ⟨_, _, rfl, rfl, _, rfl, by omega, by omega, ?_⟩⟩
  have en : ((1 + r).toNat : Int) = 1 + r := by omega
  refine comp_rng (fun i ys H' => ∃ zs : List Str, ys = zs.map V.str ∧ zs.length = i ∧ (∀ y ∈ zs, y.length = 1) ∧ (∀ y ∈ zs, ∀ c ∈ y.cps.toList, c ∈ z.cps.toList) ∧ Ev d H H') ⟨[], rfl, rfl, by simp, by simp, ev⟩ (fun i ys H' hi r => ?_) (fun i ys H' hi r => ?_) (fun σ' H' Q1 Q2 h t => ?_) (fun ys H' r D hD' => ?_)
  · obtain ⟨zs, rfl, e, _⟩ := r
    rw [List.length_map]; exact small (by omega)
  · obtain ⟨zs, rfl, e, e1, e2, ev'⟩ := r
    refine ⟨_, rfl, _, rfl, d, _, rfl, ev'.drw, .inl ⟨z, rfl, h1, h2, fun c H'' ev'' hc => ⟨zs ++ [⟨#[c]⟩], by simp, by simp [e], fun y hy => ?_, fun y hy => ?_, ev'.trans ev''⟩⟩⟩
    · rcases List.mem_append.mp hy with hy | hy
      · exact e1 y hy
      · have : y = ⟨#[c]⟩ := by simpa using hy
        rw [this]; rfl
    · rcases List.mem_append.mp hy with hy | hy
      · exact e2 y hy
      · have : y = ⟨#[c]⟩ := by simpa using hy
        rw [this]
        intro c' hc'
        have : c' = c := by simpa using hc'
        rw [this]; exact hc
  · obtain ⟨v1, e1, v2, e2, d', y', e3, hD', t⟩ := t
    refine ⟨v1, e1, v2, e2, d', y', e3, hD', ?_⟩
    rcases t with ⟨z, t1, t2, t3, t4⟩ | ⟨b, xs, t1, t2, t3, t4, t5, t6⟩
    · exact .inl ⟨z, t1, t2, t3, fun c H'' ev hc => h _ _ (t4 c H'' ev hc)⟩
    · exact .inr ⟨b, xs, t1, t2, t3, t4, t5, fun v H'' ev hc => h _ _ (t6 v H'' ev hc)⟩
  · obtain ⟨zs, rfl, e, e1, e2, ev'⟩ := r
    have es := sum_ge zs e1
    refine ⟨_, D, zs, rfl, rfl, SqL.of upd_same, ?_, ?_⟩
    · have : ("" : Str).length = 0 := by decide +kernel
      rw [this, es]; omega
    · refine q _ _ (ev'.then (same_new hD' _)) ?_ ?_ fun c hc => ?_
      · rw [join_len, es]; omega
      · rw [join_len, es]; omega
      · obtain ⟨y, hy, hc'⟩ := join_mem hc
        exact e2 y hy c hc'
/-- a draw goes in, a word comes out -/
def spWrd : Sp := fun vs H Q _ => ∃ d : Addr, vs = [.ref d] ∧ Drw H d ∧ ∀ x H', Ev d H H' → wordB x = true → Q (.str x) H'
theorem one_len (c : Nat) : (⟨#[c]⟩ : Str).length = 1 := rfl
theorem sign_pool : ∀ c ∈ ("0123456789abcnoyesz" : Str).cps.toList, wsg c = true := by decide +kernel
theorem let_pool : ∀ c ∈ ("abcdefghijklmnopqrstuvwxyz" : Str).cps.toList, isLet c = true := by decide +kernel
theorem word_cat {c : Nat} {y : Str} (hc : isLet c = true) (hy : ∀ d ∈ y.cps.toList, wsg d = true) (hl : y.length ≤ 11) : wordB (⟨#[c]⟩ ++ y) = true := by
  have ec : (⟨#[c]⟩ ++ y : Str).cps.toList = c :: y.cps.toList := by
    show (#[c] ++ y.cps).toList = _
    simp
  have el : (⟨#[c]⟩ ++ y : Str).length = 1 + y.length := by rw [cat_len]; rfl
  unfold wordB sz bwl
  rw [ec, el]
  simp only [Bool.and_eq_true, decide_eq_true_eq, List.all_cons, List.all_eq_true]
  exact ⟨⟨by omega, by omega⟩, hc, by unfold wsg; rw [hc]; rfl, hy⟩
theorem ok_drawn_word (T : Txt K mg a) : FnOk P w K mg base CX0 4 a.f_drawn_word a.d_drawn_word ["_law_draw"] spWrd := by
  refine T.F_drawn_word.ok sc_drawn_word (fun vs H Q E h => ?_) (fun cdv A outer s H vs Q E hr h => ?_)
  · obtain ⟨x, rfl, _⟩ := h; rfl
  obtain ⟨d, rfl, hD, q⟩ := h
  refine ⟨_, (pss_one (ps_ret (pe_op op_add_str (pe_call (ok_of T) (hr.mono (by decide)) rfl T.m_of T.F_of.kp T.b_of .nil pass0 (pa_cons (pv 0) (pa_cons pe_str pa_nil))) (pe_slice sl_str (pe_call (ok_letters T) (hr.mono (by decide)) rfl T.m_letters T.F_letters.kp T.b_letters .nil pass0 (pa_cons (pv 0) (pa_cons pe_str (pa_cons pe_int pa_nil)))) (po_some pe_int) po_none)))), ?_⟩
  refine ⟨_, rfl, d, _, rfl, hD, .inl ⟨_, rfl, by decide +kernel, by decide +kernel, fun c H1 ev1 hc => ?_⟩⟩
  refine ⟨_, rfl, d, _, _, rfl, ev1.drw, by decide +kernel, by decide +kernel, by decide, by decide, fun x H2 ev2 x1 x2 x3 => ?_⟩
  have sl := slice_len x (some 1) none
  have ol := one_len c
  refine ⟨_, rfl, _, rfl, small (by omega), _, _, rfl, rfl, small (by omega), q _ _ (ev1.trans ev2) ?_⟩
  exact word_cat (let_pool c hc) (fun d hd => sign_pool d (x3 d (slice_mem hd))) (by omega)
end

section
variable {P : Program} {w : World} {K : PySem.W.Frag} {mg : Str → Option Value} {base : Heap} {a : Adr}
def spNum : Sp := fun vs H Q _ => ∃ d : Addr, vs = [.ref d] ∧ Drw H d ∧ ∀ (i : Int) H', Ev d H H' → -(10 ^ 29) < i → i < 10 ^ 29 → Q (.int i) H'
theorem ok_number (T : Txt K mg a) : FnOk P w K mg base CX0 3 a.f_number a.d_number ["_law_draw"] spNum := by
  refine T.F_number.ok sc_number (fun vs H Q E h => ?_) (fun cdv A outer s H vs Q E hr h => ?_)
  · obtain ⟨x, rfl, _⟩ := h; rfl
  obtain ⟨d, rfl, hD, q⟩ := h
  refine ⟨_, (pss_cons (ps_set (i := 1) sc_number.nd rfl (by first | exact Or.inl rfl | exact Or.inr rfl) (pe_call (ok_take T) (hr.mono (by decide)) rfl T.m_take T.F_take.kp T.b_take .nil pass0 (pa_cons (pv 0) (pa_cons pe_int pa_nil)))) (pss_cons (ps_if (pt_cmpR op_eq (pv 1) pe_int (nomark _)) (pss_one (ps_ret (pe_op op_mul (pe_call (ok_of T) (hr.mono (by decide)) rfl T.m_of T.F_of.kp T.b_of .nil pass0 (pa_cons (pv 0) (pa_cons (pe_lst (pa_cons pe_int (pa_cons (pe_op op_sub pe_int pe_int) pa_nil))) pa_nil))) (pe_call (ok_take T) (hr.mono (by decide)) rfl T.m_take T.F_take.kp T.b_take .nil pass0 (pa_cons (pv 0) (pa_cons (pe_op op_pow pe_int pe_int) pa_nil)))))) pss_nil) (pss_cons (ps_if (pt_cmpR op_eq (pv 1) pe_int (nomark _)) (pss_one (ps_ret (pe_op op_sub (pe_call (ok_take T) (hr.mono (by decide)) rfl T.m_take T.F_take.kp T.b_take .nil pass0 (pa_cons (pv 0) (pa_cons pe_int pa_nil))) pe_int))) pss_nil) (pss_one (ps_ret (pe_op op_sub (pe_call (ok_take T) (hr.mono (by decide)) rfl T.m_take T.F_take.kp T.b_take .nil pass0 (pa_cons (pv 0) (pa_cons pe_int pa_nil))) pe_int)))))), ?_⟩
  refine ⟨_, rfl, d, _, rfl, hD, by decide, by decide, fun r H1 r0 r1 ev1 => ?_⟩
  refine ⟨_, rfl, rfl, _, rfl, ?_⟩
  refine ite2 (fun k => ?_) (fun k => ?_)
  · refine ⟨_, rfl, _, _, rfl, rfl, small (by decide), fun b hb => ?_⟩
    have g1 := same_new hb (.lst [.int 1, .int (0 - 1)])
    have ev2 := ev1.then g1
    refine ⟨d, _, rfl, ev2.drw, .inr ⟨b, _, rfl, ev1.drw.ne_of_none hb, upd_same, by decide, by decide, fun v H3 ev3 hv => ?_⟩⟩
    refine ⟨_, rfl, _, _, rfl, rfl, ⟨by decide, by decide, by decide⟩, d, _, rfl, ev3.drw, by decide, by decide, fun r2 H4 s0 s1 ev4 => ?_⟩
    have ev := (ev2.trans ev3).trans ev4
    have s1' : r2 < 10 ^ 29 := s1
    simp at hv
    rcases hv with rfl | rfl
    · refine ⟨_, _, rfl, rfl, .inl ⟨by decide, by decide⟩, q _ _ ev ?_ ?_⟩ <;> omega
    · refine ⟨_, _, rfl, rfl, .inl ⟨by decide, by decide⟩, q _ _ ev ?_ ?_⟩ <;> omega
  · refine ⟨_, rfl, rfl, _, rfl, ?_⟩
    refine ite2 (fun k2 => ?_) (fun k2 => ?_)
    · refine ⟨_, rfl, d, _, rfl, ev1.drw, by decide, by decide, fun r2 H4 s0 s1 ev4 => ⟨_, _, rfl, rfl, q _ _ (ev1.trans ev4) ?_ ?_⟩⟩ <;> omega
    · refine ⟨_, rfl, d, _, rfl, ev1.drw, by decide, by decide, fun r2 H4 s0 s1 ev4 => ⟨_, _, rfl, rfl, q _ _ (ev1.trans ev4) ?_ ?_⟩⟩ <;> omega
end
section
variable {P : Program} {w : World} {K : PySem.W.Frag} {mg : Str → Option Value} {base : Heap} {a : Adr}
/-- what is drawn -/
def goodV (v : V) : Prop := (∃ b, v = .bl b) ∨ (∃ i : Int, v = .int i ∧ -(10 ^ 29) < i ∧ i < 10 ^ 29) ∨ ∃ x, v = .str x ∧ wordB x = true
/-- a value of a sort -/
def valS (s : Str) (v : V) : Prop := (s = "number" ∧ ∃ i : Int, v = .int i ∧ -(10 ^ 29) < i ∧ i < 10 ^ 29) ∨ (s = "flag" ∧ ∃ b, v = .bl b) ∨ (s = "word" ∧ ∃ x, v = .str x ∧ wordB x = true)
theorem valS.good {s : Str} {v : V} (h : valS s v) : goodV v := by
  rcases h with ⟨_, h⟩ | ⟨_, h⟩ | ⟨_, h⟩
  · exact .inr (.inl h)
  · exact .inl h
  · exact .inr (.inr h)
def spVal : Sp := fun vs H Q _ => ∃ (d : Addr) (z : Str), vs = [.ref d, .str z] ∧ Drw H d ∧ (z = "number" ∨ z = "flag" ∨ z = "word") ∧ ∀ v H', Ev d H H' → valS z v → Q v H'
theorem six_words : ∀ x ∈ (["ann", "bob", "a", "z9", "yes", "b"] : List Str), wordB x = true := by decide +kernel
theorem ok_value (T : Txt K mg a) : FnOk P w K mg base CX0 5 a.f_value a.d_value ["_law_draw", "_law_sort_here"] spVal := by
  refine T.F_value.ok sc_value (fun vs H Q E h => ?_) (fun cdv A outer s H vs Q E hr h => ?_)
  · obtain ⟨x, z, rfl, _⟩ := h; rfl
  obtain ⟨d, z, rfl, hD, hz, q⟩ := h
  refine ⟨_, (pss_cons (ps_if (pt_cmpR op_eq (pv 1) pe_str (nomark _)) (pss_one (ps_ret (pe_call (ok_number T) (hr.mono (by decide)) rfl T.m_number T.F_number.kp T.b_number .nil pass0 (pa_cons (pv 0) pa_nil)))) pss_nil) (pss_cons (ps_if (pt_cmpR op_eq (pv 1) pe_str (nomark _)) (pss_one (ps_ret (pe_cmpR op_eq (pe_call (ok_take T) (hr.mono (by decide)) rfl T.m_take T.F_take.kp T.b_take .nil pass0 (pa_cons (pv 0) (pa_cons pe_int pa_nil))) pe_int (nomark _)))) pss_nil) (pss_cons (ps_if (pt_cmpR op_eq (pe_call (ok_take T) (hr.mono (by decide)) rfl T.m_take T.F_take.kp T.b_take .nil pass0 (pa_cons (pv 0) (pa_cons pe_int pa_nil))) pe_int (nomark _)) (pss_one (ps_ret (pe_call (ok_drawn_word T) (hr.mono (by decide)) rfl T.m_drawn_word T.F_drawn_word.kp T.b_drawn_word .nil pass0 (pa_cons (pv 0) pa_nil)))) pss_nil) (pss_one (ps_ret (pe_call (ok_of T) (hr.mono (by decide)) rfl T.m_of T.F_of.kp T.b_of .nil pass0 (pa_cons (pv 0) (pa_cons (pe_lst (pa_cons pe_str (pa_cons pe_str (pa_cons pe_str (pa_cons pe_str (pa_cons pe_str (pa_cons pe_str pa_nil))))))) pa_nil)))))))), ?_⟩
  rcases hz with rfl | rfl | rfl
  · exact ⟨_, rfl, rfl, _, rfl, iteT ⟨_, rfl, d, rfl, hD, fun i H1 ev1 i0 i1 => q _ _ ev1 (.inl ⟨rfl, i, rfl, i0, i1⟩)⟩⟩
  · exact ⟨_, rfl, rfl, _, rfl, iteF ⟨_, rfl, rfl, _, rfl, iteT ⟨_, rfl, d, _, rfl, hD, by decide, by decide, fun r H1 _ _ ev1 => ⟨rfl, q _ _ ev1 (.inr (.inl ⟨rfl, _, rfl⟩))⟩⟩⟩⟩
  refine ⟨_, rfl, rfl, _, rfl, iteF ⟨_, rfl, rfl, _, rfl, iteF ?_⟩⟩
  refine ⟨_, rfl, d, _, rfl, hD, by decide, by decide, fun r H1 _ _ ev1 => ⟨rfl, _, rfl, ?_⟩⟩
  refine ite2 (fun k => ?_) (fun k => ?_)
  · exact ⟨_, rfl, d, rfl, ev1.drw, fun x H2 ev2 hx => q _ _ (ev1.trans ev2) (.inr (.inr ⟨rfl, x, rfl, hx⟩))⟩
  refine ⟨_, rfl, small (by decide), fun b hb => ?_⟩
  have g1 := same_new hb (.lst [.str "ann", .str "bob", .str "a", .str "z9", .str "yes", .str "b"])
  have ev2 := ev1.then g1
  refine ⟨d, _, rfl, ev2.drw, .inr ⟨b, _, rfl, ev1.drw.ne_of_none hb, upd_same, by decide, by decide, fun v H3 ev3 hv => q _ _ (ev2.trans ev3) ?_⟩⟩
  have hv' : v ∈ (["ann", "bob", "a", "z9", "yes", "b"] : List Str).map V.str := hv
  obtain ⟨x, hx, rfl⟩ := List.mem_map.mp hv'
  exact .inr (.inr ⟨rfl, x, rfl, six_words x hx⟩)
end

section
variable {P : Program} {w : World} {K : PySem.W.Frag} {mg : Str → Option Value} {base : Heap} {a : Adr}
/-! ### _law_same: flat things, and lists of such -/
theorem flat_cases {x : V} (h : flatV x = true) : x = .non ∨ (∃ b, x = .bl b) ∨ (∃ i, x = .int i) ∨ ∃ z, x = .str z := by
  cases x <;> first | exact .inl rfl | exact .inr (.inl ⟨_, rfl⟩) | exact .inr (.inr (.inl ⟨_, rfl⟩)) | exact .inr (.inr (.inr ⟨_, rfl⟩)) | cases h
def spSameF : Sp := fun vs H Q _ => ∃ x y : V, vs = [x, y] ∧ flatV x = true ∧ flatV y = true ∧ ∀ H', Same H H' → Q (.bl (decide (x = y))) H'
theorem dec_ne {x y : V} (h : x ≠ y) : decide (x = y) = false := decide_eq_false h
theorem ok_sameF (T : Txt K mg a) : FnOk P w K mg base CX0 1 a.f_same a.d_same ["_law_told", "_law_due"] spSameF := by
  refine T.F_same.ok sc_same (fun vs H Q E h => ?_) (fun cdv A outer s H vs Q E hr h => ?_)
  · obtain ⟨x, y, rfl, _⟩ := h; rfl
  obtain ⟨x, y, rfl, fx, fy, q⟩ := h
  refine ⟨_, (pss_cons (ps_if (pt_cmpR op_isN (pv 1) pe_non (nomark _)) (pss_one (ps_ret (pe_cmpR op_isN (pv 0) pe_non (nomark _)))) pss_nil) (pss_cons (ps_if (PW.pt (pw_or (pt_val (pe_callB call_isinst rfl T.n_isinstance (by decide +kernel) (pa_cons (pv 1) (pa_cons (pe_bltn (v := .ty "bool") (u := .type "bool") rfl T.n_bool (by decide +kernel) rfl) pa_nil)))) (pw_or1 (pt_val (pe_callB call_isinst rfl T.n_isinstance (by decide +kernel) (pa_cons (pv 0) (pa_cons (pe_bltn (v := .ty "bool") (u := .type "bool") rfl T.n_bool (by decide +kernel) rfl) pa_nil))))))) (pss_one (ps_ret (pe_and (pe_callB call_isinst rfl T.n_isinstance (by decide +kernel) (pa_cons (pv 1) (pa_cons (pe_bltn (v := .ty "bool") (u := .type "bool") rfl T.n_bool (by decide +kernel) rfl) pa_nil))) (pe_and (pe_callB call_isinst rfl T.n_isinstance (by decide +kernel) (pa_cons (pv 0) (pa_cons (pe_bltn (v := .ty "bool") (u := .type "bool") rfl T.n_bool (by decide +kernel) rfl) pa_nil))) (pe_one (pe_cmpR op_eq (pv 0) (pv 1) (nomark _))))))) pss_nil) (pss_cons (ps_if (pt_val (pe_callB call_isinstT rfl T.n_isinstance (by decide +kernel) (pa_cons (pv 1) (pa_cons (pe_tup (pa_cons (pe_bltn (v := .ty "int") (u := .type "int") rfl T.n_int (by decide +kernel) rfl) (pa_cons (pe_bltn (v := .ty "str") (u := .type "str") rfl T.n_str (by decide +kernel) rfl) pa_nil))) pa_nil)))) (pss_one (ps_ret (pe_and (pe_callB call_isinstT rfl T.n_isinstance (by decide +kernel) (pa_cons (pv 0) (pa_cons (pe_tup (pa_cons (pe_bltn (v := .ty "int") (u := .type "int") rfl T.n_int (by decide +kernel) rfl) (pa_cons (pe_bltn (v := .ty "str") (u := .type "str") rfl T.n_str (by decide +kernel) rfl) pa_nil))) pa_nil))) (pe_and (pe_cmpR op_eq (pe_callB call_isinst rfl T.n_isinstance (by decide +kernel) (pa_cons (pv 0) (pa_cons (pe_bltn (v := .ty "int") (u := .type "int") rfl T.n_int (by decide +kernel) rfl) pa_nil))) (pe_callB call_isinst rfl T.n_isinstance (by decide +kernel) (pa_cons (pv 1) (pa_cons (pe_bltn (v := .ty "int") (u := .type "int") rfl T.n_int (by decide +kernel) rfl) pa_nil))) (nomark _)) (pe_one (pe_cmpR op_eq (pv 0) (pv 1) (nomark _))))))) pss_nil) pss_never))), ?_⟩
  have no : x ≠ y → ∀ H', Same H H' → Q (.bl false) H' := fun hne H' g => by have z := q H' g; rw [dec_ne hne] at z; exact z
  rcases flat_cases fy with rfl | ⟨b, rfl⟩ | ⟨j, rfl⟩ | ⟨z, rfl⟩
  · exact ⟨_, rfl, rfl, _, rfl, iteT ⟨_, rfl, rfl, q H (Same.refl H)⟩⟩
  · refine ⟨_, rfl, rfl, _, rfl, iteF ⟨_, rfl, _, _, _, true, rfl, .bl b, rfl, _, rfl, iteT (iteT ⟨_, rfl, _, _, _, true, rfl, .bl b, rfl, _, rfl, iteT ?_⟩)⟩⟩
    rcases flat_cases fx with rfl | ⟨b', rfl⟩ | ⟨j, rfl⟩ | ⟨z, rfl⟩
    · exact ⟨_, rfl, _, _, _, false, rfl, .non, rfl, _, rfl, iteF (no (by simp) H (Same.refl H))⟩
    · exact ⟨_, rfl, _, _, _, true, rfl, .bl b', rfl, _, rfl, iteT ⟨_, rfl, _, rfl, rfl, q H (Same.refl H)⟩⟩
    · exact ⟨_, rfl, _, _, _, false, rfl, .int j, rfl, _, rfl, iteF (no (by simp) H (Same.refl H))⟩
    · exact ⟨_, rfl, _, _, _, false, rfl, .str z, rfl, _, rfl, iteF (no (by simp) H (Same.refl H))⟩
  · refine ⟨_, rfl, rfl, _, rfl, iteF ⟨_, rfl, _, _, _, false, rfl, .int j, rfl, _, rfl, iteF ?_⟩⟩
    rcases flat_cases fx with rfl | ⟨b', rfl⟩ | ⟨i, rfl⟩ | ⟨z, rfl⟩
    · refine ⟨_, rfl, _, _, _, false, rfl, .non, rfl, _, rfl, iteF ⟨_, rfl, small (n := 2) (by decide), fun tp htp => ⟨_, _, tp, ["int", "str"], true, rfl, upd_same, .int j, rfl, _, rfl, iteT ?_⟩⟩⟩
      refine ⟨_, rfl, small (n := 2) (by decide), fun tp2 htp2 => ⟨_, _, tp2, ["int", "str"], false, rfl, upd_same, .non, rfl, _, rfl, iteF (no (by simp) _ ((same_new htp _).trans (same_new htp2 _)))⟩⟩
    · exact ⟨_, rfl, _, _, _, true, rfl, .bl b', rfl, _, rfl, iteT ⟨_, rfl, _, _, _, false, rfl, .int j, rfl, _, rfl, iteF (no (by simp) H (Same.refl H))⟩⟩
    · refine ⟨_, rfl, _, _, _, false, rfl, .int i, rfl, _, rfl, iteF ⟨_, rfl, small (n := 2) (by decide), fun tp htp => ⟨_, _, tp, ["int", "str"], true, rfl, upd_same, .int j, rfl, _, rfl, iteT ?_⟩⟩⟩
      refine ⟨_, rfl, small (n := 2) (by decide), fun tp2 htp2 => ⟨_, _, tp2, ["int", "str"], true, rfl, upd_same, .int i, rfl, _, rfl, iteT ?_⟩⟩
      exact ⟨_, rfl, _, _, _, true, rfl, .int i, rfl, _, rfl, _, _, _, true, rfl, .int j, rfl, rfl, _, rfl, iteT ⟨_, rfl, _, rfl, rfl, q _ ((same_new htp _).trans (same_new htp2 _))⟩⟩
    · refine ⟨_, rfl, _, _, _, false, rfl, .str z, rfl, _, rfl, iteF ⟨_, rfl, small (n := 2) (by decide), fun tp htp => ⟨_, _, tp, ["int", "str"], true, rfl, upd_same, .int j, rfl, _, rfl, iteT ?_⟩⟩⟩
      refine ⟨_, rfl, small (n := 2) (by decide), fun tp2 htp2 => ⟨_, _, tp2, ["int", "str"], true, rfl, upd_same, .str z, rfl, _, rfl, iteT ?_⟩⟩
      exact ⟨_, rfl, _, _, _, false, rfl, .str z, rfl, _, rfl, _, _, _, true, rfl, .int j, rfl, rfl, _, rfl, iteF (no (by simp) _ ((same_new htp _).trans (same_new htp2 _)))⟩
  · refine ⟨_, rfl, rfl, _, rfl, iteF ⟨_, rfl, _, _, _, false, rfl, .str z, rfl, _, rfl, iteF ?_⟩⟩
    rcases flat_cases fx with rfl | ⟨b', rfl⟩ | ⟨i, rfl⟩ | ⟨z', rfl⟩
    · refine ⟨_, rfl, _, _, _, false, rfl, .non, rfl, _, rfl, iteF ⟨_, rfl, small (n := 2) (by decide), fun tp htp => ⟨_, _, tp, ["int", "str"], true, rfl, upd_same, .str z, rfl, _, rfl, iteT ?_⟩⟩⟩
      refine ⟨_, rfl, small (n := 2) (by decide), fun tp2 htp2 => ⟨_, _, tp2, ["int", "str"], false, rfl, upd_same, .non, rfl, _, rfl, iteF (no (by simp) _ ((same_new htp _).trans (same_new htp2 _)))⟩⟩
    · exact ⟨_, rfl, _, _, _, true, rfl, .bl b', rfl, _, rfl, iteT ⟨_, rfl, _, _, _, false, rfl, .str z, rfl, _, rfl, iteF (no (by simp) H (Same.refl H))⟩⟩
    · refine ⟨_, rfl, _, _, _, false, rfl, .int i, rfl, _, rfl, iteF ⟨_, rfl, small (n := 2) (by decide), fun tp htp => ⟨_, _, tp, ["int", "str"], true, rfl, upd_same, .str z, rfl, _, rfl, iteT ?_⟩⟩⟩
      refine ⟨_, rfl, small (n := 2) (by decide), fun tp2 htp2 => ⟨_, _, tp2, ["int", "str"], true, rfl, upd_same, .int i, rfl, _, rfl, iteT ?_⟩⟩
      exact ⟨_, rfl, _, _, _, true, rfl, .int i, rfl, _, rfl, _, _, _, false, rfl, .str z, rfl, rfl, _, rfl, iteF (no (by simp) _ ((same_new htp _).trans (same_new htp2 _)))⟩
    · refine ⟨_, rfl, _, _, _, false, rfl, .str z', rfl, _, rfl, iteF ⟨_, rfl, small (n := 2) (by decide), fun tp htp => ⟨_, _, tp, ["int", "str"], true, rfl, upd_same, .str z, rfl, _, rfl, iteT ?_⟩⟩⟩
      refine ⟨_, rfl, small (n := 2) (by decide), fun tp2 htp2 => ⟨_, _, tp2, ["int", "str"], true, rfl, upd_same, .str z', rfl, _, rfl, iteT ?_⟩⟩
      exact ⟨_, rfl, _, _, _, false, rfl, .str z', rfl, _, rfl, _, _, _, false, rfl, .str z, rfl, rfl, _, rfl, iteT ⟨_, rfl, _, rfl, rfl, q _ ((same_new htp _).trans (same_new htp2 _))⟩⟩
end

end My

set_option Elab.async false
set_option linter.all false
set_option maxRecDepth 100000
set_option maxHeartbeats 4000000
namespace My
open PySem L2
/-! ### terms -/
inductive Tm
  | lit (s : Str) (v : V)
  | nam (s n : Str)
  | neg (t : Tm)
  | bin (s : Str) (l r : Tm)
abbrev litS : List Str := ["number", "word", "flag"]
abbrev namS : List Str := ["field", "has"]
abbrev binS : List Str := ["or", "and", "=", "!=", "<", "<=", ">", ">=", "+", "-", "*"]
def Tm.hd : Tm → Str
  | .lit s _ => s
  | .nam s _ => s
  | .neg _ => "not"
  | .bin s _ _ => s
def Tm.ok : Tm → Prop
  | .lit s v => s ∈ litS ∧ goodV v
  | .nam s n => s ∈ namS ∧ n.length ≤ 100
  | .neg t => t.ok
  | .bin s l r => s ∈ binS ∧ l.ok ∧ r.ok
def Tm.deep : Tm → Nat
  | .lit _ _ => 0
  | .nam _ _ => 0
  | .neg t => t.deep + 1
  | .bin _ l r => max l.deep r.deep + 1
def Tm.size : Tm → Nat
  | .lit _ _ => 1
  | .nam _ _ => 1
  | .neg t => t.size + 1
  | .bin _ l r => l.size + r.size + 1
theorem Tm.size_le (t : Tm) : t.size < 2 ^ (t.deep + 1) := by
  induction t with
  | lit s v => show 1 < 2 ^ 1; decide
  | nam s v => show 1 < 2 ^ 1; decide
  | neg t ih =>
    show t.size + 1 < 2 ^ (t.deep + 1 + 1)
    rw [Nat.pow_succ]; omega
  | bin s l r i1 i2 =>
    show l.size + r.size + 1 < 2 ^ (max l.deep r.deep + 1 + 1)
    have m1 : 2 ^ (l.deep + 1) ≤ 2 ^ (max l.deep r.deep + 1) := Nat.pow_le_pow_right (by decide) (by omega)
    have m2 : 2 ^ (r.deep + 1) ≤ 2 ^ (max l.deep r.deep + 1) := Nat.pow_le_pow_right (by decide) (by omega)
    have p : 2 ^ (max l.deep r.deep + 1 + 1) = 2 * 2 ^ (max l.deep r.deep + 1) := by rw [Nat.pow_succ]; omega
    omega
/-- as it lies in the heap -/
def TmAt (H : Hp) : V → Tm → Prop
  | u, .lit s v => ∃ p, u = .ref p ∧ H p = some (.tup [.str s, v])
  | u, .nam s n => ∃ p, u = .ref p ∧ H p = some (.tup [.str s, .str n])
  | u, .neg t => ∃ p w, u = .ref p ∧ H p = some (.tup [.str "not", w]) ∧ TmAt H w t
  | u, .bin s l r => ∃ p w1 w2, u = .ref p ∧ H p = some (.tup [.str s, w1, w2]) ∧ TmAt H w1 l ∧ TmAt H w2 r
theorem TmAt.keep {H H' : Hp} (g : ∀ b xs, H b = some (.tup xs) → H' b = some (.tup xs)) : ∀ {t : Tm} {u : V}, TmAt H u t → TmAt H' u t
  | .lit _ _, _, ⟨p, e, h⟩ => ⟨p, e, g _ _ h⟩
  | .nam _ _, _, ⟨p, e, h⟩ => ⟨p, e, g _ _ h⟩
  | .neg _, _, ⟨p, w, e, h, r⟩ => ⟨p, w, e, g _ _ h, r.keep g⟩
  | .bin _ _ _, _, ⟨p, w1, w2, e, h, r1, r2⟩ => ⟨p, w1, w2, e, g _ _ h, r1.keep g, r2.keep g⟩
theorem TmAt.same {H H' : Hp} {t : Tm} {u : V} (h : TmAt H u t) (g : Same H H') : TmAt H' u t := h.keep fun b _ e => g b _ e
theorem TmAt.ev {d : Addr} {H H' : Hp} {t : Tm} {u : V} (h : TmAt H u t) (hD : Drw H d) (g : Ev d H H') : TmAt H' u t := h.keep fun b _ e => g.same b _ (fun z => by
  obtain ⟨xs, q⟩ := hD.some
  rw [z, q] at e; cases e) e
/-- a thing's tuple: its sign first, then what is told of it -/
theorem TmAt.top {H : Hp} {t : Tm} {u : V} (h : TmAt H u t) : ∃ p xs, u = .ref p ∧ H p = some (.tup (.str t.hd :: xs)) := by
  cases t with
  | lit s v => obtain ⟨p, e, q⟩ := h; exact ⟨p, _, e, q⟩
  | nam s n => obtain ⟨p, e, q⟩ := h; exact ⟨p, _, e, q⟩
  | neg t => obtain ⟨p, w, e, q, _⟩ := h; exact ⟨p, _, e, q⟩
  | bin s l r => obtain ⟨p, w1, w2, e, q, _⟩ := h; exact ⟨p, _, e, q⟩
abbrev allS : List Str := ["number", "word", "flag", "field", "has", "not", "or", "and", "=", "!=", "<", "<=", ">", ">=", "+", "-", "*"]
theorem Tm.hd_in {t : Tm} (h : t.ok) : t.hd ∈ allS := by
  have l1 : ∀ s ∈ litS, s ∈ allS := by decide +kernel
  have l2 : ∀ s ∈ namS, s ∈ allS := by decide +kernel
  have l3 : ∀ s ∈ binS, s ∈ allS := by decide +kernel
  cases t with
  | lit s v => exact l1 s h.1
  | nam s n => exact l2 s h.1
  | neg t => show ("not" : Str) ∈ allS; decide +kernel
  | bin s l r => exact l3 s h.1
theorem line_of {n : Nat} (h : n ≤ 9000000) : n ≤ sizeLine := by rw [sizeLine_eq]; omega
theorem fn_false {P : Program} {w : World} {K : PySem.W.Frag} {mg : Str → Option Value} {base : Heap} {CX : CXT} {k : Nat} {f : Addr} {fd : FuncData} {ps : List Str} {sp : Sp} (h : ∀ vs H Q E, ¬ sp vs H Q E) : FnOk P w K mg base CX k f fd ps sp :=
  ⟨fun vs H Q E z => (h _ _ _ _ z).elim, fun _ _ _ _ _ _ _ _ _ _ _ _ _ z => (h _ _ _ _ z).elim⟩
/-- a place that was free may be written -/
theorem same_upd {H H2 : Hp} {p : Addr} {o : HO} (g : Same H H2) (h : H p = none) : Same H (upd H2 p o) := fun b u q => by
  have hb : b ≠ p := fun z => by rw [z, h] at q; cases q
  rw [upd_ne hb]; exact g b u q
/-- a comprehension over a list, with one test -/
theorem comp_listF {K : PySem.W.Frag} {a : Addr} {xs : List V} {im : List (Option Nat)} {σ : St} {H : Hp} {Q : VK} {tc : TT} {te : TE} (R : Nat → List V → Hp → Prop) (h0 : R 0 [] H)
    (hl : ∀ i ys H', i ≤ xs.length → R i ys H' → ys.length ≤ sizeLine ∧ SqL K H' a xs)
    (he : ∀ i x ys H' (N : List V → Hp → Prop), xs[i]? = some x → R i ys H' → (∀ ys' H'', R (i + 1) ys' H'' → N ys' H'') →
      tc ((inner im σ).set 0 (some x)) H' fun b H3 => if b = true then te ((inner im σ).set 0 (some x)) H3 fun y H4 => N (ys ++ [y]) H4 else N ys H3)
    (hq : ∀ ys H', R xs.length ys H' → ∀ D, H' D = none → Q (.ref D) (upd H' D (.lst ys))) : CompAt im (gName 0) tc te σ Q (Itl K a) H := by
  refine ⟨fun i m ys H' => m = xs.length - i ∧ i ≤ xs.length ∧ R i ys H', ⟨xs.length, by simp, Nat.zero_le _, h0⟩, ?_⟩
  rintro i m ys H' ⟨rfl, hi, r⟩
  have hz := hl i ys H' hi r
  refine ⟨hz.1, ?_⟩
  by_cases hlt : i < xs.length
  · refine .inr ⟨⟨xs, xs[i], hz.2, by simp [hlt]⟩, fun x H'' y => ?_⟩
    obtain ⟨e, y⟩ := y
    subst e
    exact he i x ys _ (fun ys' H5 => ∃ m', m' < xs.length - i ∧ m' = xs.length - (i + 1) ∧ i + 1 ≤ xs.length ∧ R (i + 1) ys' H5) (y xs hz.2) r fun ys' H5 z => ⟨xs.length - (i + 1), by omega, rfl, hlt, z⟩
  · have e : i = xs.length := by omega
    subst e
    exact .inl ⟨⟨xs, hz.2, Nat.le_refl _⟩, hq ys H' r⟩

end My

set_option Elab.async false
set_option linter.all false
set_option maxRecDepth 100000
set_option maxHeartbeats 4000000
namespace My
open PySem L2
/-! ### sorts of terms -/
abbrev arS : List Str := ["+", "-", "*"]
abbrev boS : List Str := ["and", "or"]
abbrev ltS : List Str := ["<", "<=", ">", ">="]
abbrev eqS : List Str := ["=", "!="]
def kk : List (Str × Str) := [("took", "number"), ("user", "word"), ("ok", "flag"), ("a", "number"), ("level", "word"), ("that_x", "number")]
def KD (m : Nat) : List (Key × V) := (kk.take m).map fun p => (Sum.inr p.1, V.str p.2)
/-- well sorted, by the first m fields -/
def WT (m : Nat) : Tm → Str → Prop
  | .lit s v, z => s = z ∧ valS s v
  | .nam s n, z => (s = "field" ∧ (n, z) ∈ kk.take m) ∨ (s = "has" ∧ z = "flag" ∧ n ∈ (kk.take m).map (·.1))
  | .neg t, z => z = "flag" ∧ WT m t "flag"
  | .bin s l r, z => (s ∈ arS ∧ z = "number" ∧ WT m l "number" ∧ WT m r "number") ∨ (s ∈ boS ∧ z = "flag" ∧ WT m l "flag" ∧ WT m r "flag") ∨
      (s ∈ ltS ∧ z = "flag" ∧ WT m l "number" ∧ WT m r "number") ∨ (s ∈ eqS ∧ z = "flag" ∧ ∃ k, WT m l k ∧ WT m r k)
theorem ar_bin : ∀ s ∈ arS, s ∈ binS := by decide +kernel
theorem bo_bin : ∀ s ∈ boS, s ∈ binS := by decide +kernel
theorem lt_bin : ∀ s ∈ ltS, s ∈ binS := by decide +kernel
theorem eq_bin : ∀ s ∈ eqS, s ∈ binS := by decide +kernel
theorem kk_len : ∀ p ∈ kk, p.1.length ≤ 100 := by decide +kernel
theorem WT.ok {m : Nat} : ∀ {t : Tm} {z : Str}, WT m t z → t.ok
  | .lit s v, z, h => ⟨by rcases h.2 with ⟨e, _⟩ | ⟨e, _⟩ | ⟨e, _⟩ <;> (subst e; decide +kernel), h.2.good⟩
  | .nam s n, z, h => by
    rcases h with ⟨e, h⟩ | ⟨e, _, h⟩
    · subst e
      exact ⟨by decide +kernel, kk_len _ (List.mem_of_mem_take h)⟩
    · subst e
      obtain ⟨p, hp, e⟩ := List.mem_map.mp h
      subst e
      exact ⟨by decide +kernel, kk_len _ (List.mem_of_mem_take hp)⟩
  | .neg t, z, h => h.2.ok
  | .bin s l r, z, h => by
    rcases h with ⟨hs, _, h1, h2⟩ | ⟨hs, _, h1, h2⟩ | ⟨hs, _, h1, h2⟩ | ⟨hs, _, k, h1, h2⟩
    · exact ⟨ar_bin s hs, h1.ok, h2.ok⟩
    · exact ⟨bo_bin s hs, h1.ok, h2.ok⟩
    · exact ⟨lt_bin s hs, h1.ok, h2.ok⟩
    · exact ⟨eq_bin s hs, h1.ok, h2.ok⟩
theorem Ev.free {d b : Addr} {H H' : Hp} (e : Ev d H H') (h : H' b = none) : H b = none := by
  cases hh : H b with
  | none => rfl
  | some o =>
    have := e.same b o (e.drw.ne_of_none h) hh
    rw [this] at h; cases h
/-- one of the texts of a list that was just laid -/
theorem of_disp {d b : Addr} {H : Hp} {Q : VK} {E : XK} (ss : List Str) (hD : Drw H d) (hb : H b = none) (l1 : 1 ≤ ss.length) (l2 : ss.length ≤ 1000) (q : ∀ s H', s ∈ ss → Ev d H H' → Q (.str s) H') : spOf [.ref d, .ref b] (upd H b (.lst (ss.map V.str))) Q E := by
  have ev := Ev.of hD (same_new hb (.lst (ss.map V.str)))
  refine ⟨d, _, rfl, ev.drw, .inr ⟨b, _, rfl, hD.ne_of_none hb, upd_same, by rw [List.length_map]; exact l1, by rw [List.length_map]; exact l2, fun v H' ev' hv => ?_⟩⟩
  obtain ⟨s, hs, rfl⟩ := List.mem_map.mp hv
  exact q s H' hs (ev.trans ev')
/-- pairs of two lists, as tuples -/
theorem comp_pairs {K : PySem.W.Frag} {p q : Addr} {xs ys : List V} {im : List (Option Nat)} {σ : St} {H : Hp} {Q : VK} {te : TE} (hl : xs.length ≤ ys.length) (hp : SqL K H p xs) (hq : SqL K H q ys) (hz : xs.length ≤ sizeLine)
    (he : ∀ x y H' (R : VK), (∀ T, H' T = none → R (.ref T) (upd H' T (.tup [x, y]))) → te (((inner im σ).set 0 (some x)).set 1 (some y)) H' R)
    (hQ : ∀ D (ts : List Addr) H', Same H H' → ts.length = xs.length → (∀ (j : Nat) (t : Addr), ts[j]? = some t → ∃ x y, xs[j]? = some x ∧ ys[j]? = some y ∧ H' t = some (.tup [x, y])) → H' D = none → Q (.ref D) (upd H' D (.lst (ts.map V.ref)))) :
    CompAt im (gTup K 2 (gCons (gName 0) (gCons (gName 1) gNil))) tNoIf te σ Q (Itz K p q) H := by
  refine ⟨fun i m zs H' => m = xs.length - i ∧ i ≤ xs.length ∧ ∃ ts : List Addr, zs = ts.map V.ref ∧ ts.length = i ∧ Same H H' ∧ ∀ (j : Nat) (t : Addr), ts[j]? = some t → ∃ x y, xs[j]? = some x ∧ ys[j]? = some y ∧ H' t = some (.tup [x, y]), ⟨xs.length, by simp, Nat.zero_le _, [], rfl, rfl, Same.refl H, fun j t h => by simp at h⟩, ?_⟩
  rintro i m zs H' ⟨rfl, hi, ts, rfl, rfl, g, hts⟩
  refine ⟨by rw [List.length_map]; omega, ?_⟩
  by_cases hlt : ts.length < xs.length
  · have hlt2 : ts.length < ys.length := by omega
    refine .inr ⟨⟨xs, ys, xs[ts.length], ys[ts.length], g.seq hp, g.seq hq, List.getElem?_eq_getElem hlt, List.getElem?_eq_getElem hlt2⟩, fun u H'' yl => ?_⟩
    obtain ⟨T, rfl, hT, yl⟩ := yl
    obtain ⟨x, y, hx, hy, rfl⟩ := yl xs ys (g.seq hp) (g.seq hq)
    refine ⟨T, [x, y], rfl, SqT.of upd_same, rfl, x, [y], rfl, y, [], rfl, rfl, ?_⟩
    have g2 := same_new hT (.tup [x, y])
    refine he x y _ _ fun T2 hT2 => ⟨xs.length - (ts.length + 1), by omega, rfl, hlt, ts ++ [T2], by simp, by simp, (g.trans g2).trans (same_new hT2 _), fun j t hj => ?_⟩
    by_cases hjl : j < ts.length
    · rw [List.getElem?_append_left hjl] at hj
      obtain ⟨x', y', e1, e2, e3⟩ := hts j t hj
      exact ⟨x', y', e1, e2, same_new hT2 _ _ _ (g2 _ _ e3)⟩
    · rw [List.getElem?_append_right (by omega)] at hj
      have hj0 : j - ts.length = 0 := by
        cases h : j - ts.length with
        | zero => rfl
        | succ k => rw [h] at hj; simp at hj
      rw [hj0] at hj
      have ej : j = ts.length := by omega
      have et : T2 = t := by simpa using hj
      subst et ej
      exact ⟨x, y, hx, hy, upd_same⟩
  · have e : ts.length = xs.length := by omega
    exact .inl ⟨⟨xs, ys, g.seq hp, g.seq hq, (by omega)⟩, fun D hD => hQ D ts H' g e hts hD⟩
section
variable {P : Program} {w : World} {K : PySem.W.Frag} {mg : Str → Option Value} {base : Heap} {a : Adr}
theorem kk_cut {r : Int} (h0 : 0 ≤ r) (h1 : r < 4) : ∃ m, 3 ≤ m ∧ m ≤ 6 ∧ cutV (kk.map fun p => V.str p.1) none (some (3 + r)) = (kk.take m).map (fun p => V.str p.1) ∧ foldK (KD m) = KD m := by
  have : r = 0 ∨ r = 1 ∨ r = 2 ∨ r = 3 := by omega
  rcases this with rfl | rfl | rfl | rfl
  · exact ⟨3, by decide, by decide, by decide +kernel, by decide +kernel⟩
  · exact ⟨4, by decide, by decide, by decide +kernel, by decide +kernel⟩
  · exact ⟨5, by decide, by decide, by decide +kernel, by decide +kernel⟩
  · exact ⟨6, by decide, by decide, by decide +kernel, by decide +kernel⟩
def spKinds : Sp := fun vs H Q _ => ∃ d, vs = [.ref d] ∧ Drw H d ∧ ∀ kd m H', 3 ≤ m → m ≤ 6 → H kd = none → Ev d H H' → H' kd = some (.dK (KD m)) → Q (.ref kd) H'
theorem ok_kinds (T : Txt K mg a) : FnOk P w K mg base CX0 2 a.f_kinds a.d_kinds ["_law_draw"] spKinds := by
  refine T.F_kinds.ok sc_kinds (fun vs H Q E h => ?_) (fun cdv A outer s H vs Q E hr h => ?_)
  · obtain ⟨x, rfl, _⟩ := h; rfl
  obtain ⟨d, rfl, hD, q⟩ := h
  refine ⟨_, (pss_cons (ps_set (i := 1) sc_kinds.nd rfl (by first | exact Or.inl rfl | exact Or.inr rfl) (pe_slice sl_list (pe_lst (pa_cons pe_str (pa_cons pe_str (pa_cons pe_str (pa_cons pe_str (pa_cons pe_str (pa_cons pe_str pa_nil))))))) po_none (po_some (pe_op op_add pe_int (pe_call (ok_take T) (hr.mono (by decide)) rfl T.m_take T.F_take.kp T.b_take .nil pass0 (pa_cons (pv 0) (pa_cons pe_int pa_nil))))))) (pss_cons (ps_set (i := 2) sc_kinds.nd rfl (by first | exact Or.inl rfl | exact Or.inr rfl) (pe_lst (pa_cons pe_str (pa_cons pe_str (pa_cons pe_str (pa_cons pe_str (pa_cons pe_str (pa_cons pe_str pa_nil)))))))) (pss_one (ps_ret (pe_callTy (call_dictP rfl) rfl T.n_dict (by decide +kernel) (pa_cons (pe_comp (g := gTup K 2 (gCons (gName 0) (gCons (gName 1) gNil))) ["_law_name", "_law_sort_here"] [none, none] (pi_zip rfl T.n_zip (pa_cons (pv 1) (pa_cons (pv 2) pa_nil))) (fun _ _ _ _ _ => (pg_tup (n := 2) rfl (pgs_cons (pg_name (i := 0) (show List.Nodup (["_law_name", "_law_sort_here"] : List Str) from by decide +kernel) rfl (Or.inl rfl) (Or.inr rfl)) (pgs_cons (pg_name (i := 1) (show List.Nodup (["_law_name", "_law_sort_here"] : List Str) from by decide +kernel) rfl (Or.inl rfl) (Or.inr rfl)) pgs_nil)))) (fun _ _ _ _ _ => pts_nil) (fun _ _ _ _ _ => (pe_tup (pa_cons (pv 0) (pa_cons (pv 1) pa_nil))))) pa_nil)))))), ?_⟩
  refine ⟨small (n := 6) (by decide), fun l hl => ?_⟩
  have ev0 := Ev.of hD (same_new hl (.lst (kk.map fun p => V.str p.1)))
  refine ⟨_, rfl, d, _, rfl, ev0.drw, by decide, by decide, fun r H1 r0 r1 ev1 => ?_⟩
  obtain ⟨m, m1, m2, hcut, hfold⟩ := kk_cut r0 r1
  refine ⟨_, _, rfl, rfl, _, rfl, l, _, rfl, SqL.of (ev1.same _ _ (hD.ne_of_none hl) upd_same), fun p hp => ?_⟩
  refine ⟨small (n := 6) (by decide), fun l2 hl2 => ?_⟩
  have hc : cutV [.str "took", .str "user", .str "ok", .str "a", .str "level", .str "that_x"] none (some (3 + r)) = (kk.take m).map (fun p => V.str p.1) := hcut
  rw [hc] at hl2 ⊢
  have g2 := same_new hp (.lst ((kk.take m).map (fun p => V.str p.1)))
  have g3 := same_new hl2 (.lst (kk.map fun p => V.str p.2))
  have hxl : ((kk.take m).map (fun p => V.str p.1)).length = m := by rw [List.length_map, List.length_take]; show min m 6 = m; omega
  refine ⟨_, rfl, _, rfl, p, l2, rfl, ⟨_, SqL.of (g3 _ _ upd_same)⟩, ⟨_, SqL.of upd_same⟩, ?_⟩
  refine comp_pairs (xs := (kk.take m).map (fun p => V.str p.1)) (ys := kk.map fun p => V.str p.2) (by rw [hxl]; show m ≤ 6; omega) (SqL.of (g3 _ _ upd_same)) (SqL.of upd_same) (small (by omega)) (fun x y H' R hR => ?_) (fun D ts H' g hts hT hDn => ?_)
  · exact ⟨_, rfl, _, rfl, small (n := 2) (by decide), hR⟩
  · have g4 := same_new hDn (.lst (ts.map V.ref))
    refine ⟨D, ts, KD m, rfl, upd_same, by rw [hts, hxl]; show m = ((kk.take m).map _).length; rw [List.length_map, List.length_take]; show m = min m 6; omega, fun j t kv hj hkv => ?_, fun kd hkd => ?_⟩
    · obtain ⟨x, y, e1, e2, e3⟩ := hT j t hj
      refine g4 _ _ ?_
      rw [e3]
      unfold KD at hkv
      rw [List.getElem?_map] at hkv e1 e2
      cases ek : (kk.take m)[j]? with
      | none => rw [ek] at hkv; cases hkv
      | some pr =>
        have ek2 : kk[j]? = some pr := by
          rw [List.getElem?_take] at ek
          split at ek
          · exact ek
          · cases ek
        rw [ek] at hkv e1
        rw [ek2] at e2
        cases hkv; cases e1; cases e2
        rfl
    · have gg := ((g2.trans g3).trans g).trans g4
      have hkd0 : H kd = none := ((ev0.trans ev1).then gg).free hkd
      rw [hfold]
      exact q kd m _ m1 m2 hkd0 (((ev0.trans ev1).then gg).then (same_new hkd _)) upd_same
/-! ### leaves -/
theorem kd_keys (m : Nat) : ((KD m).map (·.1)).map kV = ((kk.take m).map (·.1)).map V.str := by
  unfold KD
  rw [List.map_map, List.map_map, List.map_map]
  rfl
theorem kd_val : ∀ m, 3 ≤ m → m ≤ 6 → ∀ p ∈ kk.take m, valV (KD m) (Sum.inr p.1) = some (.str p.2) := by
  intro m h1 h2
  have : m = 3 ∨ m = 4 ∨ m = 5 ∨ m = 6 := by omega
  rcases this with rfl | rfl | rfl | rfl <;> decide +kernel
theorem eqLs_nil {ss : List Str} (h : ¬ eqLs (ss.map V.str) [] = true) : 1 ≤ ss.length := by
  cases ss with
  | nil => exact absurd rfl h
  | cons s ss => rw [List.length_cons]; omega
theorem flat_strs (ss : List Str) : (ss.map V.str).all flatV = true := by
  rw [List.all_eq_true]
  intro x hx
  obtain ⟨s, _, rfl⟩ := List.mem_map.mp hx
  rfl
/-- where the kinds lie, and what the draw and they are to one another -/
structure Kd (H : Hp) (d kd : Addr) (m : Nat) : Prop where
  drw : Drw H d
  at' : H kd = some (.dK (KD m))
  lo : 3 ≤ m
  hi : m ≤ 6
theorem Kd.ne {H : Hp} {d kd : Addr} {m : Nat} (h : Kd H d kd m) : kd ≠ d := fun z => by
  obtain ⟨xs, e⟩ := h.drw.some
  have := h.at'
  rw [z, e] at this; cases this
theorem Kd.ev {H H' : Hp} {d kd : Addr} {m : Nat} (h : Kd H d kd m) (e : Ev d H H') : Kd H' d kd m := ⟨e.drw, e.same _ _ h.ne h.at', h.lo, h.hi⟩
def spLeaf : Sp := fun vs H Q _ => ∃ d kd m z, vs = [.ref d, .ref kd, .str z] ∧ Kd H d kd m ∧ (z = "number" ∨ z = "flag" ∨ z = "word") ∧ ∀ v t H', Ev d H H' → TmAt H' v t → WT m t z → t.deep = 0 → Q v H'
theorem ok_leaf (T : Txt K mg a) : FnOk P w K mg base CX0 6 a.f_leaf a.d_leaf ["_law_draw", "_law_kinds_here", "_law_sort_here"] spLeaf := by
  refine T.F_leaf.ok sc_leaf (fun vs H Q E h => ?_) (fun cdv A outer s H vs Q E hr h => ?_)
  · obtain ⟨_, _, _, _, rfl, _⟩ := h; rfl
  obtain ⟨d, kd, m, z, rfl, hK, hz, q⟩ := h
  have hu := hr.units0
  have hu1 := hu_of hr
  refine ⟨_, (pss_cons (ps_setC (i := 3) sc_leaf.nd rfl (by first | exact Or.inl rfl | exact Or.inr rfl) ["_law_name", "_law_kinds_here", "_law_sort_here"] [none, some 1, some 2] (pi_list (pe_callB call_sortedS rfl T.n_sorted (by decide +kernel) (pa_cons (pe_callTy (call_listD rfl) rfl T.n_list (by decide +kernel) (pa_cons (pv 1) pa_nil)) pa_nil))) (fun _ _ _ _ _ => (pg_name (i := 0) (show List.Nodup (["_law_name", "_law_kinds_here", "_law_sort_here"] : List Str) from by decide +kernel) rfl (Or.inl rfl) (Or.inr rfl))) (fun _ _ _ _ _ => (pts_one (pt_cmpR op_eq (pe_dget hu1 (pv 1) (pv 0) (fun _ _ => rfl)) (pv 2) (nomark _)))) (fun _ _ _ _ _ => (pv 0))) (pss_cons (ps_if (PW.pt (pw_or (pt_cmpR (op_eqL hu) (pv 3) (pe_lst pa_nil) (nomark _)) (pw_or1 (pt_cmpR op_eq (pe_call (ok_take T) (hr.mono (by decide)) rfl T.m_take T.F_take.kp T.b_take .nil pass0 (pa_cons (pv 0) (pa_cons pe_int pa_nil))) pe_int (nomark _))))) (pss_one (ps_ret (pe_tup (pa_cons (pv 2) (pa_cons (pe_call (ok_value T) (hr.mono (by decide)) rfl T.m_value T.F_value.kp T.b_value .nil pass0 (pa_cons (pv 0) (pa_cons (pv 2) pa_nil))) pa_nil))))) pss_nil) (pss_one (ps_ret (pe_tup (pa_cons pe_str (pa_cons (pe_call (ok_of T) (hr.mono (by decide)) rfl T.m_of T.F_of.kp T.b_of .nil pass0 (pa_cons (pv 0) (pa_cons (pv 3) pa_nil))) pa_nil))))))), ?_⟩
  refine ⟨_, rfl, kd, _, rfl, .inl hK.at', fun l1 hl1 => ?_⟩
  rw [kd_keys]
  have g1 := same_new hl1 (.lst (((kk.take m).map (·.1)).map V.str))
  have klen : ((kk.take m).map (·.1)).length ≤ 6 := by rw [List.length_map, List.length_take]; show min m 6 ≤ 6; omega
  refine ⟨l1, _, rfl, SqL.of upd_same, by omega, fun ss l2 hpm _ hl2 => ?_⟩
  have g2 := same_new hl2 (.lst (ss.map V.str))
  have ev2 := Ev.of hK.drw (g1.trans g2)
  have sl : ss.length ≤ 6 := by rw [hpm.length_eq]; exact klen
  have K2 := hK.ev ev2
  refine ⟨l2, rfl, ⟨_, SqL.of upd_same⟩, ?_⟩
  refine comp_listF (xs := ss.map V.str) (fun i ys H' => H' = _ ∧ ∃ zs : List Str, ys = zs.map V.str ∧ zs.length ≤ i ∧ ∀ n ∈ zs, (n, z) ∈ kk.take m) ⟨rfl, [], rfl, Nat.le_refl _, by simp⟩ (fun i ys H' hi hR => ?_) (fun i x ys H' N hx hR hN => ?_) (fun ys H' hR D hDn => ?_)
  · obtain ⟨rfl, zs, rfl, h1, _⟩ := hR
    rw [List.length_map] at hi ⊢
    exact ⟨small (by omega), SqL.of upd_same⟩
  · obtain ⟨rfl, zs, rfl, h1, h2⟩ := hR
    rw [List.getElem?_map] at hx
    obtain ⟨n, hn, rfl⟩ := Option.map_eq_some_iff.mp hx
    have hmem : n ∈ (kk.take m).map (·.1) := hpm.mem_iff.mp (List.mem_of_getElem? hn)
    obtain ⟨pr, hpr, rfl⟩ := List.mem_map.mp hmem
    have hv := kd_val m hK.lo hK.hi pr hpr
    refine ⟨_, rfl, _, rfl, kd, .str pr.2, rfl, ?_, _, rfl, rfl, _, rfl, ?_⟩
    · have := DGet.k (k := Sum.inr pr.1) K2.at'
      rw [hv] at this
      exact this
    · refine ite2 (fun k => ?_) (fun k => ?_)
      · have e : pr.2 = z := by
          have := of_decide_eq_true k
          injection this
        refine ⟨_, rfl, hN _ _ ⟨rfl, zs ++ [pr.1], by simp, by simp; omega, fun n hn => ?_⟩⟩
        rcases List.mem_append.mp hn with hn | hn
        · exact h2 n hn
        · have : n = pr.1 := by simpa using hn
          rw [this, ← e]; exact hpr
      · exact hN _ _ ⟨rfl, zs, rfl, by omega, h2⟩
  · obtain ⟨rfl, zs, rfl, h1, h2⟩ := hR
    rw [List.length_map] at h1
    have g3 := same_new hDn (.lst (zs.map V.str))
    have ev3 := ev2.then g3
    have lit : ∀ H4, Ev d H H4 → tRet (tTup (tCons (tVar 2) (tCons (tCall spVal [] E (tCons (tVar 0) (tCons (tVar 2) tNil))) tNil))) { nx := fun _ H' => Q .non H', rt := Q } [some (.ref d), some (.ref kd), some (.str z), some (.ref D)] H4 := fun H4 ev4 => by
      refine ⟨_, rfl, _, rfl, _, rfl, d, _, rfl, ev4.drw, hz, fun v H5 ev5 hv => ⟨small (n := 2) (by decide), fun t ht => ?_⟩⟩
      exact q _ (.lit z v) _ ((ev4.trans ev5).then (same_new ht _)) ⟨t, rfl, upd_same⟩ ⟨rfl, hv⟩ rfl
    refine ⟨_, rfl, small (n := 0) (by decide), fun e he => ?_⟩
    have g4 := same_new he (.lst [])
    refine ⟨D, e, _, _, rfl, rfl, SqL.of (g4 _ _ upd_same), SqL.of upd_same, flat_strs zs, rfl, _, rfl, ?_⟩
    refine ite2 (fun k => iteT ?_) (fun k => ?_)
    · exact lit _ (ev3.then g4)
    have ev4 := ev3.then g4
    refine ⟨_, rfl, d, _, rfl, ev4.drw, by decide, by decide, fun r H5 _ _ ev5 => ⟨rfl, _, rfl, ?_⟩⟩
    have ev6 := ev4.trans ev5
    refine ite2 (fun k => ?_) (fun k => ?_)
    · exact lit _ ev6
    have hD5 : H5 D = some (.lst (zs.map V.str)) := ev5.same _ _ (ev2.drw.ne_of_none hDn) (g4 _ _ upd_same)
    have h1' := eqLs_nil (ss := zs) (by assumption)
    refine ⟨_, rfl, _, rfl, d, _, rfl, ev6.drw, .inr ⟨D, _, rfl, ev2.drw.ne_of_none hDn, hD5, by rw [List.length_map]; exact h1', by rw [List.length_map]; omega, fun v H7 ev7 hv => ⟨small (n := 2) (by decide), fun t ht => ?_⟩⟩⟩
    obtain ⟨n, hn, rfl⟩ := List.mem_map.mp hv
    exact q _ (.nam "field" n) _ ((ev6.trans ev7).then (same_new ht _)) ⟨t, rfl, upd_same⟩ (.inl ⟨rfl, h2 n hn⟩) rfl
end

section
variable {P : Program} {w : World} {K : PySem.W.Frag} {mg : Str → Option Value} {base : Heap} {a : Adr}
def spTerm (n : Nat) : Sp := fun vs H Q _ => ∃ d kd m z, ∃ i : Int, vs = [.ref d, .ref kd, .str z, .int i] ∧ Kd H d kd m ∧ (z = "number" ∨ z = "flag" ∨ z = "word") ∧ 0 ≤ i ∧ i < n ∧ ∀ v t H', Ev d H H' → TmAt H' v t → WT m t z → (t.deep : Int) ≤ i → Q v H'
def spTwo (n : Nat) : Sp := fun vs H Q _ => ∃ d kd m z sg, ∃ i : Int, vs = [.ref d, .ref kd, .str z, .int i, .str sg] ∧ Kd H d kd m ∧ (z = "number" ∨ z = "flag" ∨ z = "word") ∧ 1 ≤ i ∧ i ≤ n ∧
  ∀ v l r H', Ev d H H' → TmAt H' v (.bin sg l r) → WT m l z → WT m r z → (l.deep : Int) + 1 ≤ i → (r.deep : Int) + 1 ≤ i → Q v H'
theorem ok_two (T : Txt K mg a) (n : Nat) (ih : FnOk P w K mg base CX0 (5 + 2 * n) a.f_term a.d_term ["_law_draw", "_law_kinds_here", "_law_sort_here", "_law_deep"] (spTerm n)) :
    FnOk P w K mg base CX0 (5 + 2 * n + 1) a.f_two_parts a.d_two_parts ["_law_draw", "_law_kinds_here", "_law_sort_here", "_law_deep", "_law_sign"] (spTwo n) := by
  refine T.F_two_parts.ok sc_two_parts (fun vs H Q E h => ?_) (fun cdv A outer s H vs Q E hr h => ?_)
  · obtain ⟨_, _, _, _, _, _, rfl, _⟩ := h; rfl
  obtain ⟨d, kd, m, z, sg, i, rfl, hK, hz, i1, i2, q⟩ := h
  refine ⟨_, (pss_cons (ps_set (i := 5) sc_two_parts.nd rfl (by first | exact Or.inl rfl | exact Or.inr rfl) (pe_call ih (hr.mono (by omega)) rfl T.m_term T.F_term.kp T.b_term .nil pass0 (pa_cons (pv 0) (pa_cons (pv 1) (pa_cons (pv 2) (pa_cons (pe_op op_sub (pv 3) pe_int) pa_nil)))))) (pss_one (ps_ret (pe_tup (pa_cons (pv 4) (pa_cons (pv 5) (pa_cons (pe_call ih (hr.mono (by omega)) rfl T.m_term T.F_term.kp T.b_term .nil pass0 (pa_cons (pv 0) (pa_cons (pv 1) (pa_cons (pv 2) (pa_cons (pe_op op_sub (pv 3) pe_int) pa_nil))))) pa_nil))))))), ?_⟩
  refine ⟨_, rfl, _, rfl, _, rfl, _, rfl, _, _, rfl, rfl, d, kd, m, z, i - 1, rfl, hK, hz, by omega, by omega, fun v l H1 ev1 hl wl dl => ?_⟩
  refine ⟨_, rfl, _, rfl, _, rfl, _, rfl, _, rfl, _, rfl, _, _, rfl, rfl, d, kd, m, z, i - 1, rfl, hK.ev ev1, hz, by omega, by omega, fun v2 r H2 ev2 hr2 wr dr => ?_⟩
  refine ⟨small (n := 3) (by decide), fun t ht => ?_⟩
  have g := same_new ht (.tup [.str sg, v, v2])
  exact q _ l r _ ((ev1.trans ev2).then g) ⟨t, v, v2, rfl, upd_same, (hl.ev ev1.drw ev2).same g, hr2.same g⟩ wl wr (by omega) (by omega)
theorem six_cut : cutV [.str "=", .str "!=", .str "<", .str "<=", .str ">", .str ">="] none (some (2 + 4 * 1)) = (["=", "!=", "<", "<=", ">", ">="] : List Str).map V.str := by decide +kernel
theorem two_cut : cutV [.str "=", .str "!=", .str "<", .str "<=", .str ">", .str ">="] none (some (2 + 4 * 0)) = (["=", "!="] : List Str).map V.str := by decide +kernel
theorem six_in : ∀ s ∈ (["=", "!=", "<", "<=", ">", ">="] : List Str), s ∈ eqS ∨ s ∈ ltS := by decide +kernel
theorem ar4_in : ∀ s ∈ (["+", "-", "*", "-"] : List Str), s ∈ arS := by decide +kernel
theorem sort4_in : ∀ s ∈ (["number", "number", "word", "flag"] : List Str), s = "number" ∨ s = "flag" ∨ s = "word" := by decide +kernel
theorem ok_term_succ (T : Txt K mg a) (n : Nat) (ih : FnOk P w K mg base CX0 (5 + 2 * n) a.f_term a.d_term ["_law_draw", "_law_kinds_here", "_law_sort_here", "_law_deep"] (spTerm n))
    (ih2 : FnOk P w K mg base CX0 (5 + 2 * n + 1) a.f_two_parts a.d_two_parts ["_law_draw", "_law_kinds_here", "_law_sort_here", "_law_deep", "_law_sign"] (spTwo n)) :
    FnOk P w K mg base CX0 (5 + 2 * n + 1 + 1) a.f_term a.d_term ["_law_draw", "_law_kinds_here", "_law_sort_here", "_law_deep"] (spTerm (n + 1)) := by
  refine T.F_term.ok sc_term (fun vs H Q E h => ?_) (fun cdv A outer s H vs Q E hr h => ?_)
  · obtain ⟨_, _, _, _, _, rfl, _⟩ := h; rfl
  obtain ⟨d, kd, m, z, i, rfl, hK, hz, i1, i2, q⟩ := h
  have leaf : ∀ H1, Ev d H H1 → spLeaf [.ref d, .ref kd, .str z] H1 Q E := fun H1 ev => ⟨d, kd, m, z, rfl, hK.ev ev, hz, fun v t H' ev' ht hw hd => q v t H' (ev.trans ev') ht hw (by rw [hd]; omega)⟩
  have two : ∀ (H1 : Hp) (sg z' : Str), Ev d H H1 → 1 ≤ i → (z' = "number" ∨ z' = "flag" ∨ z' = "word") → (∀ l r, WT m l z' → WT m r z' → WT m (.bin sg l r) z) → spTwo n [.ref d, .ref kd, .str z', .int i, .str sg] H1 Q E :=
    fun H1 sg z' ev j1 hz' hw => ⟨d, kd, m, z', sg, i, rfl, hK.ev ev, hz', j1, by omega, fun v l r H' ev' ht wl wr dl dr => q v _ H' (ev.trans ev') ht (hw l r wl wr) (by
      have e : (Tm.bin sg l r).deep = max l.deep r.deep + 1 := rfl
      rw [e]; omega)⟩
  refine ⟨_, (pss_cons (ps_if (PW.pt (pw_or (pt_cmpR op_eq (pv 3) pe_int (nomark _)) (pw_or (pt_cmpR op_eq (pv 2) pe_str (nomark _)) (pw_or1 (pt_cmpR op_eq (pe_call (ok_take T) (hr.mono (by omega)) rfl T.m_take T.F_take.kp T.b_take .nil pass0 (pa_cons (pv 0) (pa_cons pe_int pa_nil))) pe_int (nomark _)))))) (pss_one (ps_ret (pe_call (ok_leaf T) (hr.mono (by omega)) rfl T.m_leaf T.F_leaf.kp T.b_leaf .nil pass0 (pa_cons (pv 0) (pa_cons (pv 1) (pa_cons (pv 2) pa_nil)))))) pss_nil) (pss_cons (ps_if (pt_cmpR op_eq (pv 2) pe_str (nomark _)) (pss_cons (ps_set (i := 4) sc_term.nd rfl (by first | exact Or.inl rfl | exact Or.inr rfl) (pe_call (ok_of T) (hr.mono (by omega)) rfl T.m_of T.F_of.kp T.b_of .nil pass0 (pa_cons (pv 0) (pa_cons (pe_lst (pa_cons pe_str (pa_cons pe_str (pa_cons pe_str (pa_cons pe_str pa_nil))))) pa_nil)))) (pss_one (ps_ret (pe_call ih2 (hr.mono (by omega)) rfl T.m_two_parts T.F_two_parts.kp T.b_two_parts .nil pass0 (pa_cons (pv 0) (pa_cons (pv 1) (pa_cons (pv 2) (pa_cons (pv 3) (pa_cons (pv 4) pa_nil))))))))) pss_nil) (pss_cons (ps_set (i := 5) sc_term.nd rfl (by first | exact Or.inl rfl | exact Or.inr rfl) (pe_call (ok_take T) (hr.mono (by omega)) rfl T.m_take T.F_take.kp T.b_take .nil pass0 (pa_cons (pv 0) (pa_cons pe_int pa_nil)))) (pss_cons (ps_if (pt_cmpR op_lt (pv 5) pe_int (nomark _)) (pss_one (ps_ret (pe_call ih2 (hr.mono (by omega)) rfl T.m_two_parts T.F_two_parts.kp T.b_two_parts .nil pass0 (pa_cons (pv 0) (pa_cons (pv 1) (pa_cons (pv 2) (pa_cons (pv 3) (pa_cons (pe_call (ok_of T) (hr.mono (by omega)) rfl T.m_of T.F_of.kp T.b_of .nil pass0 (pa_cons (pv 0) (pa_cons (pe_lst (pa_cons pe_str (pa_cons pe_str pa_nil))) pa_nil))) pa_nil)))))))) pss_nil) (pss_cons (ps_if (pt_cmpR op_eq (pv 5) pe_int (nomark _)) (pss_one (ps_ret (pe_tup (pa_cons pe_str (pa_cons (pe_call ih (hr.mono (by omega)) rfl T.m_term T.F_term.kp T.b_term .nil pass0 (pa_cons (pv 0) (pa_cons (pv 1) (pa_cons (pv 2) (pa_cons (pe_op op_sub (pv 3) pe_int) pa_nil))))) pa_nil))))) pss_nil) (pss_cons (ps_if (pt_cmpR op_eq (pv 5) pe_int (nomark _)) (pss_one (ps_ret (pe_tup (pa_cons pe_str (pa_cons (pe_call (ok_of T) (hr.mono (by omega)) rfl T.m_of T.F_of.kp T.b_of .nil pass0 (pa_cons (pv 0) (pa_cons (pe_callB call_sortedS rfl T.n_sorted (by decide +kernel) (pa_cons (pe_callTy (call_listD rfl) rfl T.n_list (by decide +kernel) (pa_cons (pv 1) pa_nil)) pa_nil)) pa_nil))) pa_nil))))) pss_nil) (pss_cons (ps_set (i := 6) sc_term.nd rfl (by first | exact Or.inl rfl | exact Or.inr rfl) (pe_call (ok_of T) (hr.mono (by omega)) rfl T.m_of T.F_of.kp T.b_of .nil pass0 (pa_cons (pv 0) (pa_cons (pe_lst (pa_cons pe_str (pa_cons pe_str (pa_cons pe_str (pa_cons pe_str pa_nil))))) pa_nil)))) (pss_cons (ps_set (i := 4) sc_term.nd rfl (by first | exact Or.inl rfl | exact Or.inr rfl) (pe_call (ok_of T) (hr.mono (by omega)) rfl T.m_of T.F_of.kp T.b_of .nil pass0 (pa_cons (pv 0) (pa_cons (pe_slice sl_list (pe_lst (pa_cons pe_str (pa_cons pe_str (pa_cons pe_str (pa_cons pe_str (pa_cons pe_str (pa_cons pe_str pa_nil))))))) po_none (po_some (pe_op op_add pe_int (pe_op op_mul pe_int (pe_callTy call_int1 rfl T.n_int (by decide +kernel) (pa_cons (pe_cmpR op_eq (pv 6) pe_str (nomark _)) pa_nil)))))) pa_nil)))) (pss_one (ps_ret (pe_call ih2 (hr.mono (by omega)) rfl T.m_two_parts T.F_two_parts.kp T.b_two_parts .nil pass0 (pa_cons (pv 0) (pa_cons (pv 1) (pa_cons (pv 6) (pa_cons (pv 3) (pa_cons (pv 4) pa_nil)))))))))))))))), ?_⟩
  refine ⟨_, rfl, rfl, _, rfl, ite2 (fun k1 => iteT ⟨_, rfl, _, rfl, _, rfl, leaf _ (Ev.refl hK.drw)⟩) (fun k1 => ⟨_, rfl, rfl, _, rfl, ite2 (fun k2 => iteT ⟨_, rfl, _, rfl, _, rfl, leaf _ (Ev.refl hK.drw)⟩) (fun k2 => ?_)⟩)⟩
  have j1 : 1 ≤ i := by
    have : i ≠ 0 := fun e => k1 (by rw [e]; rfl)
    omega
  refine ⟨_, rfl, d, _, rfl, hK.drw, by decide, by decide, fun r H1 _ _ ev1 => ⟨rfl, _, rfl, ite2 (fun k3 => ⟨_, rfl, _, rfl, _, rfl, leaf _ ev1⟩) (fun k3 => ?_)⟩⟩
  refine ⟨_, rfl, rfl, _, rfl, ite2 (fun k4 => ?_) (fun k4 => ?_)⟩
  · have ez : z = "number" := by have := of_decide_eq_true k4; injection this
    refine ⟨_, rfl, small (n := 4) (by decide), fun b hb => ?_⟩
    dsimp only [tCons, tNil]
    refine of_disp ["+", "-", "*", "-"] ev1.drw hb (by decide) (by decide) fun sg H2 hs ev2 => ?_
    exact ⟨_, rfl, _, rfl, _, rfl, _, rfl, _, rfl, two _ sg z (ev1.trans ev2) j1 hz fun l r wl wr => .inl ⟨ar4_in sg hs, ez, by rw [ez] at wl; exact wl, by rw [ez] at wr; exact wr⟩⟩
  have ez : z = "flag" := by
    rcases hz with e | e | e
    · exact absurd (by rw [e]; rfl) k4
    · exact e
    · exact absurd (by rw [e]; rfl) k2
  refine ⟨_, rfl, d, _, rfl, ev1.drw, by decide, by decide, fun r2 H2 _ _ ev2 => ?_⟩
  have ev12 := ev1.trans ev2
  refine ⟨_, rfl, _, _, rfl, rfl, _, rfl, ite2 (fun k5 => ?_) (fun k5 => ?_)⟩
  · refine ⟨_, rfl, _, rfl, _, rfl, _, rfl, _, rfl, small (n := 2) (by decide), fun b hb => ?_⟩
    dsimp only [tCons, tNil]
    refine of_disp ["and", "or"] ev12.drw hb (by decide) (by decide) fun sg H3 hs ev3 => ?_
    exact two _ sg z (ev12.trans ev3) j1 hz fun l r wl wr => .inr (.inl ⟨hs, ez, by rw [ez] at wl; exact wl, by rw [ez] at wr; exact wr⟩)
  refine ⟨_, rfl, rfl, _, rfl, ite2 (fun k6 => ?_) (fun k6 => ?_)⟩
  · refine ⟨_, rfl, _, rfl, _, rfl, _, rfl, _, _, rfl, rfl, d, kd, m, z, i - 1, rfl, hK.ev ev12, hz, by omega, by omega, fun v t H3 ev3 ht wt dt => ⟨small (n := 2) (by decide), fun p hp => ?_⟩⟩
    have g := same_new hp (.tup [.str "not", v])
    exact q _ (.neg t) _ ((ev12.trans ev3).then g) ⟨p, v, rfl, upd_same, ht.same g⟩ ⟨ez, by rw [ez] at wt; exact wt⟩ (by
      have e : (Tm.neg t).deep = t.deep + 1 := rfl
      rw [e]; omega)
  have K2 := hK.ev ev12
  refine ⟨_, rfl, rfl, _, rfl, ite2 (fun k7 => ?_) (fun k7 => ?_)⟩
  · refine ⟨_, rfl, _, rfl, kd, _, rfl, .inl K2.at', fun l1 hl1 => ?_⟩
    rw [kd_keys]
    have g1 := same_new hl1 (.lst (((kk.take m).map (·.1)).map V.str))
    have klen : ((kk.take m).map (·.1)).length = m := by rw [List.length_map, List.length_take]; show min m 6 = m; have := hK.hi; omega
    have := hK.lo; have := hK.hi
    refine ⟨l1, _, rfl, SqL.of upd_same, by omega, fun ss l2 hpm _ hl2 => ?_⟩
    have g2 := same_new hl2 (.lst (ss.map V.str))
    have ev3 := ev12.then (g1.trans g2)
    have sl := hpm.length_eq
    refine ⟨d, _, rfl, ev3.drw, .inr ⟨l2, _, rfl, (ev12.then g1).drw.ne_of_none hl2, upd_same, by rw [List.length_map]; omega, by rw [List.length_map]; omega, fun v H4 ev4 hv => ⟨small (n := 2) (by decide), fun p hp => ?_⟩⟩⟩
    obtain ⟨nm, hn, rfl⟩ := List.mem_map.mp hv
    exact q _ (.nam "has" nm) _ ((ev3.trans ev4).then (same_new hp _)) ⟨p, rfl, upd_same⟩ (.inr ⟨rfl, ez, hpm.mem_iff.mp hn⟩) i1
  refine ⟨_, rfl, small (n := 4) (by decide), fun b hb => ?_⟩
  dsimp only [tCons, tNil]
  refine of_disp ["number", "number", "word", "flag"] ev12.drw hb (by decide) (by decide) fun z' H3 hs' ev3 => ?_
  have hz' := sort4_in z' hs'
  have ev123 := ev12.trans ev3
  refine ⟨_, rfl, small (n := 6) (by decide), fun l hl => ⟨_, rfl, rfl, .inr ⟨_, rfl, _, _, rfl, rfl, .inl ⟨by decide, by decide⟩, _, _, rfl, rfl, _, rfl, l, _, rfl, SqL.of upd_same, fun p hp => ?_⟩⟩⟩
  have evl := ev123.then (same_new hl (.lst [.str "=", .str "!=", .str "<", .str "<=", .str ">", .str ">="]))
  by_cases ek : z' = "number"
  · subst ek
    have e : (if decide (V.str "number" = V.str "number") = true then (1 : Int) else 0) = 1 := by decide +kernel
    rw [e, six_cut]
    dsimp only [tCons, tNil]
    refine of_disp ["=", "!=", "<", "<=", ">", ">="] evl.drw hp (by decide) (by decide) fun sg H4 hs ev4 => ?_
    refine ⟨_, rfl, _, rfl, _, rfl, _, rfl, _, rfl, two _ sg "number" (evl.trans ev4) j1 (.inl rfl) fun l r wl wr => ?_⟩
    rcases six_in sg hs with h | h
    · exact .inr (.inr (.inr ⟨h, ez, _, wl, wr⟩))
    · exact .inr (.inr (.inl ⟨h, ez, wl, wr⟩))
  · have e : (if decide (V.str z' = V.str "number") = true then (1 : Int) else 0) = 0 := by
      have : decide (V.str z' = V.str "number") = false := decide_eq_false fun h => ek (by injection h)
      rw [this]; rfl
    rw [e, two_cut]
    dsimp only [tCons, tNil]
    refine of_disp ["=", "!="] evl.drw hp (by decide) (by decide) fun sg H4 hs ev4 => ?_
    exact ⟨_, rfl, _, rfl, _, rfl, _, rfl, _, rfl, two _ sg z' (evl.trans ev4) j1 hz' fun l r wl wr => .inr (.inr (.inr ⟨hs, ez, _, wl, wr⟩))⟩
theorem ok_term (T : Txt K mg a) : ∀ n, FnOk P w K mg base CX0 (5 + 2 * n) a.f_term a.d_term ["_law_draw", "_law_kinds_here", "_law_sort_here", "_law_deep"] (spTerm n)
  | 0 => fn_false fun vs H Q E h => by obtain ⟨_, _, _, _, i, _, _, _, h1, h2, _⟩ := h; omega
  | n + 1 => ok_term_succ T n (ok_term T n) (ok_two T n (ok_term T n))
end

end My

set_option Elab.async false
set_option linter.all false
set_option maxRecDepth 100000
set_option maxHeartbeats 4000000
namespace My
open PySem L2
/-! ### names in a term -/
/-- the parts of a term -/
def Tm.kids : Tm → List Tm
  | .lit _ _ => []
  | .nam _ _ => []
  | .neg t => [t]
  | .bin _ l r => [l, r]
/-- things and the terms that they are -/
def TmsAt (H : Hp) : List V → List Tm → Prop
  | [], [] => True
  | u :: us, t :: ts => TmAt H u t ∧ TmsAt H us ts
  | _, _ => False
theorem TmsAt.same {H H' : Hp} (g : Same H H') : ∀ {us : List V} {ts : List Tm}, TmsAt H us ts → TmsAt H' us ts
  | [], [], _ => trivial
  | _ :: _, _ :: _, h => ⟨h.1.same g, h.2.same g⟩
theorem TmsAt.keep {H H' : Hp} (g : ∀ b xs, H b = some (.tup xs) → H' b = some (.tup xs)) : ∀ {us : List V} {ts : List Tm}, TmsAt H us ts → TmsAt H' us ts
  | [], [], _ => trivial
  | _ :: _, _ :: _, h => ⟨h.1.keep g, h.2.keep g⟩
theorem TmsAt.len {H : Hp} : ∀ {us : List V} {ts : List Tm}, TmsAt H us ts → us.length = ts.length
  | [], [], _ => rfl
  | _ :: _, _ :: _, h => by rw [List.length_cons, List.length_cons, h.2.len]
theorem TmsAt.get {H : Hp} : ∀ {us : List V} {ts : List Tm} {i : Nat} {u : V}, TmsAt H us ts → us[i]? = some u → ∃ t, ts[i]? = some t ∧ TmAt H u t
  | u :: _, t :: _, 0, _, h, e => by cases e; exact ⟨t, rfl, h.1⟩
  | _ :: _, _ :: _, i + 1, _, h, e => h.2.get (i := i) (by simpa using e)
  | [], _, i, _, _, e => by simp at e
theorem TmsAt.append {H : Hp} : ∀ {us us' : List V} {ts ts' : List Tm}, TmsAt H us ts → TmsAt H us' ts' → TmsAt H (us ++ us') (ts ++ ts')
  | [], _, [], _, _, h => h
  | _ :: _, _, _ :: _, _, h, h' => ⟨h.1, h.2.append h'⟩
theorem TmsAt.reverse {H : Hp} : ∀ {us : List V} {ts : List Tm}, TmsAt H us ts → TmsAt H us.reverse ts.reverse
  | [], [], _ => trivial
  | u :: us, t :: ts, h => by
    rw [List.reverse_cons, List.reverse_cons]
    exact h.2.reverse.append ⟨h.1, trivial⟩
theorem TmsAt.drop {H : Hp} {us : List V} {ts : List Tm} {u : V} {t : Tm} (h : TmsAt H (us ++ [u]) (ts ++ [t])) : TmsAt H us ts ∧ TmAt H u t := by
  have h' := h.reverse
  rw [List.reverse_append, List.reverse_append] at h'
  have h2 : TmAt H u t ∧ TmsAt H us.reverse ts.reverse := h'
  have h3 := h2.2.reverse
  rw [List.reverse_reverse, List.reverse_reverse] at h3
  exact ⟨h3, h2.1⟩
/-- the tuple of a term: its sign, then for a term with parts these -/
theorem TmAt.kidsAt {H : Hp} {t : Tm} {u : V} (h : TmAt H u t) (hk : t.kids ≠ []) : ∃ p ws, u = .ref p ∧ H p = some (.tup (.str t.hd :: ws)) ∧ TmsAt H ws t.kids := by
  cases t with
  | lit s v => exact absurd rfl hk
  | nam s n => exact absurd rfl hk
  | neg t => obtain ⟨p, w, e, q, h1⟩ := h; exact ⟨p, [w], e, q, h1, trivial⟩
  | bin s l r => obtain ⟨p, w1, w2, e, q, h1, h2⟩ := h; exact ⟨p, [w1, w2], e, q, h1, h2, trivial⟩
theorem cut1 (v w : V) (ws : List V) : cutV (v :: w :: ws) (some 1) none = w :: ws := by
  unfold cutV HT.sIx
  simp
theorem cut1_ok (v w : V) (ws : List V) : ¬ (HT.sIx (v :: w :: ws).length 0 (some 1) = 0 ∧ HT.sIx (v :: w :: ws).length (v :: w :: ws).length none = (v :: w :: ws).length) := by
  unfold HT.sIx
  simp
section
variable {P : Program} {w : World} {K : PySem.W.Frag} {mg : Str → Option Value} {base : Heap} {a : Adr}
theorem kid_ok {t k : Tm} (h : t.ok) (hk : k ∈ t.kids) : k.ok ∧ k.deep < t.deep := by
  cases t with
  | lit s v => cases hk
  | nam s v => cases hk
  | neg t =>
    have e : k = t := by simpa [Tm.kids] using hk
    subst e
    exact ⟨h, Nat.lt_succ_self _⟩
  | bin s l r =>
    have e : k = l ∨ k = r := by simpa [Tm.kids] using hk
    rcases e with e | e
    · subst e; exact ⟨h.2.1, Nat.lt_succ_of_le (Nat.le_max_left _ _)⟩
    · subst e; exact ⟨h.2.2, Nat.lt_succ_of_le (Nat.le_max_right _ _)⟩
end

/-! ### the program's own way -/
/-- a term and all in it, right ones first -/
def Tm.pre : Tm → List Tm
  | .lit s v => [.lit s v]
  | .nam s n => [.nam s n]
  | .neg t => .neg t :: t.pre
  | .bin s l r => .bin s l r :: (r.pre ++ l.pre)
def pres (ts : List Tm) : List Tm := ts.reverse.flatMap Tm.pre
theorem pre_len : ∀ t : Tm, t.pre.length = t.size
  | .lit _ _ => rfl
  | .nam _ _ => rfl
  | .neg t => by show t.pre.length + 1 = t.size + 1; rw [pre_len t]
  | .bin _ l r => by show (r.pre ++ l.pre).length + 1 = l.size + r.size + 1; rw [List.length_append, pre_len l, pre_len r]; omega
theorem pre_cons (t : Tm) : t.pre = t :: pres t.kids := by
  cases t with
  | lit s v => rfl
  | nam s n => rfl
  | neg t => show Tm.neg t :: t.pre = Tm.neg t :: ([t].reverse.flatMap Tm.pre); simp
  | bin s l r => show Tm.bin s l r :: (r.pre ++ l.pre) = Tm.bin s l r :: ([l, r].reverse.flatMap Tm.pre); simp
theorem pres_push (ts us : List Tm) : pres (ts ++ us) = pres us ++ pres ts := by
  unfold pres
  rw [List.reverse_append, List.flatMap_append]
theorem pres_one (t : Tm) : pres [t] = t.pre := by
  unfold pres
  simp
theorem Tm.pre_ok : ∀ {t : Tm}, t.ok → ∀ k ∈ t.pre, k.ok
  | .lit s v, h, k, hk => by
    have e : k = .lit s v := by simpa [Tm.pre] using hk
    subst e; exact h
  | .nam s n, h, k, hk => by
    have e : k = .nam s n := by simpa [Tm.pre] using hk
    subst e; exact h
  | .neg t, h, k, hk => by
    rcases List.mem_cons.mp hk with e | hk
    · subst e; exact h
    · exact Tm.pre_ok (t := t) h k hk
  | .bin s l r, h, k, hk => by
    rcases List.mem_cons.mp hk with e | hk
    · subst e; exact h
    · rcases List.mem_append.mp hk with hk | hk
      · exact Tm.pre_ok (t := r) h.2.2 k hk
      · exact Tm.pre_ok (t := l) h.2.1 k hk
abbrev leafS : List Str := ["number", "word", "flag", "field", "has"]
theorem leaf_in : ∀ s ∈ allS, inV (.str s) (leafS.map V.str) = decide (s ∈ leafS) := by decide +kernel
theorem lit_leaf : ∀ s ∈ litS, s ∈ leafS := by decide +kernel
theorem nam_leaf : ∀ s ∈ namS, s ∈ leafS := by decide +kernel
theorem bin_leaf : ∀ s ∈ binS, s ∉ leafS := by decide +kernel
theorem leaf_kids {t : Tm} (h : t.ok) : t.hd ∈ leafS ↔ t.kids = [] := by
  cases t with
  | lit s v => exact ⟨fun _ => rfl, fun _ => lit_leaf s h.1⟩
  | nam s n => exact ⟨fun _ => rfl, fun _ => nam_leaf s h.1⟩
  | neg t => exact ⟨fun z => absurd z (by show ("not" : Str) ∉ leafS; decide +kernel), fun z => by simp [Tm.kids] at z⟩
  | bin s l r => exact ⟨fun z => absurd z (bin_leaf s h.1), fun z => by simp [Tm.kids] at z⟩
section
variable {P : Program} {w : World} {K : PySem.W.Frag} {mg : Str → Option Value} {base : Heap} {a : Adr}
def spParts : Sp := fun vs H Q _ => ∃ v t, vs = [v] ∧ TmAt H v t ∧ t.ok ∧ t.size ≤ 100000 ∧ ∀ l us H', H l = none → Same H H' → H' l = some (.lst us) → TmsAt H' us t.pre.reverse → Q (.ref l) H'
theorem ok_parts_in (T : Txt K mg a) : FnOk P w K mg base CX0 1 a.f_parts_in a.d_parts_in ["term"] spParts := by
  refine T.F_parts_in.ok sc_parts_in (fun vs H Q E h => ?_) (fun cdv A outer s H vs Q E hr h => ?_)
  · obtain ⟨_, _, rfl, _⟩ := h; rfl
  obtain ⟨v, t, rfl, ht, hk, hsz, q⟩ := h
  refine ⟨_, (pss_cons (ps_set (i := 1) sc_parts_in.nd rfl (by first | exact Or.inl rfl | exact Or.inr rfl) (pe_lst (pa_cons (pv 0) pa_nil))) (pss_cons (ps_set (i := 2) sc_parts_in.nd rfl (by first | exact Or.inl rfl | exact Or.inr rfl) (pe_lst pa_nil)) (pss_cons (ps_while PassesOwn.never (pt_truth (pv 1) (fun _ => rfl)) (pss_cons (ps_set (i := 3) sc_parts_in.nd rfl (by first | exact Or.inl rfl | exact Or.inr rfl) (pe_bm0 PySem.F.plainAttrs_list PySem.F.slot_list_pop PySem.F.type_list_pop mt_pop (pv 1))) (pss_cons (ps_expr (pe_bm PySem.F.plainAttrs_list PySem.F.slot_list_append PySem.F.type_list_append mt_append (pv 2) (pa_cons (pv 3) pa_nil))) (pss_one (ps_if (pt_cmpR op_notIn_seq (pe_ix ix_tup (pv 3) pe_int (fun _ _ => rfl)) (pe_glob rfl T.g_LEAVES.1 T.g_LEAVES.2) (by with_unfolding_all rfl)) (pss_one (ps_expr (pe_bm PySem.F.plainAttrs_list PySem.F.slot_list_extend PySem.F.type_list_extend mt_extT (pv 1) (pa_cons (pe_slice sl_tup (pv 3) (po_some pe_int) po_none) pa_nil)))) pss_nil))))) (pss_one (ps_ret (pe_rev (pv 2))))))), ?_⟩
  refine ⟨_, rfl, small (n := 1) (by decide), fun wa hwa => ⟨small (n := 0) (by decide), fun pa hpa => ?_⟩⟩
  have gw := same_new hwa (.lst [v])
  have gp := same_new hpa (.lst [])
  have hwp : wa ≠ pa := ne_of_none upd_same hpa
  have hpa0 : H pa = none := gw.free hpa
  let Iv : St → Hp → Prop := fun σ H' => ∃ s3 us ts vs ps, σ = [some v, some (.ref wa), some (.ref pa), s3] ∧ Same H H' ∧ H' wa = some (.lst us) ∧ H' pa = some (.lst vs) ∧ TmsAt H us ts ∧ TmsAt H vs ps ∧ (∀ k ∈ ts, k.ok) ∧ ps ++ pres ts = t.pre
  let mu : St → Hp → Nat := fun _ H' => match H' pa with
    | some (.lst vs) => t.size - vs.length
    | _ => 0
  dsimp only [gName, tSeq]
  refine while_by Iv mu ⟨_, [v], [t], [], [], rfl, gw.trans gp, gp _ _ upd_same, upd_same, ⟨ht, trivial⟩, trivial, fun k hk' => by
    have e : k = t := by simpa using hk'
    subst e; exact hk, by rw [List.nil_append, pres_one]⟩ (fun σ H' hR => ?_) (fun σ H' Q1 Q2 hm hq => ?_)
  · obtain ⟨s3, us, ts, vs, ps, rfl, g, hw, hp, hus, hvs, hok, hpre⟩ := hR
    refine ⟨_, rfl, _, .inl ⟨us, SqL.of hw, rfl⟩, ?_⟩
    have hvl := hvs.len
    have hul := hus.len
    have hpl : ps.length + (pres ts).length = t.size := by rw [← pre_len, ← hpre, List.length_append]
    refine ite2 (fun kc => ?_) (fun kc => ?_)
    · have hne : us ≠ [] := fun z => by subst z; cases kc
      obtain ⟨us0, u, rfl⟩ : ∃ us0 u, us = us0 ++ [u] := ⟨us.dropLast, us.getLast hne, (List.dropLast_concat_getLast hne).symm⟩
      have hne2 : ts ≠ [] := fun z => by subst z; simp at hul
      obtain ⟨ts0, k, rfl⟩ : ∃ ts0 k, ts = ts0 ++ [k] := ⟨ts.dropLast, ts.getLast hne2, (List.dropLast_concat_getLast hne2).symm⟩
      obtain ⟨h0, hku⟩ := hus.drop
      have kok : k.ok := hok k (by simp)
      have hlast : (us0 ++ [u])[(us0 ++ [u]).length - 1]? = some u := by
        rw [List.length_append, List.length_singleton, Nat.add_sub_cancel, List.getElem?_append_right (Nat.le_refl _), Nat.sub_self]; rfl
      refine ⟨_, rfl, .inl ⟨rfl, _, SqL.of hw⟩, wa, _, _, rfl, rfl, hw, hlast, ?_⟩
      rw [List.dropLast_append_of_ne_nil (by simp)]
      have ed : us0 ++ [u].dropLast = us0 := by simp
      rw [ed]
      have hp2 : upd H' wa (.lst us0) pa = some (.lst vs) := by rw [upd_ne (Ne.symm hwp)]; exact hp
      have hz1 : vs.length < sizeLine := by rw [sizeLine_eq]; omega
      refine ⟨_, rfl, .inl ⟨rfl, _, SqL.of hp2⟩, _, rfl, pa, _, _, rfl, rfl, hp2, hz1, ?_⟩
      have g2 : Same H (upd (upd H' wa (.lst us0)) pa (.lst (vs ++ [u]))) := same_upd (same_upd g hwa) hpa0
      have hw2 : (upd (upd H' wa (.lst us0)) pa (.lst (vs ++ [u]))) wa = some (.lst us0) := by rw [upd_ne hwp, upd_same]
      obtain ⟨pk, xs, rfl, hpk⟩ := hku.top
      have hin := Tm.hd_in kok
      have epre : pres (ts0 ++ [k]) = k :: pres (ts0 ++ k.kids) := by rw [pres_push, pres_one, pre_cons, pres_push, List.cons_append]
      rw [epre] at hpre hpl
      have hpre' : (ps ++ [k]) ++ pres (ts0 ++ k.kids) = t.pre := by rw [← hpre]; simp
      have hmu : t.size - (vs ++ [V.ref pk]).length < t.size - vs.length := by
        rw [List.length_append, List.length_singleton]
        rw [List.length_cons] at hpl
        omega
      have hvs2 : TmsAt H (vs ++ [V.ref pk]) (ps ++ [k]) := hvs.append ⟨hku, trivial⟩
      have hmu0 : mu [some v, some (.ref wa), some (.ref pa), s3] H' = t.size - vs.length := by
        show (match H' pa with | some (.lst vs) => t.size - vs.length | _ => 0) = _
        rw [hp]
      refine ⟨_, rfl, pk, _, _, _, rfl, rfl, SqT.of (g2 _ _ hpk), atI_nat (j := 0) rfl, a.a_LEAVES, _, rfl, .inr (T.t_LEAVES _), rfl, rfl, _, rfl, ite2 (fun kn => ?_) (fun kn => ?_)⟩
      · have kn' : (!inV (.str k.hd) (leafS.map V.str)) = true := kn
        rw [leaf_in _ hin] at kn'
        have hkids : k.kids ≠ [] := fun z => by
          have := (leaf_kids kok).mpr z
          simp [this] at kn'
        obtain ⟨pk', ws, e, hpk', hws⟩ := hku.kidsAt hkids
        cases e
        obtain ⟨w0, wr, rfl⟩ : ∃ w0 wr, ws = w0 :: wr := by cases ws with
          | nil =>
            have := hws.len
            cases hh : k.kids with
            | nil => exact absurd hh hkids
            | cons x y => rw [hh] at this; simp at this
          | cons x y => exact ⟨x, y, rfl⟩
        refine ⟨_, rfl, .inl ⟨rfl, _, SqL.of hw2⟩, _, rfl, _, rfl, pk, _, rfl, SqT.of (g2 _ _ hpk'), cut1_ok _ _ _, fun tp htp => ?_⟩
        rw [cut1]
        have g3 := same_new htp (.tup (w0 :: wr))
        have hl2 : us0.length + (w0 :: wr).length ≤ 100000 := by
          have e1 := h0.len
          have e2 := hws.len
          have e3 : (pres (ts0 ++ k.kids)).length ≥ (ts0 ++ k.kids).length := by
            unfold pres
            rw [List.length_flatMap]
            have : ∀ l : List Tm, l.length ≤ (l.map fun x => x.pre.length).sum := by
              intro l
              induction l with
              | nil => exact Nat.le_refl _
              | cons x l ih =>
                have : 1 ≤ x.pre.length := by rw [pre_cons]; simp
                rw [List.map_cons, List.sum_cons, List.length_cons]; omega
            have := this (ts0 ++ k.kids).reverse
            rw [List.length_reverse] at this
            exact this
          rw [List.length_append] at e3
          rw [List.length_cons] at hpl
          omega
        refine ⟨wa, tp, us0, _, rfl, rfl, g3 _ _ hw2, SqT.of upd_same, by rw [sizeLine_eq]; omega, ?_⟩
        have hp3 : (upd (upd (upd (upd H' wa (.lst us0)) pa (.lst (vs ++ [V.ref pk]))) tp (.tup (w0 :: wr))) wa (.lst (us0 ++ w0 :: wr))) pa = some (.lst (vs ++ [V.ref pk])) := by
          rw [upd_ne (Ne.symm hwp)]; exact g3 _ _ upd_same
        refine ⟨⟨_, _, ts0 ++ k.kids, _, ps ++ [k], rfl, same_upd (g2.trans g3) hwa, upd_same, hp3, h0.append hws, hvs2, fun x hx => ?_, hpre'⟩, ?_⟩
        · rcases List.mem_append.mp hx with hx | hx
          · exact hok x (List.mem_append_left _ hx)
          · exact (kid_ok kok hx).1
        · rw [hmu0]
          show (match (upd (upd (upd (upd H' wa (.lst us0)) pa (.lst (vs ++ [V.ref pk]))) tp (.tup (w0 :: wr))) wa (.lst (us0 ++ w0 :: wr))) pa with | some (.lst vs) => t.size - vs.length | _ => 0) < _
          rw [hp3]; exact hmu
      · have kn' : ¬ (!inV (.str k.hd) (leafS.map V.str)) = true := kn
        rw [leaf_in _ hin] at kn'
        have hkids : k.kids = [] := (leaf_kids kok).mp (by
          by_cases hh : k.hd ∈ leafS
          · exact hh
          · exact absurd (by rw [decide_eq_false hh]; rfl) kn')
        rw [hkids, List.append_nil] at hpre'
        refine ⟨⟨_, us0, ts0, _, ps ++ [k], rfl, g2, hw2, upd_same, h0, hvs2, fun x hx => hok x (List.mem_append_left _ hx), hpre'⟩, ?_⟩
        rw [hmu0]
        show (match (upd (upd H' wa (.lst us0)) pa (.lst (vs ++ [V.ref pk]))) pa with | some (.lst vs) => t.size - vs.length | _ => 0) < _
        rw [upd_same]; exact hmu
    · have he : us = [] := by
        cases us with
        | nil => rfl
        | cons x y => exact absurd rfl kc
      subst he
      have hts : ts = [] := by
        cases ts with
        | nil => rfl
        | cons x y => simp at hul
      subst hts
      have e : ps = t.pre := by rw [← hpre]; simp [pres]
      subst e
      refine ⟨_, rfl, pa, _, rfl, SqL.of hp, fun l hl => ?_⟩
      exact q l _ _ (g.free hl) (g.trans (same_new hl _)) upd_same ((hvs.same (g.trans (same_new hl _))).reverse)
  · obtain ⟨x, e, b, h1, h2⟩ := hq
    exact ⟨x, e, b, h1, hm _ _ h2⟩
end

/-! ### built up from the parts -/
theorem leaf_kids0 {t : Tm} (h : t.ok) (hl : inV (.str t.hd) (leafS.map V.str) = true) : t.kids = [] := (leaf_kids h).mp (by rw [leaf_in _ (Tm.hd_in h)] at hl; exact of_decide_eq_true hl)
theorem leaf_kids1 {t : Tm} (h : t.ok) (hl : ¬ inV (.str t.hd) (leafS.map V.str) = true) : t.kids ≠ [] := fun z => hl (by rw [leaf_in _ (Tm.hd_in h)]; exact decide_eq_true ((leaf_kids h).mpr z))
section
variable {P : Program} {w : World} {K : PySem.W.Frag} {mg : Str → Option Value} {base : Heap} {a : Adr}
end

/-! ### built up from the parts, by a def that may refuse -/
/-- what the row of results comes to, as long as none is refused -/
def FinX (R : Tm → Option V) (G : List V → Prop) : List V → List Tm → Prop
  | st, [] => G st
  | st, k :: ps => ∃ st0 vs, st = st0 ++ vs ∧ k.kids.map R = vs.map some ∧ ∀ r, R k = some r → FinX R G (st0 ++ [r]) ps
theorem finX_term (R : Tm → Option V) (G : List V → Prop) : ∀ (t : Tm) (st : List V) (ps : List Tm), (∀ r, R t = some r → FinX R G (st ++ [r]) ps) → FinX R G st (t.pre.reverse ++ ps)
  | .lit s v, st, ps, h => ⟨st, [], by simp, rfl, h⟩
  | .nam s n, st, ps, h => ⟨st, [], by simp, rfl, h⟩
  | .neg t, st, ps, h => by
    show FinX R G st ((Tm.neg t :: t.pre).reverse ++ ps)
    rw [List.reverse_cons, List.append_assoc]
    exact finX_term R G t st _ fun r hr => ⟨st, [r], rfl, by show [R t] = [some r]; rw [hr], h⟩
  | .bin s l r, st, ps, h => by
    show FinX R G st ((Tm.bin s l r :: (r.pre ++ l.pre)).reverse ++ ps)
    rw [List.reverse_cons, List.reverse_append, List.append_assoc, List.append_assoc]
    refine finX_term R G l st _ fun rl hl => finX_term R G r _ _ fun rr hr => ⟨st, [rl, rr], ?_, ?_, h⟩
    · show st ++ [rl] ++ [rr] = st ++ [rl, rr]
      simp
    · show [R l, R r] = [some rl, some rr]
      rw [hl, hr]
section
variable {P : Program} {w : World} {K : PySem.W.Frag} {mg : Str → Option Value} {base : Heap} {a : Adr}
def spToX (J : Hp → Prop) (R : Tm → Option V) (C : Tm → Prop) (Cx : Addr) : Sp := fun vs H Q E => ∃ v t l us, vs = [v, .ref l] ∧ J H ∧ TmAt H v t ∧ t.ok ∧ C t ∧ H l = some (.lst us) ∧ t.kids.map R = us.map some ∧ (∀ r, R t = some r → ∀ H', Same H H' → Q r H') ∧ (R t = none → ∀ H', Same H H' → E (.ref Cx) none H')
def spBuiltX (J : Hp → Prop) (R : Tm → Option V) (C : Tm → Prop) (Cx f : Addr) : Sp := fun vs H Q E => ∃ v t, vs = [v, .ref f] ∧ J H ∧ TmAt H v t ∧ t.ok ∧ (∀ k ∈ t.pre, C k) ∧ t.size ≤ 100000 ∧ (∀ r, R t = some r → ∀ H', Same H H' → Q r H') ∧ ∀ k ∈ t.pre, R k = none → ∀ H', Same H H' → E (.ref Cx) none H'
theorem ok_built_upX (T : Txt K mg a) {k : Nat} {f : Addr} {fd : FuncData} {ps : List Str} {J : Hp → Prop} {R : Tm → Option V} {C : Tm → Prop} {Cx : Addr} (hJ : ∀ H H', J H → Same H H' → J H') (h1 : 1 ≤ k)
    (FF : FnOk P w K mg base (CX1 P w) k f fd ps (spToX J R C Cx)) (hk : KeptBy P w K base f (spToX J R C Cx)) (hb : Binds K fd ps []) :
    FnOk P w K mg base (CX1 P w) (k + 1) a.f_built_up a.d_built_up ["term", "told_of"] (spBuiltX J R C Cx f) := by
  refine T.F_built_up.ok1 sc_built_up (fun vs H Q E h => ?_) (fun cdv A outer s H vs Q E hr h => ?_)
  · obtain ⟨_, _, rfl, _⟩ := h; rfl
  obtain ⟨v, t, rfl, hj, ht, hok, hC, hsz, q, qx⟩ := h
  refine ⟨_, (pss_cons (ps_set (i := 2) sc_built_up.nd rfl (by first | exact Or.inl rfl | exact Or.inr rfl) (pe_lst pa_nil)) (pss_cons (ps_for PassesOwn.leaving rfl (pi_list (pe_call (ok_parts_in T) (hr.mono (by omega)) rfl T.m_parts_in T.F_parts_in.kp T.b_parts_in .nil pass0 (pa_cons (pv 0) pa_nil))) (pg_name (i := 3) sc_built_up.nd rfl (by first | exact Or.inl rfl | exact Or.inr rfl)) (pss_cons (ps_set (i := 4) sc_built_up.nd rfl (by first | exact Or.inl rfl | exact Or.inr rfl) (pe_cut (pe_ifExp (pt_cmpR op_in_seq (pe_ix ix_tup (pv 3) pe_int (fun _ _ => rfl)) (pe_glob rfl T.g_LEAVES.1 T.g_LEAVES.2) (by with_unfolding_all rfl)) pe_int (pe_op op_sub (pe_callB call_len_seq rfl T.n_len PySem.boot_len (pa_cons (pv 3) pa_nil)) pe_int)))) (pss_cons (ps_set (i := 5) sc_built_up.nd rfl (by first | exact Or.inl rfl | exact Or.inr rfl) (pe_op op_sub (pe_callB call_len_seq rfl T.n_len PySem.boot_len (pa_cons (pv 2) pa_nil)) (pv 4))) (pss_cons (ps_set (i := 6) sc_built_up.nd rfl (by first | exact Or.inl rfl | exact Or.inr rfl) (pe_callV (i := 1) FF (hr.mono (by omega)) rfl (by first | exact Or.inl rfl | exact Or.inr (Or.inl rfl) | exact Or.inr (Or.inr rfl)) hk hb .nil pass1 (pa_cons (pv 3) (pa_cons (pe_slice sl_list (pv 2) (po_some (pv 5)) po_none) pa_nil)))) (pss_cons (ps_delT (pv 2) (pv 5)) (pss_one (ps_expr (pe_bm PySem.F.plainAttrs_list PySem.F.slot_list_append PySem.F.type_list_append mt_append (pv 2) (pa_cons (pv 6) pa_nil))))))))) (pss_one (ps_ret (pe_ix ix_list (pv 2) pe_int (fun _ _ => rfl)))))), ?_⟩
  refine ⟨small (n := 0) (by decide), fun to hto => ?_⟩
  have g0 := same_new hto (.lst [])
  refine ⟨_, rfl, v, t, rfl, ht.same g0, hok, hsz, fun l us H1 hl g1 hl1 hus => ⟨l, rfl, ⟨_, SqL.of hl1⟩, ?_⟩⟩
  have hul := hus.len
  rw [List.length_reverse, pre_len] at hul
  refine for_list (xs := us) (fun i σ H' => ∃ s3 s4 s5 s6 st, σ = [some v, some (.ref f), some (.ref to), s3, s4, s5, s6] ∧ Same H H' ∧ TmsAt H' us t.pre.reverse ∧ H' l = some (.lst us) ∧ H' to = some (.lst st) ∧ st.length ≤ i ∧ FinX R (fun st => ∃ r, R t = some r ∧ st = [r]) st (t.pre.reverse.drop i))
    ⟨_, _, _, _, [], rfl, g0.trans g1, hus, hl1, g1 _ _ upd_same, Nat.le_refl _, ?_⟩ (fun i σ H' hi hR => ?_) (fun i x σ H' hx hR => ?_) (fun σ H' hR => ?_)
  · rw [List.drop_zero]
    have := finX_term R (fun st => ∃ r, R t = some r ∧ st = [r]) t [] [] fun r hr => ⟨r, hr, rfl⟩
    rw [List.append_nil] at this
    exact this
  · obtain ⟨_, _, _, _, _, rfl, _, _, h, _⟩ := hR
    exact SqL.of h
  · obtain ⟨s3, s4, s5, s6, st, rfl, g2, h0, h1', h2, hle, hF⟩ := hR
    obtain ⟨k, hkk, hka⟩ := h0.get hx
    have hkm : k ∈ t.pre := List.mem_reverse.mp (List.mem_of_getElem? hkk)
    have kok := Tm.pre_ok hok k hkm
    obtain ⟨p, xs, rfl, hp⟩ := hka.top
    have hi : i < t.size := by
      have := (List.getElem?_eq_some_iff.mp hx).1
      omega
    have ed : t.pre.reverse.drop i = k :: t.pre.reverse.drop (i + 1) := by
      obtain ⟨w1, w2⟩ := List.getElem?_eq_some_iff.mp hkk
      rw [List.drop_eq_getElem_cons w1, w2]
    rw [ed] at hF
    obtain ⟨st0, vs, rfl, hvs, hF⟩ := hF
    have hlk : vs.length = k.kids.length := by
      have := congrArg List.length hvs
      rw [List.length_map, List.length_map] at this
      exact this.symm
    rw [List.length_append, hlk] at hle
    refine ⟨fun y H2 => y = .int (k.kids.length : Int) ∧ H2 = H', ?_, ?_⟩
    · refine ⟨_, rfl, p, _, _, _, rfl, rfl, SqT.of hp, atI_nat (j := 0) rfl, a.a_LEAVES, _, rfl, .inr (T.t_LEAVES _), rfl, rfl, _, rfl, ite2 (fun kc => ?_) (fun kc => ?_)⟩
      · rw [leaf_kids0 kok kc]; exact ⟨rfl, rfl⟩
      · obtain ⟨p', ws, e, hp', hws⟩ := hka.kidsAt (leaf_kids1 kok kc)
        cases e
        refine ⟨_, rfl, p, _, rfl, .inr (SqT.of hp'), _, _, rfl, rfl, ?_, rfl⟩
        have := hws.len
        have e2 : (((ws.length + 1 : Nat) : Int) - 1) = (k.kids.length : Int) := by omega
        exact congrArg V.int e2
    · rintro y H2 ⟨rfl, rfl⟩
      have hlen : ((st0 ++ vs).length : Int) - (k.kids.length : Int) = (st0.length : Int) := by rw [List.length_append, hlk]; omega
      refine ⟨_, rfl, to, _, rfl, .inl (SqL.of h2), _, rfl, _, _, rfl, rfl, ?_⟩
      dsimp only
      rw [hlen]
      refine ⟨rfl, _, rfl, _, rfl, _, rfl, _, rfl, to, _, rfl, SqL.of h2, fun sl hsl => ?_⟩
      rw [cut_tail]
      have g3 := same_new hsl (.lst vs)
      refine ⟨_, k, sl, vs, rfl, hJ _ _ hj (g2.trans g3), hka.same g3, kok, hC k hkm, upd_same, hvs, fun r hr H3 g4 => ?_, fun hr H3 g4 => qx k hkm hr _ ((g2.trans g3).trans g4)⟩
      have hF := hF r hr
      have g34 := g3.trans g4
      have hto3 := g34 _ _ h2
      refine ⟨_, rfl, _, rfl, to, _, st0.length, rfl, hto3, rfl, by rw [List.length_append]; omega, ?_⟩
      rw [List.take_left']
      · refine ⟨_, rfl, .inl ⟨rfl, _, SqL.of upd_same⟩, _, rfl, to, _, _, rfl, rfl, upd_same, (by rw [sizeLine_eq]; omega), ?_⟩
        rw [upd_upd]
        have hlto : l ≠ to := Ne.symm (ne_of_none (upd_same (H := H) (a := to) (o := .lst [])) hl)
        have keep : ∀ b xs, H3 b = some (.tup xs) → upd H3 to (.lst (st0 ++ [r])) b = some (.tup xs) := fun b xs hb => by
          rw [upd_ne (ne_of hb hto3 (by intro z; cases z))]; exact hb
        refine ⟨_, _, _, _, st0 ++ [r], rfl, same_upd (g2.trans g34) hto, (h0.same g34).keep keep, ?_, upd_same, ?_, hF⟩
        · rw [upd_ne hlto]; exact g34 _ _ h1'
        · rw [List.length_append, List.length_singleton]
          omega
      · rfl
  · obtain ⟨s3, s4, s5, s6, st, rfl, g2, h0, h1', h2, hle, hF⟩ := hR
    have e : us.length = t.pre.reverse.length := by rw [List.length_reverse, pre_len]; exact hul
    rw [e, List.drop_length] at hF
    obtain ⟨r, hr, hst⟩ : ∃ r, R t = some r ∧ st = [r] := hF
    subst hst
    refine ⟨_, rfl, to, _, _, _, rfl, rfl, SqL.of h2, atI_nat (j := 0) rfl, ?_⟩
    exact q r hr _ g2
end

end My

set_option Elab.async false
set_option linter.all false
set_option maxRecDepth 100000
set_option maxHeartbeats 4000000
namespace My
open PySem L2
/-! ### sorts of terms -/
def kS (kd : List (Key × V)) (n : Str) : Option Str := match valV kd (.inr n) with
  | some (.str z) => some z
  | _ => none
def wantS (s z : Str) : Str := if s ∈ (["not", "and", "or"] : List Str) then "flag" else if s ∈ (["=", "!="] : List Str) then z else "number"
def madeS (s : Str) : Str := if s ∈ (["+", "-", "*"] : List Str) then "number" else "flag"
def Tm.sor (kd : List (Key × V)) : Tm → Option Str
  | .lit s _ => some s
  | .nam s n => (kS kd n).map fun z => if s = "field" then z else "flag"
  | .neg t => (t.sor kd).bind fun z => if z = wantS "not" z then some (madeS "not") else none
  | .bin s l r => (l.sor kd).bind fun z1 => (r.sor kd).bind fun z2 => if z1 = wantS s z1 ∧ z2 = wantS s z1 then some (madeS s) else none
def sorV (kd : List (Key × V)) (t : Tm) : Option V := (t.sor kd).map V.str
def KdS (kd : List (Key × V)) : Prop := ∀ n v, valV kd (.inr n) = some v → ∃ z, v = .str z
section
variable {P : Program} {w : World} {K : PySem.W.Frag} {mg : Str → Option Value} {base : Heap} {a : Adr}
theorem eq_str (a b : Str) : eqV (.str a) (.str b) = decide (b = a) := by
  show (a == b) = _
  by_cases h : b = a
  · subst h; simp
  · have h' : ¬ a = b := fun z => h z.symm
    simp [h, h']
theorem in_two (x y z : Str) : inV (.str x) [.str y, .str z] = decide (x ∈ [y, z]) := by simp [inV, List.any, eq_str]
theorem in_three (x y z u : Str) : inV (.str x) [.str y, .str z, .str u] = decide (x ∈ [y, z, u]) := by simp [inV, List.any, eq_str]
def spWant : Sp := fun vs H Q _ => ∃ s l z zs, vs = [.str s, .ref l] ∧ H l = some (.lst (.str z :: zs)) ∧ ∀ H', Same H H' → Q (.str (wantS s z)) H'
theorem ok_wanted_sort (T : Txt K mg a) : FnOk P w K mg base CX0 1 a.f_wanted_sort a.d_wanted_sort ["sign", "sorts"] spWant := by
  refine T.F_wanted_sort.ok sc_wanted_sort (fun vs H Q E h => ?_) (fun cdv A outer s H vs Q E hr h => ?_)
  · obtain ⟨_, _, _, _, rfl, _⟩ := h; rfl
  obtain ⟨s, l, z, zs, rfl, hl, q⟩ := h
  refine ⟨_, (pss_cons (ps_if (pt_cmpR op_in_seq (pv 0) (pe_tup (pa_cons pe_str (pa_cons pe_str (pa_cons pe_str pa_nil)))) (by with_unfolding_all rfl)) (pss_one (ps_ret (pe_glob rfl T.g_FLAG.1 T.g_FLAG.2))) pss_nil) (pss_cons (ps_if (pt_cmpR op_in_seq (pv 0) (pe_tup (pa_cons pe_str (pa_cons pe_str pa_nil))) (by with_unfolding_all rfl)) (pss_one (ps_ret (pe_ix ix_list (pv 1) pe_int (fun _ _ => rfl)))) pss_nil) (pss_one (ps_ret (pe_glob rfl T.g_NUMBER.1 T.g_NUMBER.2))))), ?_⟩
  refine ⟨_, rfl, small (n := 3) (by decide), fun p hp => ⟨p, _, rfl, .inr (SqT.of upd_same), rfl, rfl, _, rfl, ?_⟩⟩
  have g1 := same_new hp (.tup [.str "not", .str "and", .str "or"])
  rw [in_three]
  refine ite2 (fun k => ?_) (fun k => ?_)
  · have := q _ g1
    unfold wantS at this
    rw [if_pos (of_decide_eq_true k)] at this
    exact this
  have k1 : ¬ s ∈ (["not", "and", "or"] : List Str) := fun z => k (decide_eq_true z)
  refine ⟨_, rfl, small (n := 2) (by decide), fun p2 hp2 => ⟨p2, _, rfl, .inr (SqT.of upd_same), rfl, rfl, _, rfl, ?_⟩⟩
  have g2 := g1.trans (same_new hp2 (.tup [.str "=", .str "!="]))
  rw [in_two]
  have qq := q _ g2
  unfold wantS at qq
  rw [if_neg k1] at qq
  refine ite2 (fun k => ?_) (fun k => ?_)
  · rw [if_pos (of_decide_eq_true k)] at qq
    exact ⟨_, rfl, l, _, _, _, rfl, rfl, SqL.of (g2 _ _ hl), atI_nat (j := 0) rfl, qq⟩
  · rw [if_neg fun z => k (decide_eq_true z)] at qq
    exact qq
theorem sorts_in : ∀ s ∈ allS, inV (.str s) (litS.map V.str) = decide (s ∈ litS) := by decide +kernel
theorem bin_nam : ∀ s ∈ binS, s ≠ "field" ∧ s ≠ "has" ∧ s ∉ litS ∧ s ≠ "not" := by decide +kernel
theorem nam_litS : ∀ s ∈ namS, s ∉ litS := by decide +kernel
theorem not_no : ("not" : Str) ∉ litS ∧ ("not" : Str) ≠ "field" ∧ ("not" : Str) ≠ "has" ∧ ("not" : Str) ≠ "and" ∧ ("not" : Str) ≠ "or" := by decide +kernel
theorem comp_test {f : V → Bool} {K : PySem.W.Frag} {p : Addr} {xs : List V} {im : List (Option Nat)} {σ : St} {H : Hp} {Q : VK} {te : TE} (hp : SqL K H p xs) (hz : xs.length ≤ 1000)
    (he : ∀ x (R : VK), x ∈ xs → R (.bl (f x)) H → te ((inner im σ).set 0 (some x)) H R)
    (hQ : ∀ D, H D = none → Q (.ref D) (upd H D (.lst ((xs.map fun x => f x).map V.bl)))) : CompAt im (gName 0) tNoIf te σ Q (Itl K p) H := by
  refine ⟨fun i m ys H' => m = xs.length - i ∧ i ≤ xs.length ∧ ys = (((xs.take i).map fun x => f x).map V.bl) ∧ H' = H, ⟨xs.length, by simp, Nat.zero_le _, by simp, rfl⟩, ?_⟩
  rintro i m ys H' ⟨rfl, hi, rfl, rfl⟩
  refine ⟨by rw [List.length_map, List.length_map, List.length_take]; exact line_of (by omega), ?_⟩
  by_cases hlt : i < xs.length
  · refine .inr ⟨⟨xs, xs[i], hp, by simp [hlt]⟩, fun x H'' y => ?_⟩
    obtain ⟨e, y⟩ := y
    subst e
    have hx := y xs hp
    refine he x _ (List.mem_of_getElem? hx) ⟨xs.length - (i + 1), by omega, rfl, hlt, ?_, rfl⟩
    rw [List.take_add_one, hx]
    simp
  · have e : i = xs.length := by omega
    subst e
    refine .inl ⟨⟨xs, hp, Nat.le_refl _⟩, fun D hD => ?_⟩
    rw [List.take_length]
    exact hQ D hD
theorem sorV_some {kd : List (Key × V)} {t : Tm} {u : V} (h : sorV kd t = some u) : ∃ z, t.sor kd = some z ∧ u = .str z := by
  unfold sorV at h
  cases e : t.sor kd with
  | none => rw [e] at h; cases h
  | some z => rw [e] at h; cases h; exact ⟨z, rfl, rfl⟩
theorem one_of {kd : List (Key × V)} {t : Tm} {us : List V} (h : [t].map (sorV kd) = us.map some) : ∃ z, t.sor kd = some z ∧ us = [.str z] := by
  match us, h with
  | [], h => simp at h
  | _ :: _ :: _, h => simp at h
  | [u], h =>
    have h1 : sorV kd t = some u := by simpa using h
    obtain ⟨z, e, rfl⟩ := sorV_some h1
    exact ⟨z, e, rfl⟩
theorem two_of {kd : List (Key × V)} {t t' : Tm} {us : List V} (h : [t, t'].map (sorV kd) = us.map some) : ∃ z z', t.sor kd = some z ∧ t'.sor kd = some z' ∧ us = [.str z, .str z'] := by
  match us, h with
  | [], h => simp at h
  | [_], h => simp at h
  | _ :: _ :: _ :: _, h => simp at h
  | [u, u'], h =>
    have h1 : sorV kd t = some u ∧ sorV kd t' = some u' := by simpa using h
    obtain ⟨z, e, rfl⟩ := sorV_some h1.1
    obtain ⟨z', e', rfl⟩ := sorV_some h1.2
    exact ⟨z, z', e, e', rfl⟩
theorem made_of {K : PySem.W.Frag} {s : Str} {σ : St} {H H3 : Hp} {Q : VK} (g3 : Same H H3) (hs : σ[3]? = some (some (.str s))) (q : ∀ H', Same H H' → Q (.str (madeS s)) H') :
    tIf (tTest (tOp (rIn K false) (tVar 3) (tTup (tCons (tC (.str "+")) (tCons (tC (.str "-")) (tCons (tC (.str "*")) tNil)))))) (tC (.str "number")) (tC (.str "flag")) σ H3 Q := by
  refine ⟨_, hs, small (n := 3) (by decide), fun p hp => ⟨p, _, rfl, .inr (SqT.of upd_same), rfl, rfl, _, rfl, ?_⟩⟩
  have qq := q _ (g3.trans (same_new hp (.tup [.str "+", .str "-", .str "*"])))
  rw [in_three]
  unfold madeS at qq
  refine ite2 (fun k => ?_) (fun k => ?_)
  · rw [if_pos (of_decide_eq_true k)] at qq; exact qq
  · rw [if_neg fun z => k (decide_eq_true z)] at qq; exact qq
def spSPart (kd : List (Key × V)) (Cx : Addr) : Sp := fun vs H Q E => ∃ v t l fd us, vs = [v, .ref l, .ref fd] ∧ TmAt H v t ∧ t.ok ∧ KdS kd ∧ H fd = some (.dK kd) ∧ H l = some (.lst us) ∧ t.kids.map (sorV kd) = us.map some ∧ (∀ r, sorV kd t = some r → ∀ H', Same H H' → Q r H') ∧ (sorV kd t = none → ∀ H', Same H H' → E (.ref Cx) none H')
theorem ok_part_sort (T : Txt K mg a) (kd : List (Key × V)) : FnOk P w K mg base (CX1 P w) 3 a.f_part_sort a.d_part_sort ["part", "sorts", "kinds"] (spSPart kd a.c_BadTerm) := by
  refine T.F_part_sort.ok1 sc_part_sort (fun vs H Q E h => ?_) (fun cdv A outer s H vs Q E hr h => ?_)
  · obtain ⟨_, _, _, _, _, rfl, _⟩ := h; rfl
  obtain ⟨v, t, l, fd, us, rfl, ht, hok, hK, hfd, hl, hus, q, qx⟩ := h
  have hu1 := hu_of hr
  have hu := hr.units0
  have hin := Tm.hd_in hok
  obtain ⟨p, xs, rfl, hp⟩ := ht.top
  refine ⟨_, (pss_cons (ps_set (i := 3) sc_part_sort.nd rfl (by first | exact Or.inl rfl | exact Or.inr rfl) (pe_ix ix_tup (pv 0) pe_int (fun _ _ => rfl))) (pss_cons (ps_if (pt_cmpR op_in_seq (pv 3) (pe_glob rfl T.g_SORTS.1 T.g_SORTS.2) (by with_unfolding_all rfl)) (pss_one (ps_ret (pv 3))) pss_nil) (pss_cons (ps_if (pt_cmpR op_in_seq (pv 3) (pe_tup (pa_cons pe_str (pa_cons pe_str pa_nil))) (by with_unfolding_all rfl)) (pss_cons (ps_if (pt_cmp (pc_dnotin hu1 (pe_ix ix_tup (pv 0) pe_int (fun _ _ => rfl)) (pv 2))) (pss_one (ps_raise0 T.x_BadTerm.made hr rfl T.m_BadTerm)) pss_nil) (pss_one (ps_ret (pe_ifExp (pt_cmpR op_eq (pv 3) pe_str (nomark _)) (pe_dget hu1 (pv 2) (pe_ix ix_tup (pv 0) pe_int (fun _ _ => rfl)) (fun _ _ => rfl)) (pe_glob rfl T.g_FLAG.1 T.g_FLAG.2))))) pss_nil) (pss_cons (ps_set (i := 4) sc_part_sort.nd rfl (by first | exact Or.inl rfl | exact Or.inr rfl) (pe_call (ok_wanted_sort T) (hr.mono (by decide)) rfl T.m_wanted_sort T.F_wanted_sort.kp T.b_wanted_sort .nil pass0 (pa_cons (pv 3) (pa_cons (pv 1) pa_nil)))) (pss_cons (ps_if (pt_cut (pt_val (pe_callB (call_any rfl) rfl T.n_any (by decide +kernel) (pa_cons (pe_comp ["sort", "wanted"] [none, some 4] (pi_list (pv 1)) (fun _ _ _ _ _ => (pg_name (i := 0) (show List.Nodup (["sort", "wanted"] : List Str) from by decide +kernel) rfl (Or.inl rfl) (Or.inr rfl))) (fun _ _ _ _ _ => pts_nil) (fun _ _ _ _ _ => (pe_cmpR op_ne (pv 0) (pv 1) (nomark _)))) pa_nil)))) (pss_one (ps_raise0 T.x_BadTerm.made hr rfl T.m_BadTerm)) pss_nil) (pss_one (ps_ret (pe_ifExp (pt_cmpR op_in_seq (pv 3) (pe_tup (pa_cons pe_str (pa_cons pe_str (pa_cons pe_str pa_nil)))) (by with_unfolding_all rfl)) (pe_glob rfl T.g_NUMBER.1 T.g_NUMBER.2) (pe_glob rfl T.g_FLAG.1 T.g_FLAG.2))))))))), ?_⟩
  refine ⟨_, rfl, p, _, _, _, rfl, rfl, SqT.of hp, atI_nat (j := 0) rfl, ?_⟩
  refine ⟨_, rfl, a.a_SORTS, _, rfl, .inr (T.t_SORTS _), rfl, rfl, _, rfl, ite2 (fun k => ?_) (fun k => ?_)⟩
  · have k' : inV (.str t.hd) (litS.map V.str) = true := k
    rw [sorts_in _ hin] at k'
    have k' := of_decide_eq_true k'
    cases t with
    | nam s x => exact absurd k' (nam_litS s hok.1)
    | neg t => exact absurd k' not_no.1
    | bin s l r => exact absurd k' (bin_nam s hok.1).2.2.1
    | lit s x => exact ⟨_, rfl, q _ rfl H (Same.refl H)⟩
  have k' : ¬ inV (.str t.hd) (litS.map V.str) = true := k
  rw [sorts_in _ hin] at k'
  refine ⟨_, rfl, small (n := 2) (by decide), fun p1 hp1 => ⟨p1, _, rfl, .inr (SqT.of upd_same), rfl, rfl, _, rfl, ?_⟩⟩
  have g1 := same_new hp1 (.tup [.str "field", .str "has"])
  rw [in_two]
  cases t with
  | lit s x => exact absurd (decide_eq_true hok.1) k'
  | nam s n =>
    obtain ⟨p', e, hp'⟩ := ht
    cases e
    refine ite2 (fun k => ?_) (fun k => absurd (decide_eq_true hok.1) k)
    have hp2 := g1 _ _ hp'
    have hfd2 := g1 _ _ hfd
    refine ⟨_, rfl, p, _, _, _, rfl, rfl, SqT.of hp2, atI_nat (j := 1) rfl, _, rfl, fd, _, rfl, DGet.k (k := Sum.inr n) hfd2, ?_⟩
    refine ⟨_, rfl, ite2 (fun k => ?_) (fun k => ?_)⟩
    · refine qx ?_ _ g1
      have e : valV kd (Sum.inr n) = none := by
        cases e : valV kd (Sum.inr n) with
        | none => rfl
        | some v => rw [e] at k; simp at k
      have e2 : kS kd n = none := by unfold kS; rw [e]
      show ((kS kd n).map fun z : Str => if s = "field" then z else ("flag" : Str)).map V.str = none
      rw [e2]; rfl
    · obtain ⟨v, ev⟩ : ∃ v, valV kd (Sum.inr n) = some v := by
        cases e : valV kd (Sum.inr n) with
        | none => rw [e] at k; simp at k
        | some v => exact ⟨v, rfl⟩
      obtain ⟨z, rfl⟩ := hK n v ev
      have e2 : kS kd n = some z := by unfold kS; rw [ev]
      have e3 : sorV kd (.nam s n) = some (.str (if s = "field" then z else "flag")) := by
        show ((kS kd n).map fun z : Str => if s = "field" then z else ("flag" : Str)).map V.str = _
        rw [e2]; rfl
      have qq := q _ e3 _ g1
      refine ⟨_, rfl, rfl, _, rfl, ite2 (fun k2 => ?_) (fun k2 => ?_)⟩
      · have es : s = "field" := by have := of_decide_eq_true k2; injection this
        rw [if_pos es] at qq
        have dg : DGet (upd H p1 (.tup [.str "field", .str "has"])) fd (.str n) (some (.str z)) := ev ▸ DGet.k (k := Sum.inr n) hfd2
        exact ⟨_, rfl, _, rfl, p, _, _, _, rfl, rfl, SqT.of hp2, atI_nat (j := 1) rfl, fd, _, rfl, dg, qq⟩
      · rw [if_neg fun z => k2 (decide_eq_true (by rw [← z]; rfl))] at qq
        exact qq
  | neg t1 =>
    obtain ⟨z, ez, rfl⟩ := one_of hus
    refine ite2 (fun k => absurd (of_decide_eq_true (show decide (("not" : Str) ∈ (["field", "has"] : List Str)) = true from k)) (by decide +kernel)) fun _ => ?_
    refine ⟨_, rfl, _, rfl, "not", l, z, [], rfl, g1 _ _ hl, fun H2 g2 => ?_⟩
    have g12 := g1.trans g2
    have hl2 := g12 _ _ hl
    refine ⟨fun b H3 => Same H H3 ∧ b = decide (¬ z = wantS "not" z), ?_, ?_⟩
    · refine ⟨_, rfl, l, rfl, ⟨_, SqL.of hl2⟩, comp_test (f := fun x => !decide (x = .str (wantS "not" z))) (xs := [.str z]) (SqL.of hl2) (by show 1 ≤ 1000; decide) (fun x R hx hR => ?_) fun D hD => ?_⟩
      · have ex : x = .str z := by simpa using hx
        subst ex
        exact ⟨_, rfl, _, rfl, rfl, hR⟩
      · refine ⟨D, _, rfl, SqL.of upd_same, _, rfl, g12.trans (same_new hD _), ?_⟩
        simp
    rintro b H3 ⟨g3, rfl⟩
    refine ite2 (fun k => ?_) (fun k => ?_)
    · refine qx ?_ _ g3
      show ((t1.sor kd).bind fun z => if z = wantS "not" z then some (madeS "not") else none).map V.str = none
      rw [ez, Option.bind_some, if_neg (of_decide_eq_true k)]
      rfl
    · have k2 : z = wantS "not" z := Decidable.byContradiction fun c => k (decide_eq_true c)
      have e3 : sorV kd (.neg t1) = some (.str (madeS "not")) := by
        show ((t1.sor kd).bind fun z => if z = wantS "not" z then some (madeS "not") else none).map V.str = _
        rw [ez, Option.bind_some, if_pos k2]
        rfl
      exact made_of (K := K) g3 rfl (q _ e3)
  | bin s t1 t2 =>
    obtain ⟨z, z', ez, ez', rfl⟩ := two_of hus
    obtain ⟨n1, n2, n3, n4⟩ := bin_nam s hok.1
    refine ite2 (fun k => absurd (of_decide_eq_true (show decide (s ∈ (["field", "has"] : List Str)) = true from k)) (by simp [n1, n2])) fun _ => ?_
    refine ⟨_, rfl, _, rfl, s, l, z, [.str z'], rfl, g1 _ _ hl, fun H2 g2 => ?_⟩
    have g12 := g1.trans g2
    have hl2 := g12 _ _ hl
    refine ⟨fun b H3 => Same H H3 ∧ b = decide (¬ (z = wantS s z ∧ z' = wantS s z)), ?_, ?_⟩
    · refine ⟨_, rfl, l, rfl, ⟨_, SqL.of hl2⟩, comp_test (f := fun x => !decide (x = .str (wantS s z))) (xs := [.str z, .str z']) (SqL.of hl2) (by show 2 ≤ 1000; decide) (fun x R hx hR => ?_) fun D hD => ?_⟩
      · have ex : x = .str z ∨ x = .str z' := by simpa using hx
        rcases ex with rfl | rfl
        · exact ⟨_, rfl, _, rfl, rfl, hR⟩
        · exact ⟨_, rfl, _, rfl, rfl, hR⟩
      · refine ⟨D, _, rfl, SqL.of upd_same, _, rfl, g12.trans (same_new hD _), ?_⟩
        generalize wantS s z = W
        by_cases h1 : z = W <;> by_cases h2 : z' = W <;> simp [h1, h2]
    rintro b H3 ⟨g3, rfl⟩
    refine ite2 (fun k => ?_) (fun k => ?_)
    · refine qx ?_ _ g3
      show ((t1.sor kd).bind fun z1 => (t2.sor kd).bind fun z2 => if z1 = wantS s z1 ∧ z2 = wantS s z1 then some (madeS s) else none).map V.str = none
      rw [ez, Option.bind_some, ez', Option.bind_some, if_neg (of_decide_eq_true k)]
      rfl
    · have k2 : z = wantS s z ∧ z' = wantS s z := Decidable.byContradiction fun c => k (decide_eq_true c)
      have e3 : sorV kd (.bin s t1 t2) = some (.str (madeS s)) := by
        show ((t1.sor kd).bind fun z1 => (t2.sor kd).bind fun z2 => if z1 = wantS s z1 ∧ z2 = wantS s z1 then some (madeS s) else none).map V.str = _
        rw [ez, Option.bind_some, ez', Option.bind_some, if_pos k2]
        rfl
      exact made_of (K := K) g3 rfl (q _ e3)
end

end My

set_option Elab.async false
set_option linter.all false
set_option maxRecDepth 100000
set_option maxHeartbeats 4000000
namespace My
open PySem L2
/-! ### the lambda of sort_of_term -/
def lamE : Expr := match defBody (top 12) with
  | [.Return (some (.Call _ [_, e] _ _)) _] => e
  | _ => .Constant .none 0 ⟨0, 0, 0, 0⟩
def lamA : Arguments := match lamE with
  | .Lambda a _ _ _ => a
  | _ => defArgs (.Pass ⟨0, 0, 0, 0⟩)
def lamB : Expr := match lamE with
  | .Lambda _ b _ _ => b
  | _ => .Constant .none 0 ⟨0, 0, 0, 0⟩
def lamS : Scope := match lamE with
  | .Lambda _ _ s _ => s
  | _ => defScope (.Pass ⟨0, 0, 0, 0⟩)
def lamP : Pos := match lamE with
  | .Lambda _ _ _ p => p
  | _ => ⟨0, 0, 0, 0⟩
def lamQ : Str := "sort_of_term" ++ ".<locals>." ++ "<lambda>"
theorem lam_sc : LamScope ["part", "sorts"] "kinds" lamS := ⟨rfl, rfl, rfl, by decide +kernel, by decide +kernel, by decide +kernel, by decide +kernel, by decide +kernel⟩
theorem lam_cl {env : Env} {c : Addr} (h : env.cells.lookup (Str.ofString "kinds") = some c) : closureFor lamS env = pure [(Str.ofString "kinds", c)] := closure_one h lam_sc.one (by decide +kernel)
section
variable {P : Program} {w : World} {K : PySem.W.Frag} {mg : Str → Option Value} {base : Heap} {a : Adr}
def lamJ (kd : List (Key × V)) (fd c' : Addr) (H : Hp) : Prop := H fd = some (.dK kd) ∧ KdS kd ∧ H c' = some (CodeO c' lamQ)
theorem ok_lam (T : Txt K mg a) {f c c' fd : Addr} {pm ct u : Value} {kd : List (Key × V)} (ho : base.get? f = some (PySem.W.kla_obj "<lambda>" lamQ lamA lamB lamS [("kinds", c)] pm c' ct)) (hc : base.IsCell c (some u)) (ru : RelV (.ref fd) u) :
    FnOk P w K mg base (CX1 P w) 4 f (PySem.W.kla_fn "<lambda>" lamQ lamA lamB lamS [("kinds", c)] pm (.ref c') ct) ["part", "sorts"] (spToX (lamJ kd fd c') (sorV kd) (fun _ => True) a.c_BadTerm) := by
  refine lam_of ho (fun vs H Q E h hs hok => ?_) lam_sc hc ru (fun vs H Q E h => ?_) (fun A outer s H vs Q E hr h => ?_)
  · obtain ⟨_, _, _, _, _, hj, _⟩ := hs
    exact codeO_at hok hj.2.2
  · obtain ⟨_, _, _, _, rfl, _⟩ := h; rfl
  obtain ⟨v, t, l, us, rfl, hj, ht, hok, _, hl, hus, q, qx⟩ := h
  refine ⟨_, pe_call (ok_part_sort T kd) (hr.mono (by decide)) rfl T.m_part_sort T.F_part_sort.kp T.b_part_sort .nil passL (pa_cons (pv 0) (pa_cons (pv 1) (pa_cons (pv 2) pa_nil))), ?_⟩
  exact ⟨_, rfl, _, rfl, _, rfl, v, t, l, fd, us, rfl, ht, hok, hj.2.1, hj.1, hl, hus, q, qx⟩
/-- a part with no sort: the term has none -/
theorem sor_pre {kd : List (Key × V)} : ∀ {t k : Tm}, k ∈ t.pre → sorV kd k = none → t.sor kd = none
  | .lit s v, k, hk, h => by
    have e : k = .lit s v := by simpa [Tm.pre] using hk
    subst e; cases h
  | .nam s v, k, hk, h => by
    have e : k = .nam s v := by simpa [Tm.pre] using hk
    subst e; exact Option.map_eq_none_iff.mp h
  | .neg t, k, hk, h => by
    rcases List.mem_cons.mp hk with e | hk
    · subst e; exact Option.map_eq_none_iff.mp h
    · have := sor_pre hk h
      show (t.sor kd).bind _ = none
      rw [this]; rfl
  | .bin s l r, k, hk, h => by
    rcases List.mem_cons.mp hk with e | hk
    · subst e; exact Option.map_eq_none_iff.mp h
    · show (l.sor kd).bind (fun z1 => (r.sor kd).bind _) = none
      rcases List.mem_append.mp hk with hk | hk
      · have := sor_pre hk h
        rw [this]
        cases l.sor kd <;> rfl
      · have := sor_pre hk h
        rw [this]; rfl
theorem TmAt.sameX {Pt : Addr} {H H' : Hp} {t : Tm} {u : V} (h : TmAt H u t) (g : SameX Pt H H') (ht : ∃ ps, H Pt = some (.tbl ps)) : TmAt H' u t := h.keep fun b xs e => g b _ (fun z => by
  obtain ⟨ps, hp⟩ := ht
  rw [z, hp] at e; cases e) e
def spSor (Pt Cx : Addr) : Sp := fun vs H Q E => ∃ v t fd kd, vs = [v, .ref fd] ∧ TmAt H v t ∧ t.ok ∧ t.deep ≤ 9 ∧ KdS kd ∧ H fd = some (.dK kd) ∧ TabI H Pt lamQ lamP ∧ (∀ z, t.sor kd = some z → ∀ H', SameX Pt H H' → TabI H' Pt lamQ lamP → Q (.str z) H') ∧ (t.sor kd = none → ∀ H', SameX Pt H H' → TabI H' Pt lamQ lamP → E (.ref Cx) none H')
theorem ok_sort_of_term (T : Txt K mg a) (hB : BM mg base) : FnOk P w K mg base (CX1 P w) 6 a.f_sort_of_term a.d_sort_of_term ["term", "kinds"] (spSor a.p_mk a.c_BadTerm) := by
  refine T.F_sort_of_term.okC1 sc_sort_of_term (fun vs H Q E h => ?_) (fun cdv A outer s H vs Q E hcd hr h => ?_)
  · obtain ⟨_, _, _, _, rfl, _⟩ := h; rfl
  obtain ⟨v, t, fd, kd, rfl, ht, hok, hd, hK, hfd, hT, q, qx⟩ := h
  have hcode : (cxOf (CX1 P w) P w K mg base ["term", "kinds"] "sort_of_term" (defScope (top 12)) a.f_sort_of_term cdv A outer s H E).env.code = .ref a.c_mk := by
    show cdv = _
    rw [← hcd]; exact T.e_mk
  have hC := T.h_mk
  refine ⟨_, (pss_one (ps_ret (pe_callLam (k := 5) (i := 1) (y := "kinds") (hr.mono (by omega)) rfl T.m_built_up T.F_built_up.kp T.b_built_up pass1 (pv 0) rfl hcode hC hB (fun c hc => lam_cl hc) rfl rfl rfl rfl rfl))), ?_⟩
  refine ⟨_, rfl, hT, _, rfl, fun base' f c c' pm ct u H2 sub ru hf' hcell hsame hhit => ?_⟩
  have hne : fd ≠ a.p_mk := fun e => by
    obtain ⟨ps, hp⟩ := hT.some
    rw [e, hp] at hfd; cases hfd
  have hsz : t.size ≤ 100000 := by
    have := t.size_le
    have p : 2 ^ (t.deep + 1) ≤ 2 ^ 10 := Nat.pow_le_pow_right (by decide) (by omega)
    have e : (2 : Nat) ^ 10 = 1024 := by decide
    omega
  refine ⟨_, ok_built_upX T (k := 4) (J := lamJ kd fd c') (R := sorV kd) (C := fun _ => True) (Cx := a.c_BadTerm) (fun H H' h g => ⟨g _ _ h.1, h.2.1, g _ _ h.2.2⟩) (by decide) (ok_lam T hf' hcell ru) (fun vs H Q E h _ _ hb _ => .inr ⟨_, _, _, _, hb _ _ hf'⟩) (Binds.all fun us hl => ?_), ?_⟩
  · match us, hl with
    | [_, _], _ => rfl
  · refine ⟨v, t, rfl, ⟨hsame _ _ hne hfd, hK, hhit.2⟩, ht.sameX hsame hT.some, hok, fun _ _ => trivial, hsz, fun r hr H' g => ?_, fun k hk hr H' g => qx (sor_pre hk hr) H' (fun b o n e => g _ _ (hsame b o n e)) (.inr ⟨c', hhit.same g⟩)⟩
    obtain ⟨z, ez, rfl⟩ := sorV_some hr
    exact q z ez H' (fun b o n e => g _ _ (hsame b o n e)) (.inr ⟨c', hhit.same g⟩)
end

end My

set_option Elab.async false
set_option linter.all false
set_option maxRecDepth 100000
set_option maxHeartbeats 4000000
namespace My
open PySem L2
/-! ### the law's own sorts -/
def lsor (kd : List (Key × V)) (t : Tm) : Str := (t.sor kd).getD ""
/-- kinds: sorts, each -/
def KdL (kd : List (Key × V)) : Prop := ∀ n v, valV kd (.inr n) = some v → ∃ z, v = .str z ∧ z ∈ litS
theorem KdL.s {kd : List (Key × V)} (h : KdL kd) : KdS kd := fun n v e => let ⟨z, a, _⟩ := h n v e; ⟨z, a⟩
theorem lit_no : ("" : Str) ∉ litS := by decide +kernel
theorem made_lit (s : Str) : madeS s ∈ litS := by unfold madeS; split <;> decide +kernel
theorem sor_lit {kd : List (Key × V)} (hK : KdL kd) : ∀ {t : Tm} {z : Str}, t.ok → t.sor kd = some z → z ∈ litS
  | .lit s v, z, hok, h => by cases h; exact hok.1
  | .nam s n, z, hok, h => by
    have h' : ((kS kd n).map fun z : Str => if s = "field" then z else ("flag" : Str)) = some z := h
    cases e : kS kd n with
    | none => rw [e] at h'; cases h'
    | some y =>
      rw [e] at h'
      have hy : y ∈ litS := by
        unfold kS at e
        cases ev : valV kd (.inr n) with
        | none => rw [ev] at e; cases e
        | some v =>
          obtain ⟨z', rfl, hz⟩ := hK n v ev
          rw [ev] at e; cases e; exact hz
      have hz : (if s = "field" then y else ("flag" : Str)) = z := Option.some.inj h'
      rw [← hz]
      split
      · exact hy
      · decide +kernel
  | .neg t, z, hok, h => by
    have h' : ((t.sor kd).bind fun z => if z = wantS "not" z then some (madeS "not") else none) = some z := h
    cases e : t.sor kd with
    | none => rw [e] at h'; cases h'
    | some y =>
      rw [e, Option.bind_some] at h'
      split at h'
      · cases h'; exact made_lit _
      · cases h'
  | .bin s l r, z, hok, h => by
    have h' : ((l.sor kd).bind fun z1 => (r.sor kd).bind fun z2 => if z1 = wantS s z1 ∧ z2 = wantS s z1 then some (madeS s) else none) = some z := h
    cases e : l.sor kd with
    | none => rw [e] at h'; cases h'
    | some y =>
      rw [e, Option.bind_some] at h'
      cases e2 : r.sor kd with
      | none => rw [e2] at h'; cases h'
      | some y2 =>
        rw [e2, Option.bind_some] at h'
        split at h'
        · cases h'; exact made_lit _
        · cases h'
theorem lsor_none {kd : List (Key × V)} (hK : KdL kd) {t : Tm} (hok : t.ok) : lsor kd t = "" ↔ t.sor kd = none := by
  unfold lsor
  cases e : t.sor kd with
  | none => simp
  | some z =>
    have := sor_lit hK hok e
    constructor
    · intro h
      have h : z = "" := h
      rw [h] at this
      exact absurd this lit_no
    · intro h; cases h
/-- a comprehension over a tuple, whose things leave all that was there -/
theorem comp_same {K : PySem.W.Frag} {p : Addr} {xs zs : List V} {im : List (Option Nat)} {σ : St} {H : Hp} {Q : VK} {te : TE} (hl : zs.length = xs.length) (hp : H p = some (.tup xs)) (hz : xs.length ≤ 1000)
    (he : ∀ (i : Nat) x z H' (R : VK), xs[i]? = some x → zs[i]? = some z → Same H H' → (∀ H2, Same H' H2 → R z H2) → te ((inner im σ).set 0 (some x)) H' R)
    (hQ : ∀ D H', Same H H' → H' D = none → Q (.ref D) (upd H' D (.lst zs))) : CompAt im (gName 0) tNoIf te σ Q (Itt K p) H := by
  refine ⟨fun i m ys H' => m = xs.length - i ∧ i ≤ xs.length ∧ ys = zs.take i ∧ Same H H', ⟨xs.length, by simp, Nat.zero_le _, by simp, Same.refl H⟩, ?_⟩
  rintro i m ys H' ⟨rfl, hi, rfl, g⟩
  refine ⟨by rw [List.length_take]; exact line_of (by omega), ?_⟩
  have hp' := g _ _ hp
  by_cases hlt : i < xs.length
  · refine .inr ⟨⟨xs, xs[i], SqT.of hp', by simp [hlt]⟩, fun x H'' y => ?_⟩
    obtain ⟨e, y⟩ := y
    subst e
    have hx := y xs (SqT.of hp')
    have hzi : zs[i]? = some (zs[i]'(by omega)) := by simp [hl, hlt]
    refine he i x _ _ _ hx hzi g fun H2 g2 => ⟨xs.length - (i + 1), by omega, rfl, hlt, ?_, g.trans g2⟩
    rw [List.take_add_one, hzi]
    simp
  · have e : i = xs.length := by omega
    subst e
    refine .inl ⟨⟨xs, SqT.of hp', Nat.le_refl _⟩, fun D hD => ?_⟩
    rw [← hl, List.take_length]
    exact hQ D _ g hD
theorem kS_get {kd : List (Key × V)} (hK : KdL kd) (n : Str) : (valV kd (.inr n)).getD (.str "") = .str ((kS kd n).getD "") := by
  unfold kS
  cases e : valV kd (.inr n) with
  | none => rfl
  | some v => obtain ⟨z, rfl, _⟩ := hK n v e; rfl
theorem in_one (x y : Str) : inV (.str x) [.str y] = decide (x = y) := by simp [inV, List.any, eq_str]
theorem want_not (z : Str) : wantS "not" z = "flag" := by unfold wantS; rw [if_pos (by decide +kernel)]
theorem made_not : madeS "not" = "flag" := by decide +kernel
theorem lsor_neg {kd : List (Key × V)} {t : Tm} : lsor kd (.neg t) = if lsor kd t = "flag" then ("flag" : Str) else ("" : Str) := by
  show ((t.sor kd).bind fun z => if z = wantS "not" z then some (madeS "not") else none).getD "" = _
  unfold lsor
  cases e : t.sor kd with
  | none => rw [if_neg (by decide +kernel)]; rfl
  | some z =>
    rw [Option.bind_some, want_not, made_not]
    show _ = if z = "flag" then ("flag" : Str) else ("" : Str)
    split <;> rfl
theorem cnt1 (y : Str) : decide (V.int ((List.countP (fun z => eqV z (V.str "flag")) [V.str y] : Nat) : Int) = V.int (([V.str y].length : Nat) : Int)) = decide (y = "flag") := by
  by_cases h : y = "flag"
  · subst h; decide +kernel
  · have h' : eqV (.str y) (.str "flag") = false := by rw [eq_str]; exact decide_eq_false fun z => h z.symm
    simp [List.countP_cons, h', h]
theorem cnt2 (y y' : Str) : decide (V.int ((List.countP (fun z => eqV z (V.str "flag")) [V.str y, V.str y'] : Nat) : Int) = V.int (([V.str y, V.str y'].length : Nat) : Int)) = decide (y = "flag" ∧ y' = "flag") := by
  have e : ∀ x : Str, eqV (.str x) (.str "flag") = decide (x = "flag") := fun x => by rw [eq_str]; exact decide_eq_decide.mpr ⟨fun z => z.symm, fun z => z.symm⟩
  by_cases h : y = "flag" <;> by_cases h' : y' = "flag" <;> simp [List.countP_cons, e, h, h']
theorem bin_made : ∀ s ∈ binS, (s ∈ (["not", "and", "or"] : List Str) ∨ s ∈ (["=", "!="] : List Str)) → madeS s = "flag" := by decide +kernel
theorem lsor_bin {kd : List (Key × V)} (hK : KdL kd) {s : Str} {l r : Tm} (hs : s ∈ binS) (hl : l.ok) (hr : r.ok) : lsor kd (.bin s l r) =
    if lsor kd l = "" ∨ lsor kd r = "" then ("" : Str) else if s ∈ (["not", "and", "or"] : List Str) then (if lsor kd l = "flag" ∧ lsor kd r = "flag" then ("flag" : Str) else "")
    else if s ∈ (["=", "!="] : List Str) then (if lsor kd l = lsor kd r then ("flag" : Str) else "") else if lsor kd l = "number" ∧ lsor kd r = "number" then madeS s else "" := by
  have hb := bin_made s hs
  show ((l.sor kd).bind fun z1 => (r.sor kd).bind fun z2 => if z1 = wantS s z1 ∧ z2 = wantS s z1 then some (madeS s) else none).getD "" = _
  have n1 := lsor_none hK hl
  have n2 := lsor_none hK hr
  cases e1 : l.sor kd with
  | none =>
    rw [if_pos (.inl (n1.mpr e1))]; rfl
  | some z1 =>
    cases e2 : r.sor kd with
    | none => rw [if_pos (.inr (n2.mpr e2))]; rfl
    | some z2 =>
      have l1 : lsor kd l = z1 := by unfold lsor; rw [e1]; rfl
      have l2 : lsor kd r = z2 := by unfold lsor; rw [e2]; rfl
      have m1 : ¬ (lsor kd l = "" ∨ lsor kd r = "") := fun z => by
        rcases z with z | z
        · rw [n1.mp z] at e1; cases e1
        · rw [n2.mp z] at e2; cases e2
      rw [if_neg m1, l1, l2, Option.bind_some, Option.bind_some]
      by_cases c1 : s ∈ (["not", "and", "or"] : List Str)
      · rw [if_pos c1]
        have w1 : wantS s z1 = "flag" := by unfold wantS; rw [if_pos c1]
        rw [w1, hb (.inl c1)]
        split <;> rfl
      · rw [if_neg c1]
        by_cases c2 : s ∈ (["=", "!="] : List Str)
        · rw [if_pos c2]
          have w1 : wantS s z1 = z1 := by unfold wantS; rw [if_neg c1, if_pos c2]
          rw [w1, hb (.inr c2)]
          by_cases h : z1 = z2
          · rw [if_pos ⟨rfl, h.symm⟩, if_pos h]; rfl
          · rw [if_neg fun z => h z.2.symm, if_neg h]; rfl
        · rw [if_neg c2]
          have w1 : wantS s z1 = "number" := by unfold wantS; rw [if_neg c1, if_neg c2]
          rw [w1]
          split <;> rfl
theorem eqLs_two (a b c d : Str) : eqLs [.str a, .str b] [.str c, .str d] = decide (a = c ∧ b = d) := by
  have e : ∀ x y : Str, eqV (.str x) (.str y) = decide (x = y) := fun x y => by rw [eq_str]; exact decide_eq_decide.mpr ⟨fun z => z.symm, fun z => z.symm⟩
  by_cases h : a = c <;> by_cases h' : b = d <;> simp [eqLs, e, h, h']
section
variable {P : Program} {w : World} {K : PySem.W.Frag} {mg : Str → Option Value} {base : Heap} {a : Adr}
def spLS (n : Nat) : Sp := fun vs H Q _ => ∃ v t fd kd, vs = [v, .ref fd] ∧ TmAt H v t ∧ t.ok ∧ t.deep < n ∧ KdL kd ∧ H fd = some (.dK kd) ∧ ∀ H', Same H H' → Q (.str (lsor kd t)) H'
theorem ok_lsort_succ (T : Txt K mg a) (n : Nat) (ih : FnOk P w K mg base CX0 (1 + n) a.f_sort a.d_sort ["_law_term_here", "_law_kinds_here"] (spLS n)) :
    FnOk P w K mg base CX0 (1 + n + 1) a.f_sort a.d_sort ["_law_term_here", "_law_kinds_here"] (spLS (n + 1)) := by
  refine T.F_sort.ok sc_sort (fun vs H Q E h => ?_) (fun cdv A outer s H vs Q E hr h => ?_)
  · obtain ⟨_, _, _, _, rfl, _⟩ := h; rfl
  obtain ⟨v, t, fd, kd, rfl, ht, hok, hd, hK, hfd, q⟩ := h
  have hu1 := hu_of hr
  have hu := hr.units0
  have hin := Tm.hd_in hok
  obtain ⟨p, xs, rfl, hp⟩ := ht.top
  refine ⟨_, (pss_cons (ps_if (pt_cmpR op_in_seq (pe_ix ix_tup (pv 0) pe_int (fun _ _ => rfl)) (pe_tup (pa_cons pe_str (pa_cons pe_str (pa_cons pe_str pa_nil)))) (by with_unfolding_all rfl)) (pss_one (ps_ret (pe_ix ix_tup (pv 0) pe_int (fun _ _ => rfl)))) pss_nil) (pss_cons (ps_if (pt_cmpR op_in_seq (pe_ix ix_tup (pv 0) pe_int (fun _ _ => rfl)) (pe_tup (pa_cons pe_str (pa_cons pe_str pa_nil))) (by with_unfolding_all rfl)) (pss_cons (ps_set (i := 2) sc_sort.nd rfl (by first | exact Or.inl rfl | exact Or.inr rfl) (pe_dget2 hu1 (pv 1) (pe_ix ix_tup (pv 0) pe_int (fun _ _ => rfl)) pe_str ⟨rfl, rfl, rfl, rfl⟩)) (pss_one (ps_ret (pe_ifExp (PW.pt (pw_or (pt_cmpR op_eq (pe_ix ix_tup (pv 0) pe_int (fun _ _ => rfl)) pe_str (nomark _)) (pw_or1 (pt_cmpR op_eq (pv 2) pe_str (nomark _))))) (pv 2) pe_str)))) pss_nil) (pss_cons (ps_setC (i := 3) sc_sort.nd rfl (by first | exact Or.inl rfl | exact Or.inr rfl) ["_law_part", "_law_kinds_here"] [none, some 1] (pi_tup (pe_slice sl_tup (pv 0) (po_some pe_int) po_none)) (fun _ _ _ _ _ => (pg_name (i := 0) (show List.Nodup (["_law_part", "_law_kinds_here"] : List Str) from by decide +kernel) rfl (Or.inl rfl) (Or.inr rfl))) (fun _ _ _ _ _ => pts_nil) (fun _ _ _ _ _ => (pe_call ih (hr.mono (by omega)) rfl T.m_sort T.F_sort.kp T.b_sort .nil pass0 (pa_cons (pv 0) (pa_cons (pv 1) pa_nil))))) (pss_cons (ps_if (pt_cmpR op_in_seq pe_str (pv 3) (by with_unfolding_all rfl)) (pss_one (ps_ret pe_str)) pss_nil) (pss_cons (ps_if (pt_cmpR op_in_seq (pe_ix ix_tup (pv 0) pe_int (fun _ _ => rfl)) (pe_tup (pa_cons pe_str (pa_cons pe_str (pa_cons pe_str pa_nil)))) (by with_unfolding_all rfl)) (pss_one (ps_ret (pe_ifExp (pt_cmpR op_eq (pe_bm PySem.F.plainAttrs_list PySem.F.slot_list_count PySem.F.type_list_count mt_countL (pv 3) (pa_cons pe_str pa_nil)) (pe_callB call_len_seq rfl T.n_len PySem.boot_len (pa_cons (pv 3) pa_nil)) (nomark _)) pe_str pe_str))) pss_nil) (pss_cons (ps_if (pt_cmpR op_in_seq (pe_ix ix_tup (pv 0) pe_int (fun _ _ => rfl)) (pe_tup (pa_cons pe_str (pa_cons pe_str pa_nil))) (by with_unfolding_all rfl)) (pss_one (ps_ret (pe_ifExp (pt_cmpR op_eq (pe_ix ix_list (pv 3) pe_int (fun _ _ => rfl)) (pe_ix ix_list (pv 3) pe_int (fun _ _ => rfl)) (nomark _)) pe_str pe_str))) pss_nil) (pss_cons (ps_if (pt_cmpR (op_neL hu) (pv 3) (pe_lst (pa_cons pe_str (pa_cons pe_str pa_nil))) (nomark _)) (pss_one (ps_ret pe_str)) pss_nil) (pss_one (ps_ret (pe_ifExp (pt_cmpR op_in_seq (pe_ix ix_tup (pv 0) pe_int (fun _ _ => rfl)) (pe_tup (pa_cons pe_str (pa_cons pe_str (pa_cons pe_str pa_nil)))) (by with_unfolding_all rfl)) pe_str pe_str)))))))))), ?_⟩
  refine ⟨_, rfl, p, _, _, _, rfl, rfl, SqT.of hp, atI_nat (j := 0) rfl, small (n := 3) (by decide), fun p1 hp1 => ⟨p1, _, rfl, .inr (SqT.of upd_same), rfl, rfl, _, rfl, ?_⟩⟩
  have g1 := same_new hp1 (.tup [.str "number", .str "word", .str "flag"])
  have hp2 := g1 _ _ hp
  rw [in_three]
  cases t with
  | lit s x =>
    refine ite2 (fun k => ?_) (fun k => absurd (decide_eq_true hok.1) k)
    exact ⟨_, rfl, p, _, _, _, rfl, rfl, SqT.of hp2, atI_nat (j := 0) rfl, q _ g1⟩
  | nam s n =>
    refine ite2 (fun k => absurd (of_decide_eq_true (show decide (s ∈ litS) = true from k)) (nam_litS s hok.1)) (fun _ => ?_)
    refine ⟨_, rfl, p, _, _, _, rfl, rfl, SqT.of hp2, atI_nat (j := 0) rfl, small (n := 2) (by decide), fun p3 hp3 => ⟨p3, _, rfl, .inr (SqT.of upd_same), rfl, rfl, _, rfl, ?_⟩⟩
    have g2 := g1.trans (same_new hp3 (.tup [.str "field", .str "has"]))
    rw [in_two]
    refine ite2 (fun k => ?_) (fun k => absurd (decide_eq_true hok.1) k)
    obtain ⟨p', e, hp'⟩ := ht
    cases e
    have hp4 := g2 _ _ hp'
    have qq := q _ g2
    refine ⟨_, rfl, fd, rfl, .inl ⟨_, .inl (g2 _ _ hfd)⟩, _, rfl, p, _, _, _, rfl, rfl, SqT.of hp4, atI_nat (j := 1) rfl, _, DGet.k (k := Sum.inr n) (g2 _ _ hfd), ?_⟩
    rw [kS_get hK]
    have el : lsor kd (.nam s n) = if s = "field" ∨ (kS kd n).getD "" = "" then (kS kd n).getD "" else "flag" := by
      show ((kS kd n).map fun z : Str => if s = "field" then z else ("flag" : Str)).getD "" = _
      cases e : kS kd n with
      | none => simp
      | some z =>
        have hz : z ∈ litS := by
          have := sor_lit (t := .nam "field" n) (z := z) hK ⟨by decide +kernel, hok.2⟩ (by show ((kS kd n).map fun z : Str => if ("field" : Str) = "field" then z else ("flag" : Str)) = some z; rw [e]; rfl)
          exact this
        have hz0 : ¬ z = "" := fun z0 => lit_no (z0 ▸ hz)
        by_cases hs : s = "field" <;> simp [hs, hz0]
    rw [el] at qq
    refine ⟨_, rfl, p, _, _, _, rfl, rfl, SqT.of hp4, atI_nat (j := 0) rfl, rfl, _, rfl, ite2 (fun k1 => ?_) (fun k1 => ?_)⟩
    · have es : s = "field" := by have := of_decide_eq_true k1; injection this
      rw [if_pos (.inl es)] at qq
      exact ⟨_, rfl, qq⟩
    · have es : ¬ s = "field" := fun z => k1 (decide_eq_true (by rw [z]))
      refine ⟨_, rfl, rfl, _, rfl, ite2 (fun k2 => ?_) (fun k2 => ?_)⟩
      · have e0 : (kS kd n).getD "" = "" := by have := of_decide_eq_true k2; injection this
        rw [if_pos (.inr e0)] at qq
        exact ⟨_, rfl, qq⟩
      · have e0 : ¬ (kS kd n).getD "" = "" := fun z => k2 (decide_eq_true (by rw [z]))
        rw [if_neg (by simp [es, e0])] at qq
        exact qq
  | neg t1 =>
    refine ite2 (fun k => absurd (of_decide_eq_true (show decide (("not" : Str) ∈ litS) = true from k)) not_no.1) (fun _ => ?_)
    refine ⟨_, rfl, p, _, _, _, rfl, rfl, SqT.of hp2, atI_nat (j := 0) rfl, small (n := 2) (by decide), fun p3 hp3 => ⟨p3, _, rfl, .inr (SqT.of upd_same), rfl, rfl, _, rfl, ?_⟩⟩
    have g2 := g1.trans (same_new hp3 (.tup [.str "field", .str "has"]))
    rw [in_two]
    refine ite2 (fun k => absurd (of_decide_eq_true (show decide (("not" : Str) ∈ (["field", "has"] : List Str)) = true from k)) (by decide +kernel)) (fun _ => ?_)
    obtain ⟨p', w1, e, hp', h1⟩ := ht
    cases e
    refine ⟨_, rfl, _, rfl, p, _, rfl, SqT.of (g2 _ _ hp'), cut1_ok _ _ _, fun tp htp => ?_⟩
    rw [cut1]
    have g3 := g2.trans (same_new htp (.tup [w1]))
    refine ⟨tp, rfl, ⟨_, SqT.of upd_same⟩, comp_same (xs := [w1]) (zs := [.str (lsor kd t1)]) rfl upd_same (by show 1 ≤ 1000; decide) (fun i x z H' R hx hz g4 hR => ?_) fun D H' g4 hD => ?_⟩
    · have hi : i = 0 := by
        cases i with
        | zero => rfl
        | succ i => simp at hx
      subst hi
      have ex : w1 = x := by simpa using hx
      have ez : V.str (lsor kd t1) = z := by simpa using hz
      subst ex ez
      have g := g3.trans g4
      have hdd : t1.deep + 1 < n + 1 := hd
      exact ⟨_, rfl, _, rfl, w1, t1, fd, kd, rfl, h1.same g, hok, by omega, hK, g _ _ hfd, hR⟩
    · have g5 := g3.trans (g4.trans (same_new hD (.lst [.str (lsor kd t1)])))
      have hDD : upd H' D (.lst [.str (lsor kd t1)]) D = some (.lst [.str (lsor kd t1)]) := upd_same
      have hp5 := g5 _ _ hp
      refine ⟨_, rfl, D, _, rfl, .inl (SqL.of hDD), rfl, rfl, _, rfl, ?_⟩
      rw [in_one]
      refine ite2 (fun k => ?_) (fun k => ?_)
      · have e0 : lsor kd t1 = "" := (of_decide_eq_true k).symm
        have en : lsor kd (.neg t1) = "" := by rw [lsor_neg, e0, if_neg (by decide +kernel)]
        have := q _ g5
        rw [en] at this
        exact this
      have e0 : ¬ lsor kd t1 = "" := fun z => k (decide_eq_true z.symm)
      refine ⟨_, rfl, p, _, _, _, rfl, rfl, SqT.of hp5, atI_nat (j := 0) rfl, small (n := 3) (by decide), fun p6 hp6 => ⟨p6, _, rfl, .inr (SqT.of upd_same), rfl, rfl, _, rfl, ?_⟩⟩
      rw [in_three]
      have g6 := same_new hp6 (.tup [.str "not", .str "and", .str "or"])
      have qq := q _ (g5.trans g6)
      have hD6 := g6 _ _ hDD
      refine ite2 (fun _ => ?_) (fun k => absurd (show decide (("not" : Str) ∈ (["not", "and", "or"] : List Str)) = true from by decide +kernel) k)
      refine ⟨_, rfl, .inl ⟨rfl, _, SqL.of hD6⟩, D, _, _, rfl, rfl, hD6, rfl, rfl, _, rfl, D, _, rfl, .inl (SqL.of hD6), rfl, _, rfl, ?_⟩
      rw [lsor_neg] at qq
      rw [cnt1]
      refine ite2 (fun k2 => ?_) (fun k2 => ?_)
      · rw [if_pos (of_decide_eq_true k2)] at qq; exact qq
      · rw [if_neg fun z => k2 (decide_eq_true z)] at qq; exact qq
  | bin s t1 t2 =>
    obtain ⟨n1, n2, n3, n4⟩ := bin_nam s hok.1
    refine ite2 (fun k => absurd (of_decide_eq_true (show decide (s ∈ litS) = true from k)) n3) (fun _ => ?_)
    refine ⟨_, rfl, p, _, _, _, rfl, rfl, SqT.of hp2, atI_nat (j := 0) rfl, small (n := 2) (by decide), fun p3 hp3 => ⟨p3, _, rfl, .inr (SqT.of upd_same), rfl, rfl, _, rfl, ?_⟩⟩
    have g2 := g1.trans (same_new hp3 (.tup [.str "field", .str "has"]))
    rw [in_two]
    refine ite2 (fun k => absurd (of_decide_eq_true (show decide (s ∈ (["field", "has"] : List Str)) = true from k)) (by simp [n1, n2])) (fun _ => ?_)
    obtain ⟨p', w1, w2, e, hp', h1, h2⟩ := ht
    cases e
    refine ⟨_, rfl, _, rfl, p, _, rfl, SqT.of (g2 _ _ hp'), cut1_ok _ _ _, fun tp htp => ?_⟩
    rw [cut1]
    have g3 := g2.trans (same_new htp (.tup [w1, w2]))
    refine ⟨tp, rfl, ⟨_, SqT.of upd_same⟩, comp_same (xs := [w1, w2]) (zs := [.str (lsor kd t1), .str (lsor kd t2)]) rfl upd_same (by show 2 ≤ 1000; decide) (fun i x z H' R hx hz g4 hR => ?_) fun D H' g4 hD => ?_⟩
    · have g := g3.trans g4
      have hdd : max t1.deep t2.deep + 1 < n + 1 := hd
      match i, hx, hz with
      | 0, hx, hz =>
        have ex : w1 = x := by simpa using hx
        have ez : V.str (lsor kd t1) = z := by simpa using hz
        subst ex ez
        exact ⟨_, rfl, _, rfl, w1, t1, fd, kd, rfl, h1.same g, hok.2.1, by omega, hK, g _ _ hfd, hR⟩
      | 1, hx, hz =>
        have ex : w2 = x := by simpa using hx
        have ez : V.str (lsor kd t2) = z := by simpa using hz
        subst ex ez
        exact ⟨_, rfl, _, rfl, w2, t2, fd, kd, rfl, h2.same g, hok.2.2, by omega, hK, g _ _ hfd, hR⟩
      | i + 2, hx, hz => simp at hx
    · have g5 := g3.trans (g4.trans (same_new hD (.lst [.str (lsor kd t1), .str (lsor kd t2)])))
      have hDD : upd H' D (.lst [.str (lsor kd t1), .str (lsor kd t2)]) D = some (.lst [.str (lsor kd t1), .str (lsor kd t2)]) := upd_same
      have hp5 := g5 _ _ hp
      rw [lsor_bin hK hok.1 hok.2.1 hok.2.2] at q
      generalize lsor kd t1 = y1 at q g5 hDD hp5 ⊢
      generalize lsor kd t2 = y2 at q g5 hDD hp5 ⊢
      generalize upd H' D (.lst [.str y1, .str y2]) = H5 at g5 hDD hp5 ⊢
      refine ⟨_, rfl, D, _, rfl, .inl (SqL.of hDD), rfl, rfl, _, rfl, ?_⟩
      rw [in_two]
      refine ite2 (fun k => ?_) (fun k => ?_)
      · have e0 : y1 = "" ∨ y2 = "" := by
          have := of_decide_eq_true k
          simp at this
          exact this.imp Eq.symm Eq.symm
        have := q _ g5
        rw [if_pos e0] at this
        exact this
      have e0 : ¬ (y1 = "" ∨ y2 = "") := fun z => k (decide_eq_true (by simp; exact z.imp Eq.symm Eq.symm))
      rw [if_neg e0] at q
      refine ⟨_, rfl, p, _, _, _, rfl, rfl, SqT.of hp5, atI_nat (j := 0) rfl, small (n := 3) (by decide), fun p6 hp6 => ⟨p6, _, rfl, .inr (SqT.of upd_same), rfl, rfl, _, rfl, ?_⟩⟩
      rw [in_three]
      have g6 := same_new hp6 (.tup [.str "not", .str "and", .str "or"])
      have g56 := g5.trans g6
      have hD6 := g6 _ _ hDD
      refine ite2 (fun k1 => ?_) (fun k1 => ?_)
      · rw [if_pos (of_decide_eq_true (show decide (s ∈ _) = true from k1))] at q
        have qq := q _ g56
        refine ⟨_, rfl, .inl ⟨rfl, _, SqL.of hD6⟩, D, _, _, rfl, rfl, hD6, rfl, rfl, _, rfl, D, _, rfl, .inl (SqL.of hD6), rfl, _, rfl, ?_⟩
        rw [cnt2]
        refine ite2 (fun k2 => ?_) (fun k2 => ?_)
        · rw [if_pos (of_decide_eq_true k2)] at qq; exact qq
        · rw [if_neg fun z => k2 (decide_eq_true z)] at qq; exact qq
      rw [if_neg fun z : s ∈ (["not", "and", "or"] : List Str) => k1 (decide_eq_true z)] at q
      refine ⟨_, rfl, p, _, _, _, rfl, rfl, SqT.of (g6 _ _ hp5), atI_nat (j := 0) rfl, small (n := 2) (by decide), fun p7 hp7 => ⟨p7, _, rfl, .inr (SqT.of upd_same), rfl, rfl, _, rfl, ?_⟩⟩
      rw [in_two]
      have g7 := same_new hp7 (.tup [.str "=", .str "!="])
      have g57 := g56.trans g7
      have hD7 := g7 _ _ hD6
      refine ite2 (fun k2 => ?_) (fun k2 => ?_)
      · rw [if_pos (of_decide_eq_true (show decide (s ∈ _) = true from k2))] at q
        have qq := q _ g57
        refine ⟨_, rfl, D, _, _, _, rfl, rfl, SqL.of hD7, atI_nat (j := 0) rfl, _, rfl, D, _, _, _, rfl, rfl, SqL.of hD7, atI_nat (j := 1) rfl, rfl, _, rfl, ite2 (fun k3 => ?_) (fun k3 => ?_)⟩
        · rw [if_pos (by have := of_decide_eq_true k3; injection this)] at qq; exact qq
        · rw [if_neg fun z => k3 (decide_eq_true (by rw [z]))] at qq; exact qq
      rw [if_neg fun z : s ∈ (["=", "!="] : List Str) => k2 (decide_eq_true z)] at q
      refine ⟨_, rfl, small (n := 2) (by decide), fun l8 hl8 => ?_⟩
      have g8 := same_new hl8 (.lst [.str "number", .str "number"])
      have g58 := g57.trans g8
      refine ⟨D, l8, _, _, rfl, rfl, SqL.of (g8 _ _ hD7), SqL.of upd_same, rfl, rfl, _, rfl, ?_⟩
      rw [eqLs_two]
      refine ite2 (fun k3 => ?_) (fun k3 => ?_)
      · have k3' : ¬ (y1 = "number" ∧ y2 = "number") := fun z => by
          have k4 : (!decide (y1 = "number" ∧ y2 = "number")) = true := k3
          rw [decide_eq_true z] at k4
          cases k4
        have qq := q _ g58
        rw [if_neg k3'] at qq
        exact qq
      have k3' : y1 = "number" ∧ y2 = "number" := Decidable.byContradiction fun z => k3 (by
        show (!decide (y1 = "number" ∧ y2 = "number")) = true
        rw [decide_eq_false z]; rfl)
      rw [if_pos k3'] at q
      refine ⟨_, rfl, p, _, _, _, rfl, rfl, SqT.of (g8 _ _ (g7 _ _ (g6 _ _ hp5))), atI_nat (j := 0) rfl, small (n := 3) (by decide), fun p9 hp9 => ⟨p9, _, rfl, .inr (SqT.of upd_same), rfl, rfl, _, rfl, ?_⟩⟩
      rw [in_three]
      have qq := q _ (g58.trans (same_new hp9 (.tup [.str "+", .str "-", .str "*"])))
      unfold madeS at qq
      refine ite2 (fun k4 => ?_) (fun k4 => ?_)
      · rw [if_pos (of_decide_eq_true (show decide (s ∈ _) = true from k4))] at qq; exact qq
      · rw [if_neg fun z : s ∈ (["+", "-", "*"] : List Str) => k4 (decide_eq_true z)] at qq; exact qq
theorem ok_lsort (T : Txt K mg a) : ∀ n, FnOk P w K mg base CX0 (1 + n) a.f_sort a.d_sort ["_law_term_here", "_law_kinds_here"] (spLS n)
  | 0 => fn_false fun vs H Q E h => by obtain ⟨_, _, _, _, _, _, _, h1, _⟩ := h; omega
  | n + 1 => ok_lsort_succ T n (ok_lsort T n)
end

end My

set_option Elab.async false
set_option linter.all false
set_option maxRecDepth 100000
set_option maxHeartbeats 4000000
namespace My
open PySem L2
/-! ### a part exchanged -/
abbrev leafX : List Str := ["number", "word", "flag", "field", "has"]
theorem leafX_in : ∀ s ∈ allS, inV (.str s) [.str "number", .str "word", .str "flag", .str "field", .str "has"] = decide (s ∈ leafX) := by decide +kernel
theorem lit_leafX : ∀ s ∈ litS, s ∈ leafX := by decide +kernel
theorem nam_leafX : ∀ s ∈ namS, s ∈ leafX := by decide +kernel
theorem cutA (a b : V) : cutV [a, b] none (some (1 + 0)) = [a] := rfl
theorem cutB (a b : V) : cutV [a, b] (some (1 + 0 + 1)) none = [] := rfl
theorem cutC (a b c : V) : cutV [a, b, c] none (some (1 + 0)) = [a] := rfl
theorem cutD (a b c : V) : cutV [a, b, c] (some (1 + 0 + 1)) none = [c] := rfl
theorem cutE (a b c : V) : cutV [a, b, c] none (some (1 + 1)) = [a, b] := rfl
theorem cutF (a b c : V) : cutV [a, b, c] (some (1 + 1 + 1)) none = [] := rfl
section
variable {P : Program} {w : World} {K : PySem.W.Frag} {mg : Str → Option Value} {base : Heap} {a : Adr}
def spExc (n : Nat) : Sp := fun vs H Q _ => ∃ d v t u, vs = [.ref d, v, u] ∧ Drw H d ∧ TmAt H v t ∧ t.ok ∧ t.deep < n ∧ ∀ v' t' H', Ev d H H' → TmAt H' v' t' → t'.ok → t'.deep ≤ t.deep → Q v' H'
theorem ok_exc_succ (T : Txt K mg a) (n : Nat) (ih : FnOk P w K mg base CX0 (6 + n) a.f_exchanged a.d_exchanged ["_law_draw", "_law_term_here", "_law_kinds_here"] (spExc n)) :
    FnOk P w K mg base CX0 (6 + n + 1) a.f_exchanged a.d_exchanged ["_law_draw", "_law_term_here", "_law_kinds_here"] (spExc (n + 1)) := by
  refine T.F_exchanged.ok sc_exchanged (fun vs H Q E h => ?_) (fun cdv A outer s H vs Q E hr h => ?_)
  · obtain ⟨_, _, _, _, rfl, _⟩ := h; rfl
  obtain ⟨d, v, t, u, rfl, hD, ht, hok, hd, q⟩ := h
  have hu1 := hu_of hr
  have hin := Tm.hd_in hok
  refine ⟨_, (Box.un (by exact (bss_cons (bs_if ⟨(pt_cut (PW.pt (pw_or (pt_cmpR op_in_seq (pe_ix ix_tup (pv 1) pe_int (fun _ _ => rfl)) (pe_tup (pa_cons pe_str (pa_cons pe_str (pa_cons pe_str (pa_cons pe_str (pa_cons pe_str pa_nil)))))) (by with_unfolding_all rfl)) (pw_or1 (pt_cmpR op_eq (pe_call (ok_take T) (hr.mono (by omega)) rfl T.m_take T.F_take.kp T.b_take .nil pass0 (pa_cons (pv 0) (pa_cons pe_int pa_nil))) pe_int (nomark _))))))⟩ (bss_cons (bs_set (i := 3) sc_exchanged.nd rfl (by first | exact Or.inl rfl | exact Or.inr rfl) (be_lst (bpa_cons (be_tup (bpa_cons ⟨pe_str⟩ (bpa_cons ⟨pe_str⟩ bpa_nil rfl) rfl)) (bpa_cons (be_tup (bpa_cons ⟨pe_str⟩ (bpa_cons ⟨pe_str⟩ bpa_nil rfl) rfl)) (bpa_cons (be_tup (bpa_cons ⟨pe_str⟩ (bpa_cons ⟨pe_str⟩ bpa_nil rfl) rfl)) (bpa_cons (be_tup (bpa_cons ⟨pe_str⟩ (bpa_cons ⟨pe_int⟩ bpa_nil rfl) rfl)) (bpa_cons (be_tup (bpa_cons ⟨pe_str⟩ (bpa_cons ⟨pe_bl⟩ bpa_nil rfl) rfl)) bpa_nil rfl) rfl) rfl) rfl) rfl)) rfl (by first | exact .inl rfl | exact .inr rfl)) (bss_one (bs_ret ⟨(pe_call (ok_of T) (hr.mono (by omega)) rfl T.m_of T.F_of.kp T.b_of .nil pass0 (pa_cons (pv 0) (pa_cons (pv 3) pa_nil)))⟩))) bss_nil) (bss_cons (bs_set (i := 4) sc_exchanged.nd rfl (by first | exact Or.inl rfl | exact Or.inr rfl) (be_op op_add ⟨pe_int⟩ ⟨(pe_call (ok_take T) (hr.mono (by omega)) rfl T.m_take T.F_take.kp T.b_take .nil pass0 (pa_cons (pv 0) (pa_cons (pe_op op_sub (pe_callB call_len_seq rfl T.n_len PySem.boot_len (pa_cons (pv 1) pa_nil)) pe_int) pa_nil)))⟩) rfl (by first | exact .inl rfl | exact .inr rfl)) (bss_one (bs_ret (be_op op_addT (be_op op_addT ⟨(pe_slice sl_tup (pv 1) po_none (po_some (pv 4)))⟩ (be_tup (bpa_cons ⟨(pe_call ih (hr.mono (by omega)) rfl T.m_exchanged T.F_exchanged.kp T.b_exchanged .nil pass0 (pa_cons (pv 0) (pa_cons (pe_ix ix_tup (pv 1) (pv 4) (fun _ _ => rfl)) (pa_cons (pv 2) pa_nil))))⟩ bpa_nil rfl))) ⟨(pe_slice sl_tup (pv 1) (po_some (pe_op op_add (pv 4) pe_int)) po_none)⟩))))))), ?_⟩
  refine ⟨fun b H1 => Ev d H H1 ∧ (b = false → 1 ≤ t.deep), ?_, ?_⟩
  · obtain ⟨p, xs, rfl, hp⟩ := ht.top
    refine ⟨_, rfl, p, _, _, _, rfl, rfl, SqT.of hp, atI_nat (j := 0) rfl, small (n := 5) (by decide), fun tp htp => ?_⟩
    have ev0 := Ev.of hD (same_new htp (.tup [.str "number", .str "word", .str "flag", .str "field", .str "has"]))
    refine ⟨tp, _, rfl, .inr (SqT.of upd_same), rfl, rfl, _, rfl, ite2 (fun k => ⟨ev0, fun z => by cases z⟩) (fun k => ?_)⟩
    have hi : 1 ≤ t.deep := by
      have k' : ¬ inV (.str t.hd) [.str "number", .str "word", .str "flag", .str "field", .str "has"] = true := k
      rw [leafX_in _ hin] at k'
      cases t with
      | lit s x => exact absurd (decide_eq_true (lit_leafX s hok.1)) k'
      | nam s x => exact absurd (decide_eq_true (nam_leafX s hok.1)) k'
      | neg t => show 1 ≤ t.deep + 1; omega
      | bin s l r => show 1 ≤ max l.deep r.deep + 1; omega
    exact ⟨_, rfl, d, _, rfl, ev0.drw, by decide, by decide, fun r H1 _ _ ev1 => ⟨rfl, _, rfl, ev0.trans ev1, fun _ => hi⟩⟩
  intro b H1 hb
  obtain ⟨ev1, hb⟩ := hb
  refine ite2 (fun k => ?_) (fun k => ?_)
  · refine ⟨small (n := 2) (by decide), fun p1 h1 => ⟨small (n := 2) (by decide), fun p2 h2 => ⟨small (n := 2) (by decide), fun p3 h3 => ⟨small (n := 2) (by decide), fun p4 h4 => ⟨small (n := 2) (by decide), fun p5 h5 => ⟨small (n := 5) (by decide), fun lb hlb => ?_⟩⟩⟩⟩⟩⟩
    have g1 := same_new h1 (.tup [.str "field", .str "nobody"])
    have g2 := same_new h2 (.tup [.str "has", .str "nobody"])
    have g3 := same_new h3 (.tup [.str "word", .str "a"])
    have g4 := same_new h4 (.tup [.str "number", .int 3])
    have g5 := same_new h5 (.tup [.str "flag", .bl true])
    have g6 := same_new hlb (.lst [.ref p1, .ref p2, .ref p3, .ref p4, .ref p5])
    have evl := ev1.then (((((g1.trans g2).trans g3).trans g4).trans g5).trans g6)
    have hlbd : lb ≠ d := (ev1.then ((((g1.trans g2).trans g3).trans g4).trans g5)).drw.ne_of_none hlb
    have t1 : TmAt _ (.ref p1) (.nam "field" "nobody") := TmAt.same (t := .nam "field" "nobody") ⟨p1, rfl, upd_same⟩ ((((g2.trans g3).trans g4).trans g5).trans g6)
    have t2 : TmAt _ (.ref p2) (.nam "has" "nobody") := TmAt.same (t := .nam "has" "nobody") ⟨p2, rfl, upd_same⟩ (((g3.trans g4).trans g5).trans g6)
    have t3 : TmAt _ (.ref p3) (.lit "word" (.str "a")) := TmAt.same (t := .lit "word" (.str "a")) ⟨p3, rfl, upd_same⟩ ((g4.trans g5).trans g6)
    have t4 : TmAt _ (.ref p4) (.lit "number" (.int 3)) := TmAt.same (t := .lit "number" (.int 3)) ⟨p4, rfl, upd_same⟩ (g5.trans g6)
    have t5 : TmAt _ (.ref p5) (.lit "flag" (.bl true)) := TmAt.same (t := .lit "flag" (.bl true)) ⟨p5, rfl, upd_same⟩ g6
    refine ⟨_, rfl, _, rfl, d, _, rfl, evl.drw, .inr ⟨lb, _, rfl, hlbd, upd_same, by show 1 ≤ 5; decide, by show 5 ≤ 1000; decide, fun x H' ev' hx => ?_⟩⟩
    have evx := evl.trans ev'
    simp only [List.mem_cons, List.not_mem_nil, or_false] at hx
    rcases hx with rfl | rfl | rfl | rfl | rfl
    · exact q _ _ _ evx (t1.ev evl.drw ev') ⟨by decide +kernel, by decide +kernel⟩ (Nat.zero_le _)
    · exact q _ _ _ evx (t2.ev evl.drw ev') ⟨by decide +kernel, by decide +kernel⟩ (Nat.zero_le _)
    · exact q _ _ _ evx (t3.ev evl.drw ev') ⟨by decide +kernel, .inr (.inr ⟨_, rfl, by decide +kernel⟩)⟩ (Nat.zero_le _)
    · exact q _ _ _ evx (t4.ev evl.drw ev') ⟨by decide +kernel, .inr (.inl ⟨3, rfl, by decide, by decide⟩)⟩ (Nat.zero_le _)
    · exact q _ _ _ evx (t5.ev evl.drw ev') ⟨by decide +kernel, .inl ⟨_, rfl⟩⟩ (Nat.zero_le _)
  have hi : 1 ≤ t.deep := hb (by cases b <;> simp at k ⊢)
  have ht1 := ht.ev hD ev1
  cases t with
  | lit s x => exact absurd hi (by show ¬ 1 ≤ 0; decide)
  | nam s x => exact absurd hi (by show ¬ 1 ≤ 0; decide)
  | neg t1 =>
    obtain ⟨p, w1, rfl, hp, hk1⟩ := ht1
    have hdd : t1.deep + 1 < n + 1 := hd
    refine ⟨_, rfl, _, rfl, p, _, rfl, .inr (SqT.of hp), _, _, rfl, rfl, d, _, rfl, ev1.drw, by show (1 : Int) ≤ 2 - 1; decide, by show (2 - 1 : Int) < 2 ^ 200; decide, fun r H2 r0 r1 ev2 => ⟨_, _, rfl, rfl, ?_⟩⟩
    have r1' : r < 2 - 1 := r1
    obtain rfl : r = 0 := by omega
    have hpd : p ≠ d := fun z => by
      obtain ⟨xs, e⟩ := ev1.drw.some
      rw [z, e] at hp; cases hp
    have hp2 := ev2.same _ _ hpd hp
    have hk2 := hk1.ev ev1.drw ev2
    refine ⟨_, rfl, _, rfl, _, rfl, p, _, rfl, SqT.of hp2, by show ¬ (HT.sIx 2 0 none = 0 ∧ HT.sIx 2 2 (some (1 + 0)) = 2); decide, fun tp htp => ?_⟩
    rw [cutA]
    have g3 := same_new htp (.tup [.str "not"])
    have hp3 := g3 _ _ hp2
    refine ⟨_, rfl, _, rfl, _, rfl, p, _, _, _, rfl, rfl, SqT.of hp3, atI_nat (j := 1) rfl, _, rfl, d, w1, t1, u, rfl, ev2.drw.keep g3, hk2.same g3, hok, by omega, fun v' t' H4 ev4 ht' tok td => ⟨small (n := 1) (by decide), fun tp2 htp2 => ?_⟩⟩
    have tpd : tp ≠ d := ev2.drw.ne_of_none htp
    have htp4 := ev4.same _ _ tpd (upd_same (H := H2) (a := tp) (o := .tup [.str "not"]))
    have g5 := same_new htp2 (.tup [v'])
    refine ⟨tp, tp2, _, _, rfl, rfl, SqT.of (g5 _ _ htp4), SqT.of upd_same, small (n := 2) (by decide), fun z => by (cases z), fun _ z => by (cases z), fun _ _ m hm => ?_⟩
    have g6 := same_new hm (.tup ([.str "not"] ++ [v']))
    have hp6 := g6 _ _ (g5 _ _ (ev4.same _ _ hpd hp3))
    refine ⟨_, rfl, _, rfl, _, _, rfl, rfl, _, rfl, p, _, rfl, SqT.of hp6, by show ¬ (HT.sIx 2 0 (some (1 + 0 + 1)) = 0 ∧ HT.sIx 2 2 none = 2); decide, fun tp3 htp3 => ?_⟩
    rw [cutB]
    have g7 := same_new htp3 (.tup [])
    refine ⟨m, tp3, _, _, rfl, rfl, SqT.of (g7 _ _ upd_same), SqT.of upd_same, small (n := 2) (by decide), fun z => by (cases z), fun _ _ => ?_, fun _ z => absurd rfl z⟩
    refine q _ (.neg t') _ ((((ev1.trans ev2).then g3).trans ev4).then ((g5.trans g6).trans g7)) ⟨m, v', rfl, g7 _ _ upd_same, ht'.same ((g5.trans g6).trans g7)⟩ tok ?_
    show t'.deep + 1 ≤ t1.deep + 1
    omega
  | bin s t1 t2 =>
    obtain ⟨p, w1, w2, rfl, hp, hk1, hk2⟩ := ht1
    have hdd : max t1.deep t2.deep + 1 < n + 1 := hd
    refine ⟨_, rfl, _, rfl, p, _, rfl, .inr (SqT.of hp), _, _, rfl, rfl, d, _, rfl, ev1.drw, by show (1 : Int) ≤ 3 - 1; decide, by show (3 - 1 : Int) < 2 ^ 200; decide, fun r H2 r0 r1 ev2 => ⟨_, _, rfl, rfl, ?_⟩⟩
    have r1' : r < 3 - 1 := r1
    have hpd : p ≠ d := fun z => by
      obtain ⟨xs, e⟩ := ev1.drw.some
      rw [z, e] at hp; cases hp
    have hp2 := ev2.same _ _ hpd hp
    have hk1 := hk1.ev ev1.drw ev2
    have hk2 := hk2.ev ev1.drw ev2
    have hr : r = 0 ∨ r = 1 := by omega
    rcases hr with rfl | rfl
    · refine ⟨_, rfl, _, rfl, _, rfl, p, _, rfl, SqT.of hp2, by show ¬ (HT.sIx 3 0 none = 0 ∧ HT.sIx 3 3 (some (1 + 0)) = 3); decide, fun tp htp => ?_⟩
      rw [cutC]
      have g3 := same_new htp (.tup [.str s])
      have hp3 := g3 _ _ hp2
      refine ⟨_, rfl, _, rfl, _, rfl, p, _, _, _, rfl, rfl, SqT.of hp3, atI_nat (j := 1) rfl, _, rfl, d, w1, t1, u, rfl, ev2.drw.keep g3, hk1.same g3, hok.2.1, by omega, fun v' t' H4 ev4 ht' tok td => ⟨small (n := 1) (by decide), fun tp2 htp2 => ?_⟩⟩
      have tpd : tp ≠ d := ev2.drw.ne_of_none htp
      have htp4 := ev4.same _ _ tpd (upd_same (H := H2) (a := tp) (o := .tup [.str s]))
      have g5 := same_new htp2 (.tup [v'])
      refine ⟨tp, tp2, _, _, rfl, rfl, SqT.of (g5 _ _ htp4), SqT.of upd_same, small (n := 2) (by decide), fun z => by (cases z), fun _ z => by (cases z), fun _ _ m hm => ?_⟩
      have g6 := same_new hm (.tup ([.str s] ++ [v']))
      have hp6 := g6 _ _ (g5 _ _ (ev4.same _ _ hpd hp3))
      refine ⟨_, rfl, _, rfl, _, _, rfl, rfl, _, rfl, p, _, rfl, SqT.of hp6, by show ¬ (HT.sIx 3 0 (some (1 + 0 + 1)) = 0 ∧ HT.sIx 3 3 none = 3); decide, fun tp3 htp3 => ?_⟩
      rw [cutD]
      have g7 := same_new htp3 (.tup [w2])
      refine ⟨m, tp3, _, _, rfl, rfl, SqT.of (g7 _ _ upd_same), SqT.of upd_same, small (n := 3) (by decide), fun z => by (cases z), fun _ z => by (cases z), fun _ _ m2 hm2 => ?_⟩
      have g8 := same_new hm2 (.tup ([.str s] ++ [v'] ++ [w2]))
      have gg := ((g5.trans g6).trans g7).trans g8
      refine q _ (.bin s t' t2) _ ((((ev1.trans ev2).then g3).trans ev4).then gg) ⟨m2, v', w2, rfl, upd_same, ht'.same gg, ((hk2.same g3).ev (ev2.drw.keep g3) ev4).same gg⟩ ⟨hok.1, tok, hok.2.2⟩ ?_
      show max t'.deep t2.deep + 1 ≤ max t1.deep t2.deep + 1
      omega
    · refine ⟨_, rfl, _, rfl, _, rfl, p, _, rfl, SqT.of hp2, by show ¬ (HT.sIx 3 0 none = 0 ∧ HT.sIx 3 3 (some (1 + 1)) = 3); decide, fun tp htp => ?_⟩
      rw [cutE]
      have g3 := same_new htp (.tup [.str s, w1])
      have hp3 := g3 _ _ hp2
      refine ⟨_, rfl, _, rfl, _, rfl, p, _, _, _, rfl, rfl, SqT.of hp3, atI_nat (j := 2) rfl, _, rfl, d, w2, t2, u, rfl, ev2.drw.keep g3, hk2.same g3, hok.2.2, by omega, fun v' t' H4 ev4 ht' tok td => ⟨small (n := 1) (by decide), fun tp2 htp2 => ?_⟩⟩
      have tpd : tp ≠ d := ev2.drw.ne_of_none htp
      have htp4 := ev4.same _ _ tpd (upd_same (H := H2) (a := tp) (o := .tup [.str s, w1]))
      have g5 := same_new htp2 (.tup [v'])
      refine ⟨tp, tp2, _, _, rfl, rfl, SqT.of (g5 _ _ htp4), SqT.of upd_same, small (n := 3) (by decide), fun z => by (cases z), fun _ z => by (cases z), fun _ _ m hm => ?_⟩
      have g6 := same_new hm (.tup ([.str s, w1] ++ [v']))
      have hp6 := g6 _ _ (g5 _ _ (ev4.same _ _ hpd hp3))
      refine ⟨_, rfl, _, rfl, _, _, rfl, rfl, _, rfl, p, _, rfl, SqT.of hp6, by show ¬ (HT.sIx 3 0 (some (1 + 1 + 1)) = 0 ∧ HT.sIx 3 3 none = 3); decide, fun tp3 htp3 => ?_⟩
      rw [cutF]
      have g7 := same_new htp3 (.tup [])
      have gg := (g5.trans g6).trans g7
      refine ⟨m, tp3, _, _, rfl, rfl, SqT.of (g7 _ _ upd_same), SqT.of upd_same, small (n := 3) (by decide), fun z => by (cases z), fun _ _ => ?_, fun _ z => absurd rfl z⟩
      refine q _ (.bin s t1 t') _ ((((ev1.trans ev2).then g3).trans ev4).then gg) ⟨m, w1, v', rfl, g7 _ _ upd_same, ((hk1.same g3).ev (ev2.drw.keep g3) ev4).same gg, ht'.same gg⟩ ⟨hok.1, hok.2.1, tok⟩ ?_
      show max t1.deep t'.deep + 1 ≤ max t1.deep t2.deep + 1
      omega
theorem ok_exc (T : Txt K mg a) : ∀ n, FnOk P w K mg base CX0 (6 + n) a.f_exchanged a.d_exchanged ["_law_draw", "_law_term_here", "_law_kinds_here"] (spExc n)
  | 0 => fn_false fun vs H Q E h => by obtain ⟨_, _, _, _, _, _, _, _, h, _⟩ := h; omega
  | n + 1 => ok_exc_succ T n (ok_exc T n)
end

end My

set_option Elab.async false
set_option linter.all false
set_option maxRecDepth 100000
set_option maxHeartbeats 4000000
namespace My
open PySem L2
theorem fold_val (kvs : List (Key × V)) : ∀ (acc : List (Key × V)) (k : Key) (v : V), valV (kvs.foldl (fun a p => putK a p.1 p.2) acc) k = some v → (k, v) ∈ kvs ∨ valV acc k = some v := by
  induction kvs with
  | nil => intro acc k v h; exact .inr h
  | cons p kvs ih =>
    intro acc k v h
    rcases ih _ _ _ h with h | h
    · exact .inl (List.mem_cons_of_mem _ h)
    · rw [valV_put] at h
      split at h
      · rename_i e
        cases h
        exact .inl (by rw [e]; exact List.mem_cons_self)
      · exact .inr h
/-! ### what repr takes -/
theorem mem_putK {kvs : List (Key × V)} {k : Key} {v : V} {p : Key × V} (h : p ∈ putK kvs k v) : p ∈ kvs ∨ p = (k, v) := by
  unfold putK at h
  split at h
  · obtain ⟨q, hq, e⟩ := List.mem_map.mp h
    split at e
    · rename_i hk
      right
      rw [← e, ← hk]
    · left
      rw [← e]; exact hq
  · rcases List.mem_append.mp h with h | h
    · exact .inl h
    · exact .inr (by simpa using h)
theorem mem_fold (kvs : List (Key × V)) : ∀ (acc : List (Key × V)) {p : Key × V}, p ∈ kvs.foldl (fun a p => putK a p.1 p.2) acc → p ∈ kvs ∨ p ∈ acc := by
  induction kvs with
  | nil => intro acc p h; exact .inr h
  | cons q kvs ih =>
    intro acc p h
    rcases ih _ h with h | h
    · exact .inl (List.mem_cons_of_mem _ h)
    · rcases mem_putK h with h | h
      · exact .inr h
      · exact .inl (by rw [h]; exact List.mem_cons_self)
theorem kk_fitS : ∀ p ∈ kk, (reprText p.1).length ≤ 1000 ∧ (reprText p.2).length ≤ 1000 ∧ p.2 ∈ litS := by decide +kernel
/-- a comprehension over a dict, with one test -/
theorem comp_dictF {kd : Addr} {o : Obj} {kvs : List (Key × V)} {im : List (Option Nat)} {σ : St} {H : Hp} {Q : VK} {tc : TT} {te : TE} (R : Nat → List V → Hp → Prop) (h0 : R 0 [] H)
    (hl : ∀ i ys H', i ≤ kvs.length → R i ys H' → ys.length ≤ sizeLine ∧ H' kd = some (.frz o (.dK kvs)))
    (he : ∀ i k v ys H' (N : List V → Hp → Prop), kvs[i]? = some (k, v) → R i ys H' → (∀ ys' H'', R (i + 1) ys' H'' → N ys' H'') →
      tc ((inner im σ).set 0 (some (kV k))) H' fun b H3 => if b = true then te ((inner im σ).set 0 (some (kV k))) H3 fun y H4 => N (ys ++ [y]) H4 else N ys H3)
    (hq : ∀ ys H', R kvs.length ys H' → ∀ D, H' D = none → Q (.ref D) (upd H' D (.lst ys))) : CompAt im (gName 0) tc te σ Q (Itd kd o kvs) H := by
  refine ⟨fun i m ys H' => m = kvs.length - i ∧ i ≤ kvs.length ∧ R i ys H', ⟨kvs.length, by simp, Nat.zero_le _, h0⟩, ?_⟩
  rintro i m ys H' ⟨rfl, hi, r⟩
  have hz := hl i ys H' hi r
  refine ⟨hz.1, ?_⟩
  by_cases hlt : i < kvs.length
  · refine .inr ⟨⟨hz.2, hlt⟩, fun x H'' y => ?_⟩
    obtain ⟨e, k, hk, rfl⟩ := y
    subst e
    rw [List.getElem?_map, List.getElem?_eq_getElem hlt] at hk
    have ek : kvs[i].1 = k := Option.some.inj hk
    subst ek
    exact he i kvs[i].1 kvs[i].2 ys _ (fun ys' H5 => ∃ m', m' < kvs.length - i ∧ m' = kvs.length - (i + 1) ∧ i + 1 ≤ kvs.length ∧ R (i + 1) ys' H5) (List.getElem?_eq_getElem hlt) r fun ys' H5 z => ⟨kvs.length - (i + 1), by omega, rfl, hlt, z⟩
  · have e : i = kvs.length := by omega
    subst e
    exact .inl ⟨⟨hz.2, Nat.le_refl _⟩, hq ys H' r⟩
theorem drw_upd {H : Hp} {d kd : Addr} {o o' : HO} (h : Drw H d) (hk : H kd = some o) (ho : ∀ xs, o ≠ .lst xs) : Drw (upd H kd o') d := by
  obtain ⟨l, ns, p, c, s, h1, h2, r⟩ := h
  refine ⟨l, ns, p, c, s, ?_, ?_, r⟩
  · rw [upd_ne fun z => by rw [z, hk] at h1; cases h1; exact ho _ rfl]; exact h1
  · rw [upd_ne fun z => by rw [z, hk] at h2; cases h2; exact ho _ rfl]; exact h2
theorem thaw_ev {d kd : Addr} {H H' : Hp} {kvs : List (Key × V)} {o : Obj} (hk : H kd = some (.dK kvs)) (ev : Ev d (upd H kd (.frz o (.dK kvs))) H') (hf : H' kd = some (.frz o (.dK kvs))) : Ev d H (upd H' kd (.dK kvs)) := by
  refine ⟨fun b u hb e => ?_, drw_upd ev.drw hf fun _ z => nomatch z⟩
  by_cases hbk : b = kd
  · subst hbk; rw [hk] at e; cases e; exact upd_same
  · rw [upd_ne hbk]; exact ev.same b u hb (by rw [upd_ne hbk]; exact e)
section
variable {P : Program} {w : World} {K : PySem.W.Frag} {mg : Str → Option Value} {base : Heap} {a : Adr}
theorem sort4c : ∀ s ∈ (["flag", "flag", "number", "word"] : List Str), s = "number" ∨ s = "flag" ∨ s = "word" := by decide +kernel
theorem Drw.sameX {Pt d : Addr} {H H' : Hp} (h : Drw H d) (g : SameX Pt H H') (ht : ∃ ps, H Pt = Option.some (HO.tbl ps)) : Drw H' d := by
  obtain ⟨ps, hp⟩ := ht
  obtain ⟨l, ns, p, c, s, h1, h2, r⟩ := h
  refine ⟨l, ns, p, c, s, g _ _ (fun z => ?_) h1, g _ _ (fun z => ?_) h2, r⟩
  · rw [z, hp] at h1; cases h1
  · rw [z, hp] at h2; cases h2
def spLaw (K : PySem.W.Frag) (Pt : Addr) : Sp := fun vs H Q _ => ∃ (b : Addr) (ns : List Int), vs = [.ref b] ∧ SqL K H b (ns.map V.int) ∧ ns.length ≤ 63 ∧ TabI H Pt lamQ lamP ∧ ∀ H', Q (.bl true) H'
theorem tab_ev {Pt d : Addr} {H H' : Hp} (h : TabI H Pt lamQ lamP) (hD : Drw H d) (e : Ev d H H') : TabI H' Pt lamQ lamP := by
  obtain ⟨xs, hd⟩ := hD.some
  rcases h with h | ⟨c, h1, h2⟩
  · exact .inl (e.same _ _ (fun z => by rw [z, hd] at h; cases h) h)
  · exact .inr ⟨c, e.same _ _ (fun z => by rw [z, hd] at h1; cases h1) h1, e.same _ _ (fun z => by rw [z, hd] at h2; cases h2) h2⟩
theorem ok_law (T : Txt K mg a) (hB : BM mg base) : FnOk P w K mg base CX0 20 a.f_law a.d_law ["_law_script"] (spLaw K a.p_mk) := by
  refine T.F_law.ok sc_law (fun vs H Q E h => ?_) (fun cdv A outer s H vs Q E hr h => ?_)
  · obtain ⟨x, y, rfl, _⟩ := h; rfl
  obtain ⟨b, ns, rfl, hS, hn, hT, q⟩ := h
  have hg := hr.gd
  have hu64 := hr.units
  have hu1 := hu_of hr
  refine ⟨_, (pss_cons (ps_set (i := 1) sc_law.nd rfl (by first | exact Or.inl rfl | exact Or.inr rfl) (pe_call (ok_begin T) (hr.mono (by decide)) rfl T.m_begin T.F_begin.kp T.b_begin .nil pass0 (pa_cons (pv 0) pa_nil))) (pss_cons (ps_set (i := 2) sc_law.nd rfl (by first | exact Or.inl rfl | exact Or.inr rfl) (pe_call (ok_kinds T) (hr.mono (by decide)) rfl T.m_kinds T.F_kinds.kp T.b_kinds .nil pass0 (pa_cons (pv 1) pa_nil))) (pss_cons (ps_for PassesOwn.never rfl (pi_range1 rfl T.n_range (pa_cons pe_int pa_nil)) (pg_name (i := 3) sc_law.nd rfl (by first | exact Or.inl rfl | exact Or.inr rfl)) (pss_cons (ps_set (i := 4) sc_law.nd rfl (by first | exact Or.inl rfl | exact Or.inr rfl) (pe_call (ok_term T 5) (hr.mono (by decide)) rfl T.m_term T.F_term.kp T.b_term .nil pass0 (pa_cons (pv 1) (pa_cons (pv 2) (pa_cons (pe_call (ok_of T) (hr.mono (by decide)) rfl T.m_of T.F_of.kp T.b_of .nil pass0 (pa_cons (pv 1) (pa_cons (pe_lst (pa_cons pe_str (pa_cons pe_str (pa_cons pe_str (pa_cons pe_str pa_nil))))) pa_nil))) (pa_cons pe_int pa_nil)))))) (pss_cons (ps_cut (ps_if (pt_cmpR op_eq (pe_call (ok_take T) (hr.mono (by decide)) rfl T.m_take T.F_take.kp T.b_take .nil pass0 (pa_cons (pv 1) (pa_cons pe_int pa_nil))) pe_int (nomark _)) (pss_one (ps_set (i := 4) sc_law.nd rfl (by first | exact Or.inl rfl | exact Or.inr rfl) (pe_call (ok_exc T 6) (hr.mono (by decide)) rfl T.m_exchanged T.F_exchanged.kp T.b_exchanged .nil pass0 (pa_cons (pv 1) (pa_cons (pv 4) (pa_cons (pv 2) pa_nil)))))) pss_nil)) (pss_cons (ps_set (i := 5) sc_law.nd rfl (by first | exact Or.inl rfl | exact Or.inr rfl) (pe_callTy (call_dictP rfl) rfl T.n_dict (by decide +kernel) (pa_cons (pe_thaw (pe_comp ["_law_name", "_law_kinds_here", "_law_draw"] [none, some 2, some 1] (pi_dict (pv 2)) (fun _ _ _ _ _ => (pg_name (i := 0) (show List.Nodup (["_law_name", "_law_kinds_here", "_law_draw"] : List Str) from by decide +kernel) rfl (Or.inl rfl) (Or.inr rfl))) (fun _ _ _ _ _ => (pts_one (pt_cmpR op_gt (pe_call (ok_take T) (hr.mono (by decide)) rfl T.m_take T.F_take.kp T.b_take .nil pass0 (pa_cons (pv 2) (pa_cons pe_int pa_nil))) pe_int (nomark _)))) (fun _ _ _ _ _ => (pe_tup (pa_cons (pv 0) (pa_cons (pe_dget hu1 (pv 1) (pv 0) (fun _ _ => rfl)) pa_nil)))))) pa_nil))) (pss_cons (ps_set (i := 6) sc_law.nd rfl (by first | exact Or.inl rfl | exact Or.inr rfl) (pe_callB (call_reprD hg hu64) rfl T.n_repr (by decide +kernel) (pa_cons (pv 5) pa_nil))) (pss_cons (ps_set (i := 7) sc_law.nd rfl (by first | exact Or.inl rfl | exact Or.inr rfl) (pe_call (ok_lsort T 6) (hr.mono (by decide)) rfl T.m_sort T.F_sort.kp T.b_sort .nil pass0 (pa_cons (pv 4) (pa_cons (pv 5) pa_nil)))) (pss_cons (ps_set (i := 8) sc_law.nd rfl (by first | exact Or.inl rfl | exact Or.inr rfl) pe_str) (pss_cons (ps_cut (ps_tryO (j := 9) rfl rfl rfl T.m_LogError T.x_LogError sc_law.nd rfl rfl (fun pn XE E σ0 hx => (pss_one (ps_set (i := 8) sc_law.nd rfl (by first | exact Or.inl rfl | exact Or.inr rfl) (pe_callA (ok_sort_of_term T hB) (hr.mono (by decide)) rfl T.m_sort_of_term T.F_sort_of_term.kp T.b_sort_of_term .nil hx (pa_cons (pv 4) (pa_cons (pv 5) pa_nil)))))) (fun e => (pss_one (ps_set (i := 8) sc_law.nd rfl (by first | exact Or.inl rfl | exact Or.inr rfl) (pe_ifExp (pt_val (pe_callB call_isXo rfl T.n_isinstance (by decide +kernel) (pa_cons (pv 9) (pa_cons (pe_glob (v := .ref a.c_BadTerm) rfl T.m_BadTerm rfl) pa_nil)))) pe_str pe_str)))))) (pss_one (ps_if (PW.pt (pw_or (pt_not (pt_val (pe_call (ok_sameF T) (hr.mono (by decide)) rfl T.m_same T.F_same.kp T.b_same .nil pass0 (pa_cons (pv 8) (pa_cons (pv 7) pa_nil))))) (pw_or1 (pt_cmpR op_ne (pe_callB (call_reprD hg hu64) rfl T.n_repr (by decide +kernel) (pa_cons (pv 5) pa_nil)) (pv 6) (nomark _))))) (pss_one (ps_ret pe_bl)) pss_nil)))))))))) (pss_one (ps_ret pe_bl))))), ?_⟩
  refine ⟨_, rfl, b, ns, rfl, hS, hn, fun d H1 hdn g1 hD => ?_⟩
  have T1 := hT.same g1
  refine ⟨_, rfl, d, rfl, hD, fun kd m H2 m1 m2 hkd ev2 hk2 => ?_⟩
  have T2 := tab_ev T1 hD ev2
  have hkd0 : ∀ o u, H kd ≠ some (.frz o u) := fun o u z => by rw [g1 _ _ z] at hkd; cases hkd
  refine ⟨12, rfl, by decide, by decide, for_range (n := 12) (lo := 0) (fun i σ H => ∃ s3 s4 s5 s6 s7 s8 s9, σ = [some (.ref b), some (.ref d), some (.ref kd), s3, s4, s5, s6, s7, s8, s9] ∧ Kd H d kd m ∧ TabI H a.p_mk lamQ lamP) ⟨_, _, _, _, _, _, _, rfl, ⟨ev2.drw, hk2, m1, m2⟩, T2⟩ (fun i σ H3 hi hP => ?_) (fun σ H3 hP => q _)⟩
  obtain ⟨s3, s4, s5, s6, s7, s8, s9, rfl, K3, T3⟩ := hP
  refine ⟨_, rfl, _, rfl, _, rfl, small (n := 4) (by decide), fun lb hlb => ?_⟩
  dsimp only [tCons, tNil]
  refine of_disp ["flag", "flag", "number", "word"] K3.drw hlb (by decide) (by decide) fun z H4 hz ev4 => ?_
  refine ⟨d, kd, m, z, 4, rfl, K3.ev ev4, sort4c z hz, by decide, by decide, fun v t H5 ev5 ht wt dt => ?_⟩
  have ev45 := ev4.trans ev5
  have neD : ∀ {Ha : Hp} {b : Addr} {o : HO}, TabI Ha a.p_mk lamQ lamP → Ha b = some o → (∀ ps, o ≠ .tbl ps) → b ≠ a.p_mk := fun {Ha b o} t e n z => by
    obtain ⟨ps, hp⟩ := t.some
    rw [z, hp] at e; cases e; exact n ps rfl
  refine ⟨fun σ' H' => ∃ v t, σ' = [some (.ref b), some (.ref d), some (.ref kd), some (.int (0 + (i : Int))), some v, s5, s6, s7, s8, s9] ∧ Ev d H3 H' ∧ TmAt H' v t ∧ t.ok ∧ t.deep ≤ 4, ?_, ?_⟩
  · refine ⟨_, rfl, d, _, rfl, ev45.drw, by decide, by decide, fun r H6 _ _ ev6 => ⟨rfl, _, rfl, ite2 (fun k => ?_) (fun k => ?_)⟩⟩
    · refine ⟨_, rfl, _, rfl, _, rfl, d, v, t, _, rfl, ev6.drw, ht.ev ev5.drw ev6, wt.ok, by omega, fun v' t' H7 ev7 ht' tok td => ?_⟩
      exact ⟨v', t', rfl, (ev45.trans ev6).trans ev7, ht', tok, by omega⟩
    · exact ⟨v, t, rfl, ev45.trans ev6, ht.ev ev5.drw ev6, wt.ok, by omega⟩
  rintro σ' H6 ⟨v, t, rfl, ev6, ht, tok, td⟩
  have K6 := K3.ev ev6
  have T6 := tab_ev T3 K3.drw ev6
  -- the dict of some of the kinds
  refine ⟨_, rfl, kd, _, rfl, .inl ⟨K6.at', fun o => ?_⟩⟩
  have hDf : Drw (upd H6 kd (.frz o (.dK (KD m)))) d := drw_upd K6.drw K6.at' fun _ z => nomatch z
  have kdd := K6.ne
  refine comp_dictF (fun i ys H' => Ev d (upd H6 kd (.frz o (.dK (KD m)))) H' ∧ ∃ (ts : List Addr) (kvs : List (Key × V)), ys = ts.map V.ref ∧ ts.length = kvs.length ∧ ts.length ≤ i ∧ (∀ (j : Nat) (t : Addr) (kv : Key × V), ts[j]? = some t → kvs[j]? = some kv → H' t = some (.tup [kV kv.1, kv.2])) ∧ ∀ kv ∈ kvs, ∃ p ∈ kk.take m, kv = (.inr p.1, .str p.2))
    ⟨Ev.refl hDf, [], [], rfl, rfl, Nat.le_refl _, fun j t kv h => by simp at h, fun kv h => by simp at h⟩ (fun i ys H' hi hR => ?_) (fun i k vv ys H' N hx hR hN => ?_) (fun ys H' hR D hDn => ?_)
  · obtain ⟨ev, ts, kvs, rfl, _, h1, _⟩ := hR
    have hl : (KD m).length ≤ 6 := by unfold KD; rw [List.length_map, List.length_take]; show min m 6 ≤ 6; omega
    rw [List.length_map]
    exact ⟨small (by omega), ev.same _ _ kdd upd_same⟩
  · obtain ⟨ev, ts, kvs, rfl, e1, e2, e3, e4⟩ := hR
    unfold KD at hx
    rw [List.getElem?_map] at hx
    obtain ⟨pr, hpr, epr⟩ := Option.map_eq_some_iff.mp hx
    cases epr
    have hmem := List.mem_of_getElem? hpr
    have hv := kd_val m m1 m2 pr hmem
    refine ⟨_, rfl, d, _, rfl, ev.drw, by decide, by decide, fun r H7 r0 r1 ev7 => ⟨_, _, rfl, rfl, _, rfl, ite2 (fun k => ?_) (fun k => ?_)⟩⟩
    · have hkf := (ev.trans ev7).same _ _ kdd upd_same
      refine ⟨_, rfl, _, rfl, _, rfl, kd, .str pr.2, rfl, .inl ⟨KD m, .inr pr.1, .inr ⟨o, hkf⟩, rfl, hv.symm⟩, small (n := 2) (by decide), fun t' ht' => ?_⟩
      have g8 := same_new ht' (.tup [.str pr.1, .str pr.2])
      have ev8 := ev7.then g8
      refine hN _ _ ⟨ev.trans ev8, ts ++ [t'], kvs ++ [(.inr pr.1, .str pr.2)], by simp, by simp [e1], by simp; omega, fun j t2 kv hj hkv => ?_, fun kv hkv => ?_⟩
      · by_cases hjl : j < ts.length
        · rw [List.getElem?_append_left hjl] at hj
          rw [List.getElem?_append_left (by omega)] at hkv
          have h0 := e3 j t2 kv hj hkv
          exact ev8.same _ _ (fun z => by
            obtain ⟨xs, hx⟩ := ev.drw.some
            rw [z, hx] at h0; cases h0) h0
        · have hj0 : j = ts.length := by
            have := (List.getElem?_eq_some_iff.mp hj).1
            rw [List.length_append, List.length_singleton] at this
            omega
          subst hj0
          rw [List.getElem?_append_right (Nat.le_refl _), Nat.sub_self] at hj
          rw [e1, List.getElem?_append_right (Nat.le_refl _), Nat.sub_self] at hkv
          cases hj; cases hkv
          exact upd_same
      · rcases List.mem_append.mp hkv with hkv | hkv
        · exact e4 kv hkv
        · exact ⟨pr, hmem, by simpa using hkv⟩
    · refine hN _ _ ⟨ev.trans ev7, ts, kvs, rfl, e1, by omega, fun j t2 kv hj hkv => ?_, e4⟩
      have h0 := e3 j t2 kv hj hkv
      exact ev7.same _ _ (fun z => by
        obtain ⟨xs, hx⟩ := ev.drw.some
        rw [z, hx] at h0; cases h0) h0
  obtain ⟨ev, ts, kvs, rfl, e1, e2, e3, e4⟩ := hR
  have hl6 : kvs.length ≤ 6 := by
    have hl : (KD m).length ≤ 6 := by unfold KD; rw [List.length_map, List.length_take]; show min m 6 ≤ 6; omega
    omega
  have hkf := ev.same _ _ kdd upd_same
  have gD := same_new hDn (.lst (ts.map V.ref))
  have evD := ev.then gD
  have hkD := gD _ _ hkf
  have ev7 := thaw_ev K6.at' evD hkD
  have hDk : D ≠ kd := fun z => by rw [z, hkf] at hDn; cases hDn
  refine .inr ⟨kd, o, KD m, hkD, hkd0, D, ts, kvs, rfl, by rw [upd_ne hDk]; exact upd_same, e1, fun j t2 kv hj hkv => ?_, fun fd hfd => ?_⟩
  · have h0 := gD _ _ (e3 j t2 kv hj hkv)
    rw [upd_ne fun z => by rw [z, hkD] at h0; cases h0]
    exact h0
  have g8 := same_new hfd (.dK (foldK kvs))
  have ev8 := ev7.then g8
  have hfd8 : (upd (upd (upd H' D (.lst (ts.map V.ref))) kd (.dK (KD m))) fd (.dK (foldK kvs))) fd = some (.dK (foldK kvs)) := upd_same
  generalize upd (upd (upd H' D (.lst (ts.map V.ref))) kd (.dK (KD m))) fd (.dK (foldK kvs)) = H8 at g8 ev8 hfd8 ⊢
  have K8 := K6.ev ev8
  have T8 := tab_ev T6 K6.drw ev8
  have ht8 := ht.ev K6.drw ev8
  have hlen : (foldK kvs).length ≤ 1000 := by have := foldK_len kvs; omega
  have hfit : ∀ kv ∈ foldK kvs, fitsV (kV kv.1) ∧ fitsV kv.2 := fun kv hkv => by
    rcases mem_fold kvs [] hkv with h | h
    · obtain ⟨p, hp, rfl⟩ := e4 _ h
      have := kk_fitS p (List.mem_of_mem_take hp)
      exact ⟨this.1, this.2.1⟩
    · cases h
  have hKL : KdL (foldK kvs) := fun n v hv => by
    rcases fold_val kvs [] _ _ hv with h | h
    · obtain ⟨p, hp, e⟩ := e4 _ h
      cases e
      exact ⟨p.2, rfl, (kk_fitS p (List.mem_of_mem_take hp)).2.2⟩
    · cases h
  generalize foldK kvs = fl at hfd8 hlen hfit hKL ⊢
  refine ⟨_, rfl, fd, fl, rfl, hfd8, hlen, hfit, ?_⟩
  refine ⟨_, rfl, _, rfl, v, t, fd, fl, rfl, ht8, tok, by omega, hKL, hfd8, fun H9 g9 => ?_⟩
  have T9 := T8.same g9
  have K9 := K8.ev (Ev.of K8.drw g9)
  have ht9 := ht8.same g9
  have hfd9 := g9 _ _ hfd8
  refine ⟨fun σ' H' => ∃ s9', σ' = [some (.ref b), some (.ref d), some (.ref kd), some (.int (0 + (i : Int))), some v, some (.ref fd), some (.str (dictR fl)), some (.str (lsor fl t)), some (.str (lsor fl t)), s9'] ∧ SameX a.p_mk H9 H' ∧ TabI H' a.p_mk lamQ lamP, ?_, ?_⟩
  · refine ⟨rfl, _, rfl, _, rfl, v, t, fd, fl, rfl, ht9, tok, by omega, hKL.s, hfd9, T9, fun z hz H10 g10 T10 => ?_, fun hz H10 g10 T10 => ?_⟩
    · have e : lsor fl t = z := by unfold lsor; rw [hz]; rfl
      exact ⟨_, by rw [e]; rfl, g10, T10⟩
    · have e : lsor fl t = "" := by unfold lsor; rw [hz]; rfl
      refine ⟨a.c_BadTerm, rfl, T.x_BadTerm.sub, fun ea hea => ⟨_, rfl, ea, a.c_BadTerm, none, _, .ref a.c_BadTerm, rfl, upd_same, fun u r => r, kit_self, _, rfl, iteT ?_⟩⟩
      exact ⟨_, by rw [e]; rfl, g10.then (same_new hea _), T10.same (same_new hea _)⟩
  rintro σ' H10 ⟨s9', rfl, g10, T10⟩
  have K10 : Kd H10 d kd m := ⟨K9.drw.sameX g10 T9.some, g10 _ _ (neD T9 K9.at' (by intro ps z; cases z)) K9.at', m1, m2⟩
  have hfd10 := g10 _ _ (neD T9 hfd9 (by intro ps z; cases z)) hfd9
  refine ⟨_, rfl, _, rfl, _, _, rfl, rfl, rfl, fun H11 g11 => ⟨_, rfl, ?_⟩⟩
  rw [decide_eq_true rfl]
  refine iteF ⟨_, rfl, fd, fl, rfl, g11 _ _ hfd10, hlen, hfit, _, rfl, rfl, _, rfl, ?_⟩
  refine iteNS rfl ?_
  exact ⟨_, _, _, _, _, _, _, rfl, K10.ev (Ev.of K10.drw g11), T10.same g11⟩
end

end My

set_option Elab.async false
set_option linter.all false
set_option maxRecDepth 100000
set_option maxHeartbeats 4000000
namespace My
open PySem L2
theorem mk_txt {K : PySem.W.Frag} {h : Heap} {mg : Str → Option Value} {f0 : Addr} {od0 an0 : Option Addr} {sl0 : Array (Option Value)} {oc0 kV0 dc0 pm0 cd0 ct0 : Value} {f1 : Addr} {od1 an1 : Option Addr} {sl1 : Array (Option Value)} {oc1 kV1 dc1 pm1 cd1 ct1 : Value} {f2 : Addr} {od2 an2 : Option Addr} {sl2 : Array (Option Value)} {oc2 kV2 dc2 pm2 cd2 ct2 : Value} {f3 : Addr} {od3 an3 : Option Addr} {sl3 : Array (Option Value)} {oc3 kV3 dc3 pm3 cd3 ct3 : Value} {f4 : Addr} {od4 an4 : Option Addr} {sl4 : Array (Option Value)} {oc4 kV4 dc4 pm4 cd4 ct4 : Value} {f5 : Addr} {od5 an5 : Option Addr} {sl5 : Array (Option Value)} {oc5 kV5 dc5 pm5 cd5 ct5 : Value} {f6 : Addr} {od6 an6 : Option Addr} {sl6 : Array (Option Value)} {oc6 kV6 dc6 pm6 cd6 ct6 : Value} {f7 : Addr} {od7 an7 : Option Addr} {sl7 : Array (Option Value)} {oc7 kV7 dc7 pm7 cd7 ct7 : Value} {f8 : Addr} {od8 an8 : Option Addr} {sl8 : Array (Option Value)} {oc8 kV8 dc8 pm8 cd8 ct8 : Value} {f9 : Addr} {od9 an9 : Option Addr} {sl9 : Array (Option Value)} {oc9 kV9 dc9 pm9 cd9 ct9 : Value} {f10 : Addr} {od10 an10 : Option Addr} {sl10 : Array (Option Value)} {oc10 kV10 dc10 pm10 cd10 ct10 : Value} {f11 : Addr} {od11 an11 : Option Addr} {sl11 : Array (Option Value)} {oc11 kV11 dc11 pm11 cd11 ct11 : Value} {f12 : Addr} {od12 an12 : Option Addr} {sl12 : Array (Option Value)} {oc12 kV12 dc12 pm12 cd12 ct12 : Value} {f13 : Addr} {od13 an13 : Option Addr} {sl13 : Array (Option Value)} {oc13 kV13 dc13 pm13 cd13 ct13 : Value} {f14 : Addr} {od14 an14 : Option Addr} {sl14 : Array (Option Value)} {oc14 kV14 dc14 pm14 cd14 ct14 : Value} {f15 : Addr} {od15 an15 : Option Addr} {sl15 : Array (Option Value)} {oc15 kV15 dc15 pm15 cd15 ct15 : Value} {f16 : Addr} {od16 an16 : Option Addr} {sl16 : Array (Option Value)} {oc16 kV16 dc16 pm16 cd16 ct16 : Value} {f17 : Addr} {od17 an17 : Option Addr} {sl17 : Array (Option Value)} {oc17 kV17 dc17 pm17 cd17 ct17 : Value} {f18 : Addr} {od18 an18 : Option Addr} {sl18 : Array (Option Value)} {oc18 kV18 dc18 pm18 cd18 ct18 : Value} {f19 : Addr} {od19 an19 : Option Addr} {sl19 : Array (Option Value)} {oc19 kV19 dc19 pm19 cd19 ct19 : Value} {tc0 : Tok} {tc1 : Tok} {tc2 : Tok} {ta0 : Addr} {td0 : Option Addr} {tn0 : Nat} {ts0 : Array (Option Value)} {tt0_0 tt0_1 tt0_2 tt0_3 tt0_4 : Tok} {ta1 : Addr} {td1 : Option Addr} {tn1 : Nat} {ts1 : Array (Option Value)} {tt1_0 tt1_1 tt1_2 : Tok} {mC mP : Addr} {mo : Value} {md : Option Addr} {mv : Array Value} {ms : Array (Option Value)} {bL0 bN0 : Addr} {bd0 be0 : Option Addr} {bs0 : Array (Option Value)} {bo0 : Value} {bE0 : Array DictEntry} {bn0 : Nat} {b1_0 b2_0 : Str} {b3_0 : List Value} {b4_0 : Bool} {b5_0 : List Str} {b6_0 : List Value} {b7_0 : Bool} {b8_0 : Option Bool} {b9_0 ba_0 bb_0 bc_0 bf_0 : Option Value} {bi0 : String} {wC0 wN0 : Addr} {wd0 : Option Addr} {w1_0 w2_0 : Str} {w3_0 : List Value} {w4_0 : Bool} {w5_0 : List Str} {w6_0 : List Value} {w7_0 : Bool} {w8_0 : Option Bool} {w9_0 wa_0 wb_0 wc_0 we_0 : Option Value} (X : K.In h) (G : h.Ns mainGlobals mg)
    (a0 : PySem.W.nsIn K mainGlobals "built_up" = some (some (.ref f0)))
    (l0 : K.lookup f0 = some ⟨oc0, od0, .func (PySem.W.fnOf "built_up" "built_up" (defArgs (top 9)) (defBody (top 9)) (defScope (top 9)) .none kV0 dc0 pm0 an0 cd0 ct0), sl0⟩)
    (c0 : PySem.W.codeIn K cd0 "built_up" = true) (k0 : PySem.W.keepIn K (.ref f0) = true)
    (a1 : PySem.W.nsIn K mainGlobals "parts_in" = some (some (.ref f1)))
    (l1 : K.lookup f1 = some ⟨oc1, od1, .func (PySem.W.fnOf "parts_in" "parts_in" (defArgs (top 10)) (defBody (top 10)) (defScope (top 10)) .none kV1 dc1 pm1 an1 cd1 ct1), sl1⟩)
    (c1 : PySem.W.codeIn K cd1 "parts_in" = true) (k1 : PySem.W.keepIn K (.ref f1) = true)
    (a2 : PySem.W.nsIn K mainGlobals "sort_of_term" = some (some (.ref f2)))
    (l2 : K.lookup f2 = some ⟨oc2, od2, .func (PySem.W.fnOf "sort_of_term" "sort_of_term" (defArgs (top 12)) (defBody (top 12)) (defScope (top 12)) .none kV2 dc2 pm2 an2 cd2 ct2), sl2⟩)
    (c2 : PySem.W.codeIn K cd2 "sort_of_term" = true) (k2 : PySem.W.keepIn K (.ref f2) = true)
    (a3 : PySem.W.nsIn K mainGlobals "part_sort" = some (some (.ref f3)))
    (l3 : K.lookup f3 = some ⟨oc3, od3, .func (PySem.W.fnOf "part_sort" "part_sort" (defArgs (top 13)) (defBody (top 13)) (defScope (top 13)) .none kV3 dc3 pm3 an3 cd3 ct3), sl3⟩)
    (c3 : PySem.W.codeIn K cd3 "part_sort" = true) (k3 : PySem.W.keepIn K (.ref f3) = true)
    (a4 : PySem.W.nsIn K mainGlobals "wanted_sort" = some (some (.ref f4)))
    (l4 : K.lookup f4 = some ⟨oc4, od4, .func (PySem.W.fnOf "wanted_sort" "wanted_sort" (defArgs (top 14)) (defBody (top 14)) (defScope (top 14)) .none kV4 dc4 pm4 an4 cd4 ct4), sl4⟩)
    (c4 : PySem.W.codeIn K cd4 "wanted_sort" = true) (k4 : PySem.W.keepIn K (.ref f4) = true)
    (a5 : PySem.W.nsIn K mainGlobals "_law_begin" = some (some (.ref f5)))
    (l5 : K.lookup f5 = some ⟨oc5, od5, .func (PySem.W.fnOf "_law_begin" "_law_begin" (defArgs (top 16)) (defBody (top 16)) (defScope (top 16)) .none kV5 dc5 pm5 an5 cd5 ct5), sl5⟩)
    (c5 : PySem.W.codeIn K cd5 "_law_begin" = true) (k5 : PySem.W.keepIn K (.ref f5) = true)
    (a6 : PySem.W.nsIn K mainGlobals "_law_take" = some (some (.ref f6)))
    (l6 : K.lookup f6 = some ⟨oc6, od6, .func (PySem.W.fnOf "_law_take" "_law_take" (defArgs (top 17)) (defBody (top 17)) (defScope (top 17)) .none kV6 dc6 pm6 an6 cd6 ct6), sl6⟩)
    (c6 : PySem.W.codeIn K cd6 "_law_take" = true) (k6 : PySem.W.keepIn K (.ref f6) = true)
    (a7 : PySem.W.nsIn K mainGlobals "_law_of" = some (some (.ref f7)))
    (l7 : K.lookup f7 = some ⟨oc7, od7, .func (PySem.W.fnOf "_law_of" "_law_of" (defArgs (top 18)) (defBody (top 18)) (defScope (top 18)) .none kV7 dc7 pm7 an7 cd7 ct7), sl7⟩)
    (c7 : PySem.W.codeIn K cd7 "_law_of" = true) (k7 : PySem.W.keepIn K (.ref f7) = true)
    (a8 : PySem.W.nsIn K mainGlobals "_law_same" = some (some (.ref f8)))
    (l8 : K.lookup f8 = some ⟨oc8, od8, .func (PySem.W.fnOf "_law_same" "_law_same" (defArgs (top 19)) (defBody (top 19)) (defScope (top 19)) .none kV8 dc8 pm8 an8 cd8 ct8), sl8⟩)
    (c8 : PySem.W.codeIn K cd8 "_law_same" = true) (k8 : PySem.W.keepIn K (.ref f8) = true)
    (a9 : PySem.W.nsIn K mainGlobals "_law_letters" = some (some (.ref f9)))
    (l9 : K.lookup f9 = some ⟨oc9, od9, .func (PySem.W.fnOf "_law_letters" "_law_letters" (defArgs (top 20)) (defBody (top 20)) (defScope (top 20)) .none kV9 dc9 pm9 an9 cd9 ct9), sl9⟩)
    (c9 : PySem.W.codeIn K cd9 "_law_letters" = true) (k9 : PySem.W.keepIn K (.ref f9) = true)
    (a10 : PySem.W.nsIn K mainGlobals "_law_drawn_word" = some (some (.ref f10)))
    (l10 : K.lookup f10 = some ⟨oc10, od10, .func (PySem.W.fnOf "_law_drawn_word" "_law_drawn_word" (defArgs (top 21)) (defBody (top 21)) (defScope (top 21)) .none kV10 dc10 pm10 an10 cd10 ct10), sl10⟩)
    (c10 : PySem.W.codeIn K cd10 "_law_drawn_word" = true) (k10 : PySem.W.keepIn K (.ref f10) = true)
    (a11 : PySem.W.nsIn K mainGlobals "_law_number" = some (some (.ref f11)))
    (l11 : K.lookup f11 = some ⟨oc11, od11, .func (PySem.W.fnOf "_law_number" "_law_number" (defArgs (top 22)) (defBody (top 22)) (defScope (top 22)) .none kV11 dc11 pm11 an11 cd11 ct11), sl11⟩)
    (c11 : PySem.W.codeIn K cd11 "_law_number" = true) (k11 : PySem.W.keepIn K (.ref f11) = true)
    (a12 : PySem.W.nsIn K mainGlobals "_law_value" = some (some (.ref f12)))
    (l12 : K.lookup f12 = some ⟨oc12, od12, .func (PySem.W.fnOf "_law_value" "_law_value" (defArgs (top 23)) (defBody (top 23)) (defScope (top 23)) .none kV12 dc12 pm12 an12 cd12 ct12), sl12⟩)
    (c12 : PySem.W.codeIn K cd12 "_law_value" = true) (k12 : PySem.W.keepIn K (.ref f12) = true)
    (a13 : PySem.W.nsIn K mainGlobals "_law_kinds" = some (some (.ref f13)))
    (l13 : K.lookup f13 = some ⟨oc13, od13, .func (PySem.W.fnOf "_law_kinds" "_law_kinds" (defArgs (top 24)) (defBody (top 24)) (defScope (top 24)) .none kV13 dc13 pm13 an13 cd13 ct13), sl13⟩)
    (c13 : PySem.W.codeIn K cd13 "_law_kinds" = true) (k13 : PySem.W.keepIn K (.ref f13) = true)
    (a14 : PySem.W.nsIn K mainGlobals "_law_leaf" = some (some (.ref f14)))
    (l14 : K.lookup f14 = some ⟨oc14, od14, .func (PySem.W.fnOf "_law_leaf" "_law_leaf" (defArgs (top 25)) (defBody (top 25)) (defScope (top 25)) .none kV14 dc14 pm14 an14 cd14 ct14), sl14⟩)
    (c14 : PySem.W.codeIn K cd14 "_law_leaf" = true) (k14 : PySem.W.keepIn K (.ref f14) = true)
    (a15 : PySem.W.nsIn K mainGlobals "_law_term" = some (some (.ref f15)))
    (l15 : K.lookup f15 = some ⟨oc15, od15, .func (PySem.W.fnOf "_law_term" "_law_term" (defArgs (top 26)) (defBody (top 26)) (defScope (top 26)) .none kV15 dc15 pm15 an15 cd15 ct15), sl15⟩)
    (c15 : PySem.W.codeIn K cd15 "_law_term" = true) (k15 : PySem.W.keepIn K (.ref f15) = true)
    (a16 : PySem.W.nsIn K mainGlobals "_law_two_parts" = some (some (.ref f16)))
    (l16 : K.lookup f16 = some ⟨oc16, od16, .func (PySem.W.fnOf "_law_two_parts" "_law_two_parts" (defArgs (top 27)) (defBody (top 27)) (defScope (top 27)) .none kV16 dc16 pm16 an16 cd16 ct16), sl16⟩)
    (c16 : PySem.W.codeIn K cd16 "_law_two_parts" = true) (k16 : PySem.W.keepIn K (.ref f16) = true)
    (a17 : PySem.W.nsIn K mainGlobals "_law_sort" = some (some (.ref f17)))
    (l17 : K.lookup f17 = some ⟨oc17, od17, .func (PySem.W.fnOf "_law_sort" "_law_sort" (defArgs (top 28)) (defBody (top 28)) (defScope (top 28)) .none kV17 dc17 pm17 an17 cd17 ct17), sl17⟩)
    (c17 : PySem.W.codeIn K cd17 "_law_sort" = true) (k17 : PySem.W.keepIn K (.ref f17) = true)
    (a18 : PySem.W.nsIn K mainGlobals "_law_exchanged" = some (some (.ref f18)))
    (l18 : K.lookup f18 = some ⟨oc18, od18, .func (PySem.W.fnOf "_law_exchanged" "_law_exchanged" (defArgs (top 29)) (defBody (top 29)) (defScope (top 29)) .none kV18 dc18 pm18 an18 cd18 ct18), sl18⟩)
    (c18 : PySem.W.codeIn K cd18 "_law_exchanged" = true) (k18 : PySem.W.keepIn K (.ref f18) = true)
    (a19 : PySem.W.nsIn K mainGlobals "law" = some (some (.ref f19)))
    (l19 : K.lookup f19 = some ⟨oc19, od19, .func (PySem.W.fnOf "law" "law" (defArgs (top 30)) (defBody (top 30)) (defScope (top 30)) .none kV19 dc19 pm19 an19 cd19 ct19), sl19⟩)
    (c19 : PySem.W.codeIn K cd19 "law" = true) (k19 : PySem.W.keepIn K (.ref f19) = true)
    (gc0 : PySem.W.nsIn K mainGlobals "NUMBER" = some (some (.str "number" tc0)))
    (gc1 : PySem.W.nsIn K mainGlobals "WORD" = some (some (.str "word" tc1)))
    (gc2 : PySem.W.nsIn K mainGlobals "FLAG" = some (some (.str "flag" tc2)))
    (ta0_g : PySem.W.nsIn K mainGlobals "LEAVES" = some (some (.ref ta0)))
    (tl0 : K.lookup ta0 = some ⟨.type "tuple", td0, .seq #[.str "number" tt0_0, .str "word" tt0_1, .str "flag" tt0_2, .str "field" tt0_3, .str "has" tt0_4] tn0, ts0⟩)
    (ta1_g : PySem.W.nsIn K mainGlobals "SORTS" = some (some (.ref ta1)))
    (tl1 : K.lookup ta1 = some ⟨.type "tuple", td1, .seq #[.str "number" tt1_0, .str "word" tt1_1, .str "flag" tt1_2] tn1, ts1⟩)
    (z_len : PySem.W.nsIn K mainGlobals "len" = some none)
    (z_all : PySem.W.nsIn K mainGlobals "all" = some none)
    (z_any : PySem.W.nsIn K mainGlobals "any" = some none)
    (z_isinstance : PySem.W.nsIn K mainGlobals "isinstance" = some none)
    (z_bool : PySem.W.nsIn K mainGlobals "bool" = some none)
    (z_int : PySem.W.nsIn K mainGlobals "int" = some none)
    (z_str : PySem.W.nsIn K mainGlobals "str" = some none)
    (z_list : PySem.W.nsIn K mainGlobals "list" = some none)
    (z_dict : PySem.W.nsIn K mainGlobals "dict" = some none)
    (z_tuple : PySem.W.nsIn K mainGlobals "tuple" = some none)
    (z_range : PySem.W.nsIn K mainGlobals "range" = some none)
    (z_zip : PySem.W.nsIn K mainGlobals "zip" = some none)
    (z_sorted : PySem.W.nsIn K mainGlobals "sorted" = some none)
    (z_repr : PySem.W.nsIn K mainGlobals "repr" = some none)
    (mk1 : cd2 = .ref mC) (mk2 : K.lookup mC = some ⟨mo, md, .fields mv, ms⟩) (mk3 : mv[11]? = some (.ref mP)) (mk4 : PySem.W.codeHdIn K mC mP = true)
    (bg0 : PySem.W.nsIn K mainGlobals "LogError" = some (some (.ref bL0)))
    (bh0 : K.lookup bL0 = some (excClassObj b1_0 b2_0 bL0 bN0 b3_0 vErr b4_0 b5_0 b6_0 b7_0 b8_0 bd0 b9_0 ba_0 bb_0 bc_0 bf_0 bi0))
    (bk0 : K.lookup bN0 = some ⟨bo0, be0, .dict bE0 bn0, bs0⟩)
    (bl0 : (bE0.toList.all fun e => match e.key with | .str _ _ => true | _ => false) = true)
    (bm0 : PySem.W.nsIn K bN0 "__init__" = some none)
    (va0 : PySem.W.nsIn K mainGlobals "BadTerm" = some (some (.ref wC0)))
    (vb0 : K.lookup wC0 = some (excClassObj w1_0 w2_0 wC0 wN0 w3_0 (.ref bL0 :: vErr) w4_0 w5_0 w6_0 w7_0 w8_0 wd0 w9_0 wa_0 wb_0 wc_0 we_0 "ValueError.__new__"))
    (vc0 : PySem.W.findIn K (.ref wC0) "__init__" = some (some (.builtin "ValueError.__init__")))
    (vd0 : PySem.W.keepIn K (.ref wC0) = true)
    (ve0 : PySem.W.mroIn K wC0 (.ref bL0) = some true) :
    ∃ a, Txt K mg a ∧ a.p_mk = mP := by
  have F0 := fun_mk (st := top 9) l0 c0 k0
  have F1 := fun_mk (st := top 10) l1 c1 k1
  have F2 := fun_mk (st := top 12) l2 c2 k2
  have F3 := fun_mk (st := top 13) l3 c3 k3
  have F4 := fun_mk (st := top 14) l4 c4 k4
  have F5 := fun_mk (st := top 16) l5 c5 k5
  have F6 := fun_mk (st := top 17) l6 c6 k6
  have F7 := fun_mk (st := top 18) l7 c7 k7
  have F8 := fun_mk (st := top 19) l8 c8 k8
  have F9 := fun_mk (st := top 20) l9 c9 k9
  have F10 := fun_mk (st := top 21) l10 c10 k10
  have F11 := fun_mk (st := top 22) l11 c11 k11
  have F12 := fun_mk (st := top 23) l12 c12 k12
  have F13 := fun_mk (st := top 24) l13 c13 k13
  have F14 := fun_mk (st := top 25) l14 c14 k14
  have F15 := fun_mk (st := top 26) l15 c15 k15
  have F16 := fun_mk (st := top 27) l16 c16 k16
  have F17 := fun_mk (st := top 28) l17 c17 k17
  have F18 := fun_mk (st := top 29) l18 c18 k18
  have F19 := fun_mk (st := top 30) l19 c19 k19
  have W0 := xtx0_mk vb0 bh0 bk0 bl0 bm0 vc0 vd0 ve0
  exact ⟨⟨f0, _, f1, _, f2, _, f3, _, f4, _, f5, _, f6, _, f7, _, f8, _, f9, _, f10, _, f11, _, f12, _, f13, _, f14, _, f15, _, f16, _, f17, _, f18, _, f19, _, _, _, _, ta0, ta1, bL0, wC0, mP, mC⟩, ⟨F0,
    PySem.W.mg_of X G a0,
    F0.binds fun _ _ _ _ _ _ us hl => match us, hl with | [_, _], _ => rfl,
    F1,
    PySem.W.mg_of X G a1,
    F1.binds fun _ _ _ _ _ _ us hl => match us, hl with | [_], _ => rfl,
    F2,
    PySem.W.mg_of X G a2,
    F2.binds fun _ _ _ _ _ _ us hl => match us, hl with | [_, _], _ => rfl,
    F3,
    PySem.W.mg_of X G a3,
    F3.binds fun _ _ _ _ _ _ us hl => match us, hl with | [_, _, _], _ => rfl,
    F4,
    PySem.W.mg_of X G a4,
    F4.binds fun _ _ _ _ _ _ us hl => match us, hl with | [_, _], _ => rfl,
    F5,
    PySem.W.mg_of X G a5,
    F5.binds fun _ _ _ _ _ _ us hl => match us, hl with | [_], _ => rfl,
    F6,
    PySem.W.mg_of X G a6,
    F6.binds fun _ _ _ _ _ _ us hl => match us, hl with | [_, _], _ => rfl,
    F7,
    PySem.W.mg_of X G a7,
    F7.binds fun _ _ _ _ _ _ us hl => match us, hl with | [_, _], _ => rfl,
    F8,
    PySem.W.mg_of X G a8,
    F8.binds fun _ _ _ _ _ _ us hl => match us, hl with | [_, _], _ => rfl,
    F9,
    PySem.W.mg_of X G a9,
    F9.binds fun _ _ _ _ _ _ us hl => match us, hl with | [_, _, _], _ => rfl,
    F10,
    PySem.W.mg_of X G a10,
    F10.binds fun _ _ _ _ _ _ us hl => match us, hl with | [_], _ => rfl,
    F11,
    PySem.W.mg_of X G a11,
    F11.binds fun _ _ _ _ _ _ us hl => match us, hl with | [_], _ => rfl,
    F12,
    PySem.W.mg_of X G a12,
    F12.binds fun _ _ _ _ _ _ us hl => match us, hl with | [_, _], _ => rfl,
    F13,
    PySem.W.mg_of X G a13,
    F13.binds fun _ _ _ _ _ _ us hl => match us, hl with | [_], _ => rfl,
    F14,
    PySem.W.mg_of X G a14,
    F14.binds fun _ _ _ _ _ _ us hl => match us, hl with | [_, _, _], _ => rfl,
    F15,
    PySem.W.mg_of X G a15,
    F15.binds fun _ _ _ _ _ _ us hl => match us, hl with | [_, _, _, _], _ => rfl,
    F16,
    PySem.W.mg_of X G a16,
    F16.binds fun _ _ _ _ _ _ us hl => match us, hl with | [_, _, _, _, _], _ => rfl,
    F17,
    PySem.W.mg_of X G a17,
    F17.binds fun _ _ _ _ _ _ us hl => match us, hl with | [_, _], _ => rfl,
    F18,
    PySem.W.mg_of X G a18,
    F18.binds fun _ _ _ _ _ _ us hl => match us, hl with | [_, _, _], _ => rfl,
    F19,
    PySem.W.mg_of X G a19,
    F19.binds fun _ _ _ _ _ _ us hl => match us, hl with | [_], _ => rfl,
    ⟨PySem.W.mg_of X G gc0, ⟨_, rfl⟩⟩,
    ⟨PySem.W.mg_of X G gc1, ⟨_, rfl⟩⟩,
    ⟨PySem.W.mg_of X G gc2, ⟨_, rfl⟩⟩,
    ⟨PySem.W.mg_of X G ta0_g, rfl⟩,
    fun H => .inr ⟨_, _, _, tl0, rfl, rfl, (by show 5 ≤ sizeLine; rw [sizeLine_eq]; decide), (.cons ⟨_, rfl⟩ (.cons ⟨_, rfl⟩ (.cons ⟨_, rfl⟩ (.cons ⟨_, rfl⟩ (.cons ⟨_, rfl⟩ .nil)))))⟩,
    ⟨PySem.W.mg_of X G ta1_g, rfl⟩,
    fun H => .inr ⟨_, _, _, tl1, rfl, rfl, (by show 3 ≤ sizeLine; rw [sizeLine_eq]; decide), (.cons ⟨_, rfl⟩ (.cons ⟨_, rfl⟩ (.cons ⟨_, rfl⟩ .nil)))⟩,
    PySem.W.mg_none_of X G z_len,
    PySem.W.mg_none_of X G z_all,
    PySem.W.mg_none_of X G z_any,
    PySem.W.mg_none_of X G z_isinstance,
    PySem.W.mg_none_of X G z_bool,
    PySem.W.mg_none_of X G z_int,
    PySem.W.mg_none_of X G z_str,
    PySem.W.mg_none_of X G z_list,
    PySem.W.mg_none_of X G z_dict,
    PySem.W.mg_none_of X G z_tuple,
    PySem.W.mg_none_of X G z_range,
    PySem.W.mg_none_of X G z_zip,
    PySem.W.mg_none_of X G z_sorted,
    PySem.W.mg_none_of X G z_repr,
    mk1,
    mk4,
    PySem.W.mg_of X G bg0,
    W0.2,
    PySem.W.mg_of X G va0,
    W0.1⟩, rfl⟩
theorem walk {l : PySem.W.OpenLaw} {q : Program} {loose : List Str} {XP : (Str → Option Value) → Heap → Prop} {YP : World → Heap → Prop} {d : DefRec} {K : Params → PySem.W.Frag} {pt : Addr} (hn : l.most = some 63) (hdf : d.params.defaults = [])
    (hY : ∀ (w : World) (h : Heap), YP w h → (K w.params).In h) (hYt : ∀ (w : World) (h : Heap), YP w h → ∀ P ∈ [pt], h.get? P = some (PySem.W.tabObj #[]))
    (F : ∀ (w : World) (mg : Str → Option Value) (fa : Addr) (h : Heap), (K w.params).In h → h.Ns mainGlobals mg → mg d.name = some (.ref fa) →
      (∀ P ∈ [pt], (∃ c, PySem.W.codeHdIn (K w.params) c P = true) ∧ (K w.params).lookup P = none) ∧ ∃ fd : FuncData, (∀ (s : Shared) (u : Value), BindsTo s fd ⟨[u], []⟩ [("_law_script", u)]) ∧ ∀ base : Heap, (K w.params).In base → base.Ns mainGlobals mg → BM mg base → FnOk l.prog w (K w.params) mg base CX0 20 fa fd ["_law_script"] (spLaw (K w.params) pt)) :
    PySem.W.WalkO q loose XP YP l.row.toRowW d [] (fun f vs => PySem.call f vs) :=
  L2.walk_ofT (n := 63) (k := 20) (x := "_law_script") (ts := [pt]) (sp := fun K => spLaw K pt) hn (by decide) hdf ⟨rfl, by decide, by decide, rfl⟩ hY hYt F (fun _ _ a ns hl hO hS => ⟨a, ns, rfl, hS, hl, .inl (hO pt (by simp)), fun _ => rfl⟩)
theorem law_mk {l : PySem.W.OpenLaw} {w : World} {K : PySem.W.Frag} {h : Heap} {mg : Str → Option Value} {fa pt : Addr} (hfa : mg "law" = some (.ref fa)) (T : ∃ a, Txt K mg a ∧ a.p_mk = pt) (hl : K.lookup pt = none) :
    (∀ P ∈ [pt], (∃ c, PySem.W.codeHdIn K c P = true) ∧ K.lookup P = none) ∧ ∃ fd : FuncData, (∀ (s : Shared) (v : Value), BindsTo s fd ⟨[v], []⟩ [("_law_script", v)]) ∧ ∀ base : Heap, K.In base → base.Ns mainGlobals mg → BM mg base → FnOk l.prog w K mg base CX0 20 fa fd ["_law_script"] (spLaw K pt) := by
  obtain ⟨a, T, rfl⟩ := T
  have e := hfa.symm.trans T.m_law
  cases e
  obtain ⟨oc, od, kV, doc, pm, an, cdv, ct, osl, hfd, lk, hcd⟩ := T.F_law.ex
  refine ⟨fun P hP => ?_, a.d_law, fun s v => ?_, fun base _ _ hB => ok_law T hB⟩
  · have : P = a.p_mk := by simpa using hP
    subst this
    exact ⟨⟨_, T.h_mk⟩, hl⟩
  · rw [hfd]
    exact .of_eq rfl
end My
open PySem PySem.W PyProof.Rows
set_option maxRecDepth 100000 in
set_option maxHeartbeats 0 in
theorem PySem.Challenge.cw_logdelve_k10_sorts_of_terms_holds : PySem.Challenge.rw_logdelve_k10_sorts_of_terms.Holds := by
  w_on; o_law; k_head; (case hw => w_witness2)
  k_fill
  refine My.walk (l := PySem.Challenge.rw_logdelve_k10_sorts_of_terms) rfl rfl (fun w h Y => PySem.W.km_in_of Y) (fun w h Y => PySem.W.km_tabs_of Y) ?F
  case F =>
    intro w mg fa h KX G hmg
    refine My.law_mk (h := h) hmg ?T (by kernel_rfl)
    case T =>
      refine' My.mk_txt KX G ?a0 ?l0 ?c0 ?k0 ?a1 ?l1 ?c1 ?k1 ?a2 ?l2 ?c2 ?k2 ?a3 ?l3 ?c3 ?k3 ?a4 ?l4 ?c4 ?k4 ?a5 ?l5 ?c5 ?k5 ?a6 ?l6 ?c6 ?k6 ?a7 ?l7 ?c7 ?k7 ?a8 ?l8 ?c8 ?k8 ?a9 ?l9 ?c9 ?k9 ?a10 ?l10 ?c10 ?k10 ?a11 ?l11 ?c11 ?k11 ?a12 ?l12 ?c12 ?k12 ?a13 ?l13 ?c13 ?k13 ?a14 ?l14 ?c14 ?k14 ?a15 ?l15 ?c15 ?k15 ?a16 ?l16 ?c16 ?k16 ?a17 ?l17 ?c17 ?k17 ?a18 ?l18 ?c18 ?k18 ?a19 ?l19 ?c19 ?k19 ?gc0 ?gc1 ?gc2 ?ta0_g ?tl0 ?ta1_g ?tl1 ?z_len ?z_all ?z_any ?z_isinstance ?z_bool ?z_int ?z_str ?z_list ?z_dict ?z_tuple ?z_range ?z_zip ?z_sorted ?z_repr ?mk1 ?mk2 ?mk3 ?mk4 ?bg0 ?bh0 ?bk0 ?bl0 ?bm0 ?va0 ?vb0 ?vc0 ?vd0 ?ve0
      (case a0 => k_is)
      (case l0 => k_is)
      (case c0 => k_is)
      (case k0 => k_is)
      (case a1 => k_is)
      (case l1 => k_is)
      (case c1 => k_is)
      (case k1 => k_is)
      (case a2 => k_is)
      (case l2 => k_is)
      (case c2 => k_is)
      (case k2 => k_is)
      (case a3 => k_is)
      (case l3 => k_is)
      (case c3 => k_is)
      (case k3 => k_is)
      (case a4 => k_is)
      (case l4 => k_is)
      (case c4 => k_is)
      (case k4 => k_is)
      (case a5 => k_is)
      (case l5 => k_is)
      (case c5 => k_is)
      (case k5 => k_is)
      (case a6 => k_is)
      (case l6 => k_is)
      (case c6 => k_is)
      (case k6 => k_is)
      (case a7 => k_is)
      (case l7 => k_is)
      (case c7 => k_is)
      (case k7 => k_is)
      (case a8 => k_is)
      (case l8 => k_is)
      (case c8 => k_is)
      (case k8 => k_is)
      (case a9 => k_is)
      (case l9 => k_is)
      (case c9 => k_is)
      (case k9 => k_is)
      (case a10 => k_is)
      (case l10 => k_is)
      (case c10 => k_is)
      (case k10 => k_is)
      (case a11 => k_is)
      (case l11 => k_is)
      (case c11 => k_is)
      (case k11 => k_is)
      (case a12 => k_is)
      (case l12 => k_is)
      (case c12 => k_is)
      (case k12 => k_is)
      (case a13 => k_is)
      (case l13 => k_is)
      (case c13 => k_is)
      (case k13 => k_is)
      (case a14 => k_is)
      (case l14 => k_is)
      (case c14 => k_is)
      (case k14 => k_is)
      (case a15 => k_is)
      (case l15 => k_is)
      (case c15 => k_is)
      (case k15 => k_is)
      (case a16 => k_is)
      (case l16 => k_is)
      (case c16 => k_is)
      (case k16 => k_is)
      (case a17 => k_is)
      (case l17 => k_is)
      (case c17 => k_is)
      (case k17 => k_is)
      (case a18 => k_is)
      (case l18 => k_is)
      (case c18 => k_is)
      (case k18 => k_is)
      (case a19 => k_is)
      (case l19 => k_is)
      (case c19 => k_is)
      (case k19 => k_is)
      (case gc0 => k_is)
      (case gc1 => k_is)
      (case gc2 => k_is)
      (case ta0_g => k_is)
      (case tl0 => k_is)
      (case ta1_g => k_is)
      (case tl1 => k_is)
      (case z_len => k_is)
      (case z_all => k_is)
      (case z_any => k_is)
      (case z_isinstance => k_is)
      (case z_bool => k_is)
      (case z_int => k_is)
      (case z_str => k_is)
      (case z_list => k_is)
      (case z_dict => k_is)
      (case z_tuple => k_is)
      (case z_range => k_is)
      (case z_zip => k_is)
      (case z_sorted => k_is)
      (case z_repr => k_is)
      (case mk1 => rfl)
      (case mk2 => k_is)
      (case mk3 => rfl)
      (case mk4 => kernel_rfl)
      (case bg0 => k_is)
      (case bh0 => k_is)
      (case bk0 => k_is)
      (case bl0 => rfl)
      (case bm0 => k_is)
      (case va0 => k_is)
      (case vb0 => k_is)
      (case vc0 => k_is)
      (case vd0 => k_is)
      (case ve0 => k_is)

