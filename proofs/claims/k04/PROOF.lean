import PyProof.Rows.All
import Wide.All
import OpenK.AllK
import Wide.FinOn
import Lean
import PyProof.EqAt
import PyProof.EqKinds
import PyProof.TupleCall
import PyProof.NeKinds
import KE.KIntText
import PyProof.ExcAttrAll.ValueError
import KE.KDictList
import KE.KDictOf
import PyProof.AttrMissHeap
import PyProof.Rows.SortStr
import KE.KRevSl
import PyProof.Draws
import PyProof.EnumMake
import KE.KNest
import KE.KLam
import KE.KNestM
import PyProof.FitsBits
import PyProof.ReprRoads
import PyProof.StrLawsRepr
import PyProof.Rows.StrNews2
import PyProof.DictUpdate
import PyProof.DictTable
import PyProof.StrOps2
import PySem.Challenge.RW_logdelve_k04_rows_misread
set_option Elab.async false
set_option linter.all false
set_option maxRecDepth 100000
/-! THE HAND LAYER, for ints, bools, texts, own classes, LISTS and tuples (index, slices, in, append, pop ..), calls, loops. Paste it whole ahead of your own text; what your proof does not reach may be deleted. -/
namespace L2
open PySem PySem.Spec PyProof.Rows

/-- a key: an int or a str -/
abbrev Key := Sum Int Str
def keyIs : Key → Value → Bool
  | .inl k, v => Value.isInt k v
  | .inr x, v => Value.isStrOf x v
def keyH (w : World) : Key → Int
  | .inl k => hashInt k
  | .inr x => hashStr w x
theorem keyIs_shape : ∀ {k : Key} {v : Value}, keyIs k v = true → (∃ i t, k = Sum.inl i ∧ v = Value.int i t) ∨ (∃ x t, k = Sum.inr x ∧ v = Value.str x t)
  | .inl i, v, h => by
    obtain ⟨t, e⟩ := Value.isInt_shape (k := i) (v := v) h
    exact .inl ⟨i, t, rfl, e⟩
  | .inr x, v, h => by
    obtain ⟨t, e⟩ := Value.isStrOf_shape (x := x) (v := v) h
    exact .inr ⟨x, t, rfl, e⟩
theorem keyIs_int (i : Int) (t : Tok) : keyIs (.inl i) (.int i t) = true := by simp [keyIs, Value.isInt]
theorem keyIs_str (x : Str) (t : Tok) : keyIs (.inr x) (.str x t) = true := by simp [keyIs, Value.isStrOf]
theorem key_ll (a b : Int) : decide ((Sum.inl a : Key) = Sum.inl b) = (a == b) := by
  by_cases e : a = b
  · subst e; simp
  · have h : ¬ (Sum.inl a : Key) = Sum.inl b := fun q => e (Sum.inl.inj q)
    rw [decide_eq_false h]
    exact (beq_eq_false_iff_ne.mpr e).symm
theorem key_rr (a b : Str) : decide ((Sum.inr a : Key) = Sum.inr b) = decide (a = b) := by
  by_cases e : a = b
  · subst e; simp
  · have h : ¬ (Sum.inr a : Key) = Sum.inr b := fun q => e (Sum.inr.inj q)
    rw [decide_eq_false h, decide_eq_false e]
theorem key_lr (a : Int) (b : Str) : decide ((Sum.inl a : Key) = Sum.inr b) = false := decide_eq_false (fun q => nomatch q)
theorem key_rl (a : Str) (b : Int) : decide ((Sum.inr a : Key) = Sum.inl b) = false := decide_eq_false (fun q => nomatch q)

def mixKind (prog : Program) (w : World) : PySem.KeyKind prog w Key where
  is := keyIs
  hash := keyH w
  inj := fun v a b ha hb => by
    rcases keyIs_shape ha with ⟨i, t, rfl, rfl⟩ | ⟨x, t, rfl, rfl⟩
    · rcases keyIs_shape hb with ⟨j, u, rfl, e⟩ | ⟨y, u, rfl, e⟩
      · injection e with e1 _; rw [e1]
      · exact nomatch e
    · rcases keyIs_shape hb with ⟨j, u, rfl, e⟩ | ⟨y, u, rfl, e⟩
      · exact nomatch e
      · injection e with e1 _; rw [e1]
  byValue := fun k v h => by
    rcases keyIs_shape h with ⟨i, t, rfl, rfl⟩ | ⟨x, t, rfl, rfl⟩ <;> rfl
  pyHash := fun hv h => by
    rcases keyIs_shape hv with ⟨i, t, rfl, rfl⟩ | ⟨x, t, rfl, rfl⟩
    · exact wpAny_pyHash_int h
    · exact wpAny_pyHash_str h
  eqBool := fun hu hv h => by
    rcases keyIs_shape hu with ⟨i, t, rfl, rfl⟩ | ⟨x, t, rfl, rfl⟩
    · rcases keyIs_shape hv with ⟨j, u, rfl, rfl⟩ | ⟨y, u, rfl, rfl⟩
      · rw [key_ll] at h; exact wpAny_eqBool_int h
      · rw [key_lr] at h; exact SeqAt.EqAt.int_str i t y u _ _ _ _ h
    · rcases keyIs_shape hv with ⟨j, u, rfl, rfl⟩ | ⟨y, u, rfl, rfl⟩
      · rw [key_rl] at h; exact SeqAt.EqAt.str_int x t j u _ _ _ _ h
      · rw [key_rr] at h; exact wpAny_eqBool_str h
  «strs» := fun k x t v h => by
    rcases keyIs_shape h with ⟨i, u, rfl, e⟩ | ⟨y, u, rfl, e⟩
    · exact nomatch e
    · injection e with e1 _
      subst e1
      cases v <;> rfl

theorem mixKind_int (prog : Program) (w : World) (i : Int) (t : Tok) : (mixKind prog w).is (.inl i) (.int i t) = true := keyIs_int i t
theorem mixKind_str (prog : Program) (w : World) (x : Str) (t : Tok) : (mixKind prog w).is (.inr x) (.str x t) = true := keyIs_str x t
end L2

namespace L2
open PySem PySem.Spec PyProof.Rows

/-- a value, without the heap -/
inductive V where
  | non | bl (b : Bool) | int (i : Int) | str (x : Str) | byt (b : Array UInt8) | flt (b : UInt64) | ref (a : Addr) | ty (n : String)
  deriving DecidableEq

def RelV : V → Value → Prop
  | .non, u => u = Value.none
  | .bl b, u => u = Value.bool b
  | .int i, u => ∃ t, u = Value.int i t
  | .str x, u => ∃ t, u = Value.str x t
  | .byt b, u => ∃ t, u = Value.bytes b t
  | .flt b, u => ∃ t, u = Value.float b t
  | .ref a, u => u = Value.ref a
  | .ty n, u => u = Value.type n

abbrev Vals : List V → List Value → Prop := Paired RelV
theorem Vals.length {xs : List V} {us : List Value} (r : Vals xs us) : xs.length = us.length := Paired.length r
theorem Vals.get : ∀ {xs : List V} {us : List Value} {i : Nat} {x : V}, Vals xs us → xs[i]? = some x → ∃ u, us[i]? = some u ∧ RelV x u
  | _, _, _, _, .nil, e => by simp at e
  | _, _, 0, _, .cons r _, e => by simp at e; subst e; exact ⟨_, rfl, r⟩
  | _, _, i + 1, x, .cons _ t, e => by
    obtain ⟨u, h1, h2⟩ := Vals.get (i := i) (x := x) t (by simpa using e)
    exact ⟨u, by simpa using h1, h2⟩
theorem Vals.set {x : V} {u : Value} (r : RelV x u) : ∀ {xs : List V} {us : List Value} (i : Nat), Vals xs us → Vals (xs.set i x) (us.set i u)
  | _, _, _, .nil => .nil
  | _, _, 0, .cons _ t => .cons r t
  | _, _, i + 1, .cons q t => .cons q (Vals.set r i t)
theorem Vals.append : ∀ {xs ys : List V} {us ws : List Value}, Vals xs us → Vals ys ws → Vals (xs ++ ys) (us ++ ws)
  | _, _, _, _, .nil, s => s
  | _, _, _, _, .cons r t, s => .cons r (Vals.append t s)
theorem Vals.take : ∀ {xs : List V} {us : List Value} (n : Nat), Vals xs us → Vals (xs.take n) (us.take n)
  | _, _, 0, _ => .nil
  | _, _, _ + 1, .nil => .nil
  | _, _, n + 1, .cons r t => .cons r (Vals.take n t)
theorem Vals.drop : ∀ {xs : List V} {us : List Value} (n : Nat), Vals xs us → Vals (xs.drop n) (us.drop n)
  | _, _, 0, r => r
  | _, _, _ + 1, .nil => .nil
  | _, _, n + 1, .cons _ t => Vals.drop n t
def RelO : Option V → Option Value → Prop
  | some v, some u => RelV v u
  | none, none => True
  | _, _ => False
def KV {κ : Type} : List (κ × V) → List (κ × Value) → Prop := Paired fun (p : κ × V) (q : κ × Value) => p.1 = q.1 ∧ RelV p.2 q.2

/-- a key of a dict (00_mix): an int or a text -/
def kV : Key → V
  | .inl i => .int i
  | .inr x => .str x

/-- what stands at a tracked address -/
inductive HO where
  /-- a list -/
  | lst (xs : List V)
  /-- a tuple (never changes) -/
  | tup (xs : List V)
  /-- a dict whose keys are ints and texts; one whose keys are tuples of ints and texts (the empty one is both) -/
  | dK (kvs : List (Key × V)) | dT (kvs : List (List Key × V))
  /-- a set of ints: its members, its size -/
  | set (S : Int → Bool) (n : Nat)
  /-- an instance of the class at C, its dict at dx, its attributes -/
  | ins (C dx : Addr) (fs : List (Str × V))
  /-- the dict of the instance at x -/
  | own (x : Addr)
  /-- the dict of an exception -/
  | xd (fs : List (Str × V))
  /-- a bound method, f of x -/
  | met (f x : Addr)
  /-- a range object lo, lo + 1, .. below hi -/
  | rng (lo hi : Int)
  /-- a thing that is known to the object (the script; a dict while a loop walks it): read, never written while it is so -/
  | frz (o : Obj) (u : HO)
  /-- a code object's table -/
  | tbl (ps : Array Value)
  /-- any other thing, by what is true of its one object (a def of one's own: SetO a S n := HO.ext fun h => ..) -/
  | ext (φ : Heap → Prop)

abbrev Hp := Addr → Option HO
def upd (H : Hp) (a : Addr) (o : HO) : Hp := fun b => if b = a then some o else H b
theorem upd_same {H : Hp} {a : Addr} {o : HO} : upd H a o a = some o := by unfold upd; rw [if_pos rfl]
theorem upd_ne {H : Hp} {a b : Addr} {o : HO} (h : b ≠ a) : upd H a o b = H b := by unfold upd; rw [if_neg h]
/-- two objects of different content stand apart -/
theorem ne_of {H : Hp} {a b : Addr} {o u : HO} (h : H a = some o) (h' : H b = some u) (d : o ≠ u) : a ≠ b := by
  intro e; subst e; rw [h] at h'; exact d (Option.some.inj h')
theorem ne_of_none {H : Hp} {a b : Addr} {o : HO} (h : H a = some o) (h' : H b = none) : a ≠ b := by
  intro e; subst e; rw [h] at h'; cases h'

section
variable (P : Program) (w : World)
def ObjOk (H : Hp) (h : Heap) (a : Addr) : HO → Prop
  | .lst xs => xs.length ≤ sizeLine ∧ ∃ (its : List Value) (n : Nat), Vals xs its ∧ h.get? a = some { cls := .type "list", data := .seq its.toArray n }
  | .tup xs => xs.length ≤ sizeLine ∧ ∃ its : List Value, Vals xs its ∧ IsTup h a its.toArray
  | .dK kvs => kvs.length ≤ sizeLine ∧ (a == sysModules) = false ∧ ∃ vs, KV kvs vs ∧ h.DictOf (mixKind P w) a vs
  | .dT kvs => kvs.length ≤ sizeLine ∧ (a == sysModules) = false ∧ ∃ xs : List (List Key × Addr × Value),
      Paired (fun (p : List Key × V) (q : List Key × Addr × Value) => p.1 = q.1 ∧ H q.2.1 = some (.tup (p.1.map kV)) ∧ RelV p.2 q.2.2) kvs xs ∧
      ∃ o es ep, h.get? a = some o ∧ o.ExactDict ∧ o.data = .dict es ep ∧ es.toList = xs.map (entryOfKey (tupleKind (mixKind P w))) ∧ (xs.map (·.1)).Nodup
  | .set S n => h.SetOf (intKind P w) a S n
  | .ins C dx fs => H dx = some (.own a) ∧ fs.length ≤ 1000 ∧ dx ≠ a ∧ h.get? a = some (PySem.W.instObj C dx) ∧
      ∃ mA, h.Ns1 dx mA ∧ (∀ f, RelO (fs.lookup f) (mA f)) ∧ PySem.Within mA (fs.map (·.1))
  | .own _ => ∃ o, h.get? a = some o
  | .xd fs => ∃ mA, h.Ns1 a mA ∧ ∀ f, RelO (fs.lookup f) (mA f)
  | .rng lo hi => ∃ t u v, h.get? a = some { cls := .type "range", data := .fields #[.int lo t, .int hi u, .int 1 v] }
  | .frz o u => h.get? a = some o ∧ ObjOk H h a u
  | .tbl ps => h.get? a = some { cls := .none, data := .fields ps }
  | .met f x => h.get? a = some (PySem.W.methodObj (.ref f) (.ref x))
  | .ext φ => φ h ∧ (∃ o, h.get? a = some o) ∧ ∀ h1 h2 : Heap, φ h1 → (∀ o, h1.get? a = some o → h2.get? a = some o) → φ h2
/-- the abstract heap is held -/
def HOk (H : Hp) (h : Heap) : Prop := ∀ a o, H a = some o → ObjOk P w H h a o
end

section
variable {P : Program} {w : World} {H H' : Hp} {h h' : Heap} {a : Addr} {o : HO}
theorem ObjOk.lt (x : ObjOk P w H h a o) : a < h.objs.size := by
  cases o with
  | lst xs => obtain ⟨_, _, _, _, e⟩ := x; exact Heap.lt_size e
  | tup xs => obtain ⟨_, _, _, p⟩ := x; exact p.lt
  | dK kvs => obtain ⟨_, _, _, _, o, _, _, e, _⟩ := x; exact Heap.lt_size e
  | dT kvs => obtain ⟨_, _, _, _, o, _, _, e, _⟩ := x; exact Heap.lt_size e
  | set S n => obtain ⟨o, _, _, _, e, _⟩ := x; exact Heap.lt_size e
  | ins C dx fs => obtain ⟨_, _, _, e, _⟩ := x; exact Heap.lt_size e
  | own y => obtain ⟨_, e⟩ := x; exact Heap.lt_size e
  | xd fs => obtain ⟨_, ⟨_, _, _, e, _⟩, _⟩ := x; exact Heap.lt_size e
  | rng lo hi => obtain ⟨_, _, _, e⟩ := x; exact Heap.lt_size e
  | frz ob u => obtain ⟨e, _⟩ := x; exact Heap.lt_size e
  | tbl ps => exact Heap.lt_size (show h.get? a = some _ from x)
  | met f y => exact Heap.lt_size (show h.get? a = some _ from x)
  | ext φ => obtain ⟨_, ⟨_, e⟩, _⟩ := x; exact Heap.lt_size e
theorem Paired.mapP {α β : Type} {F G : α → β → Prop} : ∀ {l₁ : List α} {l₂ : List β}, Paired F l₁ l₂ → (∀ a b, F a b → G a b) → Paired G l₁ l₂
  | _, _, .nil, _ => .nil
  | _, _, .cons r t, f => .cons (f _ _ r) (Paired.mapP t f)
/-- what an object's description leans on: its own object, its own dict, the tuples -/
theorem ObjOk.stay (x : ObjOk P w H h a o) (k : ∀ b u, (b = a ∨ H b = some (.own a)) → h.get? b = some u → h'.get? b = some u)
    (ho : ∀ b, H b = some (.own a) → H' b = some (.own a)) (ht : ∀ b xs, H b = some (.tup xs) → H' b = some (.tup xs)) : ObjOk P w H' h' a o := by
  induction o with
  | lst xs => obtain ⟨z, its, n, r, e⟩ := x; exact ⟨z, its, n, r, k _ _ (.inl rfl) e⟩
  | tup xs => obtain ⟨z, its, r, ob, e, c⟩ := x; exact ⟨z, its, r, ob, k _ _ (.inl rfl) e, c⟩
  | dK kvs => obtain ⟨z, y, vs, r, ob, es, ep, e, c⟩ := x; exact ⟨z, y, vs, r, ob, es, ep, k _ _ (.inl rfl) e, c⟩
  | dT kvs =>
    obtain ⟨z, y, xs, r, ob, es, ep, e, c⟩ := x
    exact ⟨z, y, xs, Paired.mapP r fun p q z => ⟨z.1, ht _ _ z.2.1, z.2.2⟩, ob, es, ep, k _ _ (.inl rfl) e, c⟩
  | set S n => obtain ⟨ob, es, ep, t, e, c⟩ := x; exact ⟨ob, es, ep, t, k _ _ (.inl rfl) e, c⟩
  | ins C dx fs =>
    obtain ⟨d, z, ne, e, mA, ⟨od, es, ep, e2, c⟩, r⟩ := x
    exact ⟨ho _ d, z, ne, k _ _ (.inl rfl) e, mA, ⟨od, es, ep, k _ _ (.inr d) e2, c⟩, r⟩
  | own y => obtain ⟨ob, e⟩ := x; exact ⟨ob, k _ _ (.inl rfl) e⟩
  | xd fs => obtain ⟨mA, ⟨od, es, ep, e, c⟩, r⟩ := x; exact ⟨mA, ⟨od, es, ep, k _ _ (.inl rfl) e, c⟩, r⟩
  | rng lo hi => obtain ⟨t, u, v, e⟩ := x; exact ⟨t, u, v, k _ _ (.inl rfl) e⟩
  | frz ob u ih => obtain ⟨e, q⟩ := x; exact ⟨k _ _ (.inl rfl) e, ih q⟩
  | tbl ps =>
    have e : h.get? a = some { cls := .none, data := .fields ps } := x
    show h'.get? a = some { cls := .none, data := .fields ps }
    exact k a _ (.inl rfl) e
  | met f y =>
    have e : h.get? a = some (PySem.W.methodObj (.ref f) (.ref y)) := x
    show h'.get? a = some (PySem.W.methodObj (.ref f) (.ref y))
    exact k a _ (.inl rfl) e
  | ext φ => obtain ⟨p, ⟨o, e⟩, st⟩ := x; exact ⟨st _ _ p fun o q => k _ _ (.inl rfl) q, ⟨o, k _ _ (.inl rfl) e⟩, st⟩
theorem HOk.lt (x : HOk P w H h) (e : H a = some o) : a < h.objs.size := (x a o e).lt
theorem HOk.fresh (x : HOk P w H h) (e : h.objs.size ≤ a) : H a = none := by
  cases q : H a with
  | none => rfl
  | some u => exact absurd (Nat.lt_of_lt_of_le (x.lt q) e) (Nat.lt_irrefl _)
/-- every object of the heap is kept -/
theorem HOk.kept (x : HOk P w H h) (k : ∀ b u, h.get? b = some u → h'.get? b = some u) : HOk P w H h' := fun a o e =>
  (x a o e).stay (fun b u _ q => k b u q) (fun _ q => q) fun _ _ q => q
/-- a new object is laid and tracked -/
theorem HOk.laid (x : HOk P w H h) (k : ∀ b u, h.get? b = some u → h'.get? b = some u) (hp : h.objs.size ≤ a) (new : ObjOk P w (upd H a o) h' a o) : HOk P w (upd H a o) h' := fun b u e => by
  have hn := x.fresh hp
  by_cases hb : b = a
  · subst hb; rw [upd_same] at e; cases e; exact new
  · rw [upd_ne hb] at e
    exact (x b u e).stay (fun c v _ q => k c v q) (fun c q => by rw [upd_ne (ne_of_none q hn)]; exact q) fun c xs q => by rw [upd_ne (ne_of_none q hn)]; exact q
end

/-- what may be read as u: it is u, or a known u -/
def Rd (H : Hp) (a : Addr) (u : HO) : Prop := H a = some u ∨ ∃ o, H a = some (.frz o u)
theorem Rd.ok {P : Program} {w : World} {H : Hp} {h : Heap} {a : Addr} {u : HO} (r : Rd H a u) (x : HOk P w H h) : ObjOk P w H h a u := by
  rcases r with r | ⟨o, r⟩
  · exact x a u r
  · obtain ⟨_, q⟩ := x a _ r
    exact q
/-- what may be written -/
def Mut : Option HO → Prop
  | some (.lst _) => True
  | some (.dK _) => True
  | some (.dT _) => True
  | some (.set _ _) => True
  | some (.ins _ _ _) => True
  | some (.ext _) => True
  | _ => False
section
variable {P : Program} {w : World} {H : Hp} {h h' : Heap} {x e : Addr} {o' : HO}
/-- the object at e is changed: x itself, or the dict of the instance x -/
theorem HOk.write (ok : HOk P w H h) (mu : Mut (H x)) (he : e = x ∨ H e = some (.own x)) (k : ∀ b u, b ≠ e → h.get? b = some u → h'.get? b = some u) (heo : ∃ u, h'.get? e = some u)
    (new : ObjOk P w (upd H x o') h' x o') : HOk P w (upd H x o') h' := fun b u q => by
  have nown : ∀ c y, H c = some (.own y) → c ≠ x := fun c y r z => by subst z; rw [r] at mu; exact mu
  have ntup : ∀ c xs, H c = some (.tup xs) → c ≠ x := fun c xs r z => by subst z; rw [r] at mu; exact mu
  by_cases hb : b = x
  · subst hb; rw [upd_same] at q; cases q; exact new
  · rw [upd_ne hb] at q
    by_cases hbe : b = e
    · have q' : H b = some (.own x) := by
        rcases he with z | z
        · exact absurd (hbe.trans z) hb
        · rw [hbe]; exact z
      rw [q] at q'; cases q'
      obtain ⟨v, hv⟩ := heo
      exact ⟨v, by rw [hbe]; exact hv⟩
    · refine (ok b u q).stay (fun c v hc r => k c v ?_ r) (fun c r => by rw [upd_ne (nown c b r)]; exact r) fun c xs r => by rw [upd_ne (ntup c xs r)]; exact r
      rcases hc with rfl | hc
      · exact hbe
      · rintro rfl
        rcases he with z | z
        · exact nown c b hc z
        · rw [hc] at z; cases z; exact hb rfl
end

/-! ### kept unless tracked; of the frames at fs (the callers') the slots may change (an exception that passes writes there); of the records at ex (iterators) nothing is said -/
structure Un (fs ex : List Addr) (H H' : Hp) (h h' : Heap) : Prop where
  keep : ∀ b o, h.get? b = some o → H b = none → b ∉ fs → b ∉ ex → h'.get? b = some o
  slot : ∀ b o, h.get? b = some o → H b = none → b ∈ fs → b ∉ ex → ∃ sl, h'.get? b = some { o with slots := sl }
  free : ∀ b o, h.get? b = some o → H b = none → b ∉ ex → H' b = none
  there : ∀ b o, h.get? b = some o → b ∉ ex → ∃ o', h'.get? b = some o'
  tups : ∀ b xs, H b = some (.tup xs) → H' b = some (.tup xs)
  frzs : ∀ b o u, H b = some (.frz o u) → H' b = some (.frz o u)
  tbls : ∀ b ps, H b = some (.tbl ps) → ∃ more, H' b = some (.tbl (ps ++ more))
section
variable {fs fs' ex ex' : List Addr} {H H1 H2 : Hp} {h h1 h2 h' : Heap} {a x e : Addr} {o : HO}
theorem Un.any (u : Un fs ex H H1 h h1) {b : Addr} {ob : Obj} (q : h.get? b = some ob) (n : H b = none) (hx : b ∉ ex) : ∃ sl, h1.get? b = some { ob with slots := sl } := by
  by_cases hb : b ∈ fs
  · exact u.slot b ob q n hb hx
  · exact ⟨ob.slots, u.keep b ob q n hb hx⟩
theorem Un.kept (k : ∀ b u, h.get? b = some u → h'.get? b = some u) : Un fs ex H H h h' :=
  ⟨fun b ob q _ _ _ => k b ob q, fun b ob q _ _ _ => ⟨ob.slots, k b ob q⟩, fun _ _ _ n _ => n, fun b ob q _ => ⟨ob, k b ob q⟩, fun _ _ q => q, fun _ _ _ q => q, fun _ ps q => ⟨#[], by rw [q]; simp⟩⟩
theorem Un.refl : Un fs ex H H h h := Un.kept fun _ _ q => q
theorem Un.laid (k : ∀ b u, h.get? b = some u → h'.get? b = some u) (hp : h.objs.size ≤ a) (hn : H a = none) : Un fs ex H (upd H a o) h h' where
  keep := fun b u q _ _ _ => k b u q
  slot := fun b u q _ _ _ => ⟨u.slots, k b u q⟩
  free := fun b u q n _ => by rw [upd_ne (Nat.ne_of_lt (Nat.lt_of_lt_of_le (Heap.lt_size q) hp))]; exact n
  there := fun b u q _ => ⟨u, k b u q⟩
  tups := fun b xs q => by rw [upd_ne (ne_of_none q hn)]; exact q
  frzs := fun b u xs q => by rw [upd_ne (ne_of_none q hn)]; exact q
  tbls := fun b ps q => ⟨#[], by rw [upd_ne (ne_of_none q hn), q]; simp⟩
theorem Un.write (mu : Mut (H x)) (he : e = x ∨ H e = some (.own x)) (k : ∀ b u, b ≠ e → h.get? b = some u → h'.get? b = some u) (heo : ∃ u, h'.get? e = some u) : Un fs ex H (upd H x o) h h' := by
  have hx : ∀ b, H b = none → b ≠ x := fun b n z => by subst z; rw [n] at mu; exact mu
  have hb : ∀ b, H b = none → b ≠ e := fun b n z => by
    subst z
    rcases he with r | r
    · exact hx b n r
    · rw [n] at r; cases r
  have hm : ∀ b u, H b = some u → ¬ Mut (some u) → b ≠ x := fun b u q nm z => by subst z; rw [q] at mu; exact nm mu
  refine ⟨fun b u q n _ _ => k b u (hb b n) q, fun b u q n _ _ => ⟨u.slots, k b u (hb b n) q⟩, fun b u q n _ => by rw [upd_ne (hx b n)]; exact n, fun b u q _ => ?_,
    fun b xs q => by rw [upd_ne (hm b _ q fun z => z)]; exact q, fun b u xs q => by rw [upd_ne (hm b _ q fun z => z)]; exact q, fun b ps q => ⟨#[], by rw [upd_ne (hm b _ q fun z => z), q]; simp⟩⟩
  by_cases hbe : b = e
  · subst hbe; exact heo
  · exact ⟨u, k b u hbe q⟩
end

/-! ### the heap without what is tracked -/
def trk (h : Heap) (H : Hp) : List Addr := (List.range h.objs.size).filter fun a => (H a).isSome
def hidT (h : Heap) (H : Hp) : Heap := PySem.W.hideAll h (trk h H)
theorem hidT_size (h : Heap) (H : Hp) : (hidT h H).objs.size = h.objs.size := PySem.W.hideAll_size _ _
theorem hidT_get {h : Heap} {H : Hp} {b : Addr} {o : Obj} (e : h.get? b = some o) (n : H b = none) : (hidT h H).get? b = some o :=
  PySem.W.hideAll_get _ e fun hm => by
    have q : (H b).isSome = true := (List.mem_filter.mp hm).2
    rw [n] at q; simp at q
theorem of_hidT {h : Heap} {H : Hp} {b : Addr} {o : Obj} (e : (hidT h H).get? b = some o) : h.get? b = some o ∧ H b = none := by
  have e' : h.get? b = some o := PySem.W.of_hideAll (trk h H) e
  refine ⟨e', ?_⟩
  cases q : H b with
  | none => rfl
  | some x =>
    have hm : b ∈ trk h H := List.mem_filter.mpr ⟨List.mem_range.mpr (Heap.lt_size e'), by simp [q]⟩
    have z : (hidT h H).get? b = none := PySem.W.hideAll_none (trk h H) hm
    rw [z] at e; cases e

/-! ### OpenK's ledger, filled with every new object but one -/
def allNews (g h : Heap) (L : Addr) : List (Addr × Obj) := (List.range h.objs.size).filterMap fun a => if a = L ∨ (g.get? a).isSome = true then none else (h.get? a).map fun o => (a, o)
def rest (g h : Heap) (L d : Addr) : List (Addr × Obj) := (allNews g h L).filter fun p => decide (p.1 ≠ d)
end L2

namespace L2
open PySem PySem.Spec PyProof.Rows

/-- the module's facts, over the base: the heap at the law's entry without what is tracked there -/
structure Mod (K : PySem.W.Frag) (mg : Str → Option Value) (base : Heap) : Prop where
  kin : K.In base
  glob : base.Ns mainGlobals mg
  blt : ∃ mb, base.Ns builtinsNs mb ∧ ∀ x : Str, x ≠ "__name__" → mb x = bootBuiltins x
  nolimit : base.NoLimit

/-- the context: a def's body (or a comprehension's block) running. base: fixed through the whole law; s₀, H₀: the entry; outer: the frames whose slots others may change (a def's callers); stack: all frames that run;
   ex: iterators that were made ahead of the entry and are walked here (a comprehension's); fn: the names whose cells were made at the entry (a def: all; a comprehension's block: its own); calm: not within an except suite; pn: pins that every state bears; xe: what is wanted of an exception that leaves the code -/
structure Cx where
  prog : Program
  w : World
  K : PySem.W.Frag
  mg : Str → Option Value
  base : Heap
  A : Around
  N : List Str
  s₀ : Shared
  H₀ : Hp
  env : Env
  outer : List Env
  stack : List Env
  ex : List Addr
  fn : Str → Bool
  calm : Bool
  pn : List (Addr × Obj)
  xe : Value → Shared → Prop
/-- the callers' frames -/
def frs (l : List Env) : List Addr := l.filterMap (·.frame)
abbrev Cx.fs (X : Cx) : List Addr := frs X.outer

def Vis (sc : Scope) (x : Str) : Prop := sc.names.lookup x = some .local ∨ sc.names.lookup x = some .cell ∨ sc.names.lookup x = some .free
def Loc (sc : Scope) (x : Str) : Prop := sc.names.lookup x = some .local ∨ sc.names.lookup x = some .cell
def Look (env : Env) (h : Heap) (m : Str → Option Value) (x : Str) (u : Value) : Prop :=
  (env.kindOf x = some .local ∧ m x = some u) ∨ ((env.kindOf x = some .cell ∨ env.kindOf x = some .free) ∧ ∃ c, env.cells.lookup x = some c ∧ h.IsCell c (some u))

structure Cx.Ok (X : Cx) : Prop where
  mod : Mod X.K X.mg X.base
  kind : X.env.scope.kind = .function
  glob : X.env.globals = mainGlobals
  blt : X.env.builtins = builtinsNs
  above : X.s₀.heap.objs.size ≤ X.env.locals
  inj : ∀ x y c, X.env.cells.lookup x = some c → X.env.cells.lookup y = some c → x = y
  has : ∀ x, (X.env.kindOf x = some .cell ∨ X.env.kindOf x = some .free) → ∃ c, X.env.cells.lookup x = some c
  cab : ∀ x c, X.fn x = true → X.env.cells.lookup x = some c → X.s₀.heap.objs.size ≤ c
  hd : X.calm = true → X.A.handled = none
  frames : X.A.frames = some X.stack
  stk : X.stack = X.outer ∨ (X.stack = X.env :: X.outer ∧ X.env.frame = some X.env.locals)
  exf : ∀ b ∈ X.ex, b ≠ X.env.locals ∧ ∀ x c, X.env.cells.lookup x = some c → c ≠ b
  bs : ∀ b o, X.base.get? b = some o → X.s₀.heap.get? b = some o ∧ X.H₀ b = none
  bsz : X.base.objs.size ≤ X.s₀.heap.objs.size
  noex : ∀ b o, X.base.get? b = some o → b ∉ X.ex
  exfs : ∀ b ∈ X.ex, b ∉ X.fs
  funs : X.s₀.heap.FunFrames X.base X.outer
  frf : ∀ b ∈ X.fs, X.H₀ b = none

structure Inv (X : Cx) (pins : List (Addr × Obj)) (σ : List (Option V)) (H : Hp) (s : Shared) : Prop where
  ok : X.Ok
  os : s.os = X.s₀.os
  bare : AllBare s.gens
  base : Un X.fs X.ex X.H₀ H X.s₀.heap s.heap
  loc : ∃ m, s.heap.Ns X.env.locals m ∧ ∀ (i : Nat) (x : Str) (v : V), X.N[i]? = some x → σ[i]? = some (some v) → Vis X.env.scope x → ∃ u, RelV v u ∧ Look X.env s.heap m x u
  cell : ∀ x c, X.env.cells.lookup x = some c → ∃ v, s.heap.IsCell c v
  free : H X.env.locals = none
  freeC : ∀ x c, X.env.cells.lookup x = some c → H c = none
  pin : ∀ p ∈ X.pn ++ pins, s.heap.get? p.1 = some p.2 ∧ H p.1 = none ∧ p.1 ≠ X.env.locals ∧ p.1 ∉ X.fs ∧ ∀ v, p.2.data ≠ .cell v
  hok : HOk X.prog X.w H s.heap
  len : σ.length = X.N.length

section
variable {X : Cx} {pins : List (Addr × Obj)} {σ : List (Option V)} {H H' : Hp} {s : Shared} {h' : Heap}

theorem Cx.Ok.nofr (ok : X.Ok) {b : Addr} {o : Obj} (e : X.base.get? b = some o) : b ∉ X.fs := fun hb => by
  have := (ok.funs.mem hb).1
  rw [e] at this; cases this
theorem Inv.bs (I : Inv X pins σ H s) : ∀ b o, X.base.get? b = some o → s.heap.get? b = some o ∧ H b = none := fun b o e =>
  ⟨I.base.keep b o (I.ok.bs b o e).1 (I.ok.bs b o e).2 (I.ok.nofr e) (I.ok.noex b o e), I.base.free b o (I.ok.bs b o e).1 (I.ok.bs b o e).2 (I.ok.noex b o e)⟩
theorem Inv.bk (I : Inv X pins σ H s) : ∀ b o, X.base.get? b = some o → s.heap.get? b = some o := fun b o e => (I.bs b o e).1
theorem Inv.mod (I : Inv X pins σ H s) : Mod X.K X.mg X.base := I.ok.mod
theorem Inv.kIn (I : Inv X pins σ H s) : X.K.In s.heap := I.ok.mod.kin.keeps I.bk
theorem Inv.lt (I : Inv X pins σ H s) : X.env.locals < s.heap.objs.size := let ⟨_, hn, _⟩ := I.loc; hn.lt
theorem Inv.sz (I : Inv X pins σ H s) : X.s₀.heap.objs.size ≤ s.heap.objs.size := Nat.le_trans I.ok.above (Nat.le_of_lt I.lt)
theorem Inv.nofs (I : Inv X pins σ H s) {a : Addr} (h : s.heap.objs.size ≤ a) : a ∉ X.fs := fun hb => by
  obtain ⟨_, o, ho, _⟩ := I.ok.funs.mem hb
  exact absurd (Nat.lt_of_lt_of_le (Heap.lt_size ho) (Nat.le_trans I.sz h)) (Nat.lt_irrefl _)
theorem Inv.cne (I : Inv X pins σ H s) : ∀ x c, X.env.cells.lookup x = some c → c ≠ X.env.locals := fun x c e z => by
  obtain ⟨v, o, ho, hd⟩ := I.cell x c e
  obtain ⟨m, ⟨o', es, ep, ho', hd', _⟩, _⟩ := I.loc
  rw [z, ho'] at ho; cases ho; rw [hd'] at hd; cases hd
theorem Inv.funs (I : Inv X pins σ H s) : s.heap.FunFrames X.base X.outer := by
  have all : ∀ (l : List Env), (∀ b ∈ frs l, b ∈ X.fs) → X.s₀.heap.FunFrames X.base l → s.heap.FunFrames X.base l := by
    intro l
    induction l with
    | nil => intro _ _; trivial
    | cons env r ih =>
      intro hs hl
      obtain ⟨hk, ⟨L, o, hf, hn, ho, hd⟩, hr⟩ := hl
      have hL : L ∈ X.fs := hs L (by unfold frs; rw [List.filterMap_cons, hf]; exact List.mem_cons_self)
      obtain ⟨sl, e⟩ := I.base.slot L o ho (I.ok.frf L hL) hL fun z => I.ok.exfs L z hL
      exact ⟨hk, ⟨L, _, hf, hn, e, hd⟩, ih (fun b hb => hs b (by unfold frs; rw [List.filterMap_cons, hf]; exact List.mem_cons_of_mem _ hb)) hr⟩
  exact all X.outer (fun _ hb => hb) I.ok.funs

/-- the frames that run, for a call -/
theorem Inv.stack (I : Inv X pins σ H s) : s.heap.FunFrames X.base X.stack := by
  rcases I.ok.stk with e | ⟨e, hf⟩
  · rw [e]; exact I.funs
  · rw [e]
    obtain ⟨m, hn, _⟩ := I.loc
    refine .cons (by rw [I.ok.kind]; decide) hf hn ?_ I.funs
    exact Heap.get?_none_of_le (Nat.le_trans I.ok.bsz I.ok.above)
theorem Inv.stkSub (I : Inv X pins σ H s) : ∀ b ∈ frs X.stack, b ∈ X.env.locals :: X.fs := fun b hb => by
  rcases I.ok.stk with e | ⟨e, hf⟩
  · rw [e] at hb; exact List.mem_cons_of_mem _ hb
  · rw [e] at hb
    unfold frs at hb
    rw [List.filterMap_cons, hf] at hb
    exact hb
theorem Inv.stkFree (I : Inv X pins σ H s) : ∀ b ∈ frs X.stack, H b = none := fun b hb => by
  rcases List.mem_cons.mp (I.stkSub b hb) with e | hb
  · rw [e]; exact I.free
  · obtain ⟨_, o, ho, _⟩ := I.ok.funs.mem hb
    exact I.base.free b o ho (I.ok.frf b hb) fun z => I.ok.exfs b z hb

/-- THE STEP: the untracked objects but the frame and the records at ch are kept (the callers' frames up to slots), the frame's map is kept, the new abstract heap is held -/
theorem Inv.step {g' : Array GenState} {t' : Nat} {d' : Drawn} {ch : List Addr} (I : Inv X pins σ H s)
    (hch : ∀ b ∈ ch, (b ∈ X.ex ∨ X.s₀.heap.objs.size ≤ b) ∧ b ≠ X.env.locals ∧ (∀ x c, X.env.cells.lookup x = some c → c ≠ b) ∧ ∀ p ∈ X.pn ++ pins, p.1 ≠ b)
    (keep : ∀ b o, b ≠ X.env.locals → b ∉ X.fs → b ∉ ch → s.heap.get? b = some o → H b = none → h'.get? b = some o)
    (slot : ∀ b o, b ≠ X.env.locals → b ∈ X.fs → b ∉ ch → s.heap.get? b = some o → H b = none → ∃ sl, h'.get? b = some { o with slots := sl }) (free : ∀ b o, b ∉ ch → s.heap.get? b = some o → H b = none → H' b = none)
    (there : ∀ b o, b ∉ ch → s.heap.get? b = some o → ∃ o', h'.get? b = some o')
    (tups : ∀ b xs, H b = some (.tup xs) → H' b = some (.tup xs)) (frzs : ∀ b o u, H b = some (.frz o u) → H' b = some (.frz o u)) (tbls : ∀ b ps, H b = some (.tbl ps) → ∃ more, H' b = some (.tbl (ps ++ more)))
    (ns : ∀ m, s.heap.Ns X.env.locals m → h'.Ns X.env.locals m) (hok : HOk X.prog X.w H' h') (hg : AllBare g') :
    Inv X pins σ H' { s with heap := h', gens := g', drawn := d', toks := t' } := by
  have neL : ∀ b o, X.s₀.heap.get? b = some o → b ≠ X.env.locals := fun b o e => Nat.ne_of_lt (Nat.lt_of_lt_of_le (Heap.lt_size e) I.ok.above)
  have neC : ∀ b o, X.s₀.heap.get? b = some o → b ∉ X.ex → b ∉ ch := fun b o e hx hb => by
    rcases (hch b hb).1 with z | z
    · exact hx z
    · exact absurd (Nat.lt_of_lt_of_le (Heap.lt_size e) z) (Nat.lt_irrefl _)
  have cellK : ∀ x c, X.env.cells.lookup x = some c → ∀ v, s.heap.IsCell c v → h'.IsCell c v := fun x c e v ⟨o, ho, hd⟩ => by
    have nch : c ∉ ch := fun z => (hch c z).2.2.1 x c e rfl
    by_cases hc : c ∈ X.fs
    · obtain ⟨sl, q⟩ := slot c o (I.cne x c e) hc nch ho (I.freeC x c e)
      exact ⟨_, q, hd⟩
    · exact ⟨o, keep c o (I.cne x c e) hc nch ho (I.freeC x c e), hd⟩
  refine ⟨I.ok, I.os, hg, ⟨fun b o e n hb hx => ?_, fun b o e n hb hx => ?_, fun b o e n hx => ?_, fun b o e hx => ?_, fun b xs e => tups b xs (I.base.tups b xs e), fun b o xs e => frzs b o xs (I.base.frzs b o xs e), fun b ps e => ?_⟩, ?_, fun x c e => ?_, ?_, fun x c e => ?_, fun p hp => ?_, hok, I.len⟩
  · exact keep b o (neL b o e) hb (neC b o e hx) (I.base.keep b o e n hb hx) (I.base.free b o e n hx)
  · obtain ⟨sl, e1⟩ := I.base.slot b o e n hb hx
    obtain ⟨sl', e2⟩ := slot b _ (neL b o e) hb (neC b o e hx) e1 (I.base.free b o e n hx)
    exact ⟨sl', e2⟩
  · obtain ⟨o', e1⟩ := I.base.there b o e hx
    exact free b o' (neC b o e hx) e1 (I.base.free b o e n hx)
  · obtain ⟨o', e1⟩ := I.base.there b o e hx
    exact there b o' (neC b o e hx) e1
  · obtain ⟨m1, e1⟩ := I.base.tbls b ps e
    obtain ⟨m2, e2⟩ := tbls b _ e1
    exact ⟨m1 ++ m2, by rw [e2, Array.append_assoc]⟩
  · obtain ⟨m, hn, hl⟩ := I.loc
    refine ⟨m, ns m hn, fun i x v e1 e2 e3 => ?_⟩
    obtain ⟨u, r, l⟩ := hl i x v e1 e2 e3
    refine ⟨u, r, ?_⟩
    rcases l with l | ⟨k, c, e, z⟩
    · exact .inl l
    · exact .inr ⟨k, c, e, cellK x c e _ z⟩
  · obtain ⟨v, z⟩ := I.cell x c e
    exact ⟨v, cellK x c e v z⟩
  · obtain ⟨m, ⟨o, _, _, ho, _⟩, _⟩ := I.loc
    exact free _ o (fun z => (hch _ z).2.1 rfl) ho I.free
  · obtain ⟨v, o, ho, hd⟩ := I.cell x c e
    exact free c o (fun z => (hch c z).2.2.1 x c e rfl) ho (I.freeC x c e)
  · obtain ⟨e, n, ne, nf, d⟩ := I.pin p hp
    have nch : p.1 ∉ ch := fun z => (hch p.1 z).2.2.2 p hp rfl
    exact ⟨keep p.1 p.2 ne nf nch e n, free p.1 p.2 nch e n, ne, nf, d⟩
/-- .. where the frame's own object is kept too -/
theorem Inv.un {t' : Nat} (I : Inv X pins σ H s) (u : Un X.fs [] H H' s.heap h') (hok : HOk X.prog X.w H' h') : Inv X pins σ H' { s with heap := h', toks := t' } := by
  obtain ⟨m, ⟨o, es, ep, ho, r⟩, _⟩ := id I.loc
  obtain ⟨sl, hL⟩ := u.any ho I.free (by simp)
  exact I.step (g' := s.gens) (d' := s.drawn) (ch := []) (fun _ z => nomatch z) (fun b o _ hb _ e n => u.keep b o e n hb (by simp)) (fun b o _ hb _ e n => u.slot b o e n hb (by simp)) (fun b o _ e n => u.free b o e n (by simp)) (fun b o _ e => u.there b o e (by simp)) u.tups u.frzs u.tbls (fun m' hm => by
    obtain ⟨o', es', ep', ho', r'⟩ := hm
    rw [ho] at ho'; cases ho'
    exact ⟨_, es', ep', hL, r'⟩) hok I.bare
/-- behind a call (or a comprehension's block): the slots of this frame may have changed too, the records at ch may have turned -/
theorem Inv.call {g' : Array GenState} {t' : Nat} {d' : Drawn} {ch : List Addr} (I : Inv X pins σ H s) (u : Un (frs X.stack) ch H H' s.heap h') (hok : HOk X.prog X.w H' h') (hg : AllBare g')
    (hch : ∀ b ∈ ch, (b ∈ X.ex ∨ X.s₀.heap.objs.size ≤ b) ∧ b ≠ X.env.locals ∧ (∀ x c, X.env.cells.lookup x = some c → c ≠ b) ∧ ∀ p ∈ X.pn ++ pins, p.1 ≠ b) :
    Inv X pins σ H' { s with heap := h', gens := g', drawn := d', toks := t' } := by
  obtain ⟨m, ⟨o, es, ep, ho, r⟩, _⟩ := id I.loc
  obtain ⟨sl, hL⟩ := u.any ho I.free fun z => (hch _ z).2.1 rfl
  exact I.step (ch := ch) hch (fun b o hL hb hc e n => u.keep b o e n (fun z => (List.mem_cons.mp (I.stkSub b z)).elim hL hb) hc) (fun b o _ _ hc e n => u.any e n hc) (fun b o hc e n => u.free b o e n hc) (fun b o hc e => u.there b o e hc) u.tups u.frzs u.tbls (fun m' hm => by
    obtain ⟨o', es', ep', ho', r'⟩ := hm
    rw [ho] at ho'; cases ho'
    exact ⟨_, es', ep', hL, r'⟩) hok hg
/-- an untracked record of ours (an iterator) has turned -/
theorem Inv.turned {t' : Nat} {it : Addr} (I : Inv X pins σ H s) (k : ∀ b o, b ≠ it → s.heap.get? b = some o → h'.get? b = some o) (hn : H it = none) (hL : it ≠ X.env.locals)
    (h1 : it ∈ X.ex ∨ X.s₀.heap.objs.size ≤ it) (h2 : ∀ x c, X.env.cells.lookup x = some c → c ≠ it) (h3 : ∀ p ∈ X.pn ++ pins, p.1 ≠ it) : Inv X pins σ H { s with heap := h', toks := t' } := by
  have nit : ∀ b u, H b = some u → b ≠ it := fun b u e z => by rw [z, hn] at e; cases e
  refine I.step (g' := s.gens) (d' := s.drawn) (ch := [it]) (fun b hb => ?_) (fun b o _ _ hc e _ => k b o (fun z => hc (by simp [z])) e) (fun b o _ _ hc e _ => ⟨o.slots, k b o (fun z => hc (by simp [z])) e⟩) (fun _ _ _ _ n => n)
    (fun b o hc e => ⟨o, k b o (fun z => hc (by simp [z])) e⟩) (fun _ _ e => e) (fun _ _ _ e => e) (fun b ps e => ⟨#[], by rw [e]; simp⟩) (fun m hm => ?_) (fun b u e => ?_) I.bare
  · have e : b = it := by simpa using hb
    subst e
    exact ⟨h1, hL, h2, h3⟩
  · obtain ⟨o, es, ep, ho, r⟩ := hm
    exact ⟨o, es, ep, k _ o (Ne.symm hL) ho, r⟩
  · refine (I.hok b u e).stay (fun c v hc q => k c v ?_ q) (fun _ q => q) fun _ _ q => q
    rcases hc with z | z
    · rw [z]; exact nit b u e
    · exact nit c _ z
theorem Inv.tok (I : Inv X pins σ H s) (t : Nat) : Inv X pins σ H { s with toks := t } := I.un (h' := s.heap) (t' := t) Un.refl I.hok
/-- all objects kept -/
theorem Inv.kept {t' : Nat} (I : Inv X pins σ H s) (k : ∀ b u, s.heap.get? b = some u → h'.get? b = some u) : Inv X pins σ H { s with heap := h', toks := t' } := I.un (Un.kept k) (I.hok.kept k)
/-- a new object laid and tracked -/
theorem Inv.laid {a : Addr} {o : HO} {t' : Nat} (I : Inv X pins σ H s) (k : ∀ b u, s.heap.get? b = some u → h'.get? b = some u) (hp : s.heap.objs.size ≤ a) (new : ObjOk X.prog X.w (upd H a o) h' a o) :
    Inv X pins σ (upd H a o) { s with heap := h', toks := t' } := I.un (Un.laid k hp (I.hok.fresh hp)) (I.hok.laid k hp new)
/-- an object written -/
theorem Inv.write {x e : Addr} {o : HO} {t' : Nat} (I : Inv X pins σ H s) (mu : Mut (H x)) (he : e = x ∨ H e = some (.own x)) (k : ∀ b u, b ≠ e → s.heap.get? b = some u → h'.get? b = some u) (heo : ∃ u, h'.get? e = some u)
    (new : ObjOk X.prog X.w (upd H x o) h' x o) : Inv X pins σ (upd H x o) { s with heap := h', toks := t' } := I.un (Un.write mu he k heo) (I.hok.write mu he k heo new)
theorem Inv.pins_of {pins' : List (Addr × Obj)} (I : Inv X pins σ H s) (h : ∀ p ∈ pins', s.heap.get? p.1 = some p.2 ∧ H p.1 = none ∧ p.1 ≠ X.env.locals ∧ p.1 ∉ X.fs ∧ ∀ v, p.2.data ≠ .cell v) : Inv X pins' σ H s :=
  ⟨I.ok, I.os, I.bare, I.base, I.loc, I.cell, I.free, I.freeC, fun p hp => (List.mem_append.mp hp).elim (fun z => I.pin p (List.mem_append_left _ z)) (h p), I.hok, I.len⟩

theorem nodup_ix {N : List Str} (hN : N.Nodup) {i j : Nat} {x : Str} (a : N[i]? = some x) (b : N[j]? = some x) : i = j := by
  obtain ⟨h1, e1⟩ := List.getElem?_eq_some_iff.mp a
  obtain ⟨h2, e2⟩ := List.getElem?_eq_some_iff.mp b
  exact (List.getElem_inj hN).mp (e1.trans e2.symm)

/-- a name is stored; what changed -/
theorem store_ok2 {M : Model} {A : Around} {E : Value → Shared → Prop} {i : Nat} {x : Str} {v : V} {u : Value} {Q : Unit → Shared → Prop} (I : Inv X pins σ H s) (hN : X.N.Nodup) (hi : X.N[i]? = some x) (hx : Loc X.env.scope x) (r : RelV v u)
    (h : ∀ s', Inv X pins (σ.set i (some v)) H s' → (∃ a, Heap.SameBut a s.heap s'.heap ∧ (a = X.env.locals ∨ X.env.cells.lookup x = some a)) → Q () s') (hf : X.fn x = true ∨ X.env.scope.names.lookup x = some .local := by first | exact .inl rfl | exact .inr rfl | assumption) : wpAny M A (storeName X.env x u) Q E s := by
  obtain ⟨m, hn, hl⟩ := id I.loc
  have hcls : (X.env.scope.kind == .class || (X.env.scope.kind == .module && X.env.locals != X.env.globals)) = false := by rw [I.ok.kind]; rfl
  have hiσ : i < σ.length := by rw [I.len]; exact (List.getElem?_eq_some_iff.mp hi).1
  have cne := I.cne
  have tracked : ∀ {a : Addr} {h' : Heap}, (∃ o, s.heap.get? a = some o ∧ H a = none) → Heap.SameBut a s.heap h' → HOk X.prog X.w H h' := fun {a h'} ha hs b ob e => by
    obtain ⟨_, _, hfree⟩ := ha
    refine (I.hok b ob e).stay (fun c w' hc q => (hs.2 c ?_).trans q) (fun _ q => q) fun _ _ q => q
    rintro rfl
    rcases hc with rfl | hc
    · rw [hfree] at e; cases e
    · rw [hfree] at hc; cases hc
  rcases hx with hk | hk
  · refine wpAny_storeName_local hk hn (fun h' hn' hs => ?_) hcls
    obtain ⟨oL, _, _, hoL, _⟩ := id hn
    refine h _ ⟨I.ok, I.os, I.bare, ⟨fun b o e n hb hx => ?_, fun b o e n hb hx => ?_, I.base.free, fun b o e hx => ?_, I.base.tups, I.base.frzs, I.base.tbls⟩, ⟨_, hn', fun j y v' e1 e2 e3 => ?_⟩, fun y c e => ?_, I.free, I.freeC, fun p hp => ?_, tracked ⟨oL, hoL, I.free⟩ hs, by simpa using I.len⟩ ⟨_, hs, .inl rfl⟩
    · exact (hs.2 b (Nat.ne_of_lt (Nat.lt_of_lt_of_le (Heap.lt_size e) I.ok.above))).trans (I.base.keep b o e n hb hx)
    · obtain ⟨sl, e1⟩ := I.base.slot b o e n hb hx
      exact ⟨sl, (hs.2 b (Nat.ne_of_lt (Nat.lt_of_lt_of_le (Heap.lt_size e) I.ok.above))).trans e1⟩
    · obtain ⟨o', e1⟩ := I.base.there b o e hx
      exact ⟨o', (hs.2 b (Nat.ne_of_lt (Nat.lt_of_lt_of_le (Heap.lt_size e) I.ok.above))).trans e1⟩
    · by_cases hj : j = i
      · subst hj
        rw [hi] at e1; cases e1
        rw [List.getElem?_set_self hiσ] at e2
        cases e2
        exact ⟨u, r, .inl ⟨hk, by simp⟩⟩
      · rw [List.getElem?_set_ne (Ne.symm hj)] at e2
        obtain ⟨u', r', q⟩ := hl j y v' e1 e2 e3
        refine ⟨u', r', ?_⟩
        rcases q with ⟨k, e⟩ | ⟨k, c, e, z⟩
        · refine .inl ⟨k, ?_⟩
          have : y ≠ x := fun e => hj (nodup_ix hN e1 (e ▸ hi))
          simp [this, e]
        · exact .inr ⟨k, c, e, z.sameBut hs (cne y c e)⟩
    · obtain ⟨w', z⟩ := I.cell y c e
      exact ⟨w', z.sameBut hs (cne y c e)⟩
    · obtain ⟨e, n, ne, nf, d⟩ := I.pin p hp
      exact ⟨(hs.2 p.1 ne).trans e, n, ne, nf, d⟩
  · have hfn : X.fn x = true := by
      rcases hf with z | z
      · exact z
      · rw [z] at hk; cases hk
    obtain ⟨c, hc⟩ := I.ok.has x (.inl hk)
    obtain ⟨w', z⟩ := I.cell x c hc
    refine wpAny_storeName_cell I.ok.kind hk hc z (fun h' hc' hs => ?_)
    obtain ⟨oc, hoc, hocd⟩ := id z
    refine h { s with heap := h' } ⟨I.ok, I.os, I.bare, ⟨fun b o e n hb hx => ?_, fun b o e n hb hx => ?_, I.base.free, fun b o e hx => ?_, I.base.tups, I.base.frzs, I.base.tbls⟩, ⟨m, hn.sameBut hs (Ne.symm (cne x c hc)), fun j y v' e1 e2 e3 => ?_⟩, fun y c' e => ?_, I.free, I.freeC, fun p hp => ?_, tracked ⟨oc, hoc, I.freeC x c hc⟩ hs, by simpa using I.len⟩ ⟨c, hs, .inr hc⟩
    · exact (hs.2 b (Nat.ne_of_lt (Nat.lt_of_lt_of_le (Heap.lt_size e) (I.ok.cab x c hfn hc)))).trans (I.base.keep b o e n hb hx)
    · obtain ⟨sl, e1⟩ := I.base.slot b o e n hb hx
      exact ⟨sl, (hs.2 b (Nat.ne_of_lt (Nat.lt_of_lt_of_le (Heap.lt_size e) (I.ok.cab x c hfn hc)))).trans e1⟩
    · obtain ⟨o', e1⟩ := I.base.there b o e hx
      exact ⟨o', (hs.2 b (Nat.ne_of_lt (Nat.lt_of_lt_of_le (Heap.lt_size e) (I.ok.cab x c hfn hc)))).trans e1⟩
    · by_cases hj : j = i
      · subst hj
        rw [hi] at e1; cases e1
        rw [List.getElem?_set_self hiσ] at e2
        cases e2
        exact ⟨u, r, .inr ⟨.inl hk, c, hc, hc'⟩⟩
      · rw [List.getElem?_set_ne (Ne.symm hj)] at e2
        obtain ⟨u', r', q⟩ := hl j y v' e1 e2 e3
        refine ⟨u', r', ?_⟩
        rcases q with q | ⟨k, c', e, z'⟩
        · exact .inl q
        · refine .inr ⟨k, c', e, z'.sameBut hs ?_⟩
          rintro rfl
          exact hj (nodup_ix hN e1 (I.ok.inj _ _ _ e hc ▸ hi))
    · by_cases hcc : c' = c
      · subst hcc; exact ⟨_, hc'⟩
      · obtain ⟨w2, z2⟩ := I.cell y c' e
        exact ⟨w2, z2.sameBut hs hcc⟩
    · obtain ⟨e, n, ne, nf, d⟩ := I.pin p hp
      refine ⟨(hs.2 p.1 ?_).trans e, n, ne, nf, d⟩
      intro q
      rw [q, hoc] at e
      have q' : oc = p.2 := Option.some.inj e
      exact d w' (by rw [← q']; exact hocd)
theorem store_ok {M : Model} {A : Around} {E : Value → Shared → Prop} {i : Nat} {x : Str} {v : V} {u : Value} {Q : Unit → Shared → Prop} (I : Inv X pins σ H s) (hN : X.N.Nodup) (hi : X.N[i]? = some x) (hx : Loc X.env.scope x) (r : RelV v u)
    (h : ∀ s', Inv X pins (σ.set i (some v)) H s' → Q () s') (hf : X.fn x = true ∨ X.env.scope.names.lookup x = some .local := by first | exact .inl rfl | exact .inr rfl | assumption) : wpAny M A (storeName X.env x u) Q E s :=
  store_ok2 I hN hi hx r (fun s' I' _ => h s' I') hf
/-- behind a call or a block, the state as it is -/
theorem Inv.call' {s' : Shared} {ch : List Addr} (I : Inv X pins σ H s) (ho : s'.os = s.os) (u : Un (frs X.stack) ch H H' s.heap s'.heap) (hok : HOk X.prog X.w H' s'.heap) (hg : AllBare s'.gens)
    (hch : ∀ b ∈ ch, (b ∈ X.ex ∨ X.s₀.heap.objs.size ≤ b) ∧ b ≠ X.env.locals ∧ (∀ x c, X.env.cells.lookup x = some c → c ≠ b) ∧ ∀ p ∈ X.pn ++ pins, p.1 ≠ b) : Inv X pins σ H' s' := by
  obtain ⟨h', g', d', t', o'⟩ := s'
  have e : o' = s.os := ho
  subst e
  exact I.call (g' := g') (t' := t') (d' := d') u hok hg hch
end

/-! ### the judgements -/
/-- an exception: its class, its own dict's address (where it has one), the abstract heap behind it -/
abbrev XK := Value → Option Addr → Hp → Prop
abbrev St := List (Option V)
abbrev VK := V → Hp → Prop
/-- an expression's reading; a test's; an argument list's -/
abbrev TE := St → Hp → VK → Prop
abbrev TT := St → Hp → (Bool → Hp → Prop) → Prop
abbrev TA := St → Hp → (List V → Hp → Prop) → Prop
/-- what is wanted behind a statement -/
structure Ends where
  nx : St → Hp → Prop
  rt : VK
  bk : St → Hp → Prop := fun _ _ => False
  ct : St → Hp → Prop := fun _ _ => False
abbrev TS := Ends → St → Hp → Prop

def EP (X : Cx) (pins : List (Addr × Obj)) (σ : St) (Q : VK) (u : Value) (s' : Shared) : Prop := ∃ v H', Inv X pins σ H' s' ∧ RelV v u ∧ Q v H'
def TP (X : Cx) (pins : List (Addr × Obj)) (σ : St) (Q : Bool → Hp → Prop) (b : Bool) (s' : Shared) : Prop := ∃ H', Inv X pins σ H' s' ∧ Q b H'
def AP (X : Cx) (pins : List (Addr × Obj)) (σ : St) (Q : List V → Hp → Prop) (us : List Value) (s' : Shared) : Prop := ∃ vs H', Inv X pins σ H' s' ∧ Vals vs us ∧ Q vs H'
def SP (X : Cx) (pins : List (Addr × Obj)) (D : Ends) (f : Flow) (s' : Shared) : Prop :=
  match f with
  | .next => ∃ σ' H', Inv X pins σ' H' s' ∧ D.nx σ' H'
  | .brk => ∃ σ' H', Inv X pins σ' H' s' ∧ D.bk σ' H'
  | .cont => ∃ σ' H', Inv X pins σ' H' s' ∧ D.ct σ' H'
  | .ret u => ∃ v σ' H', Inv X pins σ' H' s' ∧ RelV v u ∧ D.rt v H'

def PE (X : Cx) (e : Expr) (t : TE) : Prop :=
  ∀ (pins : List (Addr × Obj)) (s : Shared) (σ : St) (H : Hp) (Q : VK), Inv X pins σ H s → t σ H Q → wpAny (model X.prog X.w) X.A (eval e X.env) (EP X pins σ Q) X.xe s
def PT (X : Cx) (e : Expr) (t : TT) : Prop :=
  ∀ (pins : List (Addr × Obj)) (s : Shared) (σ : St) (H : Hp) (Q : Bool → Hp → Prop), Inv X pins σ H s → t σ H Q → wpAny (model X.prog X.w) X.A (isTrue e X.env (eval e X.env)) (TP X pins σ Q) X.xe s
/-- a test whatever its 'whole' is (and, or) -/
def PW (X : Cx) (e : Expr) (t : TT) : Prop :=
  ∀ (whole : Sem Value) (pins : List (Addr × Obj)) (s : Shared) (σ : St) (H : Hp) (Q : Bool → Hp → Prop), Inv X pins σ H s → t σ H Q → wpAny (model X.prog X.w) X.A (isTrue e X.env whole) (TP X pins σ Q) X.xe s
theorem PW.pt {X : Cx} {e : Expr} {t : TT} (h : PW X e t) : PT X e t := h _
/-- an argument list (no star), from the left -/
def PA (X : Cx) (es : List Expr) (t : TA) : Prop :=
  ∀ (pos : Pos) (pins : List (Addr × Obj)) (s : Shared) (σ : St) (H : Hp) (Q : List V → Hp → Prop), Inv X pins σ H s → t σ H Q → wpAny (model X.prog X.w) X.A (spliced (backTo pos (starEach es X.env))) (AP X pins σ Q) X.xe s
def PS (X : Cx) (st : Stmt) (t : TS) : Prop :=
  ∀ (pins : List (Addr × Obj)) (s : Shared) (σ : St) (H : Hp) (D : Ends), Inv X pins σ H s → t D σ H → wpAny (model X.prog X.w) X.A (exec st X.env) (SP X pins D) X.xe s
def PSs (X : Cx) (st : List Stmt) (t : TS) : Prop :=
  ∀ (pins : List (Addr × Obj)) (s : Shared) (σ : St) (H : Hp) (D : Ends), Inv X pins σ H s → t D σ H → wpAny (model X.prog X.w) X.A (execs st X.env) (SP X pins D) X.xe s
/-- weaken the end -/
theorem thn {α : Type} {t : Sem α} {Q Q' : α → Shared → Prop} {M : Model} {A : Around} {E : Value → Shared → Prop} {s : Shared} (h : wpAny M A t Q E s) (hQ : ∀ a s, Q a s → Q' a s) : wpAny M A t Q' E s := wpAny_mono h hQ fun _ _ x => x
end L2

namespace L2
open PySem PySem.Spec PyProof.Rows
section
variable {X : Cx}

/-! ### names and constants -/
def tVar (i : Nat) : TE := fun σ H Q => ∃ v, σ[i]? = some (some v) ∧ Q v H
def tC (v : V) : TE := fun _ H Q => Q v H
theorem pe_var {i : Nat} {x : Str} {pos : Pos} (hN : X.N[i]? = some x) (hv : Vis X.env.scope x) (hd : (x == ("__debug__" : Str)) = false := by decide) (hcd : (x == ("__classdict__" : Str)) = false := by decide) : PE X (.Name x pos) (tVar i) := by
  intro pins s σ H Q I h
  obtain ⟨v, e, h⟩ := h
  obtain ⟨m, hn, hl⟩ := I.loc
  obtain ⟨u, r, l⟩ := hl i x v hN e hv
  have fin : EP X pins σ Q u s := ⟨v, H, I, r, h⟩
  rcases l with ⟨hk, hm⟩ | ⟨hk, c, hc, hcell⟩
  · exact wpAny_Name (wpAny_loadName_local I.ok.kind hk hn hm fin) hd
  · rcases hk with hk | hk
    · exact wpAny_Name (wpAny_loadName_cell I.ok.kind hk hc hcell fin) hd
    · exact wpAny_Name (wpAny_loadName_free I.ok.kind hk hc hcell fin hcd) hd
theorem pe_int {i j pos} : PE X (.Constant (.int i) j pos) (tC (.int i)) := fun _ _ _ H _ I h => wpAny_Constant_int ⟨.int i, H, I.tok _, ⟨_, rfl⟩, h⟩
theorem pe_bl {b j pos} : PE X (.Constant (.bool b) j pos) (tC (.bl b)) := fun _ _ _ H _ I h => Constant_bool ⟨.bl b, H, I, rfl, h⟩
theorem pe_non {j pos} : PE X (.Constant .none j pos) (tC .non) := fun _ _ _ H _ I h => Constant_none ⟨.non, H, I, rfl, h⟩
theorem pe_str {x j pos} : PE X (.Constant (.str x) j pos) (tC (.str x)) := fun _ _ _ H _ I h => Calls.Constant_str ⟨.str x, H, I.tok _, ⟨_, rfl⟩, h⟩

/-- a global name of the def -/
def Gl (X : Cx) (x : Str) : Prop := X.env.kindOf x = some .globalImplicit
theorem ld_glob {E : Value → Shared → Prop} {pins : List (Addr × Obj)} {s : Shared} {σ : St} {H : Hp} {x : Str} {u : Value} {pos : Pos} {Q : Value → Shared → Prop} (I : Inv X pins σ H s) (hg : Gl X x) (hm : X.mg x = some u) (h : Q u s)
    (hd : (x == ("__debug__" : Str)) = false := by decide) : wpAny (model X.prog X.w) X.A (eval (.Name x pos) X.env) Q E s :=
  Calls.Name_function_global I.ok.kind hg (Calls.loadGlobal_global (by rw [I.ok.glob]; exact I.mod.glob.keeps I.bk) hm h) hd
theorem ld_blt {E : Value → Shared → Prop} {pins : List (Addr × Obj)} {s : Shared} {σ : St} {H : Hp} {x : Str} {u : Value} {pos : Pos} {Q : Value → Shared → Prop} (I : Inv X pins σ H s) (hg : Gl X x) (hm : X.mg x = none) (hv : bootBuiltins x = some u) (h : Q u s)
    (hn : x ≠ "__name__" := by decide) (hd : (x == ("__debug__" : Str)) = false := by decide) : wpAny (model X.prog X.w) X.A (eval (.Name x pos) X.env) Q E s := by
  obtain ⟨mb, h1, h2⟩ := I.mod.blt
  exact Calls.Name_function_global I.ok.kind hg (Calls.loadGlobal_builtin (by rw [I.ok.glob]; exact I.mod.glob.keeps I.bk) hm (by rw [I.ok.blt]; exact h1.keeps I.bk) ((h2 x hn).trans hv) h) hd
/-- a module's constant, a class, a function, as a value -/
theorem pe_glob {x : Str} {v : V} {u : Value} {pos : Pos} (hg : Gl X x) (hm : X.mg x = some u) (r : RelV v u) (hd : (x == ("__debug__" : Str)) = false := by decide) : PE X (.Name x pos) (tC v) :=
  fun _ _ _ H _ I h => ld_glob I hg hm ⟨v, H, I, r, h⟩ hd
theorem pe_bltn {x : Str} {v : V} {u : Value} {pos : Pos} (hg : Gl X x) (hm : X.mg x = none) (hv : bootBuiltins x = some u) (r : RelV v u) (hn : x ≠ "__name__" := by decide) (hd : (x == ("__debug__" : Str)) = false := by decide) : PE X (.Name x pos) (tC v) :=
  fun _ _ _ H _ I h => ld_blt I hg hm hv ⟨v, H, I, r, h⟩ hn hd

/-! ### arithmetic -/
variable {a b : Expr} {ta tb : TE} {pos : Pos}
/-! ### comparisons -/
def PC (X : Cx) (op : CmpOp) (a b : Expr) (t : TE) : Prop :=
  ∀ (pins : List (Addr × Obj)) (s : Shared) (σ : St) (H : Hp) (Q : VK), Inv X pins σ H s → t σ H Q →
    wpAny (model X.prog X.w) X.A (eval a X.env) (fun v s₁ => wpAny (model X.prog X.w) X.A (eval b X.env) (fun u s₂ => wpAny (model X.prog X.w) X.A (compareOp op v u) (EP X pins σ Q) X.xe s₂) X.xe s₁) X.xe s
/-- a comparison as a value, as a test -/
def tB (t : TE) : TT := fun σ H Q => t σ H fun x H1 => ∃ c, x = .bl c ∧ Q c H1
/-- an expression whose value is a bool, as a test -/
theorem pt_val {e : Expr} {t : TE} (h : PE X e t) (he : ∀ whole, isTrue e X.env whole = (do let v ← whole; standAt e.pos; holding [v] (truthy v)) := by intro _; rfl) : PT X e (tB t) := by
  intro pins s σ H Q I hw
  refine isTrue_plain (thn (h pins s σ H _ I hw) fun v s1 ⟨x, H1, I1, r1, q1⟩ => ?_) (he _)
  obtain ⟨d, rfl, q⟩ := q1
  cases r1
  exact wpAny_truthy_bool ⟨H1, I1, q⟩

/-! ### and, or, not -/
variable {tA tB' : TT} {rest : List Expr}
def tAnd (t u : TT) : TT := fun σ H Q => t σ H fun c H1 => if c = true then u σ H1 Q else Q false H1
def tOr (t u : TT) : TT := fun σ H Q => t σ H fun c H1 => if c = true then Q true H1 else u σ H1 Q
def tNot (t : TT) : TT := fun σ H Q => t σ H fun c H1 => Q (!c) H1
theorem pw_and1 (ha : PT X a tA) : PW X (.BoolOp .And [a] pos) tA := by
  intro wh pins s σ H Q I h
  refine isTrue_and (thn (ha pins s σ H Q I h) fun c s1 e => ?_)
  cases c with
  | true => exact isTrue_and_nil e
  | false => exact e
theorem pw_or1 (ha : PT X a tA) : PW X (.BoolOp .Or [a] pos) tA := by
  intro wh pins s σ H Q I h
  refine isTrue_or (thn (ha pins s σ H Q I h) fun c s1 e => ?_)
  cases c with
  | false => exact isTrue_or_nil e
  | true => exact e
theorem pw_and (ha : PT X a tA) (hb : PW X (.BoolOp .And (b :: rest) pos) tB') : PW X (.BoolOp .And (a :: b :: rest) pos) (tAnd tA tB') := by
  intro wh pins s σ H Q I h
  refine isTrue_and (thn (ha pins s σ H _ I h) fun c s1 ⟨H1, I1, q1⟩ => ?_)
  cases c with
  | true => exact hb wh pins s1 σ H1 Q I1 q1
  | false => exact ⟨H1, I1, q1⟩
theorem pw_or (ha : PT X a tA) (hb : PW X (.BoolOp .Or (b :: rest) pos) tB') : PW X (.BoolOp .Or (a :: b :: rest) pos) (tOr tA tB') := by
  intro wh pins s σ H Q I h
  refine isTrue_or (thn (ha pins s σ H _ I h) fun c s1 ⟨H1, I1, q1⟩ => ?_)
  cases c with
  | true => exact ⟨H1, I1, q1⟩
  | false => exact hb wh pins s1 σ H1 Q I1 q1
theorem pt_not (ha : PT X a tA) : PT X (.UnaryOp .Not a pos) (tNot tA) := by
  intro pins s σ H Q I h
  exact isTrue_not (ha pins s σ H (fun c H1 => Q (!c) H1) I h)
/-- .. as values (bools) -/
def tAndV (ta tb : TE) : TE := fun σ H Q => ta σ H fun x H1 => ∃ c, x = .bl c ∧ if c = true then tb σ H1 Q else Q (.bl false) H1
def tOrV (ta tb : TE) : TE := fun σ H Q => ta σ H fun x H1 => ∃ c, x = .bl c ∧ if c = true then Q (.bl true) H1 else tb σ H1 Q
theorem pe_one {op} {t : TE} (h : PE X a t) : PE X (.BoolOp op [a] pos) t := fun pins s σ H Q I hw => BoolOp_one (h pins s σ H Q I hw)
theorem pe_and (ha : PE X a ta) (hb : PE X (.BoolOp .And (b :: rest) pos) tb) : PE X (.BoolOp .And (a :: b :: rest) pos) (tAndV ta tb) := by
  intro pins s σ H Q I h
  refine BoolOp_and (thn (ha pins s σ H _ I h) fun v s1 ⟨x, H1, I1, r1, q1⟩ => ?_)
  obtain ⟨c, rfl, q1⟩ := q1
  cases r1
  refine wpAny_truthy_bool ?_
  cases c with
  | true => exact hb pins s1 σ H1 Q I1 q1
  | false => exact ⟨.bl false, H1, I1, rfl, q1⟩
theorem pe_or (ha : PE X a ta) (hb : PE X (.BoolOp .Or (b :: rest) pos) tb) : PE X (.BoolOp .Or (a :: b :: rest) pos) (tOrV ta tb) := by
  intro pins s σ H Q I h
  refine BoolOp_or (thn (ha pins s σ H _ I h) fun v s1 ⟨x, H1, I1, r1, q1⟩ => ?_)
  obtain ⟨c, rfl, q1⟩ := q1
  cases r1
  refine wpAny_truthy_bool ?_
  cases c with
  | false => exact hb pins s1 σ H1 Q I1 q1
  | true => exact ⟨.bl true, H1, I1, rfl, q1⟩
/-- a if t else b -/
def tIf (t : TT) (ta tb : TE) : TE := fun σ H Q => t σ H fun c H1 => if c = true then ta σ H1 Q else tb σ H1 Q
theorem pe_ifExp {c : Expr} (hc : PT X c tA) (ha : PE X a ta) (hb : PE X b tb) : PE X (.IfExp c a b pos) (tIf tA ta tb) := by
  intro pins s σ H Q I h
  refine wpAny_IfExp (thn (hc pins s σ H _ I h) fun d s1 ⟨H1, I1, q1⟩ => ?_)
  cases d with
  | true => exact ha pins s1 σ H1 Q I1 q1
  | false => exact hb pins s1 σ H1 Q I1 q1
end
end L2

namespace L2
open PySem PySem.Spec PyProof.Rows

/-! ### a list, a tuple that is read: tracked, frozen, or an object of the module -/
def SqL (K : PySem.W.Frag) (H : Hp) (a : Addr) (xs : List V) : Prop :=
  Rd H a (.lst xs) ∨
    ∃ (o : Obj) (its : Array Value) (n : Nat), K.lookup a = some o ∧ o.cls = .type "list" ∧ o.dict = none ∧ o.data = .seq its n ∧ its.size ≤ sizeLine ∧ Vals xs its.toList
def SqT (K : PySem.W.Frag) (H : Hp) (a : Addr) (xs : List V) : Prop :=
  Rd H a (.tup xs) ∨
    ∃ (o : Obj) (its : Array Value) (n : Nat), K.lookup a = some o ∧ o.cls = .type "tuple" ∧ o.data = .seq its n ∧ its.size ≤ sizeLine ∧ Vals xs its.toList
def absV : Value → Option V
  | .none => some .non
  | .bool b => some (.bl b)
  | .int i _ => some (.int i)
  | .str x _ => some (.str x)
  | .bytes b _ => some (.byt b)
  | .float b _ => some (.flt b)
  | .ref a => some (.ref a)
  | .type n => some (.ty n)
  | _ => none
theorem RelV.abs {x : V} {u : Value} (r : RelV x u) : absV u = some x := by
  cases x with
  | non => cases r; rfl
  | bl _ => cases r; rfl
  | int _ => obtain ⟨t, rfl⟩ := r; rfl
  | str _ => obtain ⟨t, rfl⟩ := r; rfl
  | byt _ => obtain ⟨t, rfl⟩ := r; rfl
  | flt _ => obtain ⟨t, rfl⟩ := r; rfl
  | ref _ => cases r; rfl
  | ty _ => cases r; rfl
theorem RelV.inj {x y : V} {u : Value} (r : RelV x u) (q : RelV y u) : x = y := Option.some.inj (r.abs.symm.trans q.abs)
theorem Vals.inj : ∀ {xs ys : List V} {us : List Value}, Vals xs us → Vals ys us → xs = ys
  | _, _, _, .nil, .nil => rfl
  | _, _, _, .cons r t, .cons r' t' => by rw [r.inj r', Vals.inj t t']
section
variable {X : Cx} {pins : List (Addr × Obj)} {σ : St} {H : Hp} {s : Shared} {a : Addr} {xs ys : List V}
theorem SqL.of {K : PySem.W.Frag} (h : H a = some (.lst xs)) : SqL K H a xs := .inl (.inl h)
theorem SqT.of {K : PySem.W.Frag} (h : H a = some (.tup xs)) : SqT K H a xs := .inl (.inl h)
theorem Inv.list (I : Inv X pins σ H s) (h : SqL X.K H a xs) : ∃ its : List Value, Vals xs its ∧ PlainL s.heap a its.toArray ∧ xs.length ≤ sizeLine := by
  rcases h with h | ⟨o, its, n, hk, hc, hd, hs, hz, r⟩
  · obtain ⟨z, its, n, r, e⟩ := h.ok I.hok
    exact ⟨its, r, ⟨_, n, e, rfl, rfl, rfl⟩, z⟩
  · refine ⟨its.toList, r, ⟨o, n, I.kIn a o hk, hc, hd, by simpa using hs⟩, ?_⟩
    have e := r.length
    simp only [Array.length_toList] at e
    omega
theorem Inv.tuple (I : Inv X pins σ H s) (h : SqT X.K H a xs) : ∃ its : List Value, Vals xs its ∧ IsTup s.heap a its.toArray ∧ xs.length ≤ sizeLine := by
  rcases h with h | ⟨o, its, n, hk, hc, hs, hz, r⟩
  · obtain ⟨z, its, r, p⟩ := h.ok I.hok
    exact ⟨its, r, p, z⟩
  · refine ⟨its.toList, r, ⟨o, I.kIn a o hk, hc, n, by simpa using hs⟩, ?_⟩
    have e := r.length
    simp only [Array.length_toList] at e
    omega
theorem Inv.list_inj (I : Inv X pins σ H s) (h : SqL X.K H a xs) (h' : SqL X.K H a ys) : xs = ys := by
  obtain ⟨its, r, ⟨o, n, e, _, _, d⟩, _⟩ := I.list h
  obtain ⟨its', r', ⟨o', n', e', _, _, d'⟩, _⟩ := I.list h'
  rw [e] at e'; cases e'
  rw [d] at d'
  injection d' with d1 _
  have : its = its' := by simpa using congrArg Array.toList d1
  subst this
  exact r.inj r'
theorem Inv.tuple_inj (I : Inv X pins σ H s) (h : SqT X.K H a xs) (h' : SqT X.K H a ys) : xs = ys := by
  obtain ⟨its, r, ⟨o, e, _, n, d⟩, _⟩ := I.tuple h
  obtain ⟨its', r', ⟨o', e', _, n', d'⟩, _⟩ := I.tuple h'
  rw [e] at e'; cases e'
  rw [d] at d'
  injection d' with d1 _
  have : its = its' := by simpa using congrArg Array.toList d1
  subst this
  exact r.inj r'
end

/-! ### another wish about exceptions -/
abbrev Cx.wish (X : Cx) (E : Value → Shared → Prop) : Cx := { X with xe := E }
/-- no exception leaves -/
abbrev Cx.nox (X : Cx) : Cx := X.wish fun _ _ => False
theorem Cx.Ok.wish {X : Cx} (ok : X.Ok) (E : Value → Shared → Prop) : (X.wish E).Ok :=
  ⟨ok.mod, ok.kind, ok.glob, ok.blt, ok.above, ok.inj, ok.has, ok.cab, ok.hd, ok.frames, ok.stk, ok.exf, ok.bs, ok.bsz, ok.noex, ok.exfs, ok.funs, ok.frf⟩
theorem Cx.Ok.unwish {X : Cx} {E : Value → Shared → Prop} (ok : (X.wish E).Ok) : X.Ok :=
  ⟨ok.mod, ok.kind, ok.glob, ok.blt, ok.above, ok.inj, ok.has, ok.cab, ok.hd, ok.frames, ok.stk, ok.exf, ok.bs, ok.bsz, ok.noex, ok.exfs, ok.funs, ok.frf⟩
section
variable {X : Cx} {pins : List (Addr × Obj)} {σ : St} {H : Hp} {s : Shared} {E : Value → Shared → Prop}
theorem Inv.wish (I : Inv X pins σ H s) (E : Value → Shared → Prop) : Inv (X.wish E) pins σ H s := ⟨I.ok.wish E, I.os, I.bare, I.base, I.loc, I.cell, I.free, I.freeC, I.pin, I.hok, I.len⟩
theorem Inv.unwish (I : Inv (X.wish E) pins σ H s) : Inv X pins σ H s := ⟨I.ok.unwish, I.os, I.bare, I.base, I.loc, I.cell, I.free, I.freeC, I.pin, I.hok, I.len⟩
theorem SP.unwish {D : Ends} {f : Flow} {s' : Shared} (h : SP (X.wish E) pins D f s') : SP X pins D f s' := by
  cases f with
  | next => obtain ⟨σ', H', I, q⟩ := h; exact ⟨σ', H', I.unwish, q⟩
  | brk => obtain ⟨σ', H', I, q⟩ := h; exact ⟨σ', H', I.unwish, q⟩
  | cont => obtain ⟨σ', H', I, q⟩ := h; exact ⟨σ', H', I.unwish, q⟩
  | ret u => obtain ⟨v, σ', H', I, r, q⟩ := h; exact ⟨v, σ', H', I.unwish, r, q⟩
theorem PSs.nox {st : List Stmt} {t : TS} (h : PSs X.nox st t) : PSs X st t := fun pins s σ H D I hw =>
  wpAny_mono (h pins s σ H D (I.wish _) hw) (fun _ _ q => q.unwish) fun _ _ z => False.elim z
end

/-! ### blocks and small statements -/
section
variable {X : Cx} {st : Stmt} {rest : List Stmt} {t u : TS} {e : Expr} {te : TE} {pos : Pos}
def tNext : TS := fun D σ H => D.nx σ H
def tSeq (t u : TS) : TS := fun D σ H => t { D with nx := u D } σ H
theorem pss_nil : PSs X [] tNext := fun _ _ σ H _ I h => wpAny_execs_nil ⟨σ, H, I, h⟩
theorem pss_cons (h1 : PS X st t) (h2 : PSs X rest u) : PSs X (st :: rest) (tSeq t u) := by
  intro pins s σ H D I h
  refine wpAny_execs_cons (thn (h1 pins s σ H { D with nx := u D } I h) fun f s1 q => ?_)
  cases f with
  | next =>
    obtain ⟨σ', H', I', q⟩ := q
    exact h2 pins s1 σ' H' D I' q
  | ret v => exact q
  | brk => exact q
  | cont => exact q
theorem pss_one (h1 : PS X st t) : PSs X [st] t := by
  intro pins s σ H D I h
  refine wpAny_execs_cons (thn (h1 pins s σ H D I h) fun f s1 q => ?_)
  cases f with
  | next => exact wpAny_execs_nil q
  | ret v => exact q
  | brk => exact q
  | cont => exact q
/-- in a def's body nothing is shown -/
theorem Inv.quiet {pins : List (Addr × Obj)} {σ : St} {H : Hp} {s : Shared} (I : Inv X pins σ H s) : interactive X.env = false := by simp [interactive, I.ok.kind]
/-- an expression whose value is dropped -/
def tDrop (te : TE) : TS := fun D σ H => te σ H fun _ H1 => D.nx σ H1
theorem ps_expr (he : PE X e te) (hs : swapsWith e none pos.line X.env = pure false := by rfl) : PS X (.Expr e pos) (tDrop te) := by
  intro pins s σ H D I h
  exact wpAny_Expr_any (thn (he pins s σ H _ I h) fun v s1 ⟨x, H1, I1, r1, q1⟩ => ⟨σ, H1, I1, q1⟩) I.quiet hs
def tRet (te : TE) : TS := fun D σ H => te σ H D.rt
theorem ps_ret (he : PE X e te) : PS X (.Return (some e) pos) (tRet te) := by
  intro pins s σ H D I h
  exact wpAny_Return_some (thn (he pins s σ H _ I h) fun v s1 ⟨x, H1, I1, r1, q1⟩ => ⟨x, σ, H1, I1, r1, q1⟩)
def tIfS (c : TT) (t u : TS) : TS := fun D σ H => c σ H fun b H1 => if b = true then t D σ H1 else u D σ H1
theorem ps_if {c : Expr} {a b : List Stmt} {tc : TT} (hc : PT X c tc) (ha : PSs X a t) (hb : PSs X b u) : PS X (.If c a b pos) (tIfS tc t u) := by
  intro pins s σ H D I h
  refine wpAny_If (thn (hc pins s σ H _ I h) fun d s1 ⟨H1, I1, q1⟩ => ?_)
  cases d with
  | true => exact ha pins s1 σ H1 D I1 q1
  | false => exact hb pins s1 σ H1 D I1 q1
/-- code that the proof never comes to -/
def tNever : TS := fun _ _ _ => False
theorem pss_never {sts : List Stmt} : PSs X sts tNever := fun _ _ _ _ _ _ h => h.elim
end

/-! ### targets -/
abbrev TG := V → St → Hp → (St → Hp → Prop) → Prop
abbrev TGs := List V → St → Hp → (St → Hp → Prop) → Prop
def PG (X : Cx) (target : Expr) (t : TG) : Prop :=
  ∀ (pins : List (Addr × Obj)) (s : Shared) (σ : St) (H : Hp) (v : V) (u : Value) (Q : St → Hp → Prop), Inv X pins σ H s → RelV v u → t v σ H Q →
    wpAny (model X.prog X.w) X.A (assign target X.env u) (fun _ s' => ∃ σ' H', Inv X pins σ' H' s' ∧ Q σ' H') X.xe s
/-- several targets, one after another -/
def PGs (X : Cx) (ts : List Expr) (t : TGs) : Prop :=
  ∀ (pins : List (Addr × Obj)) (s : Shared) (σ : St) (H : Hp) (vs : List V) (us : List Value) (Q : St → Hp → Prop), Inv X pins σ H s → Vals vs us → t vs σ H Q →
    wpAny (model X.prog X.w) X.A (assignInOrder ((assignEach ts X.env).map (·.2)) us) (fun _ s' => ∃ σ' H', Inv X pins σ' H' s' ∧ Q σ' H') X.xe s
/-- o[i] = v, by values -/
abbrev TSet := V → V → V → Hp → (Hp → Prop) → Prop
def PSet (X : Cx) (t : TSet) : Prop :=
  ∀ (pins : List (Addr × Obj)) (s : Shared) (σ : St) (H : Hp) (o i v : V) (ov iv u : Value) (Q : Hp → Prop), Inv X pins σ H s → RelV o ov → RelV i iv → RelV v u → t o i v H Q →
    wpAny (model X.prog X.w) X.A (setItem ov iv u) (fun _ s' => ∃ H', Inv X pins σ H' s' ∧ Q H') X.xe s
section
variable {X : Cx} {pos : Pos}
def gName (i : Nat) : TG := fun v σ H Q => Q (σ.set i (some v)) H
theorem pg_name {i : Nat} {x : Str} (hN : X.N.Nodup) (hi : X.N[i]? = some x) (hx : Loc X.env.scope x) (hf : X.fn x = true ∨ X.env.scope.names.lookup x = some .local := by first | exact .inl rfl | exact .inr rfl | assumption) : PG X (.Name x pos) (gName i) := by
  intro pins s σ H v u Q I r h
  exact wpAny_assign_Name (store_ok I hN hi hx r (fun s' I' => ⟨_, H, I', h⟩) hf)
def gNil : TGs := fun vs σ H Q => vs = [] ∧ Q σ H
def gCons (t : TG) (u : TGs) : TGs := fun vs σ H Q => ∃ v r, vs = v :: r ∧ t v σ H fun σ' H' => u r σ' H' Q
theorem pgs_nil : PGs X [] gNil := by
  intro pins s σ H vs us Q I r h
  obtain ⟨e, h⟩ := h
  subst e
  cases r
  exact assignInOrder_nil ⟨σ, H, I, h⟩
theorem pgs_cons {e : Expr} {es : List Expr} {t : TG} {u : TGs} (h1 : PG X e t) (h2 : PGs X es u)
    (hs : (assignEach (e :: es) X.env).map (·.2) = assign e X.env :: (assignEach es X.env).map (·.2) := by rfl) : PGs X (e :: es) (gCons t u) := by
  intro pins s σ H vs us Q I r h
  obtain ⟨v, vr, e1, h⟩ := h
  subst e1
  cases r with
  | cons r rr =>
    rw [hs]
    refine assignInOrder_cons (thn (h1 pins s σ H _ _ _ I r h) fun _ s1 ⟨σ1, H1, I1, q1⟩ => ?_)
    exact h2 pins s1 σ1 H1 _ _ Q I1 rr q1
/-- (a, b, ..) = a tuple of that length -/
def gTup (K : PySem.W.Frag) (n : Nat) (t : TGs) : TG := fun v σ H Q => ∃ a xs, v = .ref a ∧ SqT K H a xs ∧ xs.length = n ∧ t xs σ H Q
theorem pg_tup {es : List Expr} {k : Nat} {t : TGs} {n : Nat} (hc : X.calm = true) (h : PGs X es t)
    (hn : (assignEach es X.env).length = n := by rfl) (hst : (assignEach es X.env).findIdx? (·.1) = none := by rfl) : PG X (.Tuple es k pos) (gTup X.K n t) := by
  intro pins s σ H v u Q I r hw
  obtain ⟨a, xs, e1, hq, hl, hw⟩ := hw
  subst e1
  cases r
  obtain ⟨its, rv, ht, hz⟩ := I.tuple hq
  refine assign_Tuple_tuple (I.ok.hd hc) ht (by simp [hn, ← hl, rv.length]) hst fun h' hx => ?_
  have I1 : Inv X pins σ H { s with heap := h' } := I.kept (t' := s.toks) fun b o e => hx b o (Nat.ne_of_lt (Heap.lt_size e)) e
  exact h pins _ σ H xs _ Q I1 (by simpa using rv) hw
/-- o[i] = .. -/
def gSub (to ti : TE) (t : TSet) : TG := fun v σ H Q => to σ H fun o H1 => ti σ H1 fun i H2 => t o i v H2 fun H3 => Q σ H3
theorem pg_sub {o i : Expr} {to ti : TE} {t : TSet} (ho : PE X o to) (hi : PE X i ti) (hs : PSet X t)
    (ha : ∀ v, assign (.Subscript o i pos) X.env v = (do
      let ov ← holding [v] (eval o X.env)
      let iv ← holding [v, ov] (eval i X.env)
      standAt pos
      holding [v, ov, iv] (setItem ov iv v)
      release [v, ov, iv] []) := by intro _; rfl) : PG X (.Subscript o i pos) (gSub to ti t) := by
  intro pins s σ H v u Q I r h
  rw [ha]
  refine wpAny_bind (wpAny_holding (thn (ho pins s σ H _ I h) fun ov s1 ⟨x, H1, I1, r1, q1⟩ => ?_))
  refine wpAny_bind (wpAny_holding (thn (hi pins s1 σ H1 _ I1 q1) fun iv s2 ⟨y, H2, I2, r2, q2⟩ => ?_))
  refine wpAny_bind (wpAny_standAt (wpAny_bind (wpAny_holding (thn (hs pins s2 σ H2 x y v ov iv u _ I2 r1 r2 r q2) fun _ s3 ⟨H3, I3, q3⟩ => ?_))))
  exact wpAny_release ⟨σ, H3, I3, q3⟩
/-- target = value -/
def tAsg (te : TE) (g : TG) : TS := fun D σ H => te σ H fun x H1 => g x σ H1 D.nx
theorem ps_asg {tg e : Expr} {te : TE} {g : TG} (he : PE X e te) (hg : PG X tg g) (hs : swapsWithSole [tg] e pos.line X.env = pure false := by rfl) (hw : swappedStores [tg] e X.env = pure none := by rfl)
    (h1 : (assignEach [tg] X.env).map (·.2) = [assign tg X.env] := by rfl) : PS X (.Assign [tg] e pos) (tAsg te g) := by
  intro pins s σ H D I h
  refine wpAny_Assign_stores (thn (he pins s σ H _ I h) fun v s1 ⟨x, H1, I1, r1, q1⟩ => ?_) hs hw
  rw [h1]
  exact thn (hg pins s1 σ H1 x v _ I1 r1 q1) fun _ s2 q => q
/-- name = value -/
theorem ps_set {i : Nat} {x : Str} {e : Expr} {te : TE} {pos' : Pos} (hN : X.N.Nodup) (hi : X.N[i]? = some x) (hx : Loc X.env.scope x) (he : PE X e te) (hs : swapsWith e (some (.Name x pos')) pos.line X.env = pure false := by rfl) (hf : X.fn x = true ∨ X.env.scope.names.lookup x = some .local := by first | exact .inl rfl | exact .inr rfl | assumption) :
    PS X (.Assign [.Name x pos'] e pos) (tAsg te (gName i)) := by
  intro pins s σ H D I h
  refine wpAny_Assign_Name (thn (he pins s σ H _ I h) fun v s1 ⟨y, H1, I1, r1, q1⟩ => ?_) hs
  exact store_ok I1 hN hi hx r1 (fun s2 I2 => ⟨_, H1, I2, q1⟩) hf
end

/-! ### while -/
section
variable {X : Cx} {pos : Pos}
end

/-! ### what a loop or a comprehension walks -/
/-- at turn i: it yields x (the heap may grow), or it stops -/
structure It where
  go : Nat → Hp → Prop
  yld : Nat → Hp → V → Hp → Prop
  stop : Nat → Hp → Prop
/-- the iterator's own objects may turn: they are not the frame's, not pinned, younger than the entry (or a comprehension's own) -/
def FpOk (X : Cx) (pins : List (Addr × Obj)) (H : Hp) (b : Addr) : Prop :=
  H b = none ∧ b ≠ X.env.locals ∧ b ∉ X.fs ∧ (b ∈ X.ex ∨ X.s₀.heap.objs.size ≤ b) ∧ (∀ x c, X.env.cells.lookup x = some c → c ≠ b) ∧ ∀ p ∈ X.pn ++ pins, p.1 ≠ b
theorem Inv.fpOk {X : Cx} {pins : List (Addr × Obj)} {σ : St} {H H' : Hp} {s : Shared} {b : Addr} (I : Inv X pins σ H s) (hb : s.heap.objs.size ≤ b) (hn : H' b = none) : FpOk X pins H' b := by
  refine ⟨hn, Nat.ne_of_gt (Nat.lt_of_lt_of_le I.lt hb), I.nofs hb, .inr (Nat.le_trans I.sz hb), fun x c e z => ?_, fun p hp z => ?_⟩
  · obtain ⟨v, q⟩ := I.cell x c e
    exact absurd (Nat.lt_of_lt_of_le q.lt (by rw [z]; exact hb)) (Nat.lt_irrefl _)
  · exact absurd (Nat.lt_of_lt_of_le (Heap.lt_size (I.pin p hp).1) (by rw [z]; exact hb)) (Nat.lt_irrefl _)
structure Turn (P : Program) (w : World) (K : PySem.W.Frag) (tg : Expr) (J : It) (fp : List Addr) (it : Addr) (tn : Nat → Heap → Prop) : Prop where
  mem : it ∈ fp
  obj : ∀ i h, tn i h → ∀ b ∈ fp, ∃ o, h.get? b = some o ∧ ∀ v, o.data ≠ .cell v
  keep : ∀ i h h', tn i h → (∀ b ∈ fp, ∀ o, h.get? b = some o → h'.get? b = some o) → tn i h'
  item : ∀ (X : Cx), X.prog = P → X.w = w → X.K = K → X.calm = true → ∀ (i : Nat) (pins : List (Addr × Obj)) (s : Shared) (σ : St) (H : Hp) (E : Value → Shared → Prop), Inv X pins σ H s → (∀ b ∈ fp, FpOk X pins H b) → tn i s.heap → J.go i H →
    wpAny (model P w) X.A (pyNext (.ref it)) (fun r s1 => ∃ u, r = some u ∧
      wpAny (model P w) X.A (letOwnedTupleGo tg (.ref it) u) (fun _ s2 => ∃ x H', Inv X pins σ H' s2 ∧ RelV x u ∧ J.yld i H x H' ∧ tn (i + 1) s2.heap ∧ ∀ b ∈ fp, H' b = none) E s1) E s
  done : ∀ (X : Cx), X.prog = P → X.w = w → X.K = K → X.calm = true → ∀ (i : Nat) (pins : List (Addr × Obj)) (s : Shared) (σ : St) (H : Hp) (E : Value → Shared → Prop), Inv X pins σ H s → (∀ b ∈ fp, FpOk X pins H b) → tn i s.heap → J.stop i H →
    wpAny (model P w) X.A (pyNext (.ref it)) (fun r s1 => r = none ∧ Inv X pins σ H s1) E s
  self : ∀ (A : Around) (i : Nat) (s : Shared) (Q : Value → Shared → Prop) (E : Value → Shared → Prop), tn i s.heap → Q (.ref it) s → wpAny (model P w) A (pyIter (.ref it)) Q E s
abbrev TI := St → Hp → (It → Hp → Prop) → Prop
/-- an iterator has come -/
def PIE (X : Cx) (pins : List (Addr × Obj)) (σ : St) (tg : Expr) (R : It → Hp → Prop) (itv : Value) (s2 : Shared) : Prop :=
  ∃ (it : Addr) (fp : List Addr) (tn : Nat → Heap → Prop) (J : It) (H' : Hp), itv = .ref it ∧ Inv X pins σ H' s2 ∧ Turn X.prog X.w X.K tg J fp it tn ∧ tn 0 s2.heap ∧ (∀ b ∈ fp, FpOk X pins H' b) ∧ R J H'
def PI (X : Cx) (tg iter : Expr) (wi : TI) : Prop :=
  ∀ (pins : List (Addr × Obj)) (s : Shared) (σ : St) (H : Hp) (R : It → Hp → Prop), Inv X pins σ H s → wi σ H R →
    wpAny (model X.prog X.w) X.A (eval iter X.env) (fun v s1 => wpAny (model X.prog X.w) X.A (pyIter v) (PIE X pins σ tg R) X.xe s1) X.xe s

/-- the step ahead of the store is nothing for an iterator that keeps no tuple -/
theorem go_of {M : Model} {A : Around} {E : Value → Shared → Prop} {s : Shared} {tg : Expr} {it : Addr} {u : Value} {o : Obj} {n : String} {vs : Array Value} {Q : Unit → Shared → Prop} (ho : s.heap.get? it = some o) (hc : o.cls = .type n) (hd : o.data = .fields vs)
    (hn : ["enumerate", "zip", "dict_itemiterator", "dict_reverseitemiterator", "odict_iterator", "itertools.zip_longest", "itertools.pairwise"].contains n = false) (hQ : Q () s) : wpAny M A (letOwnedTupleGo tg (.ref it) u) Q E s := by
  unfold letOwnedTupleGo
  cases tg <;> first
    | exact wpAny_pure hQ
    | (cases u <;> first
        | exact wpAny_pure hQ
        | (refine wpAny_bind (wpAny_load ho ?_)
           rw [hc, hd]
           show wpAny M A (if (["enumerate", "zip", "dict_itemiterator", "dict_reverseitemiterator", "odict_iterator", "itertools.zip_longest", "itertools.pairwise"].contains n && vs[0]? == some (rawInt _)) = true then _ else _) Q E s
           rw [if_neg (by intro h; rw [hn, Bool.false_and] at h; cases h)]
           exact wpAny_pure hQ))

/-- the list at a, as it stands at each turn (a loop may append to it) -/
def Itl (K : PySem.W.Frag) (a : Addr) : It :=
  ⟨fun i H => ∃ xs x, SqL K H a xs ∧ xs[i]? = some x, fun i H x H' => H' = H ∧ ∀ xs, SqL K H a xs → xs[i]? = some x, fun i H => ∃ xs, SqL K H a xs ∧ xs.length ≤ i⟩
/-- lo, lo + 1, .. (n of them) -/
def Itr (lo : Int) (n : Nat) : It := ⟨fun i _ => i < n, fun i H x H' => H' = H ∧ x = .int (lo + i), fun i _ => n ≤ i⟩
theorem turn_list {P : Program} {w : World} {K : PySem.W.Frag} {tg : Expr} (a it : Addr) : Turn P w K tg (Itl K a) [it] it (fun i h => h.IsListIter it a i) where
  mem := by simp
  obj := fun i h st b hb => by
    have e : b = it := by simpa using hb
    subst e
    obtain ⟨o, e, c, d⟩ := st
    exact ⟨o, e, fun v z => by rw [d] at z; cases z⟩
  keep := fun i h h' st k => st.at fun o e => k it (by simp) o e
  item := by
    intro X hP hw hK hc i pins s σ H E I hf st hg
    subst hP hw hK
    obtain ⟨xs, x, hq, hx⟩ := hg
    obtain ⟨its, rv, p, hz⟩ := I.list hq
    obtain ⟨u, hu, ru⟩ := rv.get hx
    obtain ⟨f0, f1, f2, f3, f4, f5⟩ := hf it (by simp)
    refine wpAny_pyNext_list_item st p.isList (x := u) (by simpa using hu) fun h' st' sb => ?_
    have I1 : Inv X pins σ H { s with heap := h' } := I.turned (t' := s.toks) (fun b o hb e => (sb.2 b hb).trans e) f0 f1 f3 f4 f5
    obtain ⟨o, e, c, d⟩ := id st'
    exact ⟨u, rfl, go_of (s := { s with heap := h' }) e c d (by decide) ⟨x, H, I1, ru, ⟨rfl, fun ys hy => by rw [I.list_inj hy hq]; exact hx⟩, st', fun b hb => (hf b hb).1⟩⟩
  done := by
    intro X hP hw hK hc i pins s σ H E I hf st hg
    subst hP hw hK
    obtain ⟨xs, hq, hx⟩ := hg
    obtain ⟨its, rv, p, hz⟩ := I.list hq
    obtain ⟨f0, f1, f2, f3, f4, f5⟩ := hf it (by simp)
    have hl := rv.length
    exact wpAny_pyNext_list_end (I.ok.hd hc) st p.isList (by simp; omega) fun h' eb => ⟨rfl, I.turned (t' := s.toks) (fun b o hb e => eb b o hb e) f0 f1 f3 f4 f5⟩
  self := fun _ _ _ _ _ st h => wpAny_pyIter_listiter st h
theorem turn_range {P : Program} {w : World} {K : PySem.W.Frag} {tg : Expr} (it : Addr) (lo : Int) (n : Nat) : Turn P w K tg (Itr lo n) [it] it (fun i h => IsRangeIter h it (lo + (i : Nat) * 1) ((n : Int) - (i : Nat)) 1) where
  mem := by simp
  obj := fun i h st b hb => by
    have e : b = it := by simpa using hb
    subst e
    exact ⟨_, st, fun v z => by
      have z' : Data.fields _ = Data.cell v := z
      cases z'⟩
  keep := fun i h h' st k => k it (by simp) _ st
  item := by
    intro X hP hw hK hc i pins s σ H E I hf st hg
    subst hP hw hK
    obtain ⟨f0, f1, f2, f3, f4, f5⟩ := hf it (by simp)
    have W := Walks.range (prog := X.prog) (w := X.w) (I.ok.hd hc) it lo 1 n
    refine W.item i s _ _ hg st fun v h' tk hv st' kk => ?_
    obtain ⟨t, rfl⟩ := hv
    have I1 : Inv X pins σ H { s with heap := h', toks := tk } := I.turned (fun b o hb e => kk b o (by simpa using hb) e) f0 f1 f3 f4 f5
    refine ⟨_, rfl, go_of (s := { s with heap := h', toks := tk }) (n := "range_iterator") st' rfl rfl (by decide) ⟨.int (lo + i), H, I1, ⟨t, ?_⟩, ⟨rfl, rfl⟩, st', fun b hb => (hf b hb).1⟩⟩
    rw [Int.mul_one]
  done := by
    intro X hP hw hK hc i pins s σ H E I hf st hg
    subst hP hw hK
    obtain ⟨f0, f1, f2, f3, f4, f5⟩ := hf it (by simp)
    exact wpAny_pyNext_range_end (I.ok.hd hc) st (by have : n ≤ i := hg; omega) fun h' eb => ⟨rfl, I.turned (t' := s.toks) (fun b o hb e => eb b o hb e) f0 f1 f3 f4 f5⟩
  self := fun _ _ _ _ _ st h => wpAny_pyIter_rangeiter st h
end L2

namespace L2
open PySem PySem.Spec PyProof.Rows
section
variable {X : Cx} {tg : Expr}
def iList (K : PySem.W.Frag) (tl : TE) : TI := fun σ H R => tl σ H fun x H1 => ∃ a, x = .ref a ∧ (∃ xs, SqL K H1 a xs) ∧ R (Itl K a) H1
theorem pi_list {l : Expr} {tl : TE} (hl : PE X l tl) : PI X tg l (iList X.K tl) := by
  intro pins s σ H R I h
  refine thn (hl pins s σ H _ I h) fun v s1 ⟨x, H1, I1, r1, q1⟩ => ?_
  obtain ⟨a, e, ⟨xs, hq⟩, q⟩ := q1
  subst e
  cases r1
  obtain ⟨its, rv, p, hz⟩ := I1.list hq
  refine wpAny_pyIter_list p.isList ?_
  refine ⟨s1.heap.objs.size, [s1.heap.objs.size], _, _, H1, rfl, I1.kept (t' := s1.toks) fun b o e => Heap.get?_push_of_some _ e, turn_list a _, ⟨_, Heap.get?_push_size _ rfl, rfl, rfl⟩, fun b hb => ?_, q⟩
  have e : b = s1.heap.objs.size := by simpa using hb
  subst e
  exact I1.fpOk (Nat.le_refl _) (I1.hok.fresh (Nat.le_refl _))
/-- a range object just made, walked -/
theorem range_it {pins : List (Addr × Obj)} {σ : St} {H : Hp} {s : Shared} {R : It → Hp → Prop} {E : Value → Shared → Prop} {lo hi : Int} {t u v : Tok} {tk : Nat} (I : Inv X pins σ H s) (h1 : -(2 ^ 62) ≤ lo) (h2 : lo < 2 ^ 62) (h3 : -(2 ^ 62) ≤ hi) (h4 : hi < 2 ^ 62)
    (q : R (Itr lo (hi - lo).toNat) H) : wpAny (model X.prog X.w) X.A (pyIter (.ref s.heap.objs.size)) (PIE X pins σ tg R) E { s with heap := s.heap.push { cls := .type "range", data := .fields #[.int lo t, .int hi u, .int 1 v] }, toks := tk } := by
  refine wpAny_pyIter_range (IsRange.new ..) (small_one h1 h2 h3 h4) ?_
  have I1 : Inv X pins σ H { s with heap := s.heap.push { cls := .type "range", data := .fields #[.int lo t, .int hi u, .int 1 v] }, toks := tk } := I.kept fun b o e => Heap.get?_push_of_some _ e
  refine ⟨(s.heap.push { cls := .type "range", data := .fields #[.int lo t, .int hi u, .int 1 v] }).objs.size, [(s.heap.push { cls := .type "range", data := .fields #[.int lo t, .int hi u, .int 1 v] }).objs.size], _, _, H, rfl,
    I1.kept (t' := tk) fun b o e => Heap.get?_push_of_some _ e, turn_range _ lo (hi - lo).toNat, ?_, fun b hb => ?_, q⟩
  · have e1 : lo + ((0 : Nat) : Int) * 1 = lo := by simp
    have e2 : (((hi - lo).toNat : Nat) : Int) - ((0 : Nat) : Int) = Builtin.Range.rangeSize lo hi 1 := by rw [rangeSize_one]; split <;> omega
    show IsRangeIter _ _ (lo + ((0 : Nat) : Int) * 1) ((((hi - lo).toNat : Nat) : Int) - ((0 : Nat) : Int)) 1
    rw [e1, e2]
    exact Heap.get?_push_size _ rfl
  · have e : b = (s.heap.push { cls := .type "range", data := .fields #[.int lo t, .int hi u, .int 1 v] }).objs.size := by simpa using hb
    subst e
    exact I1.fpOk (Nat.le_refl _) (I1.hok.fresh (Nat.le_refl _))
def iRng1 (ta : TA) : TI := fun σ H R => ta σ H fun vs H1 => ∃ j : Int, vs = [.int j] ∧ -(2 ^ 62) ≤ j ∧ j < 2 ^ 62 ∧ R (Itr 0 j.toNat) H1
def iRng2 (ta : TA) : TI := fun σ H R => ta σ H fun vs H1 => ∃ i j : Int, vs = [.int i, .int j] ∧ (-(2 ^ 62) ≤ i ∧ i < 2 ^ 62 ∧ -(2 ^ 62) ≤ j ∧ j < 2 ^ 62) ∧ R (Itr i (j - i).toNat) H1
theorem pi_range1 {a : Expr} {ta : TA} {p pos : Pos} (hg : Gl X "range") (hm : X.mg "range" = none) (ha : PA X [a] ta) (hs : starEach [a] X.env = [(false, eval a X.env)] := by rfl) : PI X tg (.Call (.Name "range" p) [a] [] pos) (iRng1 ta) := by
  intro pins s σ H R I h
  refine Call_ (ld_blt I hg hm boot_range (PyProof.Rows.callWith_type1 (thn (ha pos pins s σ H _ I h) fun us s1 ⟨vs, H1, I1, r1, q1⟩ => ?_) hs rfl))
  obtain ⟨j, e, q1, q2, q⟩ := q1
  subst e
  cases r1 with
  | cons r rr =>
    cases rr
    obtain ⟨t, rfl⟩ := r
    exact call_range_1 (range_it I1 (by omega) (by omega) q1 q2 (by simpa using q))
theorem pi_range2 {a b : Expr} {ta : TA} {p pos : Pos} (hg : Gl X "range") (hm : X.mg "range" = none) (ha : PA X [a, b] ta) (hs : starEach [a, b] X.env = [(false, eval a X.env), (false, eval b X.env)] := by rfl) (hs2 : starEach [b] X.env = [(false, eval b X.env)] := by rfl) :
    PI X tg (.Call (.Name "range" p) [a, b] [] pos) (iRng2 ta) := by
  intro pins s σ H R I h
  refine Call_ (ld_blt I hg hm boot_range (PyProof.Rows.callWith_type1 (thn (ha pos pins s σ H _ I h) fun us s1 ⟨vs, H1, I1, r1, q1⟩ => ?_) (by rw [hs, hs2]) (by rw [hs2]; rfl)))
  obtain ⟨i, j, e, ⟨q1, q2, q3, q4⟩, q⟩ := q1
  subst e
  cases r1 with
  | cons r rr =>
    cases rr with
    | cons r' rr =>
      cases rr
      obtain ⟨t, rfl⟩ := r
      obtain ⟨t', rfl⟩ := r'
      exact call_range_2 (range_it I1 q1 q2 q3 q4 q)

/-! ### for -/
/-- W: the invariant by the turn and a measure; N: what the body is to reach -/
def tFor (wi : TI) (g : TG) (tb : TS) : TS := fun D σ H => wi σ H fun J H1 => ∃ W : Nat → Nat → St → Hp → Prop, (∃ m, W 0 m σ H1) ∧ ∀ i m σ H, W i m σ H →
  (J.stop i H ∧ D.nx σ H) ∨ (J.go i H ∧ ∃ N : St → Hp → Prop, (∀ σ' H', N σ' H' → ∃ m', m' < m ∧ W (i + 1) m' σ' H') ∧ ∀ x H', J.yld i H x H' → g x σ H' fun σ2 H2 => tb { D with nx := N, ct := N, bk := D.nx } σ2 H2)
/-- the records at fp as they stand -/
def pinsAt (fp : List Addr) (h : Heap) : List (Addr × Obj) := fp.filterMap fun b => (h.get? b).map fun o => (b, o)
theorem mem_pinsAt {fp : List Addr} {h : Heap} {b : Addr} {o : Obj} (hb : b ∈ fp) (e : h.get? b = some o) : (b, o) ∈ pinsAt fp h := List.mem_filterMap.mpr ⟨b, hb, by rw [e]; rfl⟩
theorem of_pinsAt {fp : List Addr} {h : Heap} {p : Addr × Obj} (hp : p ∈ pinsAt fp h) : p.1 ∈ fp ∧ h.get? p.1 = some p.2 := by
  obtain ⟨b, hb, e⟩ := List.mem_filterMap.mp hp
  cases q : h.get? b with
  | none => rw [q] at e; cases e
  | some o =>
    rw [q] at e
    have e' : (b, o) = p := Option.some.inj e
    subst e'
    exact ⟨hb, q⟩
theorem Inv.pinned {pins : List (Addr × Obj)} {σ : St} {H : Hp} {s : Shared} {fp : List Addr} (I : Inv X pins σ H s) (hf : ∀ b ∈ fp, FpOk X pins H b) (ho : ∀ b ∈ fp, ∃ o, s.heap.get? b = some o ∧ ∀ v, o.data ≠ .cell v) : Inv X (pins ++ pinsAt fp s.heap) σ H s :=
  I.pins_of fun p hp => (List.mem_append.mp hp).elim (fun z => I.pin p (List.mem_append_right _ z)) fun z => by
    obtain ⟨hb, e⟩ := of_pinsAt z
    obtain ⟨f0, f1, f2, _⟩ := hf p.1 hb
    obtain ⟨o, e', d⟩ := ho p.1 hb
    rw [e] at e'; cases e'
    exact ⟨e, f0, f1, f2, d⟩
theorem Inv.unpinned {pins pl : List (Addr × Obj)} {σ : St} {H : Hp} {s : Shared} (I : Inv X (pins ++ pl) σ H s) : Inv X pins σ H s := I.pins_of fun p hp => I.pin p (List.mem_append_right _ (List.mem_append_left _ hp))
theorem ps_for {iter : Expr} {body : List Stmt} {wi : TI} {g : TG} {tb : TS} {pos : Pos} (hp : PassesOwn (model X.prog X.w) X.A X.env X.xe) (hc : X.calm = true) (hi : PI X tg iter wi) (hg : PG X tg g) (hb : PSs X body tb)
    (hs : ∀ x, foldedSetIterable iter X.env x = pure x := by intro _; rfl) : PS X (.For tg iter body [] pos) (tFor wi g tb) := by
  intro pins s σ H D I h
  refine wpAny_For (thn (hi pins s σ H _ I h) fun v s1 h1 => thn h1 fun itv s2 h2 => ?_) hs
  obtain ⟨it, fp, tn, J, H2, e, I2, T, st2, f2, W, ⟨m0, w0⟩, turn⟩ := h2
  subst e
  -- what stays true of the iterator's objects through the loop
  have stat : ∀ {H' : Hp}, (∀ b ∈ fp, H' b = none) → ∀ b ∈ fp, FpOk X pins H' b := fun hn b hb => ⟨hn b hb, (f2 b hb).2⟩
  refine codeAny_forLoop_any (fun n s' => ∃ i σ' H', Inv X pins σ' H' s' ∧ tn i s'.heap ∧ (∀ b ∈ fp, H' b = none) ∧ W i n σ' H') ?_ m0 ⟨0, σ, H2, I2, st2, fun b hb => (f2 b hb).1, w0⟩
  rintro n s3 ⟨i, σ3, H3, I3, st3, fr3, w3⟩
  rcases turn i n σ3 H3 w3 with ⟨stop, qn⟩ | ⟨go, N, hN, step⟩
  · refine wpAny_passesOwn hp (thn (T.done X rfl rfl rfl hc i pins s3 σ3 H3 X.xe I3 (stat fr3) st3 stop) fun r s4 ⟨hr, I4⟩ => ?_)
    subst hr
    exact wpAny_execs_nil ⟨σ3, H3, I4, qn⟩
  · refine wpAny_passesOwn hp (thn (T.item X rfl rfl rfl hc i pins s3 σ3 H3 X.xe I3 (stat fr3) st3 go) fun r s4 ⟨u, hr, h4⟩ => ?_)
    subst hr
    refine wpAny_passesOwn hp (thn h4 fun _ s5 ⟨x, H5, I5, r5, y5, st5, fr5⟩ => ?_)
    have I5' := I5.pinned (stat fr5) (T.obj _ _ st5)
    refine wpAny_passesOwn hp (thn (hg _ s5 σ3 H5 x u _ I5' r5 (step x H5 y5)) fun _ s6 ⟨σ6, H6, I6, q6⟩ => ?_)
    refine wpAny_passesOwn hp (thn (hb _ s6 σ6 H6 _ I6 q6) fun f s7 q7 => ?_)
    have again : ∀ {σ7 : St} {H7 : Hp}, Inv X (pins ++ pinsAt fp s5.heap) σ7 H7 s7 → N σ7 H7 → ∃ m, m < n ∧ ∃ i σ' H', Inv X pins σ' H' s7 ∧ tn i s7.heap ∧ (∀ b ∈ fp, H' b = none) ∧ W i m σ' H' := fun {σ7 H7} I7 n7 => by
      obtain ⟨m', hm, w7⟩ := hN σ7 H7 n7
      refine ⟨m', hm, i + 1, σ7, H7, I7.unpinned, T.keep _ _ _ st5 fun b hb o e => (I7.pin (b, o) (List.mem_append_right _ (List.mem_append_right _ (mem_pinsAt hb e)))).1, fun b hb => ?_, w7⟩
      obtain ⟨o, e, d⟩ := T.obj _ _ st5 b hb
      exact (I7.pin (b, o) (List.mem_append_right _ (List.mem_append_right _ (mem_pinsAt hb e)))).2.1
    cases f with
    | next => obtain ⟨σ7, H7, I7, n7⟩ := q7; exact again I7 n7
    | cont => obtain ⟨σ7, H7, I7, n7⟩ := q7; exact again I7 n7
    | brk => obtain ⟨σ7, H7, I7, q7⟩ := q7; exact ⟨σ7, H7, I7.unpinned, q7⟩
    | ret v => obtain ⟨x7, σ7, H7, I7, r7, q7⟩ := q7; exact ⟨x7, σ7, H7, I7.unpinned, r7, q7⟩
end

/-! ### the forms one uses -/
theorem for_range {lo : Int} {n : Nat} {g : TG} {tb : TS} {D : Ends} {σ : St} {H : Hp} (Pv : Nat → St → Hp → Prop) (h0 : Pv 0 σ H)
    (hs : ∀ i σ H, i < n → Pv i σ H → g (.int (lo + i)) σ H fun σ2 H2 => tb { D with nx := Pv (i + 1), ct := Pv (i + 1), bk := D.nx } σ2 H2) (hd : ∀ σ H, Pv n σ H → D.nx σ H) :
    ∃ W : Nat → Nat → St → Hp → Prop, (∃ m, W 0 m σ H) ∧ ∀ i m σ H, W i m σ H →
      ((Itr lo n).stop i H ∧ D.nx σ H) ∨ ((Itr lo n).go i H ∧ ∃ N : St → Hp → Prop, (∀ σ' H', N σ' H' → ∃ m', m' < m ∧ W (i + 1) m' σ' H') ∧ ∀ x H', (Itr lo n).yld i H x H' → g x σ H' fun σ2 H2 => tb { D with nx := N, ct := N, bk := D.nx } σ2 H2) := by
  refine ⟨fun i m σ H => m = n - i ∧ i ≤ n ∧ Pv i σ H, ⟨n, by simp, Nat.zero_le _, h0⟩, ?_⟩
  rintro i m σ H ⟨rfl, hi, p⟩
  by_cases hlt : i < n
  · refine .inr ⟨hlt, Pv (i + 1), fun σ' H' p' => ⟨n - (i + 1), by omega, rfl, hlt, p'⟩, fun x H' y => ?_⟩
    obtain ⟨e, y⟩ := y
    subst e y
    exact hs i σ _ hlt p
  · have e : i = n := by omega
    subst e
    exact .inl ⟨Nat.le_refl _, hd σ H p⟩
end L2

namespace L2
open PySem PySem.Spec PyProof.Rows

abbrev R2 := V → V → Hp → VK → Prop
/-- a two-place operation on values: f is binaryOp op, inplaceOp op or compareOp op -/
def OpR (X : Cx) (f : Value → Value → Sem Value) (r : R2) : Prop :=
  ∀ (pins : List (Addr × Obj)) (s : Shared) (σ : St) (H : Hp) (x y : V) (v u : Value) (Q : VK), Inv X pins σ H s → RelV x v → RelV y u → r x y H Q →
    wpAny (model X.prog X.w) X.A (f v u) (EP X pins σ Q) X.xe s
/-- a one-place operation -/
def UnR (X : Cx) (f : Value → Sem Value) (r : V → Hp → VK → Prop) : Prop :=
  ∀ (pins : List (Addr × Obj)) (s : Shared) (σ : St) (H : Hp) (x : V) (v : Value) (Q : VK), Inv X pins σ H s → RelV x v → r x H Q →
    wpAny (model X.prog X.w) X.A (f v) (EP X pins σ Q) X.xe s
/-- a call of a value that is known (a builtin, a type) with values -/
def CallR (X : Cx) (f : Value) (r : List V → Hp → VK → Prop) : Prop :=
  ∀ (pins : List (Addr × Obj)) (s : Shared) (σ : St) (H : Hp) (xs : List V) (us : List Value) (Q : VK), Inv X pins σ H s → Vals xs us → r xs H Q →
    wpAny (model X.prog X.w) X.A (call f us) (EP X pins σ Q) X.xe s
/-- a value's truth -/
def TruR (X : Cx) (r : V → Hp → (Bool → Hp → Prop) → Prop) : Prop :=
  ∀ (pins : List (Addr × Obj)) (s : Shared) (σ : St) (H : Hp) (x : V) (v : Value) (Q : Bool → Hp → Prop), Inv X pins σ H s → RelV x v → r x H Q →
    wpAny (model X.prog X.w) X.A (truthy v) (TP X pins σ Q) X.xe s

def tOp (r : R2) (ta tb : TE) : TE := fun σ H Q => ta σ H fun x H1 => tb σ H1 fun y H2 => r x y H2 Q
def tUn (r : V → Hp → VK → Prop) (ta : TE) : TE := fun σ H Q => ta σ H fun x H1 => r x H1 Q
/-- ints in, under C, and a value out -/
def rI (C : Int → Int → Prop) (g : Int → Int → V) : R2 := fun x y H Q => ∃ i j, x = .int i ∧ y = .int j ∧ C i j ∧ Q (g i j) H
def rI0 (g : Int → Int → V) : R2 := fun x y H Q => ∃ i j, x = .int i ∧ y = .int j ∧ Q (g i j) H
def rU (g : Int → V) : V → Hp → VK → Prop := fun x H Q => ∃ i, x = .int i ∧ Q (g i) H

section
variable {X : Cx} {a b c : Expr} {ta tb tc : TE} {pos : Pos}

theorem binT (ha : PE X a ta) (hb : PE X b tb) {pins : List (Addr × Obj)} {s : Shared} {σ : St} {H : Hp} {R : V → V → Hp → Prop} (I : Inv X pins σ H s)
    (h : ta σ H fun x H1 => tb σ H1 fun y H2 => R x y H2) {Q : Value → Shared → Prop} {f : Value → Value → Sem Value}
    (hf : ∀ v u s2 x y H2, Inv X pins σ H2 s2 → RelV x v → RelV y u → R x y H2 → wpAny (model X.prog X.w) X.A (f v u) Q X.xe s2) :
    wpAny (model X.prog X.w) X.A (eval a X.env) (fun v s₁ => wpAny (model X.prog X.w) X.A (eval b X.env) (fun u s₂ => wpAny (model X.prog X.w) X.A (f v u) Q X.xe s₂) X.xe s₁) X.xe s := by
  refine thn (ha pins s σ H _ I h) fun v s1 ⟨x, H1, I1, r1, q1⟩ => ?_
  refine thn (hb pins s1 σ H1 _ I1 q1) fun u s2 ⟨y, H2, I2, r2, q2⟩ => ?_
  exact hf v u s2 x y H2 I2 r1 r2 q2

theorem pe_op {op : Operator} {r : R2} (ho : OpR X (binaryOp op) r) (ha : PE X a ta) (hb : PE X b tb) : PE X (.BinOp a op b pos) (tOp r ta tb) := by
  intro pins s σ H Q I h
  exact wpAny_BinOp (binT ha hb I h fun v u s2 x y H2 I2 rx ry q => ho pins s2 σ H2 x y v u Q I2 rx ry q)
theorem pe_un {op : UnaryOp} {r : V → Hp → VK → Prop} (ho : UnR X (unaryOp op) r) (ha : PE X a ta) : PE X (.UnaryOp op a pos) (tUn r ta) := by
  intro pins s σ H Q I h
  exact UnaryOp_ (thn (ha pins s σ H _ I h) fun v s1 ⟨x, H1, I1, r1, q1⟩ => ho pins s1 σ H1 x v Q I1 r1 q1)
/-! ### ints -/
theorem opI {f : Value → Value → Sem Value} {C : Int → Int → Prop} {g : Int → Int → Int}
    (rule : ∀ (i j : Int) (t u : Tok) (s : Shared) (Q : Value → Shared → Prop) (E : Value → Shared → Prop), C i j → Q (.int (g i j) s.toks) { s with toks := s.toks + 1 } → wpAny (model X.prog X.w) X.A (f (.int i t) (.int j u)) Q E s) :
    OpR X f (rI C fun i j => .int (g i j)) := by
  intro pins s σ H x y v u Q I rx ry h
  obtain ⟨i, j, rfl, rfl, hc, q⟩ := h
  obtain ⟨t, rfl⟩ := rx
  obtain ⟨t', rfl⟩ := ry
  exact rule i j t t' s _ _ hc ⟨.int (g i j), H, I.tok _, ⟨_, rfl⟩, q⟩
theorem opI0 {f : Value → Value → Sem Value} {g : Int → Int → Int}
    (rule : ∀ (i j : Int) (t u : Tok) (s : Shared) (Q : Value → Shared → Prop) (E : Value → Shared → Prop), Q (.int (g i j) s.toks) { s with toks := s.toks + 1 } → wpAny (model X.prog X.w) X.A (f (.int i t) (.int j u)) Q E s) :
    OpR X f (rI0 fun i j => .int (g i j)) := by
  intro pins s σ H x y v u Q I rx ry h
  obtain ⟨i, j, rfl, rfl, q⟩ := h
  obtain ⟨t, rfl⟩ := rx
  obtain ⟨t', rfl⟩ := ry
  exact rule i j t t' s _ _ ⟨.int (g i j), H, I.tok _, ⟨_, rfl⟩, q⟩
theorem opB0 {f : Value → Value → Sem Value} {g : Int → Int → Bool}
    (rule : ∀ (i j : Int) (t u : Tok) (s : Shared) (Q : Value → Shared → Prop) (E : Value → Shared → Prop), Q (.bool (g i j)) s → wpAny (model X.prog X.w) X.A (f (.int i t) (.int j u)) Q E s) :
    OpR X f (rI0 fun i j => .bl (g i j)) := by
  intro pins s σ H x y v u Q I rx ry h
  obtain ⟨i, j, rfl, rfl, q⟩ := h
  obtain ⟨t, rfl⟩ := rx
  obtain ⟨t', rfl⟩ := ry
  exact rule i j t t' s _ _ ⟨.bl (g i j), H, I, rfl, q⟩

def CPow (i j : Int) : Prop := 0 ≤ j ∧ j ≤ 1000000 ∧ i.natAbs < 2 ^ 64
def CMul (i j : Int) : Prop := (-(2 ^ 64) < i ∧ i < 2 ^ 64) ∨ (-(2 ^ 64) < j ∧ j < 2 ^ 64)
theorem CMul.ok {i j : Int} (h : CMul i j) : IntMulOk i j := by
  rcases h with ⟨h1, h2⟩ | ⟨h1, h2⟩
  · exact .of_left (intBits_le_64 h1 h2)
  · exact .of_right (intBits_le_64 h1 h2)
theorem op_add : OpR X (binaryOp .Add) (rI0 fun i j => .int (i + j)) := opI0 fun _ _ _ _ _ _ _ q => add_int q
theorem op_sub : OpR X (binaryOp .Sub) (rI0 fun i j => .int (i - j)) := opI0 fun _ _ _ _ _ _ _ q => sub_int q
theorem op_mul : OpR X (binaryOp .Mult) (rI CMul fun i j => .int (i * j)) := opI fun _ _ _ _ _ _ _ hc q => mul_int q hc.ok
/-- % by a positive divisor of any size -/
theorem op_mod : OpR X (binaryOp .Mod) (rI (fun _ j => 0 < j) fun i j => .int (i % j)) := opI fun i j _ _ _ _ _ hc q => by
  have h1 : (0 : Int) < j := hc
  exact mod_int' (by omega) (by rw [Int.fmod_eq_emod_of_nonneg i (by omega)]; exact q)
theorem op_pow : OpR X (binaryOp .Pow) (rI CPow fun i j => .int (i ^ j.toNat)) := opI fun _ _ _ _ _ _ _ hc q => pow_int_small hc.1 hc.2.1 hc.2.2 q
theorem unI {f : Value → Sem Value} {g : Int → Int}
    (rule : ∀ (i : Int) (t : Tok) (s : Shared) (Q : Value → Shared → Prop) (E : Value → Shared → Prop), Q (.int (g i) s.toks) { s with toks := s.toks + 1 } → wpAny (model X.prog X.w) X.A (f (.int i t)) Q E s) :
    UnR X f (rU fun i => .int (g i)) := by
  intro pins s σ H x v Q I rx h
  obtain ⟨i, rfl, q⟩ := h
  obtain ⟨t, rfl⟩ := rx
  exact rule i t s _ _ ⟨.int (g i), H, I.tok _, ⟨_, rfl⟩, q⟩
theorem un_neg : UnR X (unaryOp .USub) (rU fun i => .int (-i)) := unI fun _ _ _ _ _ q => neg_int q
/-! ### bools among ints: n += (a < b) -/
end

/-! ### comparisons -/
/-- the scalars that == tells apart as data does -/
def scal : V → V → Bool
  | .non, .non => true | .non, .int _ => true | .int _, .non => true | .non, .bl _ => true | .bl _, .non => true | .non, .str _ => true | .str _, .non => true
  | .int _, .int _ => true | .bl _, .bl _ => true | .str _, .str _ => true | .byt _, .byt _ => true
  | .int _, .str _ => true | .str _, .int _ => true | .bl _, .str _ => true | .str _, .bl _ => true
  | _, _ => false
def rEq : R2 := fun x y H Q => scal x y = true ∧ Q (.bl (decide (x = y))) H
def rNe : R2 := fun x y H Q => scal x y = true ∧ Q (.bl (!decide (x = y))) H

theorem dec_int {i j : Int} : decide (V.int i = V.int j) = (i == j) := by
  rw [Bool.eq_iff_iff]
  simp
theorem dec_bl {i j : Bool} : decide (V.bl i = V.bl j) = (i == j) := by
  rw [Bool.eq_iff_iff]
  simp
theorem dec_str {i j : Str} : decide (V.str i = V.str j) = (i == j) := by
  rw [Bool.eq_iff_iff]
  simp
theorem dec_byt {i j : Array UInt8} : decide (V.byt i = V.byt j) = (i.toList == j.toList) := by
  rw [Bool.eq_iff_iff]
  cases i
  cases j
  simp

section
variable {X : Cx} {a b c : Expr} {ta tb tc : TE} {pos : Pos}
theorem fin_bl {pins : List (Addr × Obj)} {σ : St} {H : Hp} {s : Shared} {Q : VK} {k k' : Bool} (I : Inv X pins σ H s) (q : Q (.bl k) H) (e : k = k') : EP X pins σ Q (.bool k') s := by
  subst e
  exact ⟨.bl k, H, I, rfl, q⟩
theorem op_eq : OpR X (compareOp .Eq) rEq := by
  intro pins s σ H x y v u Q I rx ry h
  obtain ⟨hs, q⟩ := h
  cases x with
  | non =>
    cases rx
    cases y with
    | non => cases ry; exact PySem.EqNone.eq_none_none (fin_bl I q (by simp))
    | bl j => cases ry; exact PySem.EqNone.eq_none_bool (fin_bl I q (by simp))
    | int j => obtain ⟨t', rfl⟩ := ry; exact PySem.EqNone.eq_none_int (fin_bl I q (by simp))
    | str j => obtain ⟨t', rfl⟩ := ry; exact PySem.EqNone.eq_none_str (fin_bl I q (by simp))
    | _ => exact absurd (show false = true from hs) Bool.false_ne_true
  | bl i =>
    cases rx
    cases y with
    | non => cases ry; exact PySem.EqNone.eq_bool_none (fin_bl I q (by simp))
    | bl j => cases ry; exact eq_bool (fin_bl I q dec_bl)
    | str j => obtain ⟨t', rfl⟩ := ry; exact PySem.EqMixed.eq_bool_str (fin_bl I q (by simp))
    | _ => exact absurd (show false = true from hs) Bool.false_ne_true
  | int i =>
    obtain ⟨t, rfl⟩ := rx
    cases y with
    | non => cases ry; exact PySem.EqNone.eq_int_none (fin_bl I q (by simp))
    | int j => obtain ⟨t', rfl⟩ := ry; exact eq_int (fin_bl I q dec_int)
    | str j => obtain ⟨t', rfl⟩ := ry; exact PySem.EqMixed.eq_int_str (fin_bl I q (by simp))
    | _ => exact absurd (show false = true from hs) Bool.false_ne_true
  | str i =>
    obtain ⟨t, rfl⟩ := rx
    cases y with
    | non => cases ry; exact PySem.EqNone.eq_str_none (fin_bl I q (by simp))
    | bl j => cases ry; exact PySem.EqMixed.eq_str_bool (fin_bl I q (by simp))
    | int j => obtain ⟨t', rfl⟩ := ry; exact PySem.EqMixed.eq_str_int (fin_bl I q (by simp))
    | str j => obtain ⟨t', rfl⟩ := ry; exact eq_str (fin_bl I q dec_str)
    | _ => exact absurd (show false = true from hs) Bool.false_ne_true
  | byt i =>
    obtain ⟨t, rfl⟩ := rx
    cases y with
    | byt j => obtain ⟨t', rfl⟩ := ry; exact PySem.W.eq_bytes (fin_bl I q dec_byt)
    | _ => exact absurd (show false = true from hs) Bool.false_ne_true
  | _ => cases y <;> exact absurd (show false = true from hs) Bool.false_ne_true
theorem op_ne : OpR X (compareOp .NotEq) rNe := by
  intro pins s σ H x y v u Q I rx ry h
  obtain ⟨hs, q⟩ := h
  cases x with
  | non =>
    cases rx
    cases y with
    | non => cases ry; exact PySem.EqNone.ne_none_none (fin_bl I q (by simp))
    | bl j => cases ry; exact PySem.EqNone.ne_none_bool (fin_bl I q (by simp))
    | int j => obtain ⟨t', rfl⟩ := ry; exact PySem.EqNone.ne_none_int (fin_bl I q (by simp))
    | str j => obtain ⟨t', rfl⟩ := ry; exact PySem.EqNone.ne_none_str (fin_bl I q (by simp))
    | _ => exact absurd (show false = true from hs) Bool.false_ne_true
  | bl i =>
    cases rx
    cases y with
    | non => cases ry; exact PySem.EqNone.ne_bool_none (fin_bl I q (by simp))
    | bl j => cases ry; exact ne_bool (fin_bl I q (congrArg not dec_bl))
    | str j => obtain ⟨t', rfl⟩ := ry; exact PySem.EqMixed.ne_bool_str (fin_bl I q (by simp))
    | _ => exact absurd (show false = true from hs) Bool.false_ne_true
  | int i =>
    obtain ⟨t, rfl⟩ := rx
    cases y with
    | non => cases ry; exact PySem.EqNone.ne_int_none (fin_bl I q (by simp))
    | int j => obtain ⟨t', rfl⟩ := ry; exact ne_int (fin_bl I q (congrArg not dec_int))
    | str j => obtain ⟨t', rfl⟩ := ry; exact PySem.EqMixed.ne_int_str (fin_bl I q (by simp))
    | _ => exact absurd (show false = true from hs) Bool.false_ne_true
  | str i =>
    obtain ⟨t, rfl⟩ := rx
    cases y with
    | non => cases ry; exact PySem.EqNone.ne_str_none (fin_bl I q (by simp))
    | bl j => cases ry; exact PySem.EqMixed.ne_str_bool (fin_bl I q (by simp))
    | int j => obtain ⟨t', rfl⟩ := ry; exact PySem.EqMixed.ne_str_int (fin_bl I q (by simp))
    | str j => obtain ⟨t', rfl⟩ := ry; exact ne_str (fin_bl I q (congrArg not dec_str))
    | _ => exact absurd (show false = true from hs) Bool.false_ne_true
  | byt i =>
    obtain ⟨t, rfl⟩ := rx
    cases y with
    | byt j => obtain ⟨t', rfl⟩ := ry; exact PySem.W.ne_bytes (fin_bl I q (congrArg not dec_byt))
    | _ => exact absurd (show false = true from hs) Bool.false_ne_true
  | _ => cases y <;> exact absurd (show false = true from hs) Bool.false_ne_true

theorem op_lt : OpR X (compareOp .Lt) (rI0 fun i j => .bl (decide (i < j))) := opB0 fun _ _ _ _ _ _ _ q => lt_int q
theorem op_le : OpR X (compareOp .LtE) (rI0 fun i j => .bl (decide (i ≤ j))) := opB0 fun _ _ _ _ _ _ _ q => le_int q
theorem op_gt : OpR X (compareOp .Gt) (rI0 fun i j => .bl (decide (j < i))) := opB0 fun _ _ _ _ _ _ _ q => gt_int q
theorem op_ge : OpR X (compareOp .GtE) (rI0 fun i j => .bl (decide (j ≤ i))) := opB0 fun _ _ _ _ _ _ _ q => ge_int q
/-- the one string within the other -/
theorem op_in_str : OpR X (compareOp .In) (fun x y H Q => ∃ i j, x = .str i ∧ y = .str j ∧ Q (.bl (!(Builtin.Str.occurrences j i 0 j.length 1).isEmpty)) H) := by
  intro pins s σ H x y v u Q I rx ry h
  obtain ⟨i, j, rfl, rfl, q⟩ := h
  obtain ⟨t, rfl⟩ := rx
  obtain ⟨t', rfl⟩ := ry
  exact in_str (fin_bl I q rfl)

/-- is None, is not None: the right side a value none -/
theorem op_isN : OpR X (compareOp .Is) (fun x y H Q => y = .non ∧ Q (.bl (decide (x = .non))) H) := by
  intro pins s σ H x y v u Q I rx ry h
  obtain ⟨rfl, q⟩ := h
  cases ry
  refine is_none_gen (fin_bl I q ?_)
  cases x <;> first
    | (cases rx; rfl)
    | (obtain ⟨t, rfl⟩ := rx; rfl)
theorem nomark (b : Expr) {op : CmpOp} (h : op ≠ .In := by decide) (h2 : op ≠ .NotIn := by decide) : behindInMarks op b = false := by
  have e1 : (op == CmpOp.In) = false := by cases op <;> first | rfl | exact absurd rfl h
  have e2 : (op == CmpOp.NotIn) = false := by cases op <;> first | rfl | exact absurd rfl h2
  cases b <;> simp [behindInMarks, e1, e2]
/-- a comparison as a value; hm: nomark b, or (for in, not in) by with_unfolding_all rfl -/
theorem pe_cmpR {op : CmpOp} {r : R2} (ho : OpR X (compareOp op) r) (ha : PE X a ta) (hb : PE X b tb) (hm : behindInMarks op b = false) : PE X (.Compare a [op] [b] pos) (tOp r ta tb) := by
  intro pins s σ H Q I h
  exact wpAny_Compare1 (binT ha hb I h fun v u s2 x y H2 I2 rx ry q => ho pins s2 σ H2 x y v u Q I2 rx ry q) hm
/-- a reading of a value as a test -/
def tTest (t : TE) : TT := fun σ H Q => t σ H fun x H' => ∃ k, x = .bl k ∧ Q k H'
theorem pt_cmpR {op : CmpOp} {r : R2} (ho : OpR X (compareOp op) r) (ha : PE X a ta) (hb : PE X b tb) (hm : behindInMarks op b = false) : PT X (.Compare a [op] [b] pos) (tTest (tOp r ta tb)) := by
  intro pins s σ H Q I h
  refine wpAny_isTrue_Compare1 (thn (ha pins s σ H _ I h) fun v s1 ⟨x, H1, I1, r1, q1⟩ => thn (hb pins s1 σ H1 _ I1 q1) fun u s2 ⟨y, H2, I2, r2, q2⟩ =>
    thn (ho pins s2 σ H2 x y v u _ I2 r1 r2 q2) fun c s3 ⟨z, H3, I3, r3, k, e, q3⟩ => ?_) hm
  subst e
  cases r3
  exact wpAny_truthy_bool ⟨H3, I3, q3⟩
/-- a op1 b op2 c -/
def tChain (r r' : R2) (ta tb tc : TE) : TE := fun σ H Q => ta σ H fun x H1 => tb σ H1 fun y H2 => r x y H2 fun z H3 => ∃ k, z = .bl k ∧
  (if k = true then tc σ H3 fun w' H4 => r' y w' H4 Q else Q (.bl false) H3)
theorem pe_chain {op op' : CmpOp} {r r' : R2} (ho : OpR X (compareOp op) r) (ho' : OpR X (compareOp op') r') (ha : PE X a ta) (hb : PE X b tb) (hc : PE X c tc)
    (hm : lastMarks [op, op'] [b, c] = false := by with_unfolding_all rfl) : PE X (.Compare a [op, op'] [b, c] pos) (tChain r r' ta tb tc) := by
  intro pins s σ H Q I h
  refine Compare_chain (thn (ha pins s σ H _ I h) fun v s1 ⟨x, H1, I1, r1, q1⟩ => chain_link (thn (hb pins s1 σ H1 _ I1 q1) fun u s2 ⟨y, H2, I2, r2, q2⟩ =>
    thn (ho pins s2 σ H2 x y v u _ I2 r1 r2 q2) fun d s3 ⟨z, H3, I3, r3, k, e, q3⟩ => ?_)) hm
  subst e
  cases r3
  refine wpAny_truthy_bool ?_
  cases k with
  | false => exact ite_ff ⟨.bl false, H3, I3, rfl, q3⟩
  | true => exact ite_tt (chain_last (thn (hc pins s3 σ H3 _ I3 q3) fun w' s4 ⟨z', H4, I4, r4, q4⟩ => ho' pins s4 σ H4 y z' u w' Q I4 r2 r4 q4))
theorem pt_chain {op op' : CmpOp} {r r' : R2} (ho : OpR X (compareOp op) r) (ho' : OpR X (compareOp op') r') (ha : PE X a ta) (hb : PE X b tb) (hc : PE X c tc)
    (hm : lastMarks [op, op'] [b, c] = false := by with_unfolding_all rfl) : PT X (.Compare a [op, op'] [b, c] pos) (tTest (tChain r r' ta tb tc)) := by
  intro pins s σ H Q I h
  refine isTrue_chain (thn (ha pins s σ H _ I h) fun v s1 ⟨x, H1, I1, r1, q1⟩ => test_link (thn (hb pins s1 σ H1 _ I1 q1) fun u s2 ⟨y, H2, I2, r2, q2⟩ =>
    thn (ho pins s2 σ H2 x y v u _ I2 r1 r2 q2) fun d s3 ⟨z, H3, I3, r3, k, e, q3⟩ => ?_)) hm
  subst e
  cases r3
  refine wpAny_truthy_bool ?_
  cases k with
  | false =>
    obtain ⟨k', e', q'⟩ := q3
    cases e'
    exact ite_ff ⟨H3, I3, q'⟩
  | true =>
    refine ite_tt (test_last (thn (hc pins s3 σ H3 _ I3 q3) fun w' s4 ⟨z', H4, I4, r4, q4⟩ => thn (ho' pins s4 σ H4 y z' u w' _ I4 r2 r4 q4) fun d' s5 ⟨z2, H5, I5, r5, k2, e2, q5⟩ => ?_))
    subst e2
    cases r5
    exact wpAny_truthy_bool ⟨H5, I5, q5⟩

/-! ### truth -/
/-- a value's truth by the abstract heap -/
def TruV (K : PySem.W.Frag) (x : V) (H : Hp) (k : Bool) : Prop :=
  match x with
  | .non => k = false
  | .bl b => k = b
  | .int i => k = (i != 0)
  | .str y => y.length ≤ sizeLine ∧ k = ((y.length : Int) != 0)
  | .byt y => y.size ≤ sizeLine ∧ k = ((y.size : Int) != 0)
  | .ref p => (∃ xs, SqL K H p xs ∧ k = !xs.isEmpty) ∨ (∃ xs, SqT K H p xs ∧ k = !xs.isEmpty) ∨ ∃ kvs, H p = some (.dK kvs) ∧ k = !kvs.isEmpty
  | _ => False
theorem line63 : (sizeLine : Nat) < 2 ^ 63 := by rw [sizeLine_eq]; decide
/-! ### strs and bytes -/
theorem op_add_str : OpR X (binaryOp .Add) (fun x y H Q => ∃ i j, x = .str i ∧ y = .str j ∧ i.length + j.length ≤ sizeLine ∧ Q (.str (i ++ j)) H) := by
  intro pins s σ H x y v u Q I rx ry h
  obtain ⟨i, j, rfl, rfl, hz, q⟩ := h
  obtain ⟨t, rfl⟩ := rx
  obtain ⟨t', rfl⟩ := ry
  exact add_str (fun t' tk => ⟨.str (i ++ j), H, I.tok _, ⟨_, rfl⟩, q⟩) hz
/-! ### scalar builtins, by CallR -/
theorem vals1 {x : V} {us : List Value} (r : Vals [x] us) : ∃ u, us = [u] ∧ RelV x u := by
  cases r with
  | cons r1 r2 => cases r2; exact ⟨_, rfl, r1⟩
theorem vals2 {x y : V} {us : List Value} (r : Vals [x, y] us) : ∃ u w', us = [u, w'] ∧ RelV x u ∧ RelV y w' := by
  cases r with
  | cons r1 r2 =>
    cases r2 with
    | cons r3 r4 => cases r4; exact ⟨_, _, rfl, r1, r3⟩
theorem call_int1 : CallR X (.type "int") (fun xs H Q => (∃ i, xs = [.int i] ∧ Q (.int i) H) ∨ ∃ k, xs = [.bl k] ∧ Q (.int (if k then 1 else 0)) H) := by
  intro pins s σ H xs us Q I r h
  rcases h with ⟨i, rfl, q⟩ | ⟨k, rfl, q⟩
  · obtain ⟨u, rfl, t, rfl⟩ := vals1 r
    exact call_int_int ⟨.int i, H, I, ⟨_, rfl⟩, q⟩
  · obtain ⟨u, rfl, r1⟩ := vals1 r
    cases r1
    exact call_int_bool ⟨.int (if k then 1 else 0), H, I.tok _, ⟨_, rfl⟩, q⟩
theorem call_str_int : CallR X (.type "str") (fun xs H Q => ∃ i, xs = [.int i] ∧ i.natAbs.log2 < 1920 ∧ Q (.str (toString i)) H) := by
  intro pins s σ H xs us Q I r h
  obtain ⟨i, rfl, hz, q⟩ := h
  obtain ⟨u, rfl, t, rfl⟩ := vals1 r
  exact PySem.P.str_of_int hz ⟨.str _, H, I.tok _, ⟨_, rfl⟩, q⟩
/-- len of a str, a bytes, a list, a tuple -/
def LenV (K : PySem.W.Frag) (x : V) (H : Hp) (n : Nat) : Prop :=
  match x with
  | .str y => y.length ≤ sizeLine ∧ n = y.length
  | .byt y => y.size ≤ sizeLine ∧ n = y.size
  | .ref p => (∃ xs, SqL K H p xs ∧ n = xs.length) ∨ ∃ xs, SqT K H p xs ∧ n = xs.length
  | _ => False
theorem call_len : CallR X (.builtin "len") (fun xs H Q => ∃ x n, xs = [x] ∧ LenV X.K x H n ∧ Q (.int n) H) := by
  intro pins s σ H xs us Q I r h
  obtain ⟨x, n, rfl, e, q⟩ := h
  obtain ⟨u, rfl, rx⟩ := vals1 r
  have hl := line63
  have hs : sizeLine = 16777216 := sizeLine_eq
  cases x with
  | str y =>
    obtain ⟨t, rfl⟩ := rx
    obtain ⟨hy, e'⟩ : y.length ≤ sizeLine ∧ n = y.length := e
    subst e'
    exact len_str (by omega) ⟨.int _, H, I.tok _, ⟨_, rfl⟩, q⟩
  | byt y =>
    obtain ⟨t, rfl⟩ := rx
    obtain ⟨hy, e'⟩ : y.size ≤ sizeLine ∧ n = y.size := e
    subst e'
    exact PySem.W.len_bytes (by omega) ⟨.int _, H, I.tok _, ⟨_, rfl⟩, q⟩
  | ref p =>
    cases rx
    have e' : (∃ xs, SqL X.K H p xs ∧ n = xs.length) ∨ ∃ xs, SqT X.K H p xs ∧ n = xs.length := e
    rcases e' with ⟨xs, hx, e'⟩ | ⟨xs, hx, e'⟩
    · subst e'
      obtain ⟨its, r', pl, hz⟩ := I.list hx
      have hlen := r'.length
      exact Calls.call_len_list pl.isList (by simp only [List.size_toArray]; omega) ⟨.int xs.length, H, I.tok _, ⟨_, by simp only [List.size_toArray]; rw [hlen]⟩, q⟩
    · subst e'
      obtain ⟨its, r', pl, hz⟩ := I.tuple hx
      have hlen := r'.length
      exact len_tuple pl (by simp only [List.size_toArray]; omega) ⟨.int xs.length, H, I.tok _, ⟨_, by simp only [List.size_toArray]; rw [hlen]⟩, q⟩
  | _ => exact (show False from e).elim
end
end L2

namespace L2
open PySem PySem.Spec PyProof.Rows

/-! ### an instance, its attributes a map -/
structure ObjM (h : Heap) (x dx C : Addr) (mA : Str → Option Value) : Prop where
  obj : h.get? x = some (PySem.W.instObj C dx)
  ns : h.Ns1 dx mA
  ne : dx ≠ x

theorem lookIn_ns {h : Heap} {dx : Addr} {mA : Str → Option Value} (n : h.Ns1 dx mA) : ∃ od, h.get? dx = some od ∧ ∀ name, PySem.W.lookIn name od = some (mA name) := by
  obtain ⟨o, es, ep, ho, hd, hk, _, hm⟩ := n
  refine ⟨o, ho, fun name => ?_⟩
  have e := hm name
  unfold nsFind findBy at e
  rw [← Array.find?_toList] at e
  unfold PySem.W.lookIn
  rw [hd]
  dsimp only
  split
  · rename_i y q
    rw [q] at e
    exact congrArg some e
  · rename_i q
    rw [q] at e
    have a : es.toList.any (·.refKey) = false := by
      rw [List.any_eq_false]
      intro y hy
      obtain ⟨z, t, hkey⟩ := hk y (Array.mem_toList_iff.mp hy)
      simp [DictEntry.refKey, hkey]
    have a' : ¬ es.toList.any (·.refKey) = true := by rw [a]; exact Bool.false_ne_true
    rw [if_neg a']
    exact congrArg some e

theorem ObjM.look {h : Heap} {x dx C : Addr} {mA : Str → Option Value} (I : ObjM h x dx C mA) : ∃ od, PySem.W.InstAt h x (PySem.W.instObj C dx) C (some od) ∧ ∀ name, PySem.W.lookIn name od = some (mA name) :=
  let ⟨od, ho, hl⟩ := lookIn_ns I.ns
  ⟨od, ⟨I.obj, rfl, rfl, ho⟩, hl⟩

section
variable {prog : Program} {w : World} {A : Around} {E : Value → Shared → Prop} {s : Shared} {K : PySem.W.Frag} {x dx C f : Addr} {mA : Str → Option Value} {name : Str} {v : Value}

end

/-! ### the attributes as a list of pairs -/
theorem RelO.some_of {v : V} {o : Option Value} (r : RelO (some v) o) : ∃ u, o = some u ∧ RelV v u := by
  cases o with
  | none => exact (show False from r).elim
  | some u => exact ⟨u, rfl, r⟩
theorem handed_of {v : V} {u : Value} (r : RelV v u) : PySem.W.handedIn u = true := by
  cases v with
  | non => cases (show u = Value.none from r); rfl
  | bl b => cases (show u = Value.bool b from r); rfl
  | int i => obtain ⟨t, e⟩ := (show ∃ t, u = Value.int i t from r); cases e; rfl
  | str x => obtain ⟨t, e⟩ := (show ∃ t, u = Value.str x t from r); cases e; rfl
  | byt b => obtain ⟨t, e⟩ := (show ∃ t, u = Value.bytes b t from r); cases e; rfl
  | flt b => obtain ⟨t, e⟩ := (show ∃ t, u = Value.float b t from r); cases e; rfl
  | ref a => cases (show u = Value.ref a from r); rfl
  | ty n => cases (show u = Value.type n from r); rfl

section
variable {P : Program} {w : World} {H H' : Hp} {h h' : Heap} {a C dx : Addr} {fs fs' : List (Str × V)}
theorem ins_get (hok : HOk P w H h) (e : H a = some (.ins C dx fs)) : ∃ mA, ObjM h a dx C mA ∧ (∀ f, RelO (fs.lookup f) (mA f)) ∧ PySem.Within mA (fs.map (·.1)) ∧ fs.length ≤ 1000 ∧ H dx = some (.own a) := by
  obtain ⟨d, z, ne, ob, mA, n, r, q⟩ := (show ObjOk P w H h a (.ins C dx fs) from hok a _ e)
  exact ⟨mA, ⟨ob, n, ne⟩, r, q, z, d⟩
end

/-! ### what of the text a class must have -/
structure Cls (K : PySem.W.Frag) (C : Addr) : Prop where
  pg : PySem.W.plainGet K C Str.empty = true
  hd : PySem.W.hasDictIn K C = true
  po : PySem.W.plainOver K C = true
  sa : PySem.W.findIn K (.ref C) "__setattr__" = some (some (.builtin "object.__setattr__"))
theorem Cls.get {K : PySem.W.Frag} {C : Addr} (c : Cls K C) (f : Str) : PySem.W.plainGet K C f = true := c.pg
section
variable {X : Cx} {pins : List (Addr × Obj)} {σ : St} {H : Hp} {s : Shared} {a C dx : Addr} {fs : List (Str × V)} {f : Str} {v : V} {A : Around} {E : Value → Shared → Prop}

/-- e.f where nothing but the object is asked: through attributeBase (super) and the last hold -/
theorem attr_of {prog : Program} {w : World} {env : Env} {e : Expr} {f : Str} {pos : Pos} {s : Shared} {Q : Value → Shared → Prop} (hb : attributeBase e f env (eval e env) = eval e env)
    (h : wpAny (model prog w) A (eval e env) (fun o s₁ => wpAny (model prog w) A (getAttr o f true) Q E s₁) E s) : wpAny (model prog w) A (eval (.Attribute e f pos) env) Q E s :=
  Attribute_any_ h (by rw [arm_eval_Attribute, hb])
end

/-! ### readings and rules -/
section
variable {X : Cx} {o e value : Expr} {f : Str} {pos pos' tpos : Pos} {ta tv : TE}
end

/-! ### isinstance -/
section
variable {X : Cx} {pins : List (Addr × Obj)} {σ : St} {H : Hp} {s : Shared} {A : Around} {E : Value → Shared → Prop} {Q : Value → Shared → Prop} {c : Value} {b : Bool}
/-- the type of a value, as the fragment's deciders take it; for an instance its class -/
inductive TyOf (K : PySem.W.Frag) (H : Hp) : V → Value → Prop where
  | non : TyOf K H .non (.type "NoneType")
  | bl (x : Bool) : TyOf K H (.bl x) (.type "bool")
  | int (i : Int) : TyOf K H (.int i) (.type "int")
  | str (x : Str) : TyOf K H (.str x) (.type "str")
  | flt (x : UInt64) : TyOf K H (.flt x) (.type "float")
  | lst {a : Addr} {xs : List V} (e : H a = some (.lst xs)) : TyOf K H (.ref a) (.type "list")
  | frz {a : Addr} {o : Obj} {xs : List V} (e : H a = some (.frz o (.lst xs))) : TyOf K H (.ref a) (.type "list")
  | tup {a : Addr} {xs : List V} (e : H a = some (.tup xs)) : TyOf K H (.ref a) (.type "tuple")
  | dK {a : Addr} {kvs : List (Key × V)} (e : H a = some (.dK kvs)) : TyOf K H (.ref a) (.type "dict")
  | dT {a : Addr} {kvs : List (List Key × V)} (e : H a = some (.dT kvs)) : TyOf K H (.ref a) (.type "dict")
  | ins {a C dx : Addr} {fs : List (Str × V)} (e : H a = some (.ins C dx fs)) (cl : Cls K C) (ha : PySem.W.findIn K (.ref C) "__class__" = some (some (.builtin "object.__class__")))
      (hn : PySem.W.specialIn K (.builtin "object.__class__") "__get__" = some (some (.builtin "getset_descriptor.__get__"))) (htk : PySem.W.takesIn K (.builtin "object.__class__") = some true)
      (hm : PySem.W.mroIn K C (.type "object") = some true) : TyOf K H (.ref a) (.ref C)
/-- isinstance(x, c) for one class c, a built-in or an own one: kitOne's answer -/
theorem isinst_ok {x : V} {u t : Value} (I : Inv X pins σ H s) (rx : RelV x u) (ty : TyOf X.K H x t) (e : PySem.W.kitOne X.K t c = some b) (h : ∀ tk, Q (.bool b) { s with toks := tk }) :
    wpAny (model X.prog X.w) A (call (.builtin "isinstance") [u, c]) Q E s := by
  cases ty with
  | non => cases (show u = Value.none from rx); exact PySem.W.kia_one PySem.W.kitx_none I.kIn True.intro e (fun z => nomatch z) h
  | bl y => cases (show u = Value.bool y from rx); exact PySem.W.kia_one PySem.W.kitx_bool I.kIn True.intro e (fun z => nomatch z) h
  | int i => obtain ⟨t, q⟩ := (show ∃ t, u = Value.int i t from rx); cases q; exact PySem.W.kia_one PySem.W.kitx_int I.kIn True.intro e (fun z => nomatch z) h
  | str y => obtain ⟨t, q⟩ := (show ∃ t, u = Value.str y t from rx); cases q; exact PySem.W.kia_one PySem.W.kitx_str I.kIn True.intro e (fun z => nomatch z) h
  | flt y => obtain ⟨t, q⟩ := (show ∃ t, u = Value.float y t from rx); cases q; exact PySem.W.kia_one PySem.W.kitx_float I.kIn True.intro e (fun z => nomatch z) h
  | @lst a xs ea =>
    cases (show u = Value.ref a from rx)
    obtain ⟨_, _, n, _, h1⟩ := (show ObjOk X.prog X.w H s.heap a (.lst xs) from I.hok a _ ea)
    exact PySem.W.kia_one PySem.W.kitx_list I.kIn ⟨_, h1, rfl⟩ e (fun z => nomatch z) h
  | @frz a ob xs ea =>
    cases (show u = Value.ref a from rx)
    obtain ⟨_, _, _, n, _, h1⟩ := (show ObjOk X.prog X.w H s.heap a (.frz ob (.lst xs)) from I.hok a _ ea)
    exact PySem.W.kia_one PySem.W.kitx_list I.kIn ⟨_, h1, rfl⟩ e (fun z => nomatch z) h
  | @tup a xs ea =>
    cases (show u = Value.ref a from rx)
    obtain ⟨_, _, _, p⟩ := (show ObjOk X.prog X.w H s.heap a (.tup xs) from I.hok a _ ea)
    obtain ⟨o, h1, h2, _⟩ := p
    exact PySem.W.kia_one PySem.W.kitx_tuple I.kIn ⟨o, h1, h2⟩ e (fun z => nomatch z) h
  | @dK a kvs ea =>
    cases (show u = Value.ref a from rx)
    obtain ⟨_, _, vs, _, p⟩ := (show ObjOk X.prog X.w H s.heap a (.dK kvs) from I.hok a _ ea)
    obtain ⟨o, es, ep, h1, h2, _⟩ := p
    exact PySem.W.kia_one PySem.W.kitx_dict I.kIn ⟨o, h1, h2.1⟩ e (fun z => nomatch z) h
  | @dT a kvs ea =>
    cases (show u = Value.ref a from rx)
    obtain ⟨_, _, xs, _, o, es, ep, h1, h2, _⟩ := (show ObjOk X.prog X.w H s.heap a (.dT kvs) from I.hok a _ ea)
    exact PySem.W.kia_one PySem.W.kitx_dict I.kIn ⟨o, h1, h2.1⟩ e (fun z => nomatch z) h
  | @ins a C dx fs ea cl ha hn htk hm =>
    cases (show u = Value.ref a from rx)
    obtain ⟨mA, O, _⟩ := ins_get I.hok ea
    obtain ⟨od, J, _⟩ := O.look
    exact PySem.W.kia_one (PySem.W.kitx_own (cl.get _) cl.hd ha hn htk hm) I.kIn J e (fun z => nomatch z) h
end
end L2

namespace L2
open PySem PySem.Spec PyProof.Rows

/-! ### room -/
structure Room (k : Nat) (A : Around) : Prop where
  hd : A.handled = none
  dp : A.depth + 3 * k + 5 < recursionLimit
  un : A.units + 16 * k + 200 < cLine
  gd : A.guards = some []
theorem Room.mono {j k : Nat} {A : Around} (r : Room k A) (h : j ≤ k) : Room j A := ⟨r.hd, by have := r.dp; omega, by have := r.un; omega, r.gd⟩
theorem Room.deeper {k : Nat} {A : Around} (r : Room (k + 1) A) (env : Env) : Room k (A.deeper env) :=
  ⟨r.hd, by have := r.dp; show A.depth + 1 + 3 * k + 5 < _; omega, by have := r.un; show A.units + 3 + 16 * k + 200 < _; omega, by first | exact r.gd | (have z := r.gd; simpa [Around.deeper, pushGuards] using z)⟩
theorem make_depth {A : Around} {C : Addr} {us : List Value} {kw : List (Str × Value)} : (A.under (.builtin "type.__call__" ⟨.ref C :: us, kw⟩)).depth = A.depth + 1 := by
  first | rfl | simp [Around.under, Code.weight, Code.isCreation, Code.isGuard, Code.isCaller, Code.frames, Code.isFrame, guardIds]
theorem make_units {A : Around} {C : Addr} {us : List Value} {kw : List (Str × Value)} : (A.under (.builtin "type.__call__" ⟨.ref C :: us, kw⟩)).units = A.units + 1 := by
  first | rfl | simp [Around.under, Code.cUnits, Code.frames, Code.isFrame]
theorem Room.make {k : Nat} {A : Around} (r : Room (k + 1) A) (C : Addr) (us : List Value) (kw : List (Str × Value)) : Room k (A.under (.builtin "type.__call__" ⟨.ref C :: us, kw⟩)) :=
  ⟨r.hd, by have := r.dp; rw [make_depth]; omega, by have := r.un; rw [make_units]; omega, by first | exact r.gd | (have z := r.gd; simpa [Around.under, Code.guards, Code.isGuard, pushGuards, guardIds] using z)⟩
theorem Room.depth {k : Nat} {A : Around} (r : Room k A) : A.depth < recursionLimit := by have := r.dp; omega
theorem Room.units {k : Nat} {A : Around} (r : Room k A) : A.units + 64 < cLine := by have := r.un; omega
theorem Room.units0 {k : Nat} {A : Around} (r : Room k A) : A.units < cLine := by have := r.un; omega

/-! ### argument lists and displays -/
def tNil : TA := fun _ H Q => Q [] H
def tCons (ta : TE) (tr : TA) : TA := fun σ H Q => ta σ H fun x H1 => tr σ H1 fun xs H2 => Q (x :: xs) H2
section
variable {X : Cx} {e : Expr} {es : List Expr} {te : TE} {t : TA} {pos : Pos}
theorem pa_nil : PA X [] tNil := fun _ _ _ _ H Q I h => Calls.spliced_nil ⟨[], H, I, .nil, h⟩
theorem pa_cons (ha : PE X e te) (hr : PA X es t) (hs : starEach (e :: es) X.env = (false, eval e X.env) :: starEach es X.env := by rfl) : PA X (e :: es) (tCons te t) := by
  intro pos pins s σ H Q I h
  rw [hs]
  show wpAny _ _ (spliced ((false, eval e X.env) :: backTo pos (starEach es X.env))) _ _ s
  refine Calls.spliced_cons (thn (ha pins s σ H _ I h) fun u s1 ⟨x, H1, I1, r1, q1⟩ => ?_)
  exact thn (hr pos pins s1 σ H1 _ I1 q1) fun us s2 ⟨xs, H2, I2, r2, q2⟩ => ⟨x :: xs, H2, I2, .cons r1 r2, q2⟩

/-- a tuple, a list of written items -/
def tTup (t : TA) : TE := fun σ H Q => t σ H fun xs H1 => xs.length ≤ sizeLine ∧ ∀ p, H1 p = none → Q (.ref p) (upd H1 p (.tup xs))
def tLst (t : TA) : TE := fun σ H Q => t σ H fun xs H1 => xs.length ≤ sizeLine ∧ ∀ p, H1 p = none → Q (.ref p) (upd H1 p (.lst xs))
theorem pe_tup {x1} (h : PA X es t) : PE X (.Tuple es x1 pos) (tTup t) := by
  intro pins s σ H Q I hq
  refine wpAny_Tuple_spliced (thn (h pos pins s σ H _ I hq) fun us s1 ⟨xs, H1, I1, r, z, q⟩ => ⟨by rw [← r.length]; exact z, ?_⟩)
  have hf : H1 s1.heap.objs.size = none := I1.hok.fresh (Nat.le_refl _)
  refine ⟨.ref s1.heap.objs.size, upd H1 s1.heap.objs.size (.tup xs), I1.laid (t' := s1.toks) (fun b u e => Heap.get?_push_of_some _ e) (Nat.le_refl _) ?_, rfl, q _ hf⟩
  exact ⟨z, us, r, ⟨_, Heap.get?_push_size _ rfl, rfl, _, rfl⟩⟩
theorem pe_lst (h : PA X es t) : PE X (.List es pos) (tLst t) := by
  intro pins s σ H Q I hq
  refine wpAny_List_spliced (thn (h pos pins s σ H _ I hq) fun us s1 ⟨xs, H1, I1, r, z, q⟩ => ⟨by rw [← r.length]; exact z, ?_⟩)
  have hf : H1 s1.heap.objs.size = none := I1.hok.fresh (Nat.le_refl _)
  refine ⟨.ref s1.heap.objs.size, upd H1 s1.heap.objs.size (.lst xs), I1.laid (t' := s1.toks) (fun b u e => Heap.get?_push_of_some _ e) (Nat.le_refl _) ?_, rfl, q _ hf⟩
  exact ⟨z, us, 0, r, Heap.get?_push_size _ rfl⟩
end

/-! ### what a def promises -/
/-- a def's promise: the bound arguments in the parameters' order, the heap, the wanted end, the wanted exception -/
abbrev Sp := List V → Hp → VK → XK → Prop
/-- how an exception lies behind a call (file 08 gives it): the callers' frames, abstract heap and state ahead of the call, the wish, the exception, the state -/
abbrev CXT := List Env → Hp → Shared → XK → Value → Shared → Prop

/-- the state at a call -/
structure Env0 (P : Program) (w : World) (K : PySem.W.Frag) (mg : Str → Option Value) (base : Heap) (A : Around) (outer : List Env) (s : Shared) (H : Hp) : Prop where
  frames : A.frames = some outer
  mod : Mod K mg base
  bs : ∀ b o, base.get? b = some o → s.heap.get? b = some o ∧ H b = none
  bsz : base.objs.size ≤ s.heap.objs.size
  funs : s.heap.FunFrames base outer
  frf : ∀ b ∈ frs outer, H b = none
  hok : HOk P w H s.heap
  bare : AllBare s.gens
/-- a call's end -/
def CE (outer : List Env) (P : Program) (w : World) (H : Hp) (s : Shared) (Q : VK) (u : Value) (s' : Shared) : Prop :=
  ∃ v H', s'.os = s.os ∧ AllBare s'.gens ∧ Un (frs outer) [] H H' s.heap s'.heap ∧ HOk P w H' s'.heap ∧ RelV v u ∧ Q v H'
def CR (CX : CXT) (outer : List Env) (P : Program) (w : World) (H : Hp) (s : Shared) (Q : VK) (E : XK) (r : Result) (s' : Shared) : Prop :=
  match r with
  | .ok (.ret u) => CE outer P w H s Q u s'
  | .ok _ => False
  | .error e => CX outer H s E e s'
structure FnOk (P : Program) (w : World) (K : PySem.W.Frag) (mg : Str → Option Value) (base : Heap) (CX : CXT) (k : Nat) (f : Addr) (fd : FuncData) (ps : List Str) (sp : Sp) : Prop where
  len : ∀ vs H Q E, sp vs H Q E → vs.length = ps.length
  run : ∀ (A : Around) (outer : List Env) (s : Shared) (H : Hp) (args : Args) (us : List Value) (vs : List V) (Q : VK) (E : XK), Room k A → Env0 P w K mg base A outer s H → BindsTo s fd args (ps.zip us) → Vals vs us → sp vs H Q E →
    codeAny (model P w) A (.call (.ref f) args) (CR CX outer P w H s Q E) s
theorem FnOk.mono {P : Program} {w : World} {K : PySem.W.Frag} {mg : Str → Option Value} {base : Heap} {CX : CXT} {j k : Nat} {f : Addr} {fd : FuncData} {ps : List Str} {sp : Sp} (F : FnOk P w K mg base CX j f fd ps sp) (h : j ≤ k) :
    FnOk P w K mg base CX k f fd ps sp := ⟨F.len, fun A outer s H args us vs Q E hr => F.run A outer s H args us vs Q E (hr.mono h)⟩
/-- a weaker promise -/
theorem FnOk.imp {P : Program} {w : World} {K : PySem.W.Frag} {mg : Str → Option Value} {base : Heap} {CX : CXT} {k : Nat} {f : Addr} {fd : FuncData} {ps : List Str} {sp sp' : Sp} (F : FnOk P w K mg base CX k f fd ps sp)
    (h : ∀ vs H Q E, sp' vs H Q E → sp vs H Q E) : FnOk P w K mg base CX k f fd ps sp' :=
  ⟨fun vs H Q E q => F.len vs H Q E (h _ _ _ _ q), fun A outer s H args us vs Q E hr he hb hv hs => F.run A outer s H args us vs Q E hr he hb hv (h _ _ _ _ hs)⟩

theorem Env0.make {P : Program} {w : World} {K : PySem.W.Frag} {mg : Str → Option Value} {base : Heap} {A : Around} {outer : List Env} {s : Shared} {H : Hp} (e : Env0 P w K mg base A outer s H) (C : Addr) (us : List Value) (kw : List (Str × Value)) :
    Env0 P w K mg base (A.under (.builtin "type.__call__" ⟨.ref C :: us, kw⟩)) outer s H := ⟨by first | exact e.frames | (simpa [Around.under, Code.envs, Code.isFrame, pushEnvs] using e.frames), e.mod, e.bs, e.bsz, e.funs, e.frf, e.hok, e.bare⟩
section
variable {X : Cx} {pins : List (Addr × Obj)} {σ : St} {H : Hp} {s s' : Shared}
/-- from a body: what a callee wants -/
theorem Inv.env0 (I : Inv X pins σ H s) : Env0 X.prog X.w X.K X.mg X.base X.A X.stack s H :=
  ⟨I.ok.frames, I.ok.mod, I.bs, Nat.le_trans I.ok.bsz I.sz, I.stack, I.stkFree, I.hok, I.bare⟩
/-- behind a call -/
theorem Inv.after {Q : VK} {u : Value} (I : Inv X pins σ H s) (h : CE X.stack X.prog X.w H s Q u s') : EP X pins σ Q u s' := by
  obtain ⟨v, H', os, bare, un, hok, r, q⟩ := h
  obtain ⟨hh, g, d, t, os'⟩ := s'
  obtain rfl : os' = s.os := os
  exact ⟨v, H', I.call (h' := hh) (g' := g) (d' := d) (t' := t) (ch := []) un hok bare (fun b z => absurd z (by simp)), r, q⟩
end

/-! ### calls -/
/-- f(..): the written arguments, then the defaults dvs; E: what is wanted of an exception -/
def tCall (sp : Sp) (dvs : List V) (E : XK) (t : TA) : TE := fun σ H Q => t σ H fun vs H1 => sp (vs ++ dvs) H1 Q E
/-- how the parameters are bound: us the positional arguments, kw the keywords' values by name, ds the defaults that fill up -/
def Binds (K : PySem.W.Frag) (fd : FuncData) (ps : List Str) (ds : List Value) : Prop :=
  ∀ (s : Shared) (us : List Value), K.In s.heap → (us ++ ds).length = ps.length → BindsTo s fd ⟨us, []⟩ (ps.zip (us ++ ds))
/-- every parameter is given -/
theorem Binds.all {K : PySem.W.Frag} {fd : FuncData} {ps : List Str} (h : ∀ us : List Value, us.length = ps.length → bindArgs fd ⟨us, []⟩ = pure (ps.zip us)) : Binds K fd ps [] := fun s us _ hl => by
  rw [List.append_nil] at hl ⊢
  exact .of_eq (h us hl)

/-- an exception of a callee reaches what this body wants of exceptions -/
def Passes (CX : CXT) (X : Cx) (E : XK) : Prop := ∀ (pins : List (Addr × Obj)) (σ : St) (H : Hp) (s : Shared) (e : Value) (s' : Shared), Inv X pins σ H s → CX X.stack H s E e s' → X.xe e s'

section
variable {X : Cx} {CX : CXT} {k : Nat} {f C : Addr} {fd : FuncData} {ps : List Str} {sp : Sp} {dvs : List V} {ds : List Value} {E : XK} {x m : Str} {p pos apos : Pos} {e o : Expr} {es : List Expr} {ta : TE} {t : TA}

/-- the callee runs -/
theorem run_fn {pins : List (Addr × Obj)} {σ : St} {H : Hp} {s : Shared} {Q : VK} {us : List Value} {vs : List V} (F : FnOk X.prog X.w X.K X.mg X.base CX k f fd ps sp) (hr : Room k X.A) (hb : Binds X.K fd ps ds) (hd : Vals dvs ds) (hx : Passes CX X E)
    (I : Inv X pins σ H s) (r : Vals vs us) (h : sp (vs ++ dvs) H Q E) : wpAny (model X.prog X.w) X.A (call (.ref f) us) (EP X pins σ Q) X.xe s := by
  have r2 : Vals (vs ++ dvs) (us ++ ds) := r.append hd
  have hl : (us ++ ds).length = ps.length := by rw [← r2.length]; exact F.len _ _ _ _ h
  refine wpAny_call (codeAny_mono (F.run X.A X.stack s H ⟨us, []⟩ (us ++ ds) (vs ++ dvs) Q E hr I.env0 (hb s us I.kIn hl) r2 h) fun r s' hq => ?_)
  cases r with
  | error e => exact hx pins σ H s e s' I hq
  | ok fl =>
    cases fl with
    | ret u => exact I.after hq
    | next => exact False.elim hq
    | brk => exact False.elim hq
    | cont => exact False.elim hq

theorem pe_call (F : FnOk X.prog X.w X.K X.mg X.base CX k f fd ps sp) (hr : Room k X.A) (hg : Gl X x) (hm : X.mg x = some (.ref f)) (hk : PySem.W.keepIn X.K (.ref f) = true) (hb : Binds X.K fd ps ds) (hd : Vals dvs ds) (hx : Passes CX X E)
    (ha : PA X (e :: es) t) (hdb : (x == ("__debug__" : Str)) = false := by decide) (he : starEach (e :: es) X.env = (false, eval e X.env) :: starEach es X.env := by rfl) (hpl : (backTo pos (starEach es X.env)).any (·.1) = false := by rfl) :
    PE X (.Call (.Name x p) (e :: es) [] pos) (tCall sp dvs E t) := by
  intro pins s σ H Q I h
  refine wpAny_Call_Name_kw (ld_glob I hg hm ?_ hdb)
  refine PySem.W.callWith_K (h₀ := X.base) I.ok.mod.kin hk (thn (ha pos pins s σ H _ I h) fun us s1 ⟨vs, H1, I1, r, q⟩ => ⟨I1.kIn, ?_⟩) he hpl
  exact run_fn F hr hb hd hx I1 r q
theorem pe_call0 (F : FnOk X.prog X.w X.K X.mg X.base CX k f fd ps sp) (hr : Room k X.A) (hg : Gl X x) (hm : X.mg x = some (.ref f)) (hk : PySem.W.keepIn X.K (.ref f) = true) (hb : Binds X.K fd ps ds) (hd : Vals dvs ds) (hx : Passes CX X E)
    (hdb : (x == ("__debug__" : Str)) = false := by decide) : PE X (.Call (.Name x p) [] [] pos) (tCall sp dvs E tNil) := by
  intro pins s σ H Q I h
  refine wpAny_Call_Name_kw (ld_glob I hg hm ?_ hdb)
  exact PySem.W.callWith_K0 I.kIn hk (run_fn (us := []) F hr hb hd hx I .nil h)

end

/-! ### keywords -/
section
variable {X : Cx} {CX : CXT} {k : Nat} {f C : Addr} {fd : FuncData} {ps ks : List Str} {sp : Sp} {E : XK} {x m : Str} {p pos apos kpos : Pos} {e o : Expr} {es : List Expr} {kws : List Keyword} {te ta : TE} {t tk : TA} {nm : Option Str}
variable {g : List Value → List Value → List Value} {gV : List V → List V → List V}
end

/-! ### a def's body keeps its promise -/
/-- names: the parameters first -/
structure FnScope (N P : List Str) (sc : Scope) : Prop where
  kind : sc.kind = .function
  co : sc.isCoroutine = false
  gen : sc.isGenerator = false
  nd : N.Nodup
  pre : N.take P.length = P
  par : ∀ x ∈ P, sc.names.lookup x = some .local ∨ sc.names.lookup x = some .cell
  nofree : ∀ y ∈ sc.names, y.2 ≠ .free

theorem bindL_out {kindOf : Str → Option NameKind} {x : Str} : ∀ {binds : List (Str × Value)} {m : Str → Option Value}, (∀ v, (x, v) ∉ binds) → bindL kindOf binds m x = m x
  | [], _, _ => rfl
  | (n, v) :: r, m, h => by
    unfold bindL
    rw [bindL_out fun w hw => h w (List.mem_cons_of_mem _ hw)]
    split
    · have : x ≠ n := by rintro rfl; exact h v List.mem_cons_self
      simp [this]
    · rfl
theorem bindC_out {kindOf : Str → Option NameKind} {x : Str} : ∀ {binds : List (Str × Value)} {m : Str → Option Value}, (∀ v, (x, v) ∉ binds) → bindC kindOf binds m x = m x
  | [], _, _ => rfl
  | (n, v) :: r, m, h => by
    unfold bindC
    rw [bindC_out fun w hw => h w (List.mem_cons_of_mem _ hw)]
    split
    · rfl
    · have : x ≠ n := by rintro rfl; exact h v List.mem_cons_self
      simp [this]
theorem bindL_get {kindOf : Str → Option NameKind} {x : Str} {v : Value} : ∀ {P : List Str} {vs : List Value} {i : Nat} {m : Str → Option Value}, P.Nodup → P[i]? = some x → vs[i]? = some v → kindOf x = some .local →
    bindL kindOf (P.zip vs) m x = some v
  | [], _, _, _, _, h, _, _ => by simp at h
  | _ :: _, [], _, _, _, _, h, _ => by simp at h
  | p :: P, w :: vs, 0, m, nd, h1, h2, hk => by
    simp at h1 h2; subst h1; subst h2
    show bindL kindOf ((p, w) :: P.zip vs) m p = _
    unfold bindL
    rw [bindL_out fun v hv => (List.nodup_cons.mp nd).1 (List.of_mem_zip hv).1, if_pos hk]
    simp
  | p :: P, w :: vs, i + 1, m, nd, h1, h2, hk => by
    show bindL kindOf ((p, w) :: P.zip vs) m x = _
    unfold bindL
    exact bindL_get (i := i) (List.nodup_cons.mp nd).2 (by simpa using h1) (by simpa using h2) hk
theorem bindC_get {kindOf : Str → Option NameKind} {x : Str} {v : Value} : ∀ {P : List Str} {vs : List Value} {i : Nat} {m : Str → Option Value}, P.Nodup → P[i]? = some x → vs[i]? = some v → kindOf x ≠ some .local →
    bindC kindOf (P.zip vs) m x = some v
  | [], _, _, _, _, h, _, _ => by simp at h
  | _ :: _, [], _, _, _, _, h, _ => by simp at h
  | p :: P, w :: vs, 0, m, nd, h1, h2, hk => by
    simp at h1 h2; subst h1; subst h2
    show bindC kindOf ((p, w) :: P.zip vs) m p = _
    unfold bindC
    rw [bindC_out fun v hv => (List.nodup_cons.mp nd).1 (List.of_mem_zip hv).1, if_neg hk]
    simp
  | p :: P, w :: vs, i + 1, m, nd, h1, h2, hk => by
    show bindC kindOf ((p, w) :: P.zip vs) m x = _
    unfold bindC
    exact bindC_get (i := i) (List.nodup_cons.mp nd).2 (by simpa using h1) (by simpa using h2) hk

/-- the names' values at the entry -/
def start (N : List Str) (vs : List V) : St := vs.map some ++ List.replicate (N.length - vs.length) none

/-- the context of a def's body, at its entry; an exception leaves the frame, then lies as CX says -/
def cxOf (CX : CXT) (P : Program) (w : World) (K : PySem.W.Frag) (mg : Str → Option Value) (base : Heap) (N : List Str) (qual : Str) (scope : Scope) (f : Addr) (cd : Value) (A : Around) (outer : List Env) (s : Shared) (H : Hp) (E : XK) : Cx where
  prog := P
  w := w
  K := K
  mg := mg
  base := base
  A := A.deeper (envOfC qual scope s.heap.objs.size f cd)
  N := N
  s₀ := s
  H₀ := H
  env := envOfC qual scope s.heap.objs.size f cd
  outer := outer
  stack := envOfC qual scope s.heap.objs.size f cd :: outer
  ex := []
  calm := true
  fn := fun _ => true
  pn := []
  xe := fun e s' => wpAny (model P w) (A.deeper (envOfC qual scope s.heap.objs.size f cd)) (leaving (envOfC qual scope s.heap.objs.size f cd) e) (fun _ s'' => CX outer H s E e s'') (fun e' s'' => CX outer H s E e' s'') s'

theorem cell_has {sc : Scope} {n : Nat} {x : Str} (h : sc.names.lookup x = some .cell) : ∃ c, (cellsFrom n sc.names []).lookup x = some c := by
  have q := PySem.W.cellsFrom_some sc.names n [] (.inl h)
  exact Option.isSome_iff_exists.mp q

theorem inv_start {CX : CXT} {P : Program} {w : World} {K : PySem.W.Frag} {mg : Str → Option Value} {base : Heap} {N ps : List Str} {qual : Str} {scope : Scope} {f : Addr} {cd : Value} {A : Around} {outer : List Env} {s s1 : Shared} {H : Hp} {E : XK} {us : List Value} {vs : List V}
    (S : FnScope N ps scope) (hd : A.handled = none) (e0 : Env0 P w K mg base A outer s H) (hl : vs.length = ps.length) (r : Vals vs us)
    (x : InCallC s s.heap.objs.size (bindL (envOfC qual scope s.heap.objs.size f cd).kindOf (ps.zip us) fun _ => none) (cellsFrom (s.heap.objs.size + 1) scope.names []) (bindC (envOfC qual scope s.heap.objs.size f cd).kindOf (ps.zip us) fun _ => none) s1) :
    Inv (cxOf CX P w K mg base N qual scope f cd A outer s H E) [] (start N vs) H s1 := by
  have hpl : ps.length ≤ N.length := by have := congrArg List.length S.pre; rw [List.length_take] at this; omega
  obtain ⟨h1, tk, rfl, hk⟩ := x.done
  have noA : ∀ b : Addr, b ∉ (cxOf CX P w K mg base N qual scope f cd A outer s H E).ex := fun b z => absurd (show b ∈ ([] : List Addr) from z) (by simp)
  refine ⟨⟨e0.mod, S.kind, rfl, rfl, Nat.le_refl _, fun y z c h1 h2 => ?_, fun y hy => ?_, fun y c _ h => ?_, fun _ => hd, Around.frames_deeper e0.frames, .inr ⟨rfl, rfl⟩, fun b z => absurd z (noA b), e0.bs, e0.bsz, fun b _ _ => noA b, fun b z => absurd z (noA b), e0.funs, e0.frf⟩,
    rfl, e0.bare, Un.kept hk, ⟨_, x.toInCall.ns, fun i y v h1 h2 h3 => ?_⟩, fun y c h => ⟨_, x.cell y c h⟩, e0.hok.fresh (Nat.le_refl _), fun y c h => ?_, fun p hp => absurd (show p ∈ ([] : List (Addr × Obj)) from hp) (by simp), e0.hok.kept hk, ?_⟩
  · exact name_of_addr x.apart (PySem.mem_of_lookup h1) (PySem.mem_of_lookup h2)
  · have hy : scope.names.lookup y = some .cell ∨ scope.names.lookup y = some .free := hy
    rcases hy with hy | hy
    · exact cell_has hy
    · exact absurd rfl (S.nofree _ (PySem.mem_of_lookup hy))
  · exact Nat.le_of_lt (x.above y c (PySem.mem_of_lookup h))
  · have hi : i < vs.length := by
      unfold start at h2
      by_cases hi : i < vs.length
      · exact hi
      · rw [List.getElem?_append_right (by simpa using hi)] at h2
        rw [List.getElem?_replicate] at h2
        split at h2 <;> cases h2
    have ha : vs[i]? = some v := by
      unfold start at h2
      rw [List.getElem?_append_left (by simpa using hi), List.getElem?_map] at h2
      cases e : vs[i]? with
      | none => rw [e] at h2; cases h2
      | some a => rw [e] at h2; cases h2; rfl
    obtain ⟨u, hu, rv⟩ := r.get ha
    have hp : ps[i]? = some y := by
      rw [← S.pre, List.getElem?_take_of_lt (by omega)]; exact h1
    have ndP : ps.Nodup := by rw [← S.pre]; exact S.nd.sublist (List.take_sublist _ _)
    refine ⟨u, rv, ?_⟩
    rcases S.par y (List.mem_of_getElem? hp) with k | k
    · exact .inl ⟨k, bindL_get ndP hp hu k⟩
    · obtain ⟨c, e⟩ := cell_has (n := s.heap.objs.size + 1) k
      refine .inr ⟨.inl k, c, e, ?_⟩
      have q := x.cell y c e
      rw [bindC_get ndP hp hu (by show scope.names.lookup y ≠ _; rw [k]; decide)] at q
      exact q
  · exact e0.hok.fresh (Nat.le_of_lt (x.above y c (PySem.mem_of_lookup h)))
  · unfold start
    show _ = N.length
    rw [List.length_append, List.length_map, List.length_replicate]
    omega

/-- THE RULE: a def (or a method) of the text, by its body. The body's reading t is chosen for each entry; it is run at the parameters' values -/
theorem fn_of {CX : CXT} {P : Program} {w : World} {K : PySem.W.Frag} {mg : Str → Option Value} {base : Heap} {k : Nat} {f : Addr} {name qual : Str} {params : Arguments} {body : List Stmt} {scope : Scope} {dV kV doc pm cdv ct oc : Value} {an od : Option Addr}
    {osl : Array (Option Value)} {N ps : List Str} {sp : Sp} (lk : K.lookup f = some ⟨oc, od, .func (PySem.W.fnOf name qual params body scope dV kV doc pm an cdv ct), osl⟩) (hcd : PySem.W.codeIn K cdv qual = true) (S : FnScope N ps scope)
    (len : ∀ vs H Q E, sp vs H Q E → vs.length = ps.length)
    (hbody : ∀ (A : Around) (outer : List Env) (s : Shared) (H : Hp) (vs : List V) (Q : VK) (E : XK), Room k (A.deeper (envOfC qual scope s.heap.objs.size f cdv)) → sp vs H Q E →
      ∃ t, PSs (cxOf CX P w K mg base N qual scope f cdv A outer s H E) body t ∧ t { nx := fun _ H' => Q .non H', rt := Q } (start N vs) H) :
    FnOk P w K mg base CX (k + 1) f (PySem.W.fnOf name qual params body scope dV kV doc pm an cdv ct) ps sp := by
  refine ⟨len, fun A outer s H args us vs Q E hr e0 hb r hsp => ?_⟩
  have hl := len _ _ _ _ hsp
  have KX : K.In s.heap := e0.mod.kin.keeps fun b o e => (e0.bs b o e).1
  have lim : s.heap.NoLimit := e0.mod.nolimit.keeps fun b o e => (e0.bs b o e).1
  have hkind : ∀ y ∈ ps.zip us, scope.names.lookup y.1 = some .local ∨ (scope.names.lookup y.1 = some .cell ∧ ((cellsFrom (s.heap.objs.size + 1) scope.names []).lookup y.1).isSome = true) := fun ⟨n, v⟩ hy => by
    rcases S.par n (List.of_mem_zip hy).1 with q | q
    · exact .inl q
    · exact .inr ⟨q, PySem.W.cellsFrom_some _ _ _ (.inl q)⟩
  refine codeAny_call_function hr.depth (KX _ _ lk) rfl S.co S.gen rfl (PySem.W.codeRec_of KX hcd) (hb _ _ _ _ ?_)
  refine wpAny_newFunctionEnv_cells S.kind hkind fun env he s1 x => ?_
  subst he
  refine ⟨lim.keeps x.toInCall.keep, codeAny_func ?_⟩
  obtain ⟨t, ht, hq⟩ := hbody A outer s H vs Q E (hr.deeper _) hsp
  have I : Inv (cxOf CX P w K mg base N qual scope f cdv A outer s H E) [] (start N vs) H s1 := inv_start S hr.hd e0 hl r x
  refine wpAny_mono (ht [] s1 (start N vs) H _ I hq) (fun fl s' hs => ?_) fun e s' hs => hs
  have fin : ∀ {σ' : St} {H' : Hp} {v : V} {u : Value}, Inv (cxOf CX P w K mg base N qual scope f cdv A outer s H E) [] σ' H' s' → RelV v u → Q v H' → CE outer P w H s Q u s' :=
    fun {σ' H' v u} J rv q => ⟨v, H', J.os, J.bare, J.base, J.hok, rv, q⟩
  cases fl with
  | ret u =>
    obtain ⟨v, σ', H', J, rv, q⟩ := hs
    exact fin J rv q
  | next =>
    obtain ⟨σ', H', J, q⟩ := hs
    exact fin (v := V.non) (u := Value.none) J rfl q
  | brk =>
    obtain ⟨_, _, _, q⟩ := hs
    exact False.elim q
  | cont =>
    obtain ⟨_, _, _, q⟩ := hs
    exact False.elim q
end L2

namespace L2
open PySem PySem.Spec PyProof.Rows
section
variable {X : Cx} {x : Str} {p pos : Pos} {e : Expr} {es : List Expr} {t : TA} {id T : String} {r : List V → Hp → VK → Prop}

def tCB (r : List V → Hp → VK → Prop) (t : TA) : TE := fun σ H Q => t σ H fun vs H1 => r vs H1 Q
/-- f(e, ..), f a built-in function -/
theorem pe_callB (hc : CallR X (.builtin id) r) (hg : Gl X x) (hm : X.mg x = none) (hv : bootBuiltins x = some (.builtin id)) (ha : PA X (e :: es) t) (hn : x ≠ "__name__" := by decide) (hdb : (x == ("__debug__" : Str)) = false := by decide)
    (he : starEach (e :: es) X.env = (false, eval e X.env) :: starEach es X.env := by rfl) (hpl : (backTo pos (starEach es X.env)).any (·.1) = false := by rfl) : PE X (.Call (.Name x p) (e :: es) [] pos) (tCB r t) := by
  intro pins s σ H Q I h
  refine wpAny_Call_Name_kw (ld_blt I hg hm hv ?_ hn hdb)
  exact PyProof.Rows.callWith_builtin1 (thn (ha pos pins s σ H _ I h) fun us s1 ⟨vs, H1, I1, r1, q1⟩ => hc pins s1 σ H1 vs us Q I1 r1 q1) he hpl
/-- T(e, ..), T a built-in type -/
theorem pe_callTy (hc : CallR X (.type T) r) (hg : Gl X x) (hm : X.mg x = none) (hv : bootBuiltins x = some (.type T)) (ha : PA X (e :: es) t) (hn : x ≠ "__name__" := by decide) (hdb : (x == ("__debug__" : Str)) = false := by decide)
    (he : starEach (e :: es) X.env = (false, eval e X.env) :: starEach es X.env := by rfl) (hpl : (backTo pos (starEach es X.env)).any (·.1) = false := by rfl) : PE X (.Call (.Name x p) (e :: es) [] pos) (tCB r t) := by
  intro pins s σ H Q I h
  refine wpAny_Call_Name_kw (ld_blt I hg hm hv ?_ hn hdb)
  exact PyProof.Rows.callWith_type1 (thn (ha pos pins s σ H _ I h) fun us s1 ⟨vs, H1, I1, r1, q1⟩ => hc pins s1 σ H1 vs us Q I1 r1 q1) he hpl
end
end L2

namespace HT
open PySem PyProof.Rows

section
open PySem.SeqAt
open PySem.AutoSeq1 (wpAny_loadPart')
open PySem.MeetsSeq PySem.MeetsSeq2 PySem.MeetsSeq3

end

section
variable {prog : Program} {w : World} {A : Around} {E : Value → Shared → Prop} {s : Shared}

/-! ### t[a:b], not the whole -/
/-- a slice's bound as a place among n (d where it is left out) -/
def sIx (n d : Nat) : Option Int → Nat
  | none => d
  | some v => if v < 0 then (v + (n : Int)).toNat else min v.toNat n
theorem sIx_none (n d : Nat) : sIx n d none = d := rfl
theorem sIx_nat (n d k : Nat) : sIx n d (some (k : Int)) = min k n := by
  show (if (k : Int) < 0 then ((k : Int) + (n : Int)).toNat else min (k : Int).toNat n) = min k n
  rw [if_neg (by omega), Int.toNat_natCast]
end
end HT

namespace L2
open PySem PySem.Spec PyProof.Rows

/-! ### the parts of a slice -/
abbrev TO := St → Hp → (Option Int → Hp → Prop) → Prop
/-- a slice's part (left out, or an int) -/
def PO (X : Cx) (e : Option Expr) (t : TO) : Prop :=
  ∀ (pins : List (Addr × Obj)) (s : Shared) (σ : St) (H : Hp) (Q : Option Int → Hp → Prop), Inv X pins σ H s → t σ H Q →
    wpAny (model X.prog X.w) X.A (evalPart e X.env) (fun u s' => ∃ o H', Inv X pins σ H' s' ∧ IsPart u o ∧ Q o H') X.xe s
def tNoPart : TO := fun _ H Q => Q none H
def tPart (t : TE) : TO := fun σ H Q => t σ H fun x H1 => ∃ i, x = .int i ∧ Q (some i) H1

section
variable {X : Cx} {e : Expr} {te : TE} {lo hi : Option Expr} {tl th : TO} {pos p2 : Pos}

theorem po_none : PO X none tNoPart := by
  intro pins s σ H Q I h
  rw [evalPart_none]
  exact wpAny_pure ⟨none, H, I, .none, h⟩
theorem po_some (h : PE X e te) : PO X (some e) (tPart te) := by
  intro pins s σ H Q I hw
  rw [evalPart_some]
  refine thn (h pins s σ H _ I hw) fun u s1 ⟨x, H1, I1, r1, q1⟩ => ?_
  obtain ⟨i, rfl, q⟩ := q1
  obtain ⟨t, rfl⟩ := r1
  exact ⟨some i, H1, I1, .int i t, q⟩

/-- what a slice of a value is, by values: the slice object stands at sl -/
def SlR (X : Cx) (r : V → Option Int → Option Int → Hp → VK → Prop) : Prop :=
  ∀ (pins : List (Addr × Obj)) (s : Shared) (σ : St) (H : Hp) (x : V) (v vl vu : Value) (lo hi : Option Int) (sl : Addr) (Q : VK), Inv X pins σ H s → RelV x v → s.heap.IsSliceOf sl vl vu .none → IsPart vl lo → IsPart vu hi → r x lo hi H Q →
    ∃ T id, typeLookup (.type T) "__getitem__" = pure (some (.builtin id)) ∧ s.TypeIs v T ∧ wpAny (model X.prog X.w) X.A (getItem v (.ref sl)) (EP X pins σ Q) X.xe s
def tSl (r : V → Option Int → Option Int → Hp → VK → Prop) (te : TE) (tl th : TO) : TE := fun σ H Q => te σ H fun x H1 => tl σ H1 fun l H2 => th σ H2 fun u H3 => r x l u H3 Q
/-- a[lo:hi], any a -/
theorem pe_slice {r : V → Option Int → Option Int → Hp → VK → Prop} (hr : SlR X r) (he : PE X e te) (hl : PO X lo tl) (hu : PO X hi th) : PE X (.Subscript e (.Slice lo hi none p2) pos) (tSl r te tl th) := by
  intro pins s σ H Q I h
  refine Subscript_ (thn (he pins s σ H _ I h) fun v s1 ⟨x, H1, I1, r1, q1⟩ => ?_)
  refine wpAny_Slice (thn (hl pins s1 σ H1 _ I1 q1) fun vl s2 ⟨l, H2, I2, pl, q2⟩ => thn (hu pins s2 σ H2 _ I2 q2) fun vu s3 ⟨u, H3, I3, pu, q3⟩ => ?_)
  rw [evalPart_none]
  refine wpAny_pure ?_
  have I4 : Inv X pins σ H3 { s3 with heap := s3.heap.push { cls := .type "slice", data := .fields #[vl, vu, .none] } } := I3.kept (t' := s3.toks) fun b ob q => Heap.get?_push_of_some _ q
  obtain ⟨T, id, hT, ht, hg⟩ := hr pins { s3 with heap := s3.heap.push { cls := .type "slice", data := .fields #[vl, vu, .none] } } σ H3 x v vl vu l u s3.heap.objs.size Q I4 r1 (Heap.IsSliceOf.new ..) pl pu q3
  show wpAny (model X.prog X.w) X.A (subscriptTail e (.Slice lo hi none p2) v (.ref s3.heap.objs.size)) (EP X pins σ Q) X.xe { s3 with heap := s3.heap.push { cls := .type "slice", data := .fields #[vl, vu, .none] } }
  exact tail_any (ops := [.ref s3.heap.objs.size, v]) ht hT hg (by with_unfolding_all rfl)

/-- the items of xs[lo:hi] -/
def cutV (xs : List V) (lo hi : Option Int) : List V := (xs.drop (HT.sIx xs.length 0 lo)).take (HT.sIx xs.length xs.length hi - HT.sIx xs.length 0 lo)
theorem cutV_length (xs : List V) (lo hi : Option Int) : (cutV xs lo hi).length ≤ xs.length := by
  unfold cutV
  rw [List.length_take, List.length_drop]
  omega
/-! ### t < u, t + u -/
end
end L2

namespace L2
open PySem PySem.Spec PyProof.Rows

/-! ### places -/
/-- the place that an index of any sign means -/
def ixN (n : Nat) (i : Int) : Option Nat := if 0 ≤ i then (if i < n then some i.toNat else none) else if -(n : Int) ≤ i then some (i + n).toNat else none
def atI {α : Type} (xs : List α) (i : Int) : Option α := (ixN xs.length i).bind fun j => xs[j]?
theorem ixN_seq {n : Nat} {i : Int} {j : Nat} (h : ixN n i = some j) : seqIndex? i n = some j ∧ j < n ∧ -(n : Int) ≤ i ∧ i < n := by
  unfold ixN at h
  by_cases h0 : 0 ≤ i
  · rw [if_pos h0] at h
    by_cases h1 : i < n
    · rw [if_pos h1] at h
      have e : i.toNat = j := Option.some.inj h
      exact ⟨by rw [seqIndex_of h0 h1, e], by omega, by omega, h1⟩
    · rw [if_neg h1] at h; cases h
  · rw [if_neg h0] at h
    by_cases h1 : -(n : Int) ≤ i
    · rw [if_pos h1] at h
      have e : (i + n).toNat = j := Option.some.inj h
      exact ⟨by rw [seqIndex_neg (by omega) h1, e], by omega, h1, by omega⟩
    · rw [if_neg h1] at h; cases h
theorem atI_get {α : Type} {xs : List α} {i : Int} {v : α} (h : atI xs i = some v) : ∃ j, seqIndex? i xs.length = some j ∧ xs[j]? = some v ∧ j < xs.length ∧ -(xs.length : Int) ≤ i ∧ i < xs.length := by
  unfold atI at h
  cases e : ixN xs.length i with
  | none => rw [e] at h; cases h
  | some j =>
    rw [e] at h
    obtain ⟨h1, h2, h3, h4⟩ := ixN_seq e
    exact ⟨j, h1, h, h2, h3, h4⟩
theorem atI_nat {α : Type} {xs : List α} {j : Nat} {v : α} (h : xs[j]? = some v) : atI xs (j : Int) = some v := by
  have hj : j < xs.length := (List.getElem?_eq_some_iff.mp h).1
  have e : ixN xs.length (j : Int) = some j := by
    unfold ixN
    rw [if_pos (by omega), if_pos (by omega)]; simp
  unfold atI; rw [e]; exact h
/-! ### what may be subscripted -/
/-- what stands as an index of a plain subscript -/
def PlainIx (b : Expr) : Prop := ∀ o i, subscripted b false o i = operate [o, i] (getItem o i)
/-- a subscript by values -/
def IxR (X : Cx) (r : R2) : Prop :=
  ∀ (value slice : Expr) (pins : List (Addr × Obj)) (s : Shared) (σ : St) (H : Hp) (x y : V) (v u : Value) (Q : VK), Inv X pins σ H s → RelV x v → RelV y u → r x y H Q →
    subscripted slice false v u = operate [v, u] (getItem v u) → wpAny (model X.prog X.w) X.A (subscriptTail value slice v u) (EP X pins σ Q) X.xe s
/-- a call of a builtin's method by values: the receiver, the arguments -/
def MtR (X : Cx) (id : String) (r : V → List V → Hp → VK → Prop) : Prop :=
  ∀ (pins : List (Addr × Obj)) (s : Shared) (σ : St) (H : Hp) (x : V) (xs : List V) (v : Value) (us : List Value) (Q : VK), Inv X pins σ H s → RelV x v → Vals xs us → r x xs H Q →
    wpAny (model X.prog X.w) X.A (call (.builtin id) (v :: us)) (EP X pins σ Q) X.xe s
section
variable {X : Cx} {a b : Expr} {ta tb : TE} {pos : Pos}
theorem IxR.or {r r' : R2} (h : IxR X r) (h' : IxR X r') : IxR X (fun x y H Q => r x y H Q ∨ r' x y H Q) := by
  intro value slice pins s σ H x y v u Q I rx ry q hs
  rcases q with q | q
  · exact h value slice pins s σ H x y v u Q I rx ry q hs
  · exact h' value slice pins s σ H x y v u Q I rx ry q hs
/-- a[b] -/
theorem pe_ix {r : R2} (hr : IxR X r) (ha : PE X a ta) (hb : PE X b tb) (hs : PlainIx b) : PE X (.Subscript a b pos) (tOp r ta tb) := by
  intro pins s σ H Q I h
  exact Subscript_ (binT ha hb I h fun v u s2 x y H2 I2 rx ry q => hr a b pins s2 σ H2 x y v u Q I2 rx ry q (hs _ _))

def rIxL (K : PySem.W.Frag) : R2 := fun x y H Q => ∃ p xs i v, x = .ref p ∧ y = .int i ∧ SqL K H p xs ∧ atI xs i = some v ∧ Q v H
def rIxT (K : PySem.W.Frag) : R2 := fun x y H Q => ∃ p xs i v, x = .ref p ∧ y = .int i ∧ SqT K H p xs ∧ atI xs i = some v ∧ Q v H
def rIxS : R2 := fun x y H Q => ∃ z i c, x = .str z ∧ y = .int i ∧ z.length ≤ sizeLine ∧ atI z.cps.toList i = some c ∧ Q (.str ⟨#[c]⟩) H
theorem ix_list : IxR X (rIxL X.K) := by
  intro value slice pins s σ H x y v u Q I rx ry h hs
  obtain ⟨p, xs, i, z, rfl, rfl, hq, he, q⟩ := h
  cases rx
  obtain ⟨t, rfl⟩ := ry
  obtain ⟨its, r, pl, hz⟩ := I.list hq
  obtain ⟨j, h1, h2, h3, h4, h5⟩ := atI_get he
  obtain ⟨w, ew, rw'⟩ := r.get h2
  have hl := r.length
  have hn := line63
  have fin : EP X pins σ Q w s := ⟨z, H, I, rw', q⟩
  by_cases h0 : 0 ≤ i
  · have hj : i.toNat = j := by
      rw [seqIndex_of h0 h5] at h1
      exact Option.some.inj h1
    exact item_listR pl.isList h0 (by omega) (by rw [hj]; simpa using ew) fin hs
  · have hj : (i + (its.toArray.size : Int)).toNat = j := by
      rw [seqIndex_neg (by omega) h4] at h1
      rw [List.size_toArray, ← hl]
      exact Option.some.inj h1
    exact subscriptTail_builtinR (x := w) pl.isList.typeIs slot_list_getitem.lookup
      (wpAny_getItem_list_neg (Q := fun r s' => r = w ∧ EP X pins σ Q r s') pl.isList (by omega) (by rw [List.size_toArray] <;> omega) (by omega) (by rw [hj]; simpa using ew) ⟨rfl, fin⟩) hs
theorem ix_tup : IxR X (rIxT X.K) := by
  intro value slice pins s σ H x y v u Q I rx ry h hs
  obtain ⟨p, xs, i, z, rfl, rfl, hq, he, q⟩ := h
  cases rx
  obtain ⟨t, rfl⟩ := ry
  obtain ⟨its, r, pl, hz⟩ := I.tuple hq
  obtain ⟨j, h1, h2, h3, h4, h5⟩ := atI_get he
  obtain ⟨w, ew, rw'⟩ := r.get h2
  have hl := r.length
  have hn := line63
  have fin : EP X pins σ Q w s := ⟨z, H, I, rw', q⟩
  exact subscriptTail_builtinR (x := w) pl.typeIs slot_tuple_getitem.lookup
    (getItem_tuple (j := j) (Q := fun r s' => r = w ∧ EP X pins σ Q r s') pl (by omega) (by omega) (by rw [List.size_toArray, ← hl]; exact h1) (by simpa using ew) ⟨rfl, fin⟩) hs
theorem ix_str : IxR X rIxS := by
  intro value slice pins s σ H x y v u Q I rx ry h hs
  obtain ⟨z, i, c, rfl, rfl, hz, he, q⟩ := h
  obtain ⟨t, rfl⟩ := rx
  obtain ⟨t', rfl⟩ := ry
  obtain ⟨j, h1, h2, h3, h4, h5⟩ := atI_get he
  have hl : z.cps.toList.length = z.length := by simp [Str.length]
  rw [hl] at h1 h4 h5
  have hn := line63
  exact tail_any (typeIs_str s z t) slot_str_getitem.lookup (getItem_str (c := c) (by
    have e1 : decide (i < -(2 ^ 63 : Int)) = false := decide_eq_false (by omega)
    have e2 : decide (i ≥ 2 ^ 63) = false := decide_eq_false (by omega)
    rw [e1, e2, Bool.or_false]) (by rw [h1]; simpa using h2) ⟨.str ⟨#[c]⟩, H, I.tok _, ⟨_, rfl⟩, q⟩) hs
/-- list, tuple or str -/
def rIx (K : PySem.W.Frag) : R2 := fun x y H Q => rIxL K x y H Q ∨ rIxT K x y H Q ∨ rIxS x y H Q
theorem ix_seq : IxR X (rIx X.K) := ix_list.or (ix_tup.or ix_str)

/-! ### xs[i] = v, any sign -/
/-- the list's object behind a store -/
theorem mapSeq_set (its : List Value) (n j : Nat) (u : Value) : Obj.mapSeq (·.setIfInBounds j u) { cls := .type "list", data := .seq its.toArray n } = { cls := .type "list", data := .seq (its.set j u).toArray n } := by
  simp [Obj.mapSeq]
theorem Inv.lst {pins : List (Addr × Obj)} {σ : St} {H : Hp} {s : Shared} {p : Addr} {xs : List V} (I : Inv X pins σ H s) (h : H p = some (.lst xs)) :
    ∃ (its : List Value) (n : Nat), Vals xs its ∧ s.heap.get? p = some { cls := .type "list", data := .seq its.toArray n } ∧ xs.length ≤ sizeLine := by
  obtain ⟨z, its, n, r, e⟩ := I.hok p _ h
  exact ⟨its, n, r, e, z⟩
/-- the list at p is written by an update of its object -/
theorem Inv.lstUpd {pins : List (Addr × Obj)} {σ : St} {H : Hp} {s : Shared} {p : Addr} {xs ys : List V} {its its' : List Value} {n n' : Nat} {f : Obj → Obj} (I : Inv X pins σ H s) (h : H p = some (.lst xs))
    (ho : s.heap.get? p = some { cls := .type "list", data := .seq its.toArray n }) (hf : f { cls := .type "list", data := .seq its.toArray n } = { cls := .type "list", data := .seq its'.toArray n' }) (r : Vals ys its') (hz : ys.length ≤ sizeLine) (t : Nat) :
    Inv X pins σ (upd H p (.lst ys)) { s with heap := s.heap.update p f, toks := t } := by
  have e : (s.heap.update p f).get? p = some { cls := .type "list", data := .seq its'.toArray n' } := by
    rw [Heap.get?_update_self f ho (by rw [hf] <;> rfl), hf]
  refine I.write (x := p) (e := p) (by rw [h]; trivial) (.inl rfl) (fun b u hb q => (Heap.get?_update_other _ _ (Ne.symm hb)).trans q) ⟨_, e⟩ ?_
  exact ⟨hz, its', n', r, e⟩
def rSetL : V → V → V → Hp → (Hp → Prop) → Prop := fun o i v H Q => ∃ p xs k j, o = .ref p ∧ i = .int k ∧ H p = some (.lst xs) ∧ ixN xs.length k = some j ∧ Q (upd H p (.lst (xs.set j v)))
theorem set_list : PSet X rSetL := by
  intro pins s σ H o i v ov iv u Q I ro ri rv h
  obtain ⟨p, xs, k, j, rfl, rfl, hp, hj, q⟩ := h
  cases ro
  obtain ⟨t, rfl⟩ := ri
  obtain ⟨its, n, r, ho, hz⟩ := I.lst hp
  obtain ⟨h1, h2, h3, h4⟩ := ixN_seq hj
  have hl := r.length
  have hn := line63
  have I' : Inv X pins σ (upd H p (.lst (xs.set j v))) { s with heap := s.heap.update p (Obj.mapSeq (·.setIfInBounds j u)) } :=
    I.lstUpd hp ho (mapSeq_set its n j u) (r.set rv j) (by rw [List.length_set]; exact hz) s.toks
  by_cases h0 : 0 ≤ k
  · have hk : k.toNat = j := by
      rw [seqIndex_of h0 h4] at h1
      exact Option.some.inj h1
    exact PySem.W.ki_setAt ho h0 (by omega) (by rw [List.size_toArray, ← hl]; exact h4) (by rw [hk]; exact ⟨_, I', q⟩)
  · have hk : (k + (its.toArray.size : Int)).toNat = j := by
      rw [seqIndex_neg (by omega) h3] at h1
      rw [List.size_toArray, ← hl]
      exact Option.some.inj h1
    exact PySem.W.ki_setBack ho (by omega) (by rw [List.size_toArray, ← hl]; exact h3) (by omega) (by rw [hk]; exact ⟨_, I', q⟩)

/-! ### slices -/
theorem slice_bounds (lo hi : Option Int) (n : Nat) : (sliceBounds lo hi none n).1 = ((HT.sIx n 0 lo : Nat) : Int) ∧ (sliceBounds lo hi none n).2.1 = ((HT.sIx n n hi : Nat) : Int) ∧ (sliceBounds lo hi none n).2.2 = 1 := by
  refine ⟨?_, ?_, rfl⟩
  · cases lo with
    | none => simp [sliceBounds, HT.sIx]
    | some i =>
      simp only [sliceBounds, HT.sIx, Option.getD_none, show (1 : Int) > 0 by decide, if_true]
      by_cases h : i < 0
      · simp only [h, if_true] <;> omega
      · simp only [h, if_false] <;> omega
  · cases hi with
    | none => simp [sliceBounds, HT.sIx]
    | some i =>
      simp only [sliceBounds, HT.sIx, Option.getD_none, show (1 : Int) > 0 by decide, if_true]
      by_cases h : i < 0
      · simp only [h, if_true] <;> omega
      · simp only [h, if_false] <;> omega
theorem slicePick_cut (its : List Value) (lo hi : Option Int) : slicePick its.toArray lo hi none = ((its.drop (HT.sIx its.length 0 lo)).take (HT.sIx its.length its.length hi - HT.sIx its.length 0 lo)).toArray := by
  obtain ⟨h1, h2, h3⟩ := slice_bounds lo hi its.toArray.size
  unfold slicePick
  rw [h1, h2, h3]
  simp only [sliceRange_one, pick_run, List.size_toArray] <;> rfl
/-- xs[lo:hi] of a list: a new list -/
def rSlL (K : PySem.W.Frag) : V → Option Int → Option Int → Hp → VK → Prop := fun x lo hi H Q => ∃ a xs, x = .ref a ∧ SqL K H a xs ∧ ∀ p, H p = none → Q (.ref p) (upd H p (.lst (cutV xs lo hi)))
theorem sl_list : SlR X (rSlL X.K) := by
  intro pins s σ H x v vl vu lo hi sl Q I rx hs pl pu h
  obtain ⟨a, xs, rfl, hx, q⟩ := h
  cases rx
  obtain ⟨its, r, ht, hz⟩ := I.list hx
  have hlen := r.length
  refine ⟨"list", _, slot_list_getitem.lookup, ht.isList.typeIs, ?_⟩
  refine wpAny_getItem_list_slice ht.isList hs pl pu .none (by simp) ?_ (by rw [List.size_toArray] <;> omega)
  rw [slicePick_cut, ← hlen]
  refine ⟨.ref s.heap.objs.size, _, I.laid (t' := s.toks) (o := .lst (cutV xs lo hi)) (fun b ob q => Heap.get?_push_of_some _ q) (Nat.le_refl _) ?_, rfl, q _ (I.hok.fresh (Nat.le_refl _))⟩
  exact ⟨Nat.le_trans (cutV_length xs lo hi) hz, _, 0, (r.drop (HT.sIx xs.length 0 lo)).take (HT.sIx xs.length xs.length hi - HT.sIx xs.length 0 lo), Heap.get?_push_size _ rfl⟩

/-! ### in, not in: flat items -/
def flatV : V → Bool
  | .non => true
  | .bl _ => true
  | .int _ => true
  | .str _ => true
  | _ => false
/-- == of flat values -/
def eqV : V → V → Bool
  | .non, .non => true
  | .bl a, .bl b => a == b
  | .bl a, .int b => (if a then 1 else 0) == b
  | .int a, .bl b => a == (if b then 1 else 0)
  | .int a, .int b => a == b
  | .str a, .str b => a == b
  | _, _ => false
theorem eqAt_V {A : Around} {s : Shared} {y x : V} {u v : Value} (ry : RelV y u) (rx : RelV x v) (fy : flatV y = true) (fx : flatV x = true) : SeqAt.EqAt A s u v (eqV y x) := by
  cases y with
  | non =>
    cases ry
    cases x with
    | non => cases rx; exact SeqAt.EqAt.same _
    | bl b => cases rx; exact SeqAt.EqAt.none_bool b
    | int b => obtain ⟨t, rfl⟩ := rx; exact SeqAt.EqAt.none_int b t
    | str b => obtain ⟨t, rfl⟩ := rx; exact SeqAt.EqAt.none_str b t
    | _ => exact absurd (show false = true from fx) Bool.false_ne_true
  | bl a =>
    cases ry
    cases x with
    | non => cases rx; exact SeqAt.EqAt.bool_none a
    | bl b => cases rx; exact SeqAt.EqAt.bool_bool a b
    | int b => obtain ⟨t, rfl⟩ := rx; exact SeqAt.EqAt.bool_int a b t
    | str b => obtain ⟨t, rfl⟩ := rx; exact SeqAt.EqAt.bool_str a b t
    | _ => exact absurd (show false = true from fx) Bool.false_ne_true
  | int a =>
    obtain ⟨t', rfl⟩ := ry
    cases x with
    | non => cases rx; exact SeqAt.EqAt.int_none a t'
    | bl b => cases rx; exact SeqAt.EqAt.int_bool a t' b
    | int b => obtain ⟨t, rfl⟩ := rx; exact SeqAt.EqAt.int_int a t' b t
    | str b => obtain ⟨t, rfl⟩ := rx; exact SeqAt.EqAt.int_str a t' b t
    | _ => exact absurd (show false = true from fx) Bool.false_ne_true
  | str a =>
    obtain ⟨t', rfl⟩ := ry
    cases x with
    | non => cases rx; exact SeqAt.EqAt.str_none a t'
    | bl b => cases rx; exact SeqAt.EqAt.str_bool a t' b
    | int b => obtain ⟨t, rfl⟩ := rx; exact SeqAt.EqAt.str_int a t' b t
    | str b => obtain ⟨t, rfl⟩ := rx; exact SeqAt.EqAt.str_str a t' b t
    | _ => exact absurd (show false = true from fx) Bool.false_ne_true
  | _ => exact absurd (show false = true from fy) Bool.false_ne_true
/-- the items' answers, read off the values (a value's own answer does not lean on its token) -/
def eqU (x : V) (u : Value) : Bool := match u with
  | .none => eqV .non x
  | .bool b => eqV (.bl b) x
  | .int i _ => eqV (.int i) x
  | .str z _ => eqV (.str z) x
  | _ => false
theorem eqU_of {x y : V} {u : Value} (r : RelV y u) (f : flatV y = true) : eqU x u = eqV y x := by
  cases y with
  | non => cases r; rfl
  | bl b => cases r; rfl
  | int i => obtain ⟨t, rfl⟩ := r; rfl
  | str z => obtain ⟨t, rfl⟩ := r; rfl
  | _ => exact absurd (show false = true from f) Bool.false_ne_true
theorem any_eqU {x : V} : ∀ {xs : List V} {us : List Value}, Vals xs us → xs.all flatV = true → us.any (eqU x) = xs.any fun y => eqV y x
  | _, _, .nil, _ => rfl
  | y :: xs, u :: us, .cons r t, f => by
    rw [List.all_cons, Bool.and_eq_true] at f
    rw [List.any_cons, List.any_cons, eqU_of r f.1, any_eqU t f.2]
theorem mem_eqAt {A : Around} {s : Shared} {x : V} {v : Value} (rx : RelV x v) (fx : flatV x = true) : ∀ {xs : List V} {us : List Value}, Vals xs us → xs.all flatV = true → ∀ u ∈ us, SeqAt.EqAt A s u v (eqU x u)
  | _, _, .nil, _ => fun u hu => by cases hu
  | y :: xs, u :: us, .cons r t, f => fun u' hu => by
    rw [List.all_cons, Bool.and_eq_true] at f
    rcases List.mem_cons.mp hu with rfl | hu
    · rw [eqU_of r f.1]; exact eqAt_V r rx f.1 fx
    · exact mem_eqAt rx fx t f.2 u' hu
def inV (x : V) (xs : List V) : Bool := xs.any fun y => eqV y x
/-- x in a list or tuple of flat items -/
def rIn (K : PySem.W.Frag) (neg : Bool) : R2 := fun x y H Q => ∃ p xs, y = .ref p ∧ (SqL K H p xs ∨ SqT K H p xs) ∧ flatV x = true ∧ xs.all flatV = true ∧ Q (.bl (if neg then !inV x xs else inV x xs)) H
theorem op_in_seq : OpR X (compareOp .In) (rIn X.K false) := by
  intro pins s σ H x y v u Q I rx ry h
  obtain ⟨p, xs, rfl, hq, fx, fs, q⟩ := h
  cases ry
  rcases hq with hq | hq
  · obtain ⟨its, r, pl, hz⟩ := I.list hq
    refine SeqAt.in_listAt (eqU x) pl.isList (fun w hw => mem_eqAt rx fx r fs w (by simpa using hw)) ⟨.bl _, H, I, rfl, ?_⟩
    rw [show its.toArray.any (eqU x) = its.any (eqU x) by simp, any_eqU r fs]
    exact q
  · obtain ⟨its, r, pl, hz⟩ := I.tuple hq
    refine SeqAt.in_tupleAt (eqU x) pl (fun w hw => mem_eqAt rx fx r fs w (by simpa using hw)) ⟨.bl _, H, I, rfl, ?_⟩
    rw [show its.toArray.any (eqU x) = its.any (eqU x) by simp, any_eqU r fs]
    exact q
theorem op_notIn_seq : OpR X (compareOp .NotIn) (rIn X.K true) := by
  intro pins s σ H x y v u Q I rx ry h
  obtain ⟨p, xs, rfl, hq, fx, fs, q⟩ := h
  cases ry
  rcases hq with hq | hq
  · obtain ⟨its, r, pl, hz⟩ := I.list hq
    refine SeqAt.notIn_listAt (eqU x) pl.isList (fun w hw => mem_eqAt rx fx r fs w (by simpa using hw)) ⟨.bl _, H, I, rfl, ?_⟩
    rw [show its.toArray.any (eqU x) = its.any (eqU x) by simp, any_eqU r fs]
    exact q
  · obtain ⟨its, r, pl, hz⟩ := I.tuple hq
    refine SeqAt.notIn_tupleAt (eqU x) pl (fun w hw => mem_eqAt rx fx r fs w (by simpa using hw)) ⟨.bl _, H, I, rfl, ?_⟩
    rw [show its.toArray.any (eqU x) = its.any (eqU x) by simp, any_eqU r fs]
    exact q
/-! ### len, list(x), tuple(x) of any list or tuple that is read -/
theorem call_len_seq : CallR X (.builtin "len") (fun xs H Q => ∃ p ys, xs = [.ref p] ∧ (SqL X.K H p ys ∨ SqT X.K H p ys) ∧ Q (.int ys.length) H) := by
  intro pins s σ H xs us Q I r h
  obtain ⟨p, ys, rfl, hq, q⟩ := h
  obtain ⟨u, rfl, rx⟩ := vals1 r
  cases rx
  have hn := line63
  rcases hq with hq | hq
  · obtain ⟨its, r', pl, hz⟩ := I.list hq
    have hlen := r'.length
    exact Calls.call_len_list pl.isList (by simp only [List.size_toArray] <;> omega) ⟨.int ys.length, H, I.tok _, ⟨s.toks + 1, by rw [List.size_toArray, hlen]⟩, q⟩
  · obtain ⟨its, r', pl, hz⟩ := I.tuple hq
    have hlen := r'.length
    exact len_tuple pl (by simp only [List.size_toArray] <;> omega) ⟨.int ys.length, H, I.tok _, ⟨s.toks + 1, by rw [List.size_toArray, hlen]⟩, q⟩
theorem call_len_str : CallR X (.builtin "len") (fun xs H Q => ∃ z, xs = [.str z] ∧ z.length ≤ sizeLine ∧ Q (.int z.length) H) := by
  intro pins s σ H xs us Q I r h
  obtain ⟨z, rfl, hz, q⟩ := h
  obtain ⟨u, rfl, t, rfl⟩ := vals1 r
  have hn := line63
  exact len_str (by omega) ⟨.int z.length, H, I.tok _, ⟨_, rfl⟩, q⟩
theorem call_list_of : CallR X (.type "list") (fun xs H Q => ∃ p ys, xs = [.ref p] ∧ (SqL X.K H p ys ∨ SqT X.K H p ys) ∧ ∀ l, H l = none → Q (.ref l) (upd H l (.lst ys))) := by
  intro pins s σ H xs us Q I r h
  obtain ⟨p, ys, rfl, hq, q⟩ := h
  obtain ⟨u, rfl, rx⟩ := vals1 r
  cases rx
  have fin : ∀ (its : List Value), Vals ys its → ys.length ≤ sizeLine → ∀ (h' : Heap) (c' : Nat), (∀ b o', s.heap.get? b = some o' → h'.get? b = some o') →
      h'.get? s.heap.objs.size = some { cls := .type "list", dict := none, data := .seq its.toArray c', slots := #[] } → EP X pins σ Q (.ref s.heap.objs.size) { s with heap := h' } := fun its r' hz h' c' kp e =>
    ⟨.ref s.heap.objs.size, _, I.laid (t' := s.toks) kp (Nat.le_refl _) (show ObjOk X.prog X.w _ h' _ (.lst ys) from ⟨hz, its, c', r', e⟩), rfl, q _ (I.hok.fresh (Nat.le_refl _))⟩
  rcases hq with hq | hq
  · obtain ⟨its, r', pl, hz⟩ := I.list hq
    have hlen := r'.length
    obtain ⟨o, ho, hc, n, hd⟩ := pl.isList
    exact call_list_seq p (.inl rfl) ho hc hd (fun h' c' kp e => fin its r' hz h' c' kp e) (by simp only [List.size_toArray] <;> omega)
  · obtain ⟨its, r', pl, hz⟩ := I.tuple hq
    have hlen := r'.length
    obtain ⟨o, ho, hc, n, hd⟩ := pl
    exact call_list_seq p (.inr rfl) ho hc hd (fun h' c' kp e => fin its r' hz h' c' kp e) (by simp only [List.size_toArray] <;> omega)
/-! ### the call of a builtin's method: o.m(..) -/
/-- the value is of that builtin type -/
def tyV (K : PySem.W.Frag) (T : String) (x : V) (H : Hp) : Prop := match x with
  | .str _ => T = "str"
  | .int _ => T = "int"
  | .ref p => (T = "list" ∧ ∃ xs, SqL K H p xs) ∨ (T = "tuple" ∧ ∃ o, K.lookup p = some o ∧ o.cls = .type "tuple" ∧ o.dict = none) ∨
      (T = "dict" ∧ ((∃ kvs, H p = some (.dK kvs)) ∨ ∃ kvs, H p = some (.dT kvs))) ∨ (T = "set" ∧ ∃ S n, H p = some (.set S n))
  | _ => False
theorem tyV_is {pins : List (Addr × Obj)} {σ : St} {H : Hp} {s : Shared} {T : String} {x : V} {v : Value} (I : Inv X pins σ H s) (r : RelV x v) (ty : tyV X.K T x H) :
    s.TypeIs v T ∧ ∀ a, v = .ref a → ∃ ob, s.heap.get? a = some ob ∧ ob.dict = none := by
  cases x with
  | str z =>
    obtain ⟨t, rfl⟩ := r
    cases (show T = "str" from ty)
    exact ⟨typeIs_str s z t, fun _ e => nomatch e⟩
  | int i =>
    obtain ⟨t, rfl⟩ := r
    cases (show T = "int" from ty)
    exact ⟨typeIs_int s i t, fun _ e => nomatch e⟩
  | ref p =>
    cases r
    rcases ty with ⟨rfl, xs, hq⟩ | ⟨rfl, o, hk, hc, hd⟩ | ⟨rfl, hk⟩ | ⟨rfl, S, n, hk⟩
    · obtain ⟨its, _, pl, _⟩ := I.list hq
      refine ⟨pl.isList.typeIs, fun a e => ?_⟩
      cases e
      obtain ⟨o, n, e, c, hd, _⟩ := pl
      exact ⟨o, e, hd⟩
    · refine ⟨⟨o, I.kIn p o hk, hc⟩, fun a e => ?_⟩
      cases e
      exact ⟨o, I.kIn _ o hk, hd⟩
    · have z : ∃ o, s.heap.get? p = some o ∧ o.ExactDict := by
        rcases hk with ⟨kvs, hk⟩ | ⟨kvs, hk⟩
        · obtain ⟨_, _, _, _, o, _, _, e, ex, _⟩ := I.hok p _ hk
          exact ⟨o, e, ex⟩
        · obtain ⟨_, _, _, _, o, _, _, e, ex, _⟩ := I.hok p _ hk
          exact ⟨o, e, ex⟩
      obtain ⟨o, e, ex⟩ := z
      refine ⟨⟨o, e, ex.1⟩, fun a e2 => ?_⟩
      cases e2
      exact ⟨o, e, ex.2.1⟩
    · obtain ⟨o, _, _, _, e, ex, _⟩ := I.hok p _ hk
      refine ⟨⟨o, e, ex.1⟩, fun a e2 => ?_⟩
      cases e2
      exact ⟨o, e, ex.2.1⟩
  | _ => exact False.elim ty
def tBM (K : PySem.W.Frag) (T : String) (r : V → List V → Hp → VK → Prop) (to : TE) (t : TA) : TE := fun σ H Q => to σ H fun x H1 => tyV K T x H1 ∧ t σ H1 fun xs H2 => r x xs H2 Q
variable {o e : Expr} {es : List Expr} {to : TE} {t : TA} {name : Str} {apos cpos : Pos} {T id : String} {r : V → List V → Hp → VK → Prop}
theorem pe_bm (pa : PlainAttrs T) (slot : Slot T name id) (hty : typeOf (.builtin id) = pure (.type "method_descriptor")) (hm : MtR X id r) (ho : PE X o to) (ha : PA X (e :: es) t)
    (hbase : attributeBase o name X.env (eval o X.env) = eval o X.env := by rfl)
    (hfew : ((backTo cpos (starEach (e :: es) X.env)).all (fun x => !x.1) && (backToKw cpos (keywordEach [] X.env)).all (fun x => x.1.isSome)
      && decide ((e :: es).length + ([] : List Keyword).length + (if ([] : List Keyword).isEmpty then 0 else 1) < 30)) = true := by rfl)
    (hline : (apos.endLine == cpos.line) = true := by rfl) (hs : starEach (e :: es) X.env = (false, eval e X.env) :: starEach es X.env := by rfl) (hplain : (backTo cpos (starEach es X.env)).any (·.1) = false := by rfl) :
    PE X (.Call (.Attribute o name apos) (e :: es) [] cpos) (tBM X.K T r to t) := by
  intro pins s σ H Q I h
  refine wpAny_Call_method_late hbase hfew hline rfl (thn (ho pins s σ H _ I h) fun v s1 ⟨x, H1, I1, r1, ty, q1⟩ => ?_)
  obtain ⟨h1, h2⟩ := tyV_is I1 r1 ty
  refine ⟨T, id, pa, slot, hty, h1, h2, ?_⟩
  have hA := ha cpos pins s1 σ H1 _ I1 q1
  rw [hs] at hA ⊢
  refine Calls.callWith_builtin (by show (false || (backTo cpos (starEach es X.env)).any (·.1)) = false; rw [hplain] <;> rfl) (Calls.evalArgs_plain ?_)
  exact thn hA fun us s2 ⟨vs, H2, I2, r2, q2⟩ => hm pins s2 σ H2 x vs v us Q I2 r1 r2 q2
/- xs.append(e), list.index on a module's tuple .. are MtR facts of 06m -/
end
end L2

namespace L2
open PySem PySem.Spec PyProof.Rows

def MtM (X : Cx) (id : String) (r : V → List V → Hp → VK → Prop) : Prop :=
  ∀ (pins : List (Addr × Obj)) (s : Shared) (σ : St) (H : Hp) (x : V) (xs : List V) (v : Value) (us : List Value) (Q : VK), Inv X pins σ H s → RelV x v → Vals xs us → r x xs H Q →
    wpAny (model X.prog X.w) X.A (call (.builtin id) (v :: us)) (EP X pins σ Q) X.xe s

/-! ### lists of values -/
section
variable {X : Cx} {pins : List (Addr × Obj)} {σ : St} {H : Hp} {s : Shared} {l b : Addr} {xs ys zs : List V}

/-! ### the two steps: a tracked list is rewritten, a new list is laid -/
theorem Inv.lnew {its : List Value} {t' : Nat} (I : Inv X pins σ H s) (hv : Vals ys its) (hz : ys.length ≤ sizeLine) :
    Inv X pins σ (upd H s.heap.objs.size (.lst ys)) { s with heap := s.heap.push { cls := .type "list", data := .seq its.toArray }, toks := t' } :=
  I.laid (fun _ _ q => Heap.get?_push_of_some _ q) (Nat.le_refl _) ⟨hz, its, 0, hv, Heap.get?_push_size _ rfl⟩
theorem Inv.fresh (I : Inv X pins σ H s) : H s.heap.objs.size = none := I.hok.fresh (Nat.le_refl _)
theorem Inv.lstM (I : Inv X pins σ H s) (hH : H l = some (.lst xs)) : xs.length ≤ sizeLine ∧ ∃ (its : List Value) (n : Nat), Vals xs its ∧ xs.length = its.length ∧ s.heap.get? l = some { cls := .type "list", data := .seq its.toArray n } := by
  obtain ⟨z, its, n, r, e⟩ := I.hok l _ hH
  exact ⟨z, its, n, r, r.length, e⟩

end

section
variable {X : Cx}

/-! ### methods -/
def rExtend : V → List V → Hp → VK → Prop := fun x vs H Q => ∃ l b xs zs, x = .ref l ∧ vs = [.ref b] ∧ H l = some (.lst xs) ∧ H b = some (.lst zs) ∧ xs.length + zs.length ≤ sizeLine ∧ Q .non (upd H l (.lst (xs ++ zs)))
/-! ### list + list, list += list, list * int -/
def rCat : R2 := fun x y H Q => ∃ l b xs zs, x = .ref l ∧ y = .ref b ∧ H l = some (.lst xs) ∧ H b = some (.lst zs) ∧ xs.length + zs.length ≤ sizeLine ∧ ∀ p, H p = none → Q (.ref p) (upd H p (.lst (xs ++ zs)))
theorem op_cat : OpR X (binaryOp .Add) rCat := by
  intro pins s σ H x y v u Q I rx ry h
  obtain ⟨l, b, xs, zs, rfl, rfl, hH, hB, hz, q⟩ := h
  cases rx
  cases ry
  obtain ⟨z, its, n, r, hl, e⟩ := I.lstM hH
  obtain ⟨z2, its2, n2, r2, hl2, e2⟩ := I.lstM hB
  refine PySem.P.add_list e e2 ?_ (by rw [List.size_toArray, List.size_toArray]; omega)
  have ea : its.toArray ++ its2.toArray = (its ++ its2).toArray := by simp
  rw [ea]
  exact ⟨.ref _, _, I.lnew (t' := s.toks) (r.append r2) (by rw [List.length_append]; omega), rfl, q _ I.fresh⟩
/-! ### del xs[i] -/
end

/-! ### xs[a:b] = ys -/
section
variable {prog : Program} {w : World} {A : Around} {E : Value → Shared → Prop} {s : Shared}
end

section
variable {X : Cx}
end
end L2

namespace Att
open PySem PySem.W PySem.Calls PyProof.Rows

/-! ### the script -/
theorem ints_of_wellAll {P : Params} {h : Heap} : ∀ (ns : List Int) (vs : List Value), WellAll P h vs (ns.map WData.int) → IntsAre vs ns := by
  intro ns
  induction ns with
  | nil =>
    intro vs w
    rw [List.map_nil] at w
    cases w
    exact .nil
  | cons n ns ih =>
    intro vs w
    rw [List.map_cons] at w
    cases w with
    | cons a b =>
      cases a
      exact .cons _ _ (ih _ b)

theorem script_of {l : OpenLaw} {n : Nat} (hn : l.most = some n) {P : Params} {h : Heap} {args : List WData} {vals : List Value}
    (hpre : l.row.toRowW.claim.pre args = true) (hwl : WellAll P h vals args) :
    ∃ a vs ns, vals = [Value.ref a] ∧ args = [WData.list (ns.map WData.int)] ∧ h.get? a = some { cls := .type "list", data := .seq vs.toArray } ∧ IntsAre vs ns ∧ ns.length ≤ n := by
  have hsh : WShape.hasAll [] args [.list .int] = true := (pre_splitW hpre).1
  have hc : l.pre.holds [] { args := args } = true := (pre_splitW hpre).2
  obtain ⟨d, r, rfl, h1, h2⟩ := hasAllW_cons hsh
  obtain rfl := hasAllW_nil h2
  obtain ⟨xs, rfl, h3⟩ := hasW_list h1
  obtain ⟨ns, rfl⟩ := items_int h3
  have hlen : ns.length ≤ n := by
    unfold OpenLaw.pre at hc
    have h4 : (WTm.not (.lt (.lit (.int (n : Int))) (.len (.arg 0)))).holds [] { args := [.list (ns.map .int)] } = true := by
      have h4 := (holds_andW hc).1
      rw [hn] at h4
      exact h4
    have h5 := condW_of h4 (w_not (w_lt w_lit (w_len_list (w_arg rfl))))
    rw [List.length_map] at h5
    refine Nat.le_of_not_lt fun q => ?_
    have q' : (n : Int) < ((ns.length : Nat) : Int) := by omega
    first
      | (rw [decide_eq_true q'] at h5; exact absurd h5 (by decide))
      | (simp at h5; omega)
  cases hwl with
  | cons w1 w2 =>
    cases w2
    cases w1 with
    | list ho hall => exact ⟨_, _, ns, rfl, rfl, ho, ints_of_wellAll ns _ hall, hlen⟩

theorem post_true (l : OpenLaw) (args : List WData) : l.row.toRowW.claim.post args (.bool true) args = true :=
  postW_of (r := l.row.toRowW) (X := (true == true))
    (show WShape.has [] (.bool true) .bool = true by first | rfl | decide | simp [WShape.has, WShape.arms, WShape.armsAll])
    (show (WTm.eq .res (.lit (.bool true))).value [] { args := args, res := some (.bool true), after := args } = some (.bool (true == true)) from w_eq_bool (w_res rfl) w_lit) rfl

/-! ### the attachment: holds_open's last premise (the goal 'hc' behind k_head) from a wpAny of the law's body -/
/-- the same from a codeAny of the CALL (for a layer whose function contracts speak of calls) -/
theorem attach_call {l : OpenLaw} {n : Nat} {q : Program} {loose : List Str} {XP : (Str → Option Value) → Heap → Prop} {YP : World → Heap → Prop} {d : DefRec}
    (hn : l.most = some n) (hdf : d.params.defaults = [])
    (call : ∀ (w : World) (s₀ s₁ : Shared) (mg mb : Str → Option Value) (fa : Addr) (o : Obj) (pm cd doc : Value) (a : Addr) (vs : List Value) (ns : List Int),
      Ground q loose [] XP w s₀ mg mb s₁.heap → YP w s₁.heap →
      s₁.heap.get? fa = some o → o.data = .func (docDef d.name d.params d.body d.scope pm cd doc) → s₁.heap.CodeRec cd d.name → mg d.name = some (.ref fa) →
      s₁.heap.get? a = some { cls := .type "list", data := .seq vs.toArray } → IntsAre vs ns → ns.length ≤ n → s₁.gens = #[] →
      codeAny (model l.prog w) callerA (.call (.ref fa) ⟨[.ref a], []⟩) (fun r s' => r = .ok (.ret (.bool true)) ∧ OldK s₁.heap s'.heap ∧ s'.os = s₁.os ∧ AllBare s'.gens) s₁) :
    WalkO q loose XP YP l.row.toRowW d [] (fun f vs => PySem.call f vs) := by
  intro w s₀ s₁ mg mb G Y fa o pm cd doc dV kV ho hd hcd hD hmg hg args vals as hpre hlay hrd hwl hlo
  obtain rfl : dV = .none := Dflts.none hD hdf
  obtain rfl : kV = .none := Dflts.noKw hD
  obtain ⟨a, vs, ns, rfl, rfl, hobj, hints, hlen⟩ := script_of hn hpre hwl
  refine enter_call (codeAny_mono (call w s₀ s₁ mg mb fa o pm cd doc a vs ns G Y ho (fd_plain hd) hcd hmg hobj hints hlen hg) fun r s' hq => ?_)
  obtain ⟨rfl, h2, h3, h4⟩ := hq
  exact ⟨.inl ⟨.bool true, .bool true, [], rfl, fun _ => rfl, .bool true, post_true l _, fun _ => ⟨List.Pairwise.nil, fun _ hm => (nomatch hm)⟩⟩, h2, h3, h4⟩

/-! ### rules over ANY heap (no ledger) from facts about the written part K: the library's own take a ledger (News) for what they write -/
section
variable {prog : Program} {w : World} {A : Around} {E : Value → Shared → Prop} {s : Shared} {K : Frag}

/-! the whole heap as the ledger: makes every rule that writes through a ledger a rule over any heap -/
def ledger (h : Heap) (L d : Addr) : List (Addr × Obj) := (List.range h.objs.size).filterMap fun a => if a = L ∨ a = d then none else (h.get? a).map fun o => (a, o)
end
end Att

namespace L2
open PySem PySem.Spec PyProof.Rows

theorem vals_ints : ∀ {vs : List Value} {ns : List Int}, IntsAre vs ns → Vals (ns.map V.int) vs
  | _, _, .nil => .nil
  | _, _, .cons n t h => .cons ⟨t, rfl⟩ (vals_ints h)

/-- nothing is tracked but the script, known to the object (or it is an object of the module) -/
def Only (H : Hp) : Prop := ∀ b, H b = none ∨ ∃ o xs, H b = some (.frz o (.lst xs))

/-- THE HEAD: the law's promise, at the heap behind the top. F, the promise of the law's def, may use that base is part of the heap (so K.In base, base.Ns mainGlobals mg stand in Mod) -/
theorem law_call {P : Program} {w : World} {K : PySem.W.Frag} {mg mb : Str → Option Value} {CX : CXT} {k : Nat} {fa a : Addr} {fd : FuncData} {x : Str} {sp : Sp} {s₁ : Shared} {vs : List Value} {ns : List Int}
    (KX : K.In s₁.heap) (hns : s₁.heap.Ns mainGlobals mg) (hb : s₁.heap.Ns builtinsNs mb) (hbb : ∀ x : Str, x ≠ "__name__" → mb x = bootBuiltins x) (hlim : s₁.heap.NoLimit) (hg : s₁.gens = #[])
    (ha : s₁.heap.get? a = some { cls := .type "list", data := .seq vs.toArray }) (hi : IntsAre vs ns) (hl : ns.length ≤ sizeLine) (hr : Room k callerA)
    (F : ∀ base : Heap, K.In base → base.Ns mainGlobals mg → FnOk P w K mg base CX k fa fd [x] sp) (hbind : ∀ (s : Shared) (u : Value), BindsTo s fd ⟨[u], []⟩ [(x, u)])
    (hsp : ∀ H : Hp, Only H → SqL K H a (ns.map V.int) → sp [.ref a] H (fun v _ => v = .bl true) fun _ _ _ => False)
    (hCX : ∀ H e s', CX [] H s₁ (fun _ _ _ => False) e s' → False) :
    codeAny (model P w) callerA (.call (.ref fa) ⟨[.ref a], []⟩) (fun r s' => r = .ok (.ret (.bool true)) ∧ OldK s₁.heap s'.heap ∧ s'.os = s₁.os ∧ AllBare s'.gens) s₁ := by
  have rv := vals_ints hi
  have lenV := hi.length
  -- from an abstract heap in which nothing but the script may be tracked
  have core : ∀ H : Hp, Only H → SqL K H a (ns.map V.int) → HOk P w H s₁.heap → (∀ b, H b ≠ none → b = a) → (H a ≠ none → K.lookup a = none) →
      codeAny (model P w) callerA (.call (.ref fa) ⟨[.ref a], []⟩) (fun r s' => r = .ok (.ret (.bool true)) ∧ OldK s₁.heap s'.heap ∧ s'.os = s₁.os ∧ AllBare s'.gens) s₁ := by
    intro H hO hS hok hA hK
    have base_of : ∀ {b : Addr} {o : Obj}, s₁.heap.get? b = some o → H b = none → (hidT s₁.heap H).get? b = some o := fun e n => hidT_get e n
    have noA : ∀ {b : Addr} {o : Obj} {es : Array DictEntry} {ep : Nat}, s₁.heap.get? b = some o → o.data = .dict es ep → H b = none := fun {b o es ep} e d => by
      cases q : H b with
      | none => rfl
      | some u =>
        have e' : b = a := hA b (by rw [q]; simp)
        subst e'
        rw [ha] at e; cases e
        have d' : Data.seq vs.toArray _ = Data.dict es ep := d
        cases d'
    have nsK : ∀ {b : Addr} {m : Str → Option Value}, s₁.heap.Ns b m → (hidT s₁.heap H).Ns b m := fun {b m} ⟨o, es, ep, e, d, r⟩ => ⟨o, es, ep, base_of e (noA e d), d, r⟩
    have hKb : K.In (hidT s₁.heap H) := fun b o e => base_of (KX b o e) (by
      cases q : H b with
      | none => rfl
      | some u =>
        have e' : b = a := hA b (by rw [q]; simp)
        subst e'
        rw [hK (by rw [q]; simp)] at e; cases e)
    have hM : Mod K mg (hidT s₁.heap H) := ⟨hKb, nsK hns, ⟨mb, nsK hb, hbb⟩, let ⟨mc, h1, h2⟩ := hlim; ⟨mc, nsK h1, h2⟩⟩
    have e0 : Env0 P w K mg (hidT s₁.heap H) callerA [] s₁ H := ⟨rfl, hM, fun b o e => of_hidT e, Nat.le_of_eq (hidT_size _ _), trivial, fun b hb => absurd (show b ∈ ([] : List Addr) from hb) (by simp), hok, .of_eq hg⟩
    refine codeAny_mono ((F _ hKb (nsK hns)).run callerA [] s₁ H ⟨[.ref a], []⟩ [.ref a] [.ref a] _ _ hr e0 (hbind s₁ (.ref a)) (.cons rfl .nil) (hsp H hO hS)) fun r s' h => ?_
    cases r with
    | error e => exact (hCX H e s' h).elim
    | ok fl =>
      cases fl with
      | next => exact False.elim h
      | brk => exact False.elim h
      | cont => exact False.elim h
      | ret u =>
        obtain ⟨v, H', os, bare, un, hok', r', q⟩ := h
        have q' : v = .bl true := q
        subst q'
        obtain rfl : u = Value.bool true := r'
        refine ⟨rfl, OldK.of_keep fun b o e => ?_, os, bare⟩
        cases q : H b with
        | none => exact un.keep b o e q (by intro z; exact absurd (show b ∈ ([] : List Addr) from z) (by simp)) (by simp)
        | some u =>
          rcases hO b with z | ⟨ob, xs, z⟩
          · rw [q] at z; cases z
          · have z2 := un.frzs b ob _ z
            obtain ⟨e1, _⟩ := hok b _ z
            obtain ⟨e2, _⟩ := hok' b _ z2
            rw [e] at e1; cases e1
            exact e2
  cases hk : K.lookup a with
  | some o =>
    -- the script is one of the module's own objects
    have e := KX a o hk
    rw [ha] at e
    cases e
    refine core (fun _ => none) (fun _ => .inl rfl) (.inr ⟨_, vs.toArray, _, hk, rfl, rfl, rfl, by rw [List.size_toArray, lenV]; exact hl, by simpa using rv⟩) (fun b u z => by have z' : (none : Option HO) = some u := z; cases z') (fun b z => absurd rfl z) fun z => absurd rfl z
  | none =>
    refine core (fun b => if b = a then some (.frz { cls := .type "list", data := .seq vs.toArray } (.lst (ns.map V.int))) else none) (fun b => ?_) (.inl (.inr ⟨{ cls := .type "list", data := .seq vs.toArray }, if_pos rfl⟩)) (fun b u z => ?_) (fun b z => ?_) fun _ => hk
    · by_cases hb : b = a
      · exact .inr ⟨_, _, if_pos hb⟩
      · exact .inl (if_neg hb)
    · by_cases hb : b = a
      · have z' := (if_pos hb).symm.trans z
        cases z'
        subst hb
        exact ⟨ha, by rw [List.length_map]; exact hl, vs, _, rv, ha⟩
      · have z' := (if_neg hb).symm.trans z
        cases z'
    · by_cases hb : b = a
      · exact hb
      · exact absurd (if_neg hb) z
end L2

namespace L2
open PySem PySem.Spec PyProof.Rows

abbrev KOf {K : PySem.W.Frag} {h : Heap} (_ : K.In h) : PySem.W.Frag := K

/-- the goal that k_head leaves (case hc), from the law's promise. F gives the function object fd (K's own) once, then the promise over every base -/
theorem walk_of {l : PySem.W.OpenLaw} {n k : Nat} {q : Program} {loose : List Str} {XP : (Str → Option Value) → Heap → Prop} {YP : World → Heap → Prop} {d : DefRec} {K : Params → PySem.W.Frag} {CX : World → CXT} {sp : World → Sp} {x : Str}
    (hn : l.most = some n) (hn2 : n ≤ sizeLine) (hdf : d.params.defaults = []) (hr : Room k callerA)
    (hY : ∀ (w : World) (h : Heap), YP w h → (K w.params).In h)
    (F : ∀ (w : World) (mg : Str → Option Value) (fa : Addr) (h : Heap), (K w.params).In h → h.Ns mainGlobals mg → mg d.name = some (.ref fa) →
      ∃ fd : FuncData, (∀ (s : Shared) (u : Value), BindsTo s fd ⟨[u], []⟩ [(x, u)]) ∧
        ∀ base : Heap, (K w.params).In base → base.Ns mainGlobals mg → FnOk l.prog w (K w.params) mg base (CX w) k fa fd [x] (sp w))
    (hsp : ∀ (w : World) (H : Hp) (a : Addr) (ns : List Int), ns.length ≤ n → Only H → SqL (K w.params) H a (ns.map V.int) → sp w [.ref a] H (fun v _ => v = .bl true) fun _ _ _ => False)
    (hCX : ∀ (w : World) (H : Hp) (s : Shared) (e : Value) (s' : Shared), CX w [] H s (fun _ _ _ => False) e s' → False) :
    PySem.W.WalkO q loose XP YP l.row.toRowW d [] (fun f vs => PySem.call f vs) := by
  refine Att.attach_call hn hdf fun w s₀ s₁ mg mb fa o pm cd doc a vs ns G Y ho hd hcd hmg hobj hints hlen hg => ?_
  have KX := hY w _ Y
  obtain ⟨fd, hb, hF⟩ := F w mg fa _ KX G.T.g hmg
  exact law_call KX G.T.g G.T.b G.T.builtins G.T.nolimit hg hobj hints (Nat.le_trans hlen hn2) hr hF hb (fun H hO hS => hsp w H a ns hlen hO hS) fun H e s' => hCX w H s₁ e s'
end L2

/- THE LAST THEOREM (shape; LID, My.* are yours):
   My.Adr: a structure of the addresses that your layer names (classes, functions); My.Txt K t: a structure (Prop) of the equations over K;
   My.txt_mk : {K} {implicit addresses ..} (e1 : nsIn K mainGlobals "law" = some (some (.ref f))) (e2 : K.lookup f = some ⟨oc, od, .func (fnOf "law" "law" params body scope dV kV doc pm an cdv ct), sl⟩) (e3 : codeIn K cdv "law" = true) .. : ∃ t, My.Txt K t

set_option maxRecDepth 100000 in
set_option maxHeartbeats 0 in
theorem PySem.Challenge.cw_LID_holds : PySem.Challenge.rw_LID.Holds := by
  w_on; o_law; k_head; (case hw => w_witness2)
  k_fill
  refine L2.walk_of (l := PySem.Challenge.rw_LID) (n := 63) (k := 40) (x := "script") (CX := fun w => ..) (sp := fun _ => My.sp_law) rfl (by decide) rfl ⟨rfl, by decide, by decide⟩ (fun w h Y => PySem.W.kIn_of Y) ?F ?S ?C
  case F =>
    intro w mg fa h KX G hmg
    have T : ∃ t, My.Txt (L2.KOf KX) t := by
      dsimp only [L2.KOf]                          -- K must stand as «<heap const> w.params» for k_is
      refine' My.txt_mk ?e1 ?e2 ?e3 ..
      (case e1 => PySem.W.k_is)                    -- in the order: a name -> its address -> its object -> its parts
      (case e2 => PySem.W.k_is)
      ..
    obtain ⟨t, T⟩ := T
    have e0 := hmg.symm.trans (PySem.W.mg_of KX G T.law)
    cases e0                                       -- fa is the law's own address
    exact ⟨_, fun s u => .of_eq rfl, fun base kb nb => My.law_fn T kb nb⟩     -- if «.of_eq rfl» comes too early: refine' ⟨_, ?b, fun base kb nb => My.law_fn T kb nb⟩; exact fun s u => .of_eq rfl
  case S => exact fun w H a ns hl hO hS => ..
  case C => exact ..
(the tactic k_is has no namespace: write k_is) -/

/-! SHORT WORDS over the layer: a def of the text, its body, what a loop and a test want. -/
namespace L2
open PySem PySem.Spec PyProof.Rows

/-! ### the text by places -/
def defArgs (s : Stmt) : Arguments := match s with
  | .FunctionDef _ a _ _ _ _ _ _ _ _ => a
  | _ => { posonlyargs := [], args := [], vararg := none, kwonlyargs := [], kw_defaults := [], kwarg := none, defaults := [] }
def defBody (s : Stmt) : List Stmt := match s with
  | .FunctionDef _ _ b _ _ _ _ _ _ _ => b
  | _ => []
def defScope (s : Stmt) : Scope := match s with
  | .FunctionDef _ _ _ _ _ _ sc _ _ _ => sc
  | _ => { kind := .function, names := [], isGenerator := false, isCoroutine := false }

/-! ### no exception leaves a def -/
abbrev CX0 : CXT := fun _ _ _ _ _ _ => False
abbrev E0 : XK := fun _ _ _ => False
theorem pass0 {X : Cx} : Passes CX0 X E0 := fun _ _ _ _ _ _ _ h => h.elim

/-! ### a def (or method) of the text as it stands behind the top -/
structure Fun (K : PySem.W.Frag) (x qual : Str) (st : Stmt) (f : Addr) (fd : FuncData) : Prop where
  ex : ∃ (oc : Value) (od : Option Addr) (kV doc pm : Value) (an : Option Addr) (cdv ct : Value) (osl : Array (Option Value)),
    fd = PySem.W.fnOf x qual (defArgs st) (defBody st) (defScope st) .none kV doc pm an cdv ct ∧ K.lookup f = some ⟨oc, od, .func fd, osl⟩ ∧ PySem.W.codeIn K cdv qual = true
  kp : PySem.W.keepIn K (.ref f) = true
section
variable {P : Program} {w : World} {K : PySem.W.Frag} {mg : Str → Option Value} {base : Heap}
/-- THE RULE for a def: its body as a term of rules, and the reading of that term -/
theorem Fun.ok {x qual : Str} {st : Stmt} {f : Addr} {fd : FuncData} {N ps : List Str} {k : Nat} {sp : Sp} (F : Fun K x qual st f fd) (S : FnScope N ps (defScope st)) (len : ∀ vs H Q E, sp vs H Q E → vs.length = ps.length)
    (hbody : ∀ (cdv : Value) (A : Around) (outer : List Env) (s : Shared) (H : Hp) (vs : List V) (Q : VK) (E : XK), Room k (A.deeper (envOfC qual (defScope st) s.heap.objs.size f cdv)) → sp vs H Q E →
      ∃ t, PSs (cxOf CX0 P w K mg base N qual (defScope st) f cdv A outer s H E).nox (defBody st) t ∧ t { nx := fun _ H' => Q .non H', rt := Q } (start N vs) H) : FnOk P w K mg base CX0 (k + 1) f fd ps sp := by
  obtain ⟨oc, od, kV, doc, pm, an, cdv, ct, osl, rfl, lk, hcd⟩ := F.ex
  refine fn_of lk hcd S len fun A outer s H vs Q E hr hsp => ?_
  obtain ⟨t, h, q⟩ := hbody cdv A outer s H vs Q E hr hsp
  exact ⟨t, h.nox, q⟩
/-- how its arguments bind (no defaults): h is «fun _ _ _ _ _ _ us hl => match us, hl with | [_, _], _ => rfl», one _ a parameter -/
theorem Fun.binds {x qual : Str} {st : Stmt} {f : Addr} {fd : FuncData} {ps : List Str} (F : Fun K x qual st f fd)
    (h : ∀ (kV doc pm : Value) (an : Option Addr) (cdv ct : Value) (us : List Value), us.length = ps.length → bindArgs (PySem.W.fnOf x qual (defArgs st) (defBody st) (defScope st) .none kV doc pm an cdv ct) ⟨us, []⟩ = pure (ps.zip us)) : Binds K fd ps [] := by
  obtain ⟨oc, od, kV, doc, pm, an, cdv, ct, osl, rfl, lk, hcd⟩ := F.ex
  exact .all (h kV doc pm an cdv ct)
theorem fun_mk {x qual : Str} {st : Stmt} {f : Addr} {oc : Value} {od an : Option Addr} {osl : Array (Option Value)} {kV doc pm cdv ct : Value} (l : K.lookup f = some ⟨oc, od, .func (PySem.W.fnOf x qual (defArgs st) (defBody st) (defScope st) .none kV doc pm an cdv ct), osl⟩)
    (c : PySem.W.codeIn K cdv qual = true) (k : PySem.W.keepIn K (.ref f) = true) : Fun K x qual st f (PySem.W.fnOf x qual (defArgs st) (defBody st) (defScope st) .none kV doc pm an cdv ct) := ⟨⟨oc, od, kV, doc, pm, an, cdv, ct, osl, rfl, l, c⟩, k⟩
end
theorem hu_of {A : Around} {k : Nat} (hr : Room k A) : A.units + 1 < cLine := Nat.lt_of_le_of_lt (Nat.add_le_add_left (by decide : 1 ≤ 64) _) hr.units
theorem small1000 {n : Nat} (h : n ≤ 1000) : n < sizeLine := Nat.lt_of_le_of_lt h (by decide)

/-! ### expressions in short: the name that stands in the i-th slot -/
section
variable {X : Cx}
theorem pv (i : Nat) {x : Str} {pos : Pos} (hN : X.N[i]? = some x := by rfl) (hv : Vis X.env.scope x := by first | exact Or.inl rfl | exact Or.inr (Or.inl rfl) | exact Or.inr (Or.inr rfl)) (hd : (x == ("__debug__" : Str)) = false := by decide)
    (hcd : (x == ("__classdict__" : Str)) = false := by decide) : PE X (.Name x pos) (tVar i) := pe_var hN hv hd hcd
end

/-! ### tests -/
theorem iteF {A B : Prop} (h : B) : if false = true then A else B := by
  rw [if_neg Bool.false_ne_true]
  exact h
theorem iteT {A B : Prop} (h : A) : if true = true then A else B := by
  rw [if_pos rfl]
  exact h
theorem ite2 {c A B : Prop} [Decidable c] (h1 : c → A) (h2 : ¬ c → B) : if c then A else B := by
  by_cases h : c
  · rw [if_pos h]
    exact h1 h
  · rw [if_neg h]
    exact h2 h
/-! ### heaps -/
/-- all that was tracked is as it was -/
def Same (H H' : Hp) : Prop := ∀ b o, H b = some o → H' b = some o
theorem Same.refl (H : Hp) : Same H H := fun _ _ h => h
theorem Same.trans {H H1 H2 : Hp} (a : Same H H1) (b : Same H1 H2) : Same H H2 := fun c o h => b c o (a c o h)
theorem Same.free {H H' : Hp} (e : Same H H') {l : Addr} (h : H' l = Option.none) : H l = Option.none := by
  cases q : H l with
  | none => rfl
  | some o =>
    rw [e l o q] at h
    cases h
theorem Same.seq {K : PySem.W.Frag} {H H' : Hp} {a : Addr} {xs : List V} (e : Same H H') (h : SqL K H a xs) : SqL K H' a xs := by
  rcases h with (h | ⟨o, h⟩) | h
  · exact .inl (.inl (e _ _ h))
  · exact .inl (.inr ⟨o, e _ _ h⟩)
  · exact .inr h

end L2

set_option Elab.async false
set_option linter.all false
set_option maxRecDepth 100000
set_option maxHeartbeats 4000000
namespace L2
open PySem PySem.Spec PyProof.Rows

/-! ### a list comprehension of one clause -/
theorem compLoop_go {prog : Program} {w : World} {A : Around} {R : Result → Shared → Prop} {s : Shared} {elt target iter : Expr} {ifs : List Expr} {scope : Scope} {pos : Pos} {it acc : Value} {env : Env} (I : Nat → Shared → Prop)
    (turn : ∀ n s, I n s → wpAny (model prog w) A (pyNext it) (fun r s1 => match r with
      | none => R (.ok .next) s1
      | some v => wpAny (model prog w) A (letOwnedTupleGo target it v) (fun _ s2 => wpAny (model prog w) A (assign target env v) (fun _ s3 =>
          wpAny (model prog w) A (forIn ifs true fun c r => if r = true then do let ok ← isTrue c env (eval c env); pure (ForInStep.yield ok) else pure (ForInStep.yield r)) (fun ok s4 =>
            if ok = true then wpAny (model prog w) A (eval elt env) (fun x s5 =>
              wpAny (model prog w) A (call (.builtin "list.append") [acc, x]) (fun _ s6 => ∃ m, m < n ∧ I m s6) (fun _ _ => False) s5) (fun _ _ => False) s4
            else ∃ m, m < n ∧ I m s4) (fun _ _ => False) s3) (fun _ _ => False) s2) (fun _ _ => False) s1) (fun _ _ => False) s)
    (n : Nat) (h : I n s) : codeAny (model prog w) A (.compLoop (.ListComp elt [⟨target, iter, ifs, 0⟩] scope pos) 0 it acc env) R s := by
  refine codeAny_loop rfl I (fun n s hI => ?_) n h
  show wpAny _ A ((compTurn (.ListComp elt [⟨target, iter, ifs, 0⟩] scope pos) 0 it acc env).onRaise (fun x => do noteFrame x env; theTreesLotGoes x)) _ _ s
  refine wpAny_noted ?_
  rw [compTurn_list]
  refine wpAny_bind (wpAny_standAt (wpAny_bind (wpAny_mono (turn n s hI) (fun r s1 h1 => ?_) fun _ _ z => z.elim)))
  cases r with
  | none => exact wpAny_pure h1
  | some v =>
    refine wpAny_bind (wpAny_mono h1 (fun _ s2 h2 => ?_) fun _ _ z => z.elim)
    refine wpAny_bind (wpAny_mono h2 (fun _ s3 h3 => wpAny_bind (wpAny_mono h3 (fun ok s4 h4 => ?_) fun _ _ z => z.elim)) fun _ _ z => z.elim)
    cases ok with
    | false => exact wpAny_pure ⟨rfl, h4⟩
    | true =>
      exact wpAny_bind (wpAny_bind (wpAny_mono h4 (fun x s5 h5 => wpAny_bind (wpAny_mono h5 (fun _ s6 h6 => wpAny_pure (wpAny_pure ⟨rfl, h6⟩)) fun _ _ z => z.elim)) fun _ _ z => z.elim))

/-- the clause's tests -/
def PTs (X : Cx) (ifs : List Expr) (t : TT) : Prop :=
  ∀ (pins : List (Addr × Obj)) (s : Shared) (σ : St) (H : Hp) (Q : Bool → Hp → Prop), Inv X pins σ H s → t σ H Q →
    wpAny (model X.prog X.w) X.A (forIn ifs true fun c r => if r = true then do let ok ← isTrue c X.env (eval c X.env); pure (ForInStep.yield ok) else pure (ForInStep.yield r)) (TP X pins σ Q) X.xe s
def tNoIf : TT := fun _ H Q => Q true H
theorem pts_nil {X : Cx} : PTs X [] tNoIf := fun _ _ _ H _ I h => wpAny_tests_nil ⟨H, I, h⟩
theorem pts_one {X : Cx} {c : Expr} {t : TT} (hc : PT X c t) : PTs X [c] t := fun pins s σ H Q I h => wpAny_tests_one (hc pins s σ H Q I h)

/-- closureFor picks the cells of the frame around -/
theorem cells_for (env : Env) (g : (Str × NameKind) → List (Str × Addr) → Sem (ForInStep (List (Str × Addr)))) (hg : ∀ x cs, g x cs = if (x.2 == NameKind.free) = true then cellOf env x.1 >>= fun c => pure (ForInStep.yield ((x.1, c) :: cs)) else pure (ForInStep.yield cs)) :
    ∀ (names : List (Str × NameKind)) (cs : List (Str × Addr)), (∀ y ∈ names, y.2 = .free → ∃ c, env.cells.lookup y.1 = some c) → (∀ x c, cs.lookup x = some c → env.cells.lookup x = some c) →
    ∃ cl, forIn names cs g = pure cl ∧ (∀ x c, cl.lookup x = some c → env.cells.lookup x = some c) ∧ (∀ x, (x, NameKind.free) ∈ names ∨ (∃ c, cs.lookup x = some c) → ∃ c, cl.lookup x = some c) := by
  intro names
  induction names with
  | nil =>
    intro cs _ hcs
    exact ⟨cs, rfl, hcs, fun x h => h.elim (fun z => nomatch z) id⟩
  | cons y r ih =>
    intro cs hfr hcs
    obtain ⟨n, k⟩ := y
    by_cases hk : k = .free
    · subst hk
      obtain ⟨c, hc⟩ := hfr (n, .free) List.mem_cons_self rfl
      obtain ⟨cl, e, h1, h2⟩ := ih ((n, c) :: cs) (fun z hz => hfr z (List.mem_cons_of_mem _ hz)) (fun x c' hx => by
        by_cases hxn : x = n
        · subst hxn; simp [List.lookup_cons] at hx; rw [hc, hx]
        · have : (x == n) = false := by simpa using hxn
          simp [List.lookup_cons, this] at hx; exact hcs x c' hx)
      refine ⟨cl, ?_, h1, fun x hx => h2 x ?_⟩
      · rw [List.forIn_cons, hg]
        simp only [beq_self_eq_true, if_true]
        have ec : cellOf env n = pure c := by unfold cellOf; rw [hc]
        rw [ec]
        simpa using e
      · rcases hx with hx | ⟨c', hx⟩
        · rcases List.mem_cons.mp hx with z | z
          · cases z; exact .inr ⟨c, by simp [List.lookup_cons]⟩
          · exact .inl z
        · refine .inr ?_
          by_cases hxn : x = n
          · subst hxn; exact ⟨c, by simp [List.lookup_cons]⟩
          · have : (x == n) = false := by simpa using hxn
            exact ⟨c', by simpa [List.lookup_cons, this] using hx⟩
    · obtain ⟨cl, e, h1, h2⟩ := ih cs (fun z hz => hfr z (List.mem_cons_of_mem _ hz)) hcs
      refine ⟨cl, ?_, h1, fun x hx => h2 x ?_⟩
      · rw [List.forIn_cons, hg]
        have : (k == NameKind.free) = false := by simpa using hk
        simp only [this, Bool.false_eq_true, if_false]
        simpa using e
      · rcases hx with hx | hx
        · rcases List.mem_cons.mp hx with z | z
          · cases z; exact absurd rfl hk
          · exact .inl z
        · exact .inr hx
theorem closure_of {scope : Scope} {env : Env} (hfr : ∀ y ∈ scope.names, y.2 = .free → ∃ c, env.cells.lookup y.1 = some c) :
    ∃ cl, closureFor scope env = pure cl ∧ (∀ x c, cl.lookup x = some c → env.cells.lookup x = some c) ∧ ∀ x, (x, NameKind.free) ∈ scope.names → ∃ c, cl.lookup x = some c := by
  obtain ⟨cl, e, h1, h2⟩ := cells_for env _ (fun x cs => rfl) scope.names [] hfr (fun x c h => by simp at h)
  refine ⟨cl, ?_, h1, fun x hx => h2 x (.inl hx)⟩
  unfold closureFor
  simp only [bind_pure]
  refine Eq.trans ?_ e
  congr 1

/-- the block's context -/
def Cx.comp (X : Cx) (N : List Str) (scope : Scope) (cl : List (Str × Addr)) (s : Shared) (H : Hp) (fp : List Addr) (C : Addr) : Cx :=
  { X with N := N, s₀ := s, H₀ := H, env := compEnvC scope cl C X.env, outer := X.stack, stack := X.stack, ex := fp, fn := fun _ => false, pn := [], xe := fun _ _ => False }
/-- the block's slots: the names it closes over have their places (in the frame around), the others none -/
def inner (im : List (Option Nat)) (σ : St) : St := im.map fun o => match o with
  | none => none
  | some i => (σ[i]?).getD none
def CompAt (im : List (Option Nat)) (g : TG) (tc : TT) (te : TE) (σ : St) (Q : VK) (J : It) (H1 : Hp) : Prop := ∃ W : Nat → Nat → List V → Hp → Prop, (∃ m, W 0 m [] H1) ∧ ∀ i m ys H, W i m ys H →
  ys.length ≤ sizeLine ∧ ((J.stop i H ∧ ∀ D, H D = none → Q (.ref D) (upd H D (.lst ys))) ∨
    (J.go i H ∧ ∀ x H', J.yld i H x H' → g x (inner im σ) H' fun σ2 H2 => tc σ2 H2 fun b H3 =>
      if b = true then te σ2 H3 fun y H4 => ∃ m', m' < m ∧ W (i + 1) m' (ys ++ [y]) H4 else ∃ m', m' < m ∧ W (i + 1) m' ys H3))
def tComp (im : List (Option Nat)) (wi : TI) (g : TG) (tc : TT) (te : TE) : TE := fun σ H Q => wi σ H (CompAt im g tc te σ Q)

theorem lookup_relabel_free {env : Env} : ∀ {names : List (Str × NameKind)} {x : Str}, names.lookup x = some .free →
    (names.map fun (n, k) => if (k == NameKind.free && env.scope.kind == .function && env.kindOf n == some .cell) then (n, NameKind.cell) else (n, k)).lookup x = some .cell ∨
    (names.map fun (n, k) => if (k == NameKind.free && env.scope.kind == .function && env.kindOf n == some .cell) then (n, NameKind.cell) else (n, k)).lookup x = some .free
  | [], _, h => by simp at h
  | (n, k) :: r, x, h => by
    have ih := @lookup_relabel_free env r x
    cases hx : x == n with
    | true =>
      simp only [List.lookup_cons, hx] at h
      cases h
      by_cases hc : (NameKind.free == NameKind.free && env.scope.kind == .function && env.kindOf n == some .cell) = true
      · left; rw [List.map_cons]; simp only [if_pos hc, List.lookup_cons, hx]
      · right; rw [List.map_cons]; simp only [if_neg hc, List.lookup_cons, hx]
    | false =>
      simp only [List.lookup_cons, hx] at h
      rw [List.map_cons]
      by_cases hc : (k == NameKind.free && env.scope.kind == .function && env.kindOf n == some .cell) = true
      · simp only [if_pos hc, List.lookup_cons, hx]; exact ih h
      · simp only [if_neg hc, List.lookup_cons, hx]; exact ih h
theorem relabel_inv {env : Env} : ∀ {names : List (Str × NameKind)} {x : Str} {k : NameKind},
    (names.map fun (n, k) => if (k == NameKind.free && env.scope.kind == .function && env.kindOf n == some .cell) then (n, NameKind.cell) else (n, k)).lookup x = some k → (k = .cell ∨ k = .free) → (∀ y ∈ names, y.2 ≠ NameKind.cell) → (x, NameKind.free) ∈ names
  | [], _, _, h, _, _ => by simp at h
  | (n, k0) :: r, x, k, h, hk, hc => by
    rw [List.map_cons] at h
    have ih := @relabel_inv env r x k
    by_cases hcc : (k0 == NameKind.free && env.scope.kind == .function && env.kindOf n == some .cell) = true
    · simp only [if_pos hcc, List.lookup_cons] at h
      have hk0 : k0 = .free := by simp at hcc; exact hcc.1.1
      cases hx : x == n with
      | true => have e : x = n := by simpa using hx
                subst e; subst hk0; exact List.mem_cons_self
      | false => simp only [hx] at h; exact List.mem_cons_of_mem _ (ih h hk fun y hy => hc y (List.mem_cons_of_mem _ hy))
    · simp only [if_neg hcc, List.lookup_cons] at h
      cases hx : x == n with
      | true =>
        simp only [hx] at h
        cases h
        have e : x = n := by simpa using hx
        subst e
        rcases hk with z | z
        · exact absurd z (hc (x, k0) List.mem_cons_self)
        · subst z; exact List.mem_cons_self
      | false => simp only [hx] at h; exact List.mem_cons_of_mem _ (ih h hk fun y hy => hc y (List.mem_cons_of_mem _ hy))

section
variable {X : Cx} {N : List Str} {scope : Scope} {cl : List (Str × Addr)} {fp : List Addr} {C : Addr}
theorem Cx.comp_ok {pins : List (Addr × Obj)} {σ : St} {H : Hp} {s : Shared} (I : Inv X pins σ H s) (hkind : scope.kind = .function) (hcell : ∀ y ∈ scope.names, y.2 ≠ .cell)
    (h1 : ∀ x c, cl.lookup x = some c → X.env.cells.lookup x = some c) (h2 : ∀ x, (x, NameKind.free) ∈ scope.names → ∃ c, cl.lookup x = some c)
    (hf : ∀ b ∈ fp, FpOk X pins H b) (hC : s.heap.objs.size ≤ C) (hfs : ∀ b ∈ fp, b < C) : (X.comp N scope cl s H fp C).Ok where
  mod := I.ok.mod
  kind := hkind
  glob := I.ok.glob
  blt := I.ok.blt
  above := hC
  inj := fun x y c a b => I.ok.inj x y c (h1 x c a) (h1 y c b)
  has := fun x hx => by
    refine h2 x ?_
    rcases hx with hx | hx
    · exact relabel_inv hx (.inl rfl) hcell
    · exact relabel_inv hx (.inr rfl) hcell
  cab := fun x c z => nomatch z
  hd := I.ok.hd
  frames := I.ok.frames
  stk := .inl rfl
  exf := fun b hb => ⟨Nat.ne_of_lt (hfs b hb), fun x c e => (hf b hb).2.2.2.2.1 x c (h1 x c e)⟩
  bs := I.bs
  bsz := Nat.le_trans I.ok.bsz (Nat.le_trans I.ok.above (Nat.le_of_lt I.lt))
  noex := fun b o e hb => by
    obtain ⟨_, _, _, z, _⟩ := hf b hb
    rcases z with z | z
    · exact I.ok.noex b o e z
    · exact absurd (Nat.lt_of_lt_of_le (Heap.lt_size (I.ok.bs b o e).1) z) (Nat.lt_irrefl _)
  exfs := fun b hb hs => by
    obtain ⟨_, z1, z2, _⟩ := hf b hb
    rcases List.mem_cons.mp (I.stkSub b hs) with z | z
    · exact z1 z
    · exact z2 z
  funs := I.stack
  frf := I.stkFree

/-- a cell that stood at the block's entry stands -/
theorem Inv.cellK {pins : List (Addr × Obj)} {σ : St} {H H0 : Hp} {s s0 : Shared} (I : Inv (X.comp N scope cl s0 H0 fp C) pins σ H s) {pins0 : List (Addr × Obj)} {σ0 : St} (I0 : Inv X pins0 σ0 H0 s0)
    (h1 : ∀ x c, cl.lookup x = some c → X.env.cells.lookup x = some c) (hf : ∀ b ∈ fp, FpOk X pins0 H0 b) {x : Str} {c : Addr} (hc : cl.lookup x = some c) {v : Option Value} (q : s0.heap.IsCell c v) : s.heap.IsCell c v := by
  obtain ⟨o, e, d⟩ := q
  have hx := h1 x c hc
  have nf : c ∉ fp := fun z => (hf c z).2.2.2.2.1 x c hx rfl
  obtain ⟨sl, e'⟩ := I.base.any (show s0.heap.get? c = some o from e) (I0.freeC x c hx) nf
  exact ⟨_, e', d⟩
/-- the block's slots as at its entry -/
theorem Inv.reset {pins : List (Addr × Obj)} {σ : St} {H H0 : Hp} {s s0 : Shared} {im : List (Option Nat)} (I : Inv (X.comp N scope cl s0 H0 fp C) pins σ H s) {pins0 : List (Addr × Obj)} {σ0 : St} (I0 : Inv X pins0 σ0 H0 s0)
    (h1 : ∀ x c, cl.lookup x = some c → X.env.cells.lookup x = some c) (h2 : ∀ x, (x, NameKind.free) ∈ scope.names → ∃ c, cl.lookup x = some c) (hf : ∀ b ∈ fp, FpOk X pins0 H0 b) (hl : N.length = im.length)
    (him : ∀ (i : Nat) (x : Str) (j : Nat), N[i]? = some x → im[i]? = some (some j) → X.N[j]? = some x ∧ scope.names.lookup x = some .free ∧ (x, NameKind.free) ∈ scope.names ∧ (X.env.kindOf x = some .cell ∨ X.env.kindOf x = some .free)) :
    Inv (X.comp N scope cl s0 H0 fp C) pins (inner im σ0) H s := by
  refine ⟨I.ok, I.os, I.bare, I.base, ?_, I.cell, I.free, I.freeC, I.pin, I.hok, ?_⟩
  · obtain ⟨m, hn, _⟩ := I.loc
    refine ⟨m, hn, fun i x v e1 e2 _ => ?_⟩
    unfold inner at e2
    rw [List.getElem?_map] at e2
    cases q : im[i]? with
    | none => rw [q] at e2; cases e2
    | some o =>
      rw [q] at e2
      cases o with
      | none => cases e2
      | some j =>
        have e2' : (σ0[j]?).getD none = some v := by simpa using e2
        obtain ⟨a1, a2, a3, a4⟩ := him i x j e1 q
        have e3 : σ0[j]? = some (some v) := by
          cases z : σ0[j]? with
          | none => rw [z] at e2'; cases e2'
          | some w => rw [z] at e2'; simp at e2'; rw [e2']
        have vis : Vis X.env.scope x := .inr a4
        obtain ⟨m0, hn0, hl0⟩ := I0.loc
        obtain ⟨u, ru, lk⟩ := hl0 j x v a1 e3 vis
        refine ⟨u, ru, ?_⟩
        rcases lk with ⟨k, _⟩ | ⟨_, c, hc, q⟩
        · rcases a4 with a4 | a4 <;> (rw [a4] at k; cases k)
        · obtain ⟨c', hc'⟩ := h2 x a3
          have : c' = c := by have := h1 x c' hc'; rw [hc] at this; exact (Option.some.inj this).symm
          subst this
          refine .inr ⟨lookup_relabel_free a2, c', hc', I.cellK I0 h1 hf hc' q⟩
  · show (im.map _).length = N.length
    rw [List.length_map, hl]
end

section
variable {X : Cx}
theorem comp_core {elt tg iter : Expr} {ifs : List Expr} {scope : Scope} {pos : Pos} {wi : TI} {g : TG} {tc : TT} {te : TE} (N : List Str) (im : List (Option Nat))
    (hi : PI X tg iter wi)
    (hg : ∀ cl s H fp C, PG (X.comp N scope cl s H fp C) tg g)
    (ht : ∀ cl s H fp C, PTs (X.comp N scope cl s H fp C) ifs tc)
    (he : ∀ cl s H fp C, PE (X.comp N scope cl s H fp C) elt te)
    (hc : X.calm = true := by rfl) (hkind : scope.kind = .function := by rfl) (hcell : ∀ y ∈ scope.names, y.2 ≠ .cell := by decide +kernel)
    (hnames : ∀ y ∈ scope.names, y.2 = .local → scope.names.lookup y.1 = some .local := by decide +kernel)
    (hfree : (scope.names.all fun y => y.2 != .free || (X.env.kindOf y.1 == some .cell || X.env.kindOf y.1 == some .free)) = true := by rfl)
    (hl : N.length = im.length := by rfl)
    (him : ((N.zip im).all fun p => match p.2 with
      | none => true
      | some j => X.N[j]? == some p.1 && scope.names.lookup p.1 == some .free) = true := by rfl)
    (hs : ∀ x, foldedSetIterable iter X.env x = pure x := by intro _; rfl)
    {use : Option (Value → Sem Unit)} {QQ : Value → Shared → Prop} {pins : List (Addr × Obj)} {s : Shared} {σ : St} {H : Hp} {Q : VK} {pos2 : Pos} (I : Inv X pins σ H s) (h : tComp im wi g tc te σ H Q)
    (fin : ∀ (s4 : Shared) (m : Str → Option Value) (C D : Addr) (H4 : Hp), s4.heap.Ns C m → (∀ h', Heap.SameBut C s4.heap h' → Inv X pins σ H4 { s4 with heap := h' }) → H4 C = none → C ≠ X.env.locals → C ∉ X.fs → (∀ x c, X.env.cells.lookup x = some c → c ≠ C) → (∀ p ∈ X.pn ++ pins, C ≠ p.1) → X.s₀.heap.objs.size ≤ C → Q (.ref D) H4 →
      compPost (model X.prog X.w) X.A X.xe use QQ (.ref D) C (.ok .next) s4) :
    wpAny (model X.prog X.w) X.A (comprehension (.ListComp elt [⟨tg, iter, ifs, 0⟩] scope pos) scope X.env pos2 (newList []) false (eval iter X.env) use) QQ X.xe s := by
  have hfree' : ∀ y ∈ scope.names, y.2 = .free → (X.env.kindOf y.1 = some .cell ∨ X.env.kindOf y.1 = some .free) := fun y hy hyf => by
    have := List.all_eq_true.mp hfree y hy
    simpa [hyf] using this
  obtain ⟨cl, hclos, h1, h2⟩ := closure_of (scope := scope) (env := X.env) fun y hy hyf => I.ok.has y.1 (hfree' y hy hyf)
  have him' : ∀ (i : Nat) (x : Str) (j : Nat), N[i]? = some x → im[i]? = some (some j) → X.N[j]? = some x ∧ scope.names.lookup x = some .free ∧ (x, NameKind.free) ∈ scope.names ∧ (X.env.kindOf x = some .cell ∨ X.env.kindOf x = some .free) := fun i x j e1 e2 => by
    have hm : (x, some j) ∈ N.zip im := by
      refine List.mem_iff_getElem?.mpr ⟨i, ?_⟩
      rw [List.getElem?_zip_eq_some]; exact ⟨e1, e2⟩
    have z := List.all_eq_true.mp him _ hm
    simp at z
    have m : (x, NameKind.free) ∈ scope.names := by
      have lk := z.2
      clear z hm
      revert lk
      generalize scope.names = ns
      induction ns with
      | nil => intro lk; simp at lk
      | cons y r ih =>
        intro lk
        obtain ⟨n, k⟩ := y
        cases hx : x == n with
        | true => simp only [List.lookup_cons, hx] at lk; cases lk; have e : x = n := by simpa using hx
                  subst e; exact List.mem_cons_self
        | false => simp only [List.lookup_cons, hx] at lk; exact List.mem_cons_of_mem _ (ih lk)
    exact ⟨z.1, z.2, m, hfree' _ m rfl⟩
  refine wpAny_comprehension_free (use := use) rfl hs hclos hkind hnames (thn (hi pins s σ H _ I h) fun v s1 hh1 => thn hh1 fun itv s2 hh2 => ?_)
  obtain ⟨it, fp, tn, J, H2, e, I2, T, st2, f2, W, ⟨m0, w0⟩, turn⟩ := hh2
  subst e
  refine wpAny_newObj_type (wpAny_newFunctionEnv hcell (by intro y hy; simp at hy) (fun h₁ hns₁ hsb₁ => ?_) hkind)
  dsimp only at hns₁ hsb₁ ⊢
  have hD : s2.heap.objs.size = s2.heap.objs.size := rfl
  generalize hP : s2.heap.push { cls := .type "list", dict := none, data := .seq ([] : List Value).toArray } = P2 at hns₁ hsb₁ ⊢
  have hCs : P2.objs.size = s2.heap.objs.size + 1 := by rw [← hP, Heap.size_push]
  generalize hC : P2.objs.size = C at hns₁ hsb₁ ⊢
  have hC' : C = s2.heap.objs.size + 1 := by rw [← hC, hCs]
  generalize hDD : s2.heap.objs.size = D at hC' ⊢
  have hCle : s2.heap.objs.size ≤ C := by rw [hDD, hC']; exact Nat.le_succ _
  have hDC : D ≠ C := by rw [hC']; exact Nat.ne_of_lt (Nat.lt_succ_self _)
  have old : ∀ b o, s2.heap.get? b = some o → h₁.get? b = some o := fun b o e =>
    hsb₁.extBut b o (Nat.ne_of_lt (Nat.lt_of_lt_of_le (Heap.lt_size e) hCle)) (Heap.get?_push_of_some _ (hP ▸ Heap.get?_push_of_some _ e))
  have hacc : h₁.get? D = some { cls := .type "list", data := .seq ([] : List Value).toArray 0 } := by
    refine hsb₁.extBut _ _ hDC (Heap.get?_push_of_some _ ?_)
    rw [← hP, ← hDD]
    exact Heap.get?_push_size _ rfl
  have fpl : ∀ b ∈ fp, b < s2.heap.objs.size := fun b hb => by obtain ⟨o, e, _⟩ := T.obj _ _ st2 b hb; exact Heap.lt_size e
  have fpC : ∀ b ∈ fp, b < C := fun b hb => Nat.lt_of_lt_of_le (fpl b hb) hCle
  have fpD : ∀ b ∈ fp, b ≠ D := fun b hb => by have := fpl b hb; rw [hDD] at this; exact Nat.ne_of_lt this
  have Yok : (X.comp N scope cl s2 H2 fp C).Ok := Cx.comp_ok I2 hkind hcell h1 h2 f2 hCle fpC
  -- the block's invariant at its entry
  have IY0 : Inv (X.comp N scope cl s2 H2 fp C) [] (inner im σ) H2 { s2 with heap := h₁, toks := s2.toks + ([] : List (Str × Value)).length } := by
    have I3 : Inv (X.comp N scope cl s2 H2 fp C) [] (N.map fun _ => none) H2 { s2 with heap := h₁, toks := s2.toks + ([] : List (Str × Value)).length } := by
      refine ⟨Yok, rfl, I2.bare, Un.kept old, ⟨_, hns₁, fun i x v e1 e2 _ => ?_⟩, fun x c e => ?_, ?_, fun x c e => I2.freeC x c (h1 x c e), (fun p hp => nomatch hp), I2.hok.kept old, by rw [List.length_map]; rfl⟩
      · rw [List.getElem?_map] at e2
        cases q : N[i]? with
        | none => rw [q] at e2; cases e2
        | some o => rw [q] at e2; cases e2
      · obtain ⟨v, o, q, d⟩ := I2.cell x c (h1 x c e)
        exact ⟨v, o, old _ _ q, d⟩
      · show H2 C = none
        exact I2.hok.fresh hCle
    exact I3.reset I2 h1 h2 f2 hl him'
  have fpok : ∀ {H3 : Hp} {pp : List (Addr × Obj)}, (∀ b ∈ fp, H3 b = none) → (∀ p ∈ pp, p.1 = D) → ∀ b ∈ fp, FpOk (X.comp N scope cl s2 H2 fp C) pp H3 b := fun {H3 pp} hn hp b hb =>
    ⟨hn b hb, Nat.ne_of_lt (fpC b hb), fun z => Yok.exfs b hb z, .inl hb, fun x c e => (f2 b hb).2.2.2.2.1 x c (h1 x c e), fun p hpp => by
      rcases List.mem_append.mp hpp with z | z
      · exact nomatch z
      · rw [hp p z]; exact Ne.symm (fpD b hb)⟩
  have hH2D : H2 D = none := I2.hok.fresh (by rw [hDD]; exact Nat.le_refl _)
  have loop : ∀ s3 : Shared, s3 = { s2 with heap := h₁, toks := s2.toks + ([] : List (Str × Value)).length } →
      codeAny (model X.prog X.w) X.A (.compLoop (.ListComp elt [⟨tg, iter, ifs, 0⟩] scope pos) 0 (.ref it) (.ref D) (compEnvC scope cl C X.env))
        (compPost (model X.prog X.w) X.A X.xe use QQ (.ref D) C) s3 := by
    rintro s3 rfl
    refine compLoop_go (fun k s' => ∃ i ys its n σ' H', Inv (X.comp N scope cl s2 H2 fp C) [] σ' H' s' ∧ tn i s'.heap ∧ (∀ b ∈ fp, H' b = none) ∧ H' D = none ∧ s'.heap.get? D = some { cls := .type "list", data := .seq its n } ∧ Vals ys its.toList ∧ W i k ys H') ?_ m0
      ⟨0, [], _, 0, _, H2, IY0, T.keep _ _ _ st2 (fun b hb o e => old b o e), fun b hb => (f2 b hb).1, hH2D, hacc, .nil, w0⟩
    rintro k s' ⟨i, ys, its, n, σ', H3, I3, st3, fr3, hD3, e3, v3, w3⟩
    have I3' := I3.reset I2 h1 h2 f2 hl him'
    obtain ⟨hsz, alt⟩ := turn i k ys H3 w3
    have hDs : s2.heap.objs.size ≤ D := by rw [hDD]; exact Nat.le_refl _
    have hDfs : D ∉ (X.comp N scope cl s2 H2 fp C).fs := fun z => by
      obtain ⟨_, o, ho, _⟩ := Yok.funs.mem z
      exact absurd (Nat.lt_of_lt_of_le (Heap.lt_size ho) hDs) (Nat.lt_irrefl _)
    have hDc : ∀ x c, cl.lookup x = some c → c ≠ D := fun x c e z => by
      obtain ⟨v, q⟩ := I2.cell x c (h1 x c e)
      exact absurd (Nat.lt_of_lt_of_le q.lt (by rw [z]; exact hDs)) (Nat.lt_irrefl _)
    have I3p : Inv (X.comp N scope cl s2 H2 fp C) [(D, { cls := .type "list", data := .seq its n })] (inner im σ) H3 s' := I3'.pins_of fun p hp => by
      have : p = (D, { cls := .type "list", data := .seq its n }) := by simpa using hp
      subst this
      exact ⟨e3, hD3, hDC, hDfs, fun v z => by cases z⟩
    have onlyD : ∀ p ∈ [((D, { cls := .type "list", data := .seq its n }) : Addr × Obj)], p.1 = D := fun p hp => by
      have : p = (D, { cls := .type "list", data := .seq its n }) := by simpa using hp
      rw [this]
    rcases alt with ⟨stop, q⟩ | ⟨go, step⟩
    · refine thn (T.done (X.comp N scope cl s2 H2 fp C) rfl rfl rfl hc i _ s' _ H3 _ I3p (fpok fr3 onlyD) st3 stop) fun r s4 hh4 => ?_
      obtain ⟨hr, I4⟩ := hh4
      subst hr
      have e4 : s4.heap.get? D = some { cls := .type "list", data := .seq its n } := (I4.pin (D, _) (List.mem_append_right _ (by simp))).1
      obtain ⟨m, hn, _⟩ := I4.loc
      have KK : ∀ h', Heap.SameBut C s4.heap h' → Inv X pins σ (upd H3 D (.lst ys)) { s4 with heap := h' } := fun h' hs' => by
        have keep' : ∀ b o, b ≠ C → s4.heap.get? b = some o → h'.get? b = some o := fun b o hb e => hs'.extBut b o hb e
        have nC : ∀ b o, s2.heap.get? b = some o → b ≠ C := fun b o e => Nat.ne_of_lt (Nat.lt_of_lt_of_le (Heap.lt_size e) hCle)
        have nD : ∀ b o, s2.heap.get? b = some o → b ≠ D := fun b o e => Nat.ne_of_lt (Nat.lt_of_lt_of_le (Heap.lt_size e) hDs)
        have u4 := I4.base
        have un : Un (frs X.stack) fp H2 (upd H3 D (.lst ys)) s2.heap h' := by
          refine ⟨fun b o e nn hb hx => keep' b o (nC b o e) (u4.keep b o e nn hb hx), fun b o e nn hb hx => ?_, fun b o e nn hx => ?_, fun b o e hx => ?_, fun b xs e => ?_, fun b o xs e => ?_, fun b ps e => ?_⟩
          · obtain ⟨sl, z⟩ := u4.slot b o e nn hb hx
            exact ⟨sl, keep' b _ (nC b o e) z⟩
          · rw [upd_ne (nD b o e)]; exact u4.free b o e nn hx
          · obtain ⟨o', z⟩ := u4.there b o e hx
            exact ⟨o', keep' b _ (nC b o e) z⟩
          · rw [upd_ne (ne_of_none (u4.tups b xs e) hD3)]; exact u4.tups b xs e
          · rw [upd_ne (ne_of_none (u4.frzs b o xs e) hD3)]; exact u4.frzs b o xs e
          · obtain ⟨more, z⟩ := u4.tbls b ps e
            exact ⟨more, by rw [upd_ne (ne_of_none z hD3)]; exact z⟩
        have hH3C : H3 C = none := I4.free
        have hok : HOk X.prog X.w (upd H3 D (.lst ys)) h' := fun b o e => by
          by_cases hb : b = D
          · subst hb
            rw [upd_same] at e
            cases e
            refine ⟨hsz, its.toList, n, v3, ?_⟩
            have z := keep' _ _ hDC e4
            simpa using z
          · rw [upd_ne hb] at e
            refine (I4.hok b o e).stay (fun c v hcc z => keep' c v ?_ z) (fun c z => by rw [upd_ne (ne_of_none z hD3)]; exact z) fun c xs z => by rw [upd_ne (ne_of_none z hD3)]; exact z
            rintro rfl
            rcases hcc with z | z
            · rw [← z] at e; rw [hH3C] at e; cases e
            · rw [hH3C] at z; cases z
        refine I2.call' (s' := { s4 with heap := h' }) I4.os un hok I4.bare (fun b hb => ?_)
        obtain ⟨_, g1, _, g2, g3, g4⟩ := f2 b hb
        exact ⟨g2, g1, g3, g4⟩
      have hH3C : H3 C = none := I4.free
      refine fin s4 m C D _ hn KK ?_ ?_ ?_ ?_ ?_ ?_ (q D hD3)
      · rw [upd_ne (Ne.symm hDC)]; exact hH3C
      · exact Ne.symm (Nat.ne_of_lt (Nat.lt_of_lt_of_le I2.lt hCle))
      · exact I2.nofs hCle
      · intro x c e z
        obtain ⟨v, qq⟩ := I2.cell x c e
        exact absurd (Nat.lt_of_lt_of_le qq.lt (by rw [z]; exact hCle)) (Nat.lt_irrefl _)
      · intro p hp z
        have := (I2.pin p hp).1
        exact absurd (Nat.lt_of_lt_of_le (Heap.lt_size this) (by rw [← z]; exact hCle)) (Nat.lt_irrefl _)
      · exact Nat.le_trans I2.sz hCle
    · refine thn (T.item (X.comp N scope cl s2 H2 fp C) rfl rfl rfl hc i _ s' _ H3 _ I3p (fpok fr3 onlyD) st3 go) fun r s4 hh4 => ?_
      obtain ⟨u, hr, hh4⟩ := hh4
      subst hr
      refine thn hh4 fun _ s5 ⟨x, H5, I5, r5, y5, st5, fr5⟩ => ?_
      have I5' := I5.pinned (fpok fr5 onlyD) (T.obj _ _ st5)
      refine thn (hg cl s2 H2 fp C _ s5 _ H5 x u _ I5' r5 (step x H5 y5)) fun _ s6 ⟨σ6, H6, I6, q6⟩ => ?_
      refine thn (ht cl s2 H2 fp C _ s6 σ6 H6 _ I6 q6) fun b s7 ⟨H7, I7, q7⟩ => ?_
      have after : ∀ {s8 : Shared} {σ8 : St} {H8 : Hp}, Inv (X.comp N scope cl s2 H2 fp C) ([(D, { cls := .type "list", data := .seq its n })] ++ pinsAt fp s5.heap) σ8 H8 s8 → tn (i + 1) s8.heap ∧ (∀ b ∈ fp, H8 b = none) ∧ H8 D = none ∧ s8.heap.get? D = some { cls := .type "list", data := .seq its n } := fun {s8 σ8 H8} I8 => by
        refine ⟨T.keep _ _ _ st5 fun b hb o e => (I8.pin (b, o) (List.mem_append_right _ (List.mem_append_right _ (mem_pinsAt hb e)))).1, fun b hb => ?_, ?_⟩
        · obtain ⟨o, e, d⟩ := T.obj _ _ st5 b hb
          exact (I8.pin (b, o) (List.mem_append_right _ (List.mem_append_right _ (mem_pinsAt hb e)))).2.1
        · have z := I8.pin (D, { cls := .type "list", data := .seq its n }) (List.mem_append_right _ (List.mem_append_left _ (by simp)))
          exact ⟨z.2.1, z.1⟩
      cases b with
      | false =>
        rw [if_neg Bool.false_ne_true] at q7 ⊢
        obtain ⟨m', hm, w7⟩ := q7
        obtain ⟨a1, a2, a3, a4⟩ := after I7
        exact ⟨m', hm, i + 1, ys, its, n, σ6, H7, I7.pins_of (fun p hp => nomatch hp), a1, a2, a3, a4, v3, w7⟩
      | true =>
        rw [if_pos rfl] at q7 ⊢
        refine thn (he cl s2 H2 fp C _ s7 σ6 H7 _ I7 q7) fun u8 s8 ⟨y8, H8, I8, r8, m', hm, w8⟩ => ?_
        obtain ⟨a1, a2, a3, a4⟩ := after I8
        have hlen : its.size ≤ sizeLine := by
          have z := v3.length
          have el : its.toList.length = its.size := by simp
          omega
        refine append_at (hsz := hlen) a4 fun h9 hs9 e9 => ?_
        have I9 : Inv (X.comp N scope cl s2 H2 fp C) [] σ6 H8 { s8 with heap := h9, toks := s8.toks } :=
          Inv.turned (I8.pins_of (pins' := []) (fun p hp => nomatch hp)) (fun b o hb e => hs9.extBut b o hb e) a3 hDC (.inr hDs) hDc (fun p hp => by
            rcases List.mem_append.mp hp with z | z <;> exact nomatch z)
        refine ⟨m', hm, i + 1, ys ++ [y8], its.push u8, n + 1, σ6, H8, I9, T.keep _ _ _ a1 (fun b hb o e => hs9.extBut b o (fpD b hb) e), a2, a3, e9, ?_, w8⟩
        rw [Array.toList_push]
        exact Vals.append v3 (.cons r8 .nil)
  exact codeAny_compStart_list (loop _ rfl) (T.self _ 0 _ _ _ (T.keep _ _ _ st2 (fun b hb o e => old b o e)) (loop _ rfl))
theorem pe_comp {elt tg iter : Expr} {ifs : List Expr} {scope : Scope} {pos : Pos} {wi : TI} {g : TG} {tc : TT} {te : TE} (N : List Str) (im : List (Option Nat))
    (hi : PI X tg iter wi)
    (hg : ∀ cl s H fp C, PG (X.comp N scope cl s H fp C) tg g)
    (ht : ∀ cl s H fp C, PTs (X.comp N scope cl s H fp C) ifs tc)
    (he : ∀ cl s H fp C, PE (X.comp N scope cl s H fp C) elt te)
    (hc : X.calm = true := by rfl) (hkind : scope.kind = .function := by rfl) (hcell : ∀ y ∈ scope.names, y.2 ≠ .cell := by decide +kernel)
    (hnames : ∀ y ∈ scope.names, y.2 = .local → scope.names.lookup y.1 = some .local := by decide +kernel)
    (hfree : (scope.names.all fun y => y.2 != .free || (X.env.kindOf y.1 == some .cell || X.env.kindOf y.1 == some .free)) = true := by rfl)
    (hl : N.length = im.length := by rfl)
    (him : ((N.zip im).all fun p => match p.2 with
      | none => true
      | some j => X.N[j]? == some p.1 && scope.names.lookup p.1 == some .free) = true := by rfl)
    (hs : ∀ x, foldedSetIterable iter X.env x = pure x := by intro _; rfl) :
    PE X (.ListComp elt [⟨tg, iter, ifs, 0⟩] scope pos) (tComp im wi g tc te) := by
  intro pins s σ H Q I h
  rw [eval_ListComp]
  exact comp_core N im hi hg ht he hc hkind hcell hnames hfree hl him hs I h fun s4 m C D H4 hn KK _ _ _ _ _ _ q => ⟨m, hn, fun h' hs' => ⟨.ref D, H4, KK h' hs', rfl, q⟩⟩
/-- x = [..], a name of the def's own: the value is stored while the block still stands -/
theorem ps_setC {i : Nat} {y : Str} {elt tg iter : Expr} {ifs : List Expr} {scope : Scope} {pos pos' spos : Pos} {wi : TI} {g : TG} {tc : TT} {te : TE} (hN : X.N.Nodup) (hy : X.N[i]? = some y) (hx : Loc X.env.scope y) (N : List Str) (im : List (Option Nat))
    (hi : PI X tg iter wi)
    (hg : ∀ cl s H fp C, PG (X.comp N scope cl s H fp C) tg g)
    (ht : ∀ cl s H fp C, PTs (X.comp N scope cl s H fp C) ifs tc)
    (he : ∀ cl s H fp C, PE (X.comp N scope cl s H fp C) elt te)
    (hc : X.calm = true := by rfl) (hkind : scope.kind = .function := by rfl) (hcell : ∀ y ∈ scope.names, y.2 ≠ .cell := by decide +kernel)
    (hnames : ∀ y ∈ scope.names, y.2 = .local → scope.names.lookup y.1 = some .local := by decide +kernel)
    (hfree : (scope.names.all fun y => y.2 != .free || (X.env.kindOf y.1 == some .cell || X.env.kindOf y.1 == some .free)) = true := by rfl)
    (hl : N.length = im.length := by rfl)
    (him : ((N.zip im).all fun p => match p.2 with
      | none => true
      | some j => X.N[j]? == some p.1 && scope.names.lookup p.1 == some .free) = true := by rfl)
    (hs : ∀ x, foldedSetIterable iter X.env x = pure x := by intro _; rfl)
    (hsw : swapsWith (.ListComp elt [⟨tg, iter, ifs, 0⟩] scope pos) (some (.Name y pos')) spos.line X.env = pure true := by rfl) (hf : X.fn y = true ∨ X.env.scope.names.lookup y = some .local := by first | exact .inl rfl | exact .inr rfl | assumption) :
    PS X (.Assign [.Name y pos'] (.ListComp elt [⟨tg, iter, ifs, 0⟩] scope pos) spos) (tAsg (tComp im wi g tc te) (gName i)) := by
  intro pins s σ H D0 I h
  rw [exec_Assign_Name_used _ _ _ _ hsw]
  refine wpAny_bind (wpAny_standAt (wpAny_bind ?_))
  show wpAny _ X.A (do let _ ← comprehension (.ListComp elt [⟨tg, iter, ifs, 0⟩] scope pos) scope X.env _ (newList []) false (eval iter X.env) (some (assign (.Name y pos') X.env))) _ _ s
  refine wpAny_bind (wpAny_mono (comp_core (use := some (assign (.Name y pos') X.env)) (QQ := fun _ s' => SP X pins D0 .next s') N im hi hg ht he hc hkind hcell hnames hfree hl him hs I h ?_) (fun _ s' hq => wpAny_pure (wpAny_pure hq)) fun _ _ e => e)
  intro s4 m C D H4 hn KK hC1 hC2 hC3 hC4 hC5 hC6 q
  have I4 : Inv X pins σ H4 s4 := KK s4.heap (Heap.SameBut.refl _ _)
  obtain ⟨o, es, ep, ho, ro⟩ := id hn
  have I5 : Inv X ((C, o) :: pins) σ H4 s4 := I4.pins_of fun p hp => by
    rcases List.mem_cons.mp hp with z | z
    · subst z
      exact ⟨ho, hC1, hC2, hC3, fun v z => by rw [ro.1] at z; cases z⟩
    · exact I4.pin p (List.mem_append_right _ z)
  show wpAny _ X.A (assign (.Name y pos') X.env (.ref D)) _ _ _
  refine wpAny_assign_Name (store_ok I5 hN hy hx (show RelV (.ref D) (.ref D) from rfl) (fun s6 I6 => ?_) hf)
  have p6 := (I6.pin (C, o) (List.mem_append_right _ List.mem_cons_self)).1
  refine ⟨m, hn.at' fun o' e' => ?_, fun h' hs' => ?_⟩
  · rw [ho] at e'; cases e'; exact p6
  · have I7 : Inv X pins _ H4 s6 := I6.pins_of fun p hp => I6.pin p (List.mem_append_right _ (List.mem_cons_of_mem _ hp))
    exact ⟨_, H4, I7.turned (t' := s6.toks) (it := C) (fun b o hb e => hs'.extBut b o hb e) hC1 hC2 (.inr hC6) hC4 (fun p hp => Ne.symm (hC5 p hp)), q⟩
end
end L2

set_option Elab.async false
set_option linter.all false
set_option maxRecDepth 100000
set_option maxHeartbeats 4000000
namespace L2
open PySem PySem.Spec PyProof.Rows
section
variable {X : Cx}
/-! ### texts -/
theorem op_le_str : OpR X (compareOp .LtE) (fun x y H Q => ∃ i j, x = .str i ∧ y = .str j ∧ Q (.bl (!decide (j.cps.toList < i.cps.toList))) H) := by
  intro pins s σ H x y v u Q I rx ry h
  obtain ⟨i, j, rfl, rfl, q⟩ := h
  obtain ⟨t, rfl⟩ := rx
  obtain ⟨t', rfl⟩ := ry
  exact PySem.P.le_str (fin_bl I q rfl)
def rSlS : V → Option Int → Option Int → Hp → VK → Prop := fun x lo hi H Q => ∃ z, x = .str z ∧ z.length ≤ sizeLine ∧ Q (.str (Txt.slice z lo hi)) H
theorem sl_str : SlR X rSlS := by
  intro pins s σ H x v vl vu lo hi sl Q I rx hs pl pu h
  obtain ⟨z, rfl, hz, q⟩ := h
  obtain ⟨t, rfl⟩ := rx
  refine ⟨"str", _, F.slot_str_getitem.lookup, typeIs_str _ _ _, ?_⟩
  have go : ∀ (l u : Option (Int × Tok)), vl = partValue l → vu = partValue u → l.map (·.1) = lo → u.map (·.1) = hi → wpAny (model X.prog X.w) X.A (getItem (.str z t) (.ref sl)) (EP X pins σ Q) X.xe s := by
    intro l u e1 e2 e3 e4
    subst e1 e2 e3 e4
    refine wpAny_getItem_str_slice (l := l) (u := u) (st := none) hs rfl ?_
    unfold sliceMade
    have q' : Q (.str (Txt.slice z (l.map (·.1)) (u.map (·.1)))) H := q
    unfold Txt.slice at q'
    have hlen : ((PySem.slicePicked z l u none).filterMap (z.cps[·]?)).toArray.size ≤ z.length := by
      rw [List.size_toArray]
      refine Nat.le_trans (List.length_filterMap_le _ _) ?_
      exact sliceIndices_le _ _ _
    show Made.post (if ((1 : Int) == 1 && (PySem.slicePicked z l u none).length == z.length) = true then _ else _) _ s
    unfold PySem.slicePicked at hlen ⊢
    simp only [Option.map_none, Option.getD_none] at hlen ⊢
    split
    · rename_i hc
      rw [if_pos hc] at q'
      exact ⟨.str _, H, I, ⟨_, rfl⟩, q'⟩
    · rename_i hc
      rw [if_neg hc] at q'
      exact ⟨Nat.le_trans hlen hz, .str _, H, I.tok _, ⟨_, rfl⟩, q'⟩
  cases pl with
  | none => cases pu with
    | none => exact go none none rfl rfl rfl rfl
    | int j t' => exact go none (some (j, t')) rfl rfl rfl rfl
  | int i t0 => cases pu with
    | none => exact go (some (i, t0)) none rfl rfl rfl rfl
    | int j t' => exact go (some (i, t0)) (some (j, t')) rfl rfl rfl rfl
/-! ### isinstance -/
theorem call_isinst : CallR X (.builtin "isinstance") (fun xs H Q => ∃ x t c b, xs = [x, .ty c] ∧ TyOf X.K H x t ∧ PySem.W.kitOne X.K t (.type c) = some b ∧ Q (.bl b) H) := by
  intro pins s σ H xs us Q I r h
  obtain ⟨x, t, c, b, rfl, ty, e, q⟩ := h
  obtain ⟨u, w', rfl, ru, rw'⟩ := vals2 r
  cases rw'
  exact isinst_ok I ru ty e fun tk => ⟨.bl b, H, I.tok _, rfl, q⟩
theorem isinst_tup {pins : List (Addr × Obj)} {σ : St} {H : Hp} {s : Shared} {A : Around} {E : Value → Shared → Prop} {Q : Value → Shared → Prop} {b : Bool} {x : V} {u t : Value} {tp : Addr} {its : List Value} {dd : Option Addr} {n : Nat} {sl : Array (Option Value)} (I : Inv X pins σ H s) (rx : RelV x u) (ty : TyOf X.K H x t)
    (htp : s.heap.get? tp = some ⟨.type "tuple", dd, .seq its.toArray n, sl⟩) (e : PySem.W.kitAny X.K t its = some b) (h : ∀ tk, Q (.bool b) { s with toks := tk }) :
    wpAny (model X.prog X.w) A (call (.builtin "isinstance") [u, .ref tp]) Q E s := by
  cases ty with
  | non => cases (show u = Value.none from rx); exact PySem.W.kia_tup PySem.W.kitx_none I.kIn True.intro htp e (fun z => nomatch z) h
  | bl y => cases (show u = Value.bool y from rx); exact PySem.W.kia_tup PySem.W.kitx_bool I.kIn True.intro htp e (fun z => nomatch z) h
  | int i => obtain ⟨t, q⟩ := (show ∃ t, u = Value.int i t from rx); cases q; exact PySem.W.kia_tup PySem.W.kitx_int I.kIn True.intro htp e (fun z => nomatch z) h
  | str y => obtain ⟨t, q⟩ := (show ∃ t, u = Value.str y t from rx); cases q; exact PySem.W.kia_tup PySem.W.kitx_str I.kIn True.intro htp e (fun z => nomatch z) h
  | flt y => obtain ⟨t, q⟩ := (show ∃ t, u = Value.float y t from rx); cases q; exact PySem.W.kia_tup PySem.W.kitx_float I.kIn True.intro htp e (fun z => nomatch z) h
  | @lst a xs ea =>
    cases (show u = Value.ref a from rx)
    obtain ⟨_, _, n, _, h1⟩ := (show ObjOk X.prog X.w H s.heap a (.lst xs) from I.hok a _ ea)
    exact PySem.W.kia_tup PySem.W.kitx_list I.kIn ⟨_, h1, rfl⟩ htp e (fun z => nomatch z) h
  | @frz a ob xs ea =>
    cases (show u = Value.ref a from rx)
    obtain ⟨_, _, _, n, _, h1⟩ := (show ObjOk X.prog X.w H s.heap a (.frz ob (.lst xs)) from I.hok a _ ea)
    exact PySem.W.kia_tup PySem.W.kitx_list I.kIn ⟨_, h1, rfl⟩ htp e (fun z => nomatch z) h
  | @tup a xs ea =>
    cases (show u = Value.ref a from rx)
    obtain ⟨_, _, _, p⟩ := (show ObjOk X.prog X.w H s.heap a (.tup xs) from I.hok a _ ea)
    obtain ⟨o, h1, h2, _⟩ := p
    exact PySem.W.kia_tup PySem.W.kitx_tuple I.kIn ⟨o, h1, h2⟩ htp e (fun z => nomatch z) h
  | @dK a kvs ea =>
    cases (show u = Value.ref a from rx)
    obtain ⟨_, _, vs, _, p⟩ := (show ObjOk X.prog X.w H s.heap a (.dK kvs) from I.hok a _ ea)
    obtain ⟨o, es, ep, h1, h2, _⟩ := p
    exact PySem.W.kia_tup PySem.W.kitx_dict I.kIn ⟨o, h1, h2.1⟩ htp e (fun z => nomatch z) h
  | @dT a kvs ea =>
    cases (show u = Value.ref a from rx)
    obtain ⟨_, _, xs, _, o, es, ep, h1, h2, _⟩ := (show ObjOk X.prog X.w H s.heap a (.dT kvs) from I.hok a _ ea)
    exact PySem.W.kia_tup PySem.W.kitx_dict I.kIn ⟨o, h1, h2.1⟩ htp e (fun z => nomatch z) h
  | @ins a C dx fs ea cl ha hn htk hm =>
    cases (show u = Value.ref a from rx)
    obtain ⟨mA, O, _⟩ := ins_get I.hok ea
    obtain ⟨od, J, _⟩ := O.look
    exact PySem.W.kia_tup (PySem.W.kitx_own (cl.get _) cl.hd ha hn htk hm) I.kIn J htp e (fun z => nomatch z) h
theorem tys_of : ∀ {cs : List String} {us : List Value}, Vals (cs.map V.ty) us → us = cs.map Value.type
  | [], _, r => by cases r; rfl
  | c :: cs, _, r => by
    cases r with
    | cons r1 r2 => cases r1; rw [tys_of r2]; rfl
theorem call_isinstT : CallR X (.builtin "isinstance") (fun xs H Q => ∃ (x : V) (t : Value) (tp : Addr) (cs : List String) (b : Bool), xs = [x, .ref tp] ∧ H tp = some (.tup (cs.map V.ty)) ∧ TyOf X.K H x t ∧ PySem.W.kitAny X.K t (cs.map Value.type) = some b ∧ Q (.bl b) H) := by
  intro pins s σ H xs us Q I r h
  obtain ⟨x, t, tp, cs, b, rfl, htp, ty, e, q⟩ := h
  obtain ⟨u, w', rfl, ru, rw'⟩ := vals2 r
  cases rw'
  obtain ⟨_, its, rv, p⟩ := (show ObjOk X.prog X.w H s.heap tp (.tup (cs.map V.ty)) from I.hok tp _ htp)
  have ei := tys_of rv
  subst ei
  obtain ⟨o, h1, h2, n, h3⟩ := p
  obtain ⟨oc, od, dt, sl⟩ := o
  have h2' : oc = .type "tuple" := h2
  have h3' : dt = .seq (cs.map Value.type).toArray n := h3
  subst h2' h3'
  exact isinst_tup I ru ty h1 e fun tk => ⟨.bl b, H, I.tok _, rfl, q⟩
/-! ### // by a larger number -/
def CDivB (i j : Int) : Prop := 0 < j ∧ j < 2 ^ 200
theorem op_fdivB : OpR X (binaryOp .FloorDiv) (rI CDivB fun i j => .int (i / j)) := opI fun i j _ _ _ _ _ hc q => by
  obtain ⟨h1, h2⟩ := hc
  rw [← Int.fdiv_eq_ediv_of_nonneg i (by omega)] at q
  refine floordiv_int (by omega) q (.inl (PyProof.noPylong_of_log2 ?_))
  have hj : j.natAbs ≠ 0 := by omega
  rw [Nat.log2_lt hj]
  have h3 : (j.natAbs : Int) < 2 ^ 200 := by omega
  have h4 : j.natAbs < 2 ^ 200 := by exact_mod_cast h3
  exact Nat.lt_of_lt_of_le h4 (Nat.pow_le_pow_right (by decide) (by decide))

/-! ### join, split -/
theorem strs_are : ∀ {ys : List Str} {us : List Value}, Vals (ys.map V.str) us → StrsAre us ys
  | [], _, r => by cases r; exact .nil
  | y :: ys, _, r => by
    cases r with
    | cons r1 r2 => obtain ⟨t, e⟩ := r1; subst e; exact .cons y t (strs_are r2)
def rJoin (K : PySem.W.Frag) : V → List V → Hp → VK → Prop := fun x vs H Q => ∃ z p ys, x = .str z ∧ vs = [.ref p] ∧ SqL K H p (ys.map V.str) ∧ (ys.map (·.length)).sum + ys.length * z.length ≤ 16777216 ∧ Q (.str (Txt.join z ys)) H
theorem mt_join : MtR X "str.join" (rJoin X.K) := by
  intro pins s σ H x xs v us Q I rx rs h
  obtain ⟨z, p, ys, rfl, rfl, hl, hz, q⟩ := h
  obtain ⟨t, rfl⟩ := rx
  obtain ⟨u, rfl, ru⟩ := vals1 rs
  cases ru
  obtain ⟨its, rv, pl, _⟩ := I.list hl
  exact join_list pl.isList (by simpa using strs_are rv) hz fun t' k => ⟨.str _, H, I.tok _, ⟨_, rfl⟩, q⟩
theorem vals_strs : ∀ (l : List (Str × Tok)), Vals ((l.map (·.1)).map V.str) (strValues l)
  | [] => .nil
  | (x, t) :: r => .cons ⟨t, rfl⟩ (vals_strs r)
def rSplit : V → List V → Hp → VK → Prop := fun x vs H Q => ∃ z y, x = .str z ∧ vs = [.str y] ∧ (y.length == 0) = false ∧ z.length ≤ sizeLine ∧ (Builtin.Str.partsBetween z (Builtin.Str.occurrences z y 0 z.length (z.length + 1)) y.length).length ≤ sizeLine ∧ (Txt.split z y).length ≤ sizeLine ∧
  ∀ p, H p = none → Q (.ref p) (upd H p (.lst ((Txt.split z y).map V.str)))
theorem mt_split : MtR X "str.split" rSplit := by
  intro pins s σ H x xs v us Q I rx rs h
  obtain ⟨z, y, rfl, rfl, h0, hz, hz2, hz3, q⟩ := h
  obtain ⟨t, rfl⟩ := rx
  obtain ⟨u, rfl, ⟨t', rfl⟩⟩ := vals1 rs
  have fin : ∀ (l : List (Str × Tok)) (tk : Nat) (n : Nat), l.map (·.1) = Txt.split z y → EP X pins σ Q (.ref s.heap.objs.size) { s with toks := tk, heap := s.heap.push { cls := .type "list", data := .seq (strValues l).toArray n } } := fun l tk n e => by
    refine ⟨.ref s.heap.objs.size, _, I.laid (t' := tk) (o := .lst ((Txt.split z y).map V.str)) (fun b ob q => Heap.get?_push_of_some _ q) (Nat.le_refl _) ?_, rfl, q _ (I.hok.fresh (Nat.le_refl _))⟩
    refine ⟨by rw [List.length_map]; exact hz3, strValues l, n, ?_, Heap.get?_push_size _ rfl⟩
    rw [← e]; exact vals_strs l
  cases h1 : (decide (z.length < y.length) || decide (Builtin.Str.strKind z < Builtin.Str.strKind y))
  · cases hf : (Builtin.Str.occurrences z y 0 z.length (z.length + 1)).isEmpty
    · refine call_meets F.slot_str_split (typeIs_str _ _ _) F.entry_str_split (F.args_str_split_2 _ _) (meets_str_split_sep z y t t' h1 h0 hf hz hz2) ?_
      show wants _ X.xe _ { s with toks := _, heap := s.heap.push { cls := .type "list", data := .seq (strsFrom s.toks (Builtin.Str.partsBetween z (Builtin.Str.occurrences z y 0 z.length (z.length + 1)) y.length)).toArray } }
      rw [strsFrom_eq]
      exact fin (numbered s.toks _) _ _ ((numbered_texts _ _).trans ((if_neg (ne_true_of_eq_false h1)).trans (if_neg (ne_true_of_eq_false hf))).symm)
    · exact call_meets F.slot_str_split (typeIs_str _ _ _) F.entry_str_split (F.args_str_split_2 _ _) (meets_str_split_not_found z y t t' h1 h0 hf)
        (fin [(z, t)] s.toks _ ((if_neg (ne_true_of_eq_false h1)).trans (if_pos hf)).symm)
  · exact call_meets F.slot_str_split (typeIs_str _ _ _) F.entry_str_split (F.args_str_split_2 _ _) (meets_str_split_cannot_occur z y t t' h1)
      (fin [(z, t)] s.toks _ (if_pos h1).symm)
/-! ### all, of a list of bools -/
theorem bools_of : ∀ {bs : List Bool} {us : List Value}, Vals (bs.map V.bl) us → us = bs.map Value.bool
  | [], _, r => by cases r; rfl
  | b :: bs, _, r => by
    cases r with
    | cons r1 r2 => cases r1; rw [bools_of r2]; rfl
theorem range_all (bs : List Bool) : ((List.range bs.length).all fun i => bs.getD i true) = bs.all id := by
  rw [Bool.eq_iff_iff, List.all_eq_true, List.all_eq_true]
  constructor
  · intro h b hb
    obtain ⟨i, hi⟩ := List.mem_iff_getElem?.mp hb
    have hlt : i < bs.length := (List.getElem?_eq_some_iff.mp hi).1
    have z := h i (List.mem_range.mpr hlt)
    simp [List.getD_eq_getElem?_getD, hi] at z
    simpa using z
  · intro h i hi
    have hlt := List.mem_range.mp hi
    have z := h bs[i] (List.getElem_mem hlt)
    simp only [id] at z
    simp [List.getD_eq_getElem?_getD, List.getElem?_eq_getElem hlt, z]
theorem call_all (hc : X.calm = true) : CallR X (.builtin "all") (fun xs H Q => ∃ (p : Addr) (bs : List Bool), xs = [.ref p] ∧ SqL X.K H p (bs.map V.bl) ∧ Q (.bl (bs.all id)) H) := by
  intro pins s σ H xs us Q I r h
  obtain ⟨p, bs, rfl, hl, q⟩ := h
  obtain ⟨u, rfl, ru⟩ := vals1 r
  cases ru
  obtain ⟨its, rv, pl, hz⟩ := I.list hl
  have ei := bools_of rv
  subst ei
  refine call_all_walk (wpAny_pyIter_list pl.isList ?_)
  have hlt : p < s.heap.objs.size := by obtain ⟨_, e, _⟩ := pl.isList; exact Heap.lt_size e
  have hh : X.A.in1.handled = none := I.ok.hd hc
  refine ⟨_, _, _, _, _, _, fun i => bs.getD i true, rfl, Walks.list hh s.heap.objs.size p (Nat.ne_of_lt hlt) (bs.map Value.bool).toArray, ⟨⟨_, Heap.get?_push_size _ rfl, rfl, rfl⟩, pl.isList.push _⟩, ?_, fun h' tk k => ?_⟩
  · intro i v s' Q' E' hv hq
    have hv' : (bs.map Value.bool)[i]? = some v := by rw [← List.getElem?_toArray]; exact hv
    rw [List.getElem?_map] at hv'
    cases hb : bs[i]? with
    | none => rw [hb] at hv'; cases hv'
    | some b =>
    rw [hb] at hv'
    cases hv'
    refine wpAny_truthy_bool ?_
    have e : bs.getD i true = b := by simp [List.getD_eq_getElem?_getD, hb]
    have hq' : Q' (bs.getD i true) s' := hq
    rw [e] at hq'
    exact hq'
  · have e : (List.range (bs.map Value.bool).toArray.size).all (fun i => bs.getD i true) = bs.all id := by
      rw [List.size_toArray, List.length_map]; exact range_all bs
    rw [e]
    refine ⟨.bl _, H, I.kept (fun b o eo => k b o ?_ (Heap.get?_push_of_some _ eo)), rfl, q⟩
    intro hb
    have : b = s.heap.objs.size := by simpa using hb
    exact absurd (Heap.lt_size eo) (by rw [this]; exact Nat.lt_irrefl _)
end

/-! ### signs of a text, one by one -/
section
variable {X : Cx} {tg : Expr}
def Its (z : Str) : It := ⟨fun i _ => i < z.cps.size, fun i H x H' => H' = H ∧ ∃ c, z.cps[i]? = some c ∧ x = .str ⟨#[c]⟩, fun i _ => z.cps.size = i⟩
theorem turn_strA {P : Program} {w : World} {K : PySem.W.Frag} (it : Addr) (z : Str) (t : Tok) : Turn P w K tg (Its z) [it] it (fun i h => h.IsStrIter it "str_ascii_iterator" z t i) where
  mem := by simp
  obj := fun i h st b hb => by
    have e : b = it := by simpa using hb
    subst e
    obtain ⟨o, e, c, d⟩ := st
    exact ⟨o, e, fun v z => by rw [d] at z; cases z⟩
  keep := fun i h h' st k => by
    obtain ⟨o, e, r⟩ := st
    exact ⟨o, k it (by simp) o e, r⟩
  item := by
    intro X hP hw hK hc i pins s σ H E I hf st hg
    subst hP hw hK
    have hg' : i < z.cps.size := hg
    obtain ⟨f0, f1, f2, f3, f4, f5⟩ := hf it (by simp)
    refine wpAny_pyNext_ascii_item st (c := z.cps[i]) (by simp [hg']) fun h' st' sb => ?_
    have I1 : Inv X pins σ H { s with heap := h', toks := s.toks + 1 } := I.turned (fun b o hb e => (sb.2 b hb).trans e) f0 f1 f3 f4 f5
    obtain ⟨o, e, c, d⟩ := id st'
    exact ⟨_, rfl, go_of (s := { s with heap := h', toks := s.toks + 1 }) e c d (by decide) ⟨.str ⟨#[z.cps[i]]⟩, H, I1, ⟨_, rfl⟩, ⟨rfl, z.cps[i], by simp [hg'], rfl⟩, st', fun b hb => (hf b hb).1⟩⟩
  done := by
    intro X hP hw hK hc i pins s σ H E I hf st hg
    subst hP hw hK
    have hg' : z.cps.size = i := hg
    obtain ⟨f0, f1, f2, f3, f4, f5⟩ := hf it (by simp)
    exact wpAny_pyNext_ascii_end (I.ok.hd hc) st (by simp; omega) fun h' eb => ⟨rfl, I.turned (t' := s.toks) (fun b o hb e => eb b o hb e) f0 f1 f3 f4 f5⟩
  self := fun _ _ _ _ _ st h => wpAny_pyIter_striter_ascii st h
theorem turn_strW {P : Program} {w : World} {K : PySem.W.Frag} (it : Addr) (z : Str) (t : Tok) : Turn P w K tg (Its z) [it] it (fun i h => h.IsStrIter it "str_iterator" z t i) where
  mem := by simp
  obj := fun i h st b hb => by
    have e : b = it := by simpa using hb
    subst e
    obtain ⟨o, e, c, d⟩ := st
    exact ⟨o, e, fun v z => by rw [d] at z; cases z⟩
  keep := fun i h h' st k => by
    obtain ⟨o, e, r⟩ := st
    exact ⟨o, k it (by simp) o e, r⟩
  item := by
    intro X hP hw hK hc i pins s σ H E I hf st hg
    subst hP hw hK
    have hg' : i < z.cps.size := hg
    obtain ⟨f0, f1, f2, f3, f4, f5⟩ := hf it (by simp)
    refine wpAny_pyNext_wide_item st (c := z.cps[i]) (by simp [hg']) fun h' st' sb => ?_
    have I1 : Inv X pins σ H { s with heap := h', toks := s.toks + 1 } := I.turned (fun b o hb e => (sb.2 b hb).trans e) f0 f1 f3 f4 f5
    obtain ⟨o, e, c, d⟩ := id st'
    exact ⟨_, rfl, go_of (s := { s with heap := h', toks := s.toks + 1 }) e c d (by decide) ⟨.str ⟨#[z.cps[i]]⟩, H, I1, ⟨_, rfl⟩, ⟨rfl, z.cps[i], by simp [hg'], rfl⟩, st', fun b hb => (hf b hb).1⟩⟩
  done := by
    intro X hP hw hK hc i pins s σ H E I hf st hg
    subst hP hw hK
    have hg' : z.cps.size = i := hg
    obtain ⟨f0, f1, f2, f3, f4, f5⟩ := hf it (by simp)
    exact wpAny_pyNext_wide_end (I.ok.hd hc) st (by simp; omega) fun h' eb => ⟨rfl, I.turned (t' := s.toks) (fun b o hb e => eb b o hb e) f0 f1 f3 f4 f5⟩
  self := fun _ _ _ _ _ st h => wpAny_pyIter_striter_wide st h
def iStr (tl : TE) : TI := fun σ H R => tl σ H fun x H1 => ∃ z, x = .str z ∧ R (Its z) H1
theorem pi_str {l : Expr} {tl : TE} (hl : PE X l tl) : PI X tg l (iStr tl) := by
  intro pins s σ H R I h
  refine thn (hl pins s σ H _ I h) fun v s1 ⟨x, H1, I1, r1, q1⟩ => ?_
  obtain ⟨z, e, q⟩ := q1
  subst e
  obtain ⟨t, rfl⟩ := r1
  have fp : ∀ b ∈ [s1.heap.objs.size], FpOk X pins H1 b := fun b hb => by
    have e : b = s1.heap.objs.size := by simpa using hb
    subst e
    exact I1.fpOk (Nat.le_refl _) (I1.hok.fresh (Nat.le_refl _))
  cases ha : z.cps.all (· < 128)
  · exact wpAny_pyIter_wide ha ⟨s1.heap.objs.size, [s1.heap.objs.size], _, Its z, H1, rfl, I1.kept (t' := s1.toks) fun b o e => Heap.get?_push_of_some _ e, turn_strW _ z t, ⟨_, Heap.get?_push_size _ rfl, rfl, rfl⟩, fp, q⟩
  · exact wpAny_pyIter_ascii ha ⟨s1.heap.objs.size, [s1.heap.objs.size], _, Its z, H1, rfl, I1.kept (t' := s1.toks) fun b o e => Heap.get?_push_of_some _ e, turn_strA _ z t, ⟨_, Heap.get?_push_size _ rfl, rfl, rfl⟩, fp, q⟩
/-! ### two lists beside one another -/
def Itz (K : PySem.W.Frag) (a b : Addr) : It :=
  ⟨fun i H => ∃ xs ys x y, SqL K H a xs ∧ SqL K H b ys ∧ xs[i]? = some x ∧ ys[i]? = some y,
   fun i H u H' => ∃ T, u = .ref T ∧ H T = none ∧ (∀ xs ys, SqL K H a xs → SqL K H b ys → ∃ x y, xs[i]? = some x ∧ ys[i]? = some y ∧ H' = upd H T (.tup [x, y])),
   fun i H => ∃ xs ys, SqL K H a xs ∧ SqL K H b ys ∧ min xs.length ys.length = i⟩
theorem turn_zip {P : Program} {w : World} {K : PySem.W.Frag} {es : List Expr} {k : Nat} {tp : Pos} (z TI TO i1 i2 a b : Addr) (D : ZipApart z TI TO i1 i2 a b) :
    Turn P w K (.Tuple es k tp) (Itz K a b) [z, TI, TO, i1, i2] z (fun i h => IsZip h z TI TO .none ∧ IsPair h TI (.ref i1) (.ref i2) ∧ (∃ x y, IsPair h TO x y) ∧ h.IsListIter i1 a i ∧ h.IsListIter i2 b i) where
  mem := by simp
  obj := fun i h st c hc => by
    obtain ⟨s1, s2, ⟨x, y, s3⟩, ⟨o4, e4, c4, d4⟩, ⟨o5, e5, c5, d5⟩⟩ := st
    simp at hc
    rcases hc with rfl | rfl | rfl | rfl | rfl
    · exact ⟨_, s1, fun v q => by cases q⟩
    · exact ⟨_, s2, fun v q => by cases q⟩
    · exact ⟨_, s3, fun v q => by cases q⟩
    · exact ⟨_, e4, fun v q => by rw [d4] at q; cases q⟩
    · exact ⟨_, e5, fun v q => by rw [d5] at q; cases q⟩
  keep := fun i h h' st kk => by
    obtain ⟨s1, s2, ⟨x, y, s3⟩, s4, s5⟩ := st
    exact ⟨kk z (by simp) _ s1, kk TI (by simp) _ s2, ⟨x, y, kk TO (by simp) _ s3⟩, s4.at fun o e => kk i1 (by simp) o e, s5.at fun o e => kk i2 (by simp) o e⟩
  item := by
    intro X hP hw hK hc i pins s σ H E I hf st hg
    subst hP hw hK
    obtain ⟨xs, ys, x, y, h1, h2, hx, hy⟩ := hg
    obtain ⟨its1, rv1, p1, _⟩ := I.list h1
    obtain ⟨its2, rv2, p2, _⟩ := I.list h2
    have W := WalksT.zip2 (prog := X.prog) (w := X.w) (I.ok.hd hc) z TI TO i1 i2 a b D its1.toArray its2.toArray
    have l1 : i < its1.length := by rw [← rv1.length]; exact (List.getElem?_eq_some_iff.mp hx).1
    have l2 : i < its2.length := by rw [← rv2.length]; exact (List.getElem?_eq_some_iff.mp hy).1
    obtain ⟨s1, s2, s3, s4, s5⟩ := st
    refine W.item i s _ _ (by simp; omega) ⟨s1, s2, s3, s4, s5, p1.isList, p2.isList⟩ fun T vals h' tk hP hT hTup hMid kk => ?_
    refine ⟨_, rfl, W.go es k tp i T _ _ _ hMid fun h'' st'' kk2 => ?_⟩
    obtain ⟨u1, u2, hu1, hu2, rfl⟩ := hP
    obtain ⟨w1, hw1, r1⟩ := rv1.get hx
    obtain ⟨w2, hw2, r2⟩ := rv2.get hy
    have e1 : u1 = w1 := by have : its1[i]? = some u1 := by simpa using hu1
                            rw [hw1] at this; exact (Option.some.inj this).symm
    have e2 : u2 = w2 := by have : its2[i]? = some u2 := by simpa using hu2
                            rw [hw2] at this; exact (Option.some.inj this).symm
    subst e1 e2
    have hTn : H T = none := I.hok.fresh hT
    have Twr : T ∉ [z, TO, i1, i2] := W.apart i T _ hMid
    have keep2 : ∀ c o, c ∉ [z, TO, i1, i2] → s.heap.get? c = some o → h''.get? c = some o := fun c o hc e => kk2 c o hc (kk c o hc e)
    have frOf : ∀ c ∈ [z, TO, i1, i2], c ∈ [z, TI, TO, i1, i2] := fun c hc => by simp at hc ⊢; rcases hc with rfl | rfl | rfl | rfl <;> simp
    have nwr : ∀ c u, H c = some u → c ∉ [z, TO, i1, i2] := fun c u e hc => by rw [(hf c (frOf c hc)).1] at e; cases e
    have hTup2 : IsTup h'' T #[u1, u2] := by
      obtain ⟨o, e, r⟩ := hTup
      exact ⟨o, kk2 T o Twr e, r⟩
    have I2 : Inv X pins σ (upd H T (.tup [x, y])) { s with heap := h'', toks := tk } := by
      refine I.step (g' := s.gens) (d' := s.drawn) (ch := [z, TO, i1, i2]) (fun c hc => ?_) (fun c o _ _ hc e _ => keep2 c o hc e) (fun c o _ _ hc e _ => ⟨o.slots, keep2 c o hc e⟩) (fun c o hc e n => ?_) (fun c o hc e => ⟨o, keep2 c o hc e⟩)
        (fun c xs e => ?_) (fun c o xs e => ?_) (fun c ps e => ⟨#[], ?_⟩) (fun m hm => ?_) ?_ I.bare
      · obtain ⟨g0, g1, g2, g3, g4, g5⟩ := hf c (frOf c hc)
        exact ⟨g3, g1, g4, g5⟩
      · rw [upd_ne (Nat.ne_of_lt (Nat.lt_of_lt_of_le (Heap.lt_size e) hT))]; exact n
      · rw [upd_ne (ne_of_none e hTn)]; exact e
      · rw [upd_ne (ne_of_none e hTn)]; exact e
      · rw [upd_ne (ne_of_none e hTn), e]; simp
      · obtain ⟨o, es, ep, ho, r⟩ := hm
        refine ⟨o, es, ep, keep2 _ o (fun hc => ?_) ho, r⟩
        exact (hf _ (frOf _ hc)).2.1 rfl
      · intro c u e
        by_cases hcT : c = T
        · subst hcT
          rw [upd_same] at e
          cases e
          exact ⟨by show 2 ≤ sizeLine; rw [sizeLine_eq]; decide, [u1, u2], .cons r1 (.cons r2 .nil), hTup2⟩
        · rw [upd_ne hcT] at e
          refine (I.hok c u e).stay (fun d v hd q => keep2 d v ?_ q) (fun d q => by rw [upd_ne (ne_of_none q hTn)]; exact q) fun d xs q => by rw [upd_ne (ne_of_none q hTn)]; exact q
          rcases hd with rfl | hd
          · exact nwr d u e
          · exact nwr d _ hd
    obtain ⟨t1, t2, t3, t4, t5, _⟩ := st''
    refine ⟨.ref T, _, I2, rfl, ⟨T, rfl, hTn, fun xs' ys' h1' h2' => ⟨x, y, ?_, ?_, rfl⟩⟩, ⟨t1, t2, t3, t4, t5⟩, fun c hc => ?_⟩
    · rw [I.list_inj h1' h1]; exact hx
    · rw [I.list_inj h2' h2]; exact hy
    · obtain ⟨o, eo, _⟩ : ∃ o, s.heap.get? c = some o ∧ True := by
        simp at hc
        obtain ⟨x', y', s3⟩ := s3
        rcases hc with rfl | rfl | rfl | rfl | rfl
        · exact ⟨_, s1, trivial⟩
        · exact ⟨_, s2, trivial⟩
        · exact ⟨_, s3, trivial⟩
        · obtain ⟨o, e, _⟩ := s4; exact ⟨o, e, trivial⟩
        · obtain ⟨o, e, _⟩ := s5; exact ⟨o, e, trivial⟩
      rw [upd_ne (Nat.ne_of_lt (Nat.lt_of_lt_of_le (Heap.lt_size eo) hT))]
      exact (hf c hc).1
  done := by
    intro X hP hw hK hc i pins s σ H E I hf st hg
    subst hP hw hK
    obtain ⟨xs, ys, h1, h2, hi⟩ := hg
    obtain ⟨its1, rv1, p1, _⟩ := I.list h1
    obtain ⟨its2, rv2, p2, _⟩ := I.list h2
    have W := WalksT.zip2 (prog := X.prog) (w := X.w) (I.ok.hd hc) z TI TO i1 i2 a b D its1.toArray its2.toArray
    obtain ⟨s1, s2, s3, s4, s5⟩ := st
    have en : min its1.toArray.size its2.toArray.size = i := by
      have := rv1.length
      have := rv2.length
      simp; omega
    refine W.done s _ _ (by rw [en]; exact ⟨s1, s2, s3, s4, s5, p1.isList, p2.isList⟩) fun h' tk kk => ⟨rfl, ?_⟩
    have frOf : ∀ c ∈ [z, TO, i1, i2], c ∈ [z, TI, TO, i1, i2] := fun c hc => by simp at hc ⊢; rcases hc with rfl | rfl | rfl | rfl <;> simp
    have nwr : ∀ c u, H c = some u → c ∉ [z, TO, i1, i2] := fun c u e hc => by rw [(hf c (frOf c hc)).1] at e; cases e
    refine I.step (g' := s.gens) (d' := s.drawn) (ch := [z, TO, i1, i2]) (fun c hc => ?_) (fun c o _ _ hc e _ => kk c o hc e) (fun c o _ _ hc e _ => ⟨o.slots, kk c o hc e⟩) (fun c o hc e n => n) (fun c o hc e => ⟨o, kk c o hc e⟩)
        (fun c xs e => e) (fun c o xs e => e) (fun c ps e => ⟨#[], by rw [e]; simp⟩) (fun m hm => ?_) ?_ I.bare
    · obtain ⟨g0, g1, g2, g3, g4, g5⟩ := hf c (frOf c hc)
      exact ⟨g3, g1, g4, g5⟩
    · obtain ⟨o, es, ep, ho, r⟩ := hm
      refine ⟨o, es, ep, kk _ o (fun hc => ?_) ho, r⟩
      exact (hf _ (frOf _ hc)).2.1 rfl
    · intro c u e
      refine (I.hok c u e).stay (fun d v hd q => kk d v ?_ q) (fun d q => q) fun d xs q => q
      rcases hd with rfl | hd
      · exact nwr d u e
      · exact nwr d _ hd
  self := fun A i s Q E st h => by
    exact wpAny_pyIter_zip st.1 h
def iZip (K : PySem.W.Frag) (ta : TA) : TI := fun σ H R => ta σ H fun vs H1 => ∃ a b, vs = [.ref a, .ref b] ∧ (∃ xs, SqL K H1 a xs) ∧ (∃ ys, SqL K H1 b ys) ∧ R (Itz K a b) H1
theorem pi_zip {a b : Expr} {ta : TA} {p pos tp : Pos} {es : List Expr} {k : Nat} (hg : Gl X "zip") (hm : X.mg "zip" = none) (ha : PA X [a, b] ta) (hs : starEach [a, b] X.env = [(false, eval a X.env), (false, eval b X.env)] := by rfl) (hs2 : starEach [b] X.env = [(false, eval b X.env)] := by rfl) :
    PI X (.Tuple es k tp) (.Call (.Name "zip" p) [a, b] [] pos) (iZip X.K ta) := by
  intro pins s σ H R I h
  refine Call_ (ld_blt I hg hm boot_zip (PyProof.Rows.callWith_type1 (thn (ha pos pins s σ H _ I h) fun us s1 ⟨vs, H1, I1, r1, q1⟩ => ?_) (by rw [hs, hs2]) (by rw [hs2]; rfl)))
  obtain ⟨a', b', e, ⟨xs, h1⟩, ⟨ys, h2⟩, q⟩ := q1
  subst e
  obtain ⟨u, w', rfl, ru, rw'⟩ := vals2 r1
  cases ru
  cases rw'
  obtain ⟨its1, rv1, p1, _⟩ := I1.list h1
  obtain ⟨its2, rv2, p2, _⟩ := I1.list h2
  have a1 : a' < s1.heap.objs.size := by obtain ⟨_, e, _⟩ := p1.isList; exact Heap.lt_size e
  have a2 : b' < s1.heap.objs.size := by obtain ⟨_, e, _⟩ := p2.isList; exact Heap.lt_size e
  refine call_zip_2 p1.isList p2.isList fun h' hz hTI hTO hi1 hi2 _ hk => ?_
  refine wpAny_pyIter_zip hz ?_
  refine ⟨_, _, _, _, H1, rfl, I1.kept (t' := s1.toks) hk, turn_zip _ _ _ _ _ a' b' (zipApart_new a1 a2), ⟨hz, hTI, ⟨_, _, hTO⟩, hi1, hi2⟩, fun c hc => ?_, q⟩
  have hle : s1.heap.objs.size ≤ c := by
    simp at hc
    rcases hc with rfl | rfl | rfl | rfl | rfl
    · exact Nat.le_add_right _ _
    · exact Nat.le_add_right _ _
    · exact Nat.le_add_right _ _
    · exact Nat.le_refl _
    · exact Nat.le_add_right _ _
  exact I1.fpOk hle (I1.hok.fresh hle)
end
end L2

set_option Elab.async false
set_option linter.all false
set_option maxRecDepth 100000
set_option maxHeartbeats 4000000
namespace L2
open PySem PySem.Spec PyProof.Rows
section
variable {X : Cx}
/-! ### == and != of two lists of flat things -/
def eqLs (xs ys : List V) : Bool := (xs.length == ys.length) && (List.zipWith eqV xs ys).all id
theorem zip_all : ∀ (xs ys : List V), xs.length = ys.length → ((List.range xs.length).all fun j => eqV (xs.getD j .non) (ys.getD j .non)) = (List.zipWith eqV xs ys).all id := by
  intro xs ys h
  rw [Bool.eq_iff_iff, List.all_eq_true, List.all_eq_true]
  constructor
  · intro q b hb
    obtain ⟨i, hi⟩ := List.mem_iff_getElem?.mp hb
    rw [List.getElem?_zipWith] at hi
    cases e1 : xs[i]? with
    | none => rw [e1] at hi; cases hi
    | some x =>
      cases e2 : ys[i]? with
      | none => rw [e1, e2] at hi; cases hi
      | some y =>
        rw [e1, e2] at hi
        have lt := (List.getElem?_eq_some_iff.mp e1).1
        have z := q i (List.mem_range.mpr lt)
        simp only [List.getD_eq_getElem?_getD, e1, e2, Option.getD_some] at z
        have hi' : eqV x y = b := by simpa using hi
        rw [← hi', id, z]
  · intro q i hi
    have lt := List.mem_range.mp hi
    have lt2 : i < ys.length := by omega
    have e1 := List.getElem?_eq_getElem lt
    have e2 := List.getElem?_eq_getElem lt2
    have m : eqV xs[i] ys[i] ∈ List.zipWith eqV xs ys := by
      refine List.mem_iff_getElem?.mpr ⟨i, ?_⟩
      rw [List.getElem?_zipWith, e1, e2]
    have z := q _ m
    simp only [List.getD_eq_getElem?_getD, e1, e2, Option.getD_some]
    simpa using z
def rEqL (K : PySem.W.Frag) (neg : Bool) : R2 := fun x y H Q => ∃ p q xs ys, x = .ref p ∧ y = .ref q ∧ SqL K H p xs ∧ SqL K H q ys ∧ xs.all flatV = true ∧ ys.all flatV = true ∧ Q (.bl (if neg then !eqLs xs ys else eqLs xs ys)) H
theorem op_neL (hu : X.A.units < cLine) : OpR X (compareOp .NotEq) (rEqL X.K true) := by
  intro pins s σ H x y v u Q I rx ry h
  obtain ⟨p, q, xs, ys, rfl, rfl, h1, h2, f1, f2, k⟩ := h
  cases rx
  cases ry
  obtain ⟨its1, r1, p1, _⟩ := I.list h1
  obtain ⟨its2, r2, p2, _⟩ := I.list h2
  have k0 : Q (.bl (!eqLs xs ys)) H := k
  by_cases hl : xs.length = ys.length
  · refine SeqAt.RcNeAt.lists (e := fun j => eqV (xs.getD j .non) (ys.getD j .non)) p1.isList p2.isList (by simp only [List.size_toArray]; rw [← r1.length, ← r2.length]; exact hl) hu (fun j j1 j2 => ?_) X.prog X.w X.xe _ ⟨.bl _, H, I, rfl, ?_⟩
    · have l1 : j < xs.length := by rw [r1.length]; simpa using j1
      have l2 : j < ys.length := by rw [r2.length]; simpa using j2
      obtain ⟨u1, e1, ru1⟩ := r1.get (List.getElem?_eq_getElem l1)
      obtain ⟨u2, e2, ru2⟩ := r2.get (List.getElem?_eq_getElem l2)
      have a1 : its1.toArray[j] = u1 := by
        have : its1[j]? = some its1.toArray[j] := by simp
        rw [e1] at this; exact (Option.some.inj this).symm
      have a2 : its2.toArray[j] = u2 := by
        have : its2[j]? = some its2.toArray[j] := by simp
        rw [e2] at this; exact (Option.some.inj this).symm
      rw [a1, a2]
      have g1 : xs.getD j .non = xs[j] := by simp [List.getD_eq_getElem?_getD, List.getElem?_eq_getElem l1]
      have g2 : ys.getD j .non = ys[j] := by simp [List.getD_eq_getElem?_getD, List.getElem?_eq_getElem l2]
      show SeqAt.EqAt X.A.in1 s u1 u2 (eqV (xs.getD j .non) (ys.getD j .non))
      rw [g1, g2]
      exact eqAt_V ru1 ru2 (List.all_eq_true.mp f1 _ (List.getElem_mem l1)) (List.all_eq_true.mp f2 _ (List.getElem_mem l2))
    · have es : its1.toArray.size = xs.length := by rw [List.size_toArray]; exact r1.length.symm
      rw [es, zip_all xs ys hl]
      unfold eqLs at k0
      rw [hl] at k0
      simpa using k0
  · refine SeqAt.RcNeAt.lists_lengths p1.isList p2.isList ?_ hu X.prog X.w X.xe _ ⟨.bl true, H, I, rfl, ?_⟩
    · simp only [List.size_toArray]; rw [← r1.length, ← r2.length]; simpa using hl
    · unfold eqLs at k0
      have : (xs.length == ys.length) = false := by simpa using hl
      rw [this, Bool.false_and] at k0
      exact k0
end
end L2

set_option Elab.async false
set_option linter.all false
set_option maxRecDepth 100000
set_option maxHeartbeats 4000000
namespace L2
open PySem PySem.Spec PyProof.Rows
/-! ### an exception in flight: its class, its dict, its arguments; st: no traceback yet, or the mark of the frame that holds it -/
def ExAt (B : Heap) (e : Addr) (c : Value) (dc : Option Addr) (a0 : Value) (st : Option Value) (h : Heap) : Prop :=
  ∃ vs : Array Value, h.get? e = some ⟨c, dc, .fields vs, #[]⟩ ∧ vs.size = 6 ∧ vs[0]? = some a0 ∧
    match st with
    | none => vs[1]? = some .none
    | some fl => ∃ (T : Addr) (oT : Obj) (ts : Array Value), vs[1]? = some (.ref T) ∧ B.get? T = none ∧ T ≠ e ∧ h.get? T = some oT ∧ oT.data = .fields ts ∧ 3 < ts.size ∧ ts[3]? = some fl
structure Fl (B : Heap) (l : List Env) (e : Addr) (c : Value) (dc : Option Addr) (a0 : Value) (st : Option Value) (h : Heap) : Prop where
  stays : B.StaysIn h
  ne : B.get? e = none
  frs : h.FunFrames B l
  ex : ExAt B e c dc a0 st h
section
variable {M : Model} {A : Around} {E : Value → Shared → Prop} {s : Shared} {B : Heap} {l : List Env} {env : Env} {outer : List Env} {e L : Addr} {c a0 : Value} {dc : Option Addr} {st : Option Value} {Q : Unit → Shared → Prop}
/-- the mark is taken off -/
theorem fl_set {fl : Value} (F : Fl B l e c dc a0 (some fl) s.heap) (h : ∀ h', Fl B l e c dc a0 (some .none) h' → s.heap.UpToSlots h' → Q () { s with heap := h' }) : wpAny M A (setFlight (.ref e) none) Q E s := by
  obtain ⟨f1, f2, f3, vs, he, hz, h0, T, oT, ts, h1, hBT, hTe, hT, hd, h3, hfl⟩ := F
  unfold setFlight
  refine wpAny_bind (wpAny_field he rfl h1 ?_)
  rw [if_pos (show (Value.ref T != Value.none) = true by simp)]
  have oth : ∀ b, b ≠ T → ∀ f, (s.heap.update T f).get? b = s.heap.get? b := fun b hb f => Heap.get?_update_other _ _ (Ne.symm hb)
  have hup : ∀ b o, s.heap.get? b = some o → (∀ vs, o.data ≠ .fields vs) → b ≠ T := fun b o hb hn z => by
    rw [z, hT] at hb; cases hb; exact hn ts hd
  refine wpAny_setField hT hd h3 (h _ ⟨fun b o q => ?_, f2, f3.of_keeps fun b o q hn => ⟨o, by rw [oth b (hup b o q hn)]; exact q, rfl⟩, vs, ?_, hz, h0, T, _, _, h1, hBT, hTe, Heap.get?_update_self _ hT (Obj.isFreed_of_fields (Obj.data_mapFields hd _)), Obj.data_mapFields hd _, by simpa using h3, by simp [h3]⟩ fun b o q hn => ⟨o.slots, by rw [oth b (hup b o q hn)]; exact q⟩)
  · rw [oth b fun z => by rw [z, hBT] at q; cases q]; exact f1 b o q
  · rw [oth e (Ne.symm hTe)]; exact he
/-- a frame is noted: a new entry -/
theorem fl_entry {head : Value} {hadNext : Bool} (hfr : A.frames = some (env :: outer)) (hf : env.frame = some L) (f1 : B.StaysIn s.heap) (f2 : B.get? e = none) (f3 : s.heap.FunFrames B (env :: outer)) {vs : Array Value}
    (he : s.heap.get? e = some ⟨c, dc, .fields vs, #[]⟩) (hz : vs.size = 6) (h0 : vs[0]? = some a0)
    (h : ∀ h', Fl B (env :: outer) e c dc a0 (some (rawInt L)) h' → s.heap.UpToSlots h' → Q () { s with heap := h' }) :
    wpAny M A (do let a ← frameOf env; let pl ← entryPlaceOf L hadNext; let b ← EntryCells.newEntry head a .none (rawInt L) .none pl; setField (.ref e) 1 b) Q E s := by
  refine wpAny_bind (wpAny_frameOf_fun hfr f3 hf fun h1 hs1 => ?_)
  refine wpAny_bind (wpAny_entryPlaceOf fun pl hpl => ?_)
  unfold EntryCells.newEntry newFields
  refine wpAny_bind (wpAny_newObj_type ?_ (hpl.sizeOk5 _ _ _ _ _))
  have nfr : ∀ b o ws, s.heap.get? b = some o → o.data = .fields ws → h1.get? b = some o := fun b o ws q hd => by
    refine (hs1.2.1 b fun hm => ?_).trans q
    obtain ⟨_, o', ho', hn⟩ := f3.mem hm
    rw [q] at ho'; cases ho'; exact hn ws hd
  have he1 := nfr e _ vs he rfl
  have kb : B.StaysIn h1 := fun b o q => (hs1.2.1 b fun hm => by rw [(f3.mem hm).1] at q; cases q).trans (f1 b o q)
  generalize hN : ({ cls := .type "traceback", dict := none, data := .fields ([head, .ref L, .none, rawInt L, .none] ++ (if pl.isEmpty then List.replicate 6 Value.none else pl)).toArray } : Obj) = nT
  have hTe : h1.objs.size ≠ e := Nat.ne_of_gt (Heap.lt_size he1)
  have he2 : (h1.push nT).get? e = some ⟨c, dc, .fields vs, #[]⟩ := Heap.get?_push_of_some _ he1
  have oth : ∀ b o, b ≠ e → h1.get? b = some o → ∀ f, ((h1.push nT).update e f).get? b = some o := fun b o hb q f => by
    rw [Heap.get?_update_other _ _ (Ne.symm hb)]; exact Heap.get?_push_of_some _ q
  refine wpAny_setField he2 rfl (by omega) (h _ ⟨fun b o q => oth b o (fun z => by rw [z, f2] at q; cases q) (kb b o q) _, f2, f3.of_keeps fun b o q hn => ?_, vs.setIfInBounds 1 (.ref h1.objs.size), ?_, by simpa using hz, ?_, h1.objs.size, nT, _, ?_, ?_, hTe, ?_, by rw [← hN], ?_, ?_⟩ fun b o q hn => ?_)
  · obtain ⟨sl, z⟩ := hs1.2.2 b o q
    exact ⟨_, oth b _ (fun y => by rw [y, he] at q; cases q; exact hn vs rfl) z _, rfl⟩
  · rw [Heap.get?_update_self _ he2 rfl]; rfl
  · rw [Array.getElem?_setIfInBounds_ne (by decide)]; exact h0
  · simp [hz]
  · cases q : B.get? h1.objs.size with
    | none => rfl
    | some o => exact absurd (Heap.lt_size (kb _ o q)) (Nat.lt_irrefl _)
  · rw [Heap.get?_update_other _ _ (Ne.symm hTe)]
    exact Heap.get?_push_size _ (by rw [← hN]; rfl)
  · simp
  · simp
  · obtain ⟨sl, z⟩ := hs1.2.2 b o q
    exact ⟨sl, oth b _ (fun y => by rw [y, he] at q; cases q; exact hn vs rfl) z _⟩
theorem fl_note (hfr : A.frames = some (env :: outer)) (hf : env.frame = some L) (F : Fl B (env :: outer) e c dc a0 st s.heap) (hst : st = none ∨ st = some .none)
    (h : ∀ h', Fl B (env :: outer) e c dc a0 (some (rawInt L)) h' → s.heap.UpToSlots h' → Q () { s with heap := h' }) : wpAny M A (noteFrame (.ref e) env) Q E s := by
  obtain ⟨f1, f2, f3, vs, he, hz, h0, r⟩ := F
  unfold noteFrame
  simp only [hf]
  rcases hst with rfl | rfl
  · have r' : vs[1]? = some .none := r
    refine wpAny_bind (wpAny_field he rfl r' ?_)
    rw [if_neg (by decide)]
    exact fl_entry hfr hf f1 f2 f3 he hz h0 h
  · obtain ⟨T, oT, ts, h1, hBT, hTe, hT, hd, h3, hfl⟩ := r
    refine wpAny_bind (wpAny_field he rfl h1 ?_)
    rw [if_pos (show (Value.ref T != Value.none) = true by simp)]
    refine wpAny_bind (wpAny_field hT hd hfl ?_)
    rw [if_neg (show ¬ ((Value.none == rawInt L) = true) by simp [rawInt])]
    refine wpAny_bind (wpAny_setField hT hd h3 ?_)
    have oth : ∀ b, b ≠ T → ∀ f, (s.heap.update T f).get? b = s.heap.get? b := fun b hb f => Heap.get?_update_other _ _ (Ne.symm hb)
    have hup : ∀ b o, s.heap.get? b = some o → (∀ vs, o.data ≠ .fields vs) → b ≠ T := fun b o hb hn z => by
      rw [z, hT] at hb; cases hb; exact hn ts hd
    refine fl_entry (s := { s with heap := s.heap.update T _ }) hfr hf (fun b o q => ?_) f2 (f3.of_keeps fun b o q hn => ⟨o, by rw [oth b (hup b o q hn)]; exact q, rfl⟩) (by rw [oth e (Ne.symm hTe)]; exact he) hz h0 fun h' F' u => h h' F' fun b o q hn => u b o (by rw [oth b (hup b o q hn)]; exact q) hn
    rw [oth b fun z => by rw [z, hBT] at q; cases q]; exact f1 b o q
theorem fl_leave (hfr : A.frames = some (env :: outer)) (hf : env.frame = some L) (F : Fl B (env :: outer) e c dc a0 st s.heap) (hst : st = none ∨ st = some .none)
    (h : ∀ h', Fl B outer e c dc a0 (some .none) h' → s.heap.UpToSlots h' → Q () { s with heap := h' }) : wpAny M A (leaving env (.ref e)) Q E s := by
  unfold leaving
  refine wpAny_bind (fl_note hfr hf F hst fun h1 F1 u1 => fl_set (s := { s with heap := h1 }) F1 fun h2 F2 u2 => ?_)
  obtain ⟨k1, k2, ⟨_, _, k3⟩, k4⟩ := F2
  exact h h2 ⟨k1, k2, k3, k4⟩ (u1.trans u2)
end

/-! ### an exception that left a def -/
/-- what stood at s stands in B (the frames at l up to slots, in h); tracked things as H' says -/
structure XUn (l : List Env) (H H' : Hp) (h0 B h : Heap) : Prop where
  keep : ∀ b o, h0.get? b = some o → H b = none → b ∉ frs l → B.get? b = some o
  slot : ∀ b o, h0.get? b = some o → H b = none → b ∈ frs l → ∃ sl, h.get? b = some { o with slots := sl }
  free : ∀ b o, h0.get? b = some o → H b = none → H' b = none
  there : ∀ b o, h0.get? b = some o → b ∉ frs l → ∃ o', B.get? b = some o'
  fthere : ∀ b o, h0.get? b = some o → b ∈ frs l → ∃ o', h.get? b = some o'
  tups : ∀ b xs, H b = some (.tup xs) → H' b = some (.tup xs)
  frzs : ∀ b o u, H b = some (.frz o u) → H' b = some (.frz o u)
  tbls : ∀ b ps, H b = some (.tbl ps) → ∃ more, H' b = some (.tbl (ps ++ more))
theorem XUn.un {l : List Env} {H H' : Hp} {h0 B h : Heap} (x : XUn l H H' h0 B h) (st : B.StaysIn h) : Un (frs l) [] H H' h0 h :=
  ⟨fun b o q n hb _ => st b o (x.keep b o q n hb), fun b o q n hb _ => x.slot b o q n hb, fun b o q n _ => x.free b o q n, fun b o q _ => by
    by_cases hb : b ∈ frs l
    · exact x.fthere b o q hb
    · obtain ⟨o', z⟩ := x.there b o q hb
      exact ⟨o', st b o' z⟩, x.tups, x.frzs, x.tbls⟩
def CX1 (P : Program) (w : World) : CXT := fun outer H s E e s' =>
  ∃ (ea t C : Addr) (dx : Option Addr) (H' : Hp) (B : Heap), e = .ref ea ∧ s'.os = s.os ∧ AllBare s'.gens ∧ Fl B outer ea (.ref C) dx (.ref t) (some .none) s'.heap ∧ HOk P w H' B ∧ XUn outer H H' s.heap B s'.heap ∧ H' ea = none ∧ s.heap.objs.size ≤ ea ∧ E (.ref C) dx H'
section
variable {P : Program} {w : World} {K : PySem.W.Frag} {mg : Str → Option Value} {base : Heap} {N : List Str} {qual : Str} {scope : Scope} {f : Addr} {cd : Value} {A : Around} {outer : List Env} {s0 : Shared} {H0 : Hp} {E : XK}
/-- it passes a def's frame -/
theorem pass1 : Passes (CX1 P w) (cxOf (CX1 P w) P w K mg base N qual scope f cd A outer s0 H0 E) E := by
  intro pins σ H s e s' I h
  obtain ⟨ea, t, C, dx, H', B, rfl, ho, hg, F, hok, x, hn, hea, q⟩ := h
  have hfr : (A.deeper (envOfC qual scope s0.heap.objs.size f cd)).frames = some (envOfC qual scope s0.heap.objs.size f cd :: outer) := I.ok.frames
  show wpAny (model P w) (A.deeper (envOfC qual scope s0.heap.objs.size f cd)) (leaving (envOfC qual scope s0.heap.objs.size f cd) (.ref ea)) _ _ s'
  refine fl_leave hfr rfl F (.inr rfl) fun h' F' u' => ?_
  have ab : ∀ b o, s0.heap.get? b = some o → b ≠ s0.heap.objs.size := fun b o q => Nat.ne_of_lt (Heap.lt_size q)
  have I0 : Un (frs outer) [] H0 H s0.heap s.heap := I.base
  have nst : ∀ b o, s0.heap.get? b = some o → b ∉ frs outer → b ∉ frs (envOfC qual scope s0.heap.objs.size f cd :: outer) := fun b o q hb hm => by
    unfold frs at hm
    rw [List.filterMap_cons] at hm
    rcases List.mem_cons.mp hm with z | z
    · exact ab b o q z
    · exact hb z
  have sub : ∀ b, b ∈ frs outer → b ∈ frs (envOfC qual scope s0.heap.objs.size f cd :: outer) := fun b hb => by
    unfold frs
    rw [List.filterMap_cons]
    exact List.mem_cons_of_mem _ hb
  have fro : ∀ b, b ∈ frs outer → ∀ o, s'.heap.get? b = some o → ∀ vs, o.data ≠ .fields vs := fun b hb o q vs hd => by
    obtain ⟨_, o', ho', hn'⟩ := F.frs.mem (sub b hb)
    rw [q] at ho'; cases ho'; exact hn' vs hd
  refine ⟨ea, t, C, dx, H', B, rfl, ho.trans I.os, hg, F', hok, ⟨fun b o q n hb => ?_, fun b o q n hb => ?_, fun b o q n => ?_, fun b o q hb => ?_, fun b o q hb => ?_, fun b xs q => x.tups b xs (I0.tups b xs q), fun b o u q => x.frzs b o u (I0.frzs b o u q), fun b ps q => ?_⟩, hn, Nat.le_trans (Nat.le_trans I.sz (Nat.le_refl _)) hea, q⟩
  · exact x.keep b o (I0.keep b o q n hb (by simp)) (I0.free b o q n (by simp)) (nst b o q hb)
  · obtain ⟨sl, z⟩ := I0.slot b o q n hb (by simp)
    obtain ⟨sl2, z2⟩ := x.slot b _ z (I0.free b o q n (by simp)) (sub b hb)
    obtain ⟨sl3, z3⟩ := u' b _ z2 (fro b hb _ z2)
    exact ⟨sl3, z3⟩
  · obtain ⟨o', z⟩ := I0.there b o q (by simp)
    exact x.free b o' z (I0.free b o q n (by simp))
  · obtain ⟨o', z⟩ := I0.there b o q (by simp)
    exact x.there b o' z (nst b o q hb)
  · obtain ⟨o', z⟩ := I0.there b o q (by simp)
    obtain ⟨o2, z2⟩ := x.fthere b o' z (sub b hb)
    obtain ⟨sl, z3⟩ := u' b _ z2 (fro b hb _ z2)
    exact ⟨_, z3⟩
  · obtain ⟨m1, e1⟩ := I0.tbls b ps q
    obtain ⟨m2, e2⟩ := x.tbls b _ e1
    exact ⟨m1 ++ m2, by rw [e2, Array.append_assoc]⟩
/-- a raise in a def's own body: the exception at e, just made -/
def XO (C t : Addr) (dx : Option Addr) (e : Addr) : HO := .ext fun h => h.get? e = some ⟨.ref C, dx, .fields #[.ref t, .none, .none, .none, .bool false, .none], #[]⟩
def rm (H : Hp) (e : Addr) : Hp := fun b => if b = e then none else H b
theorem rm_self {H : Hp} {e : Addr} : rm H e e = none := by unfold rm; rw [if_pos rfl]
theorem rm_ne {H : Hp} {e b : Addr} (h : b ≠ e) : rm H e b = H b := by unfold rm; rw [if_neg h]
theorem xe_raise {pins : List (Addr × Obj)} {σ : St} {H : Hp} {s : Shared} {e C t : Addr} {dx : Option Addr} (I : Inv (cxOf (CX1 P w) P w K mg base N qual scope f cd A outer s0 H0 E) pins σ H s) (he : H e = some (XO C t dx e)) (hnew : s0.heap.objs.size ≤ e)
    (q : E (.ref C) dx (rm H e)) : (cxOf (CX1 P w) P w K mg base N qual scope f cd A outer s0 H0 E).xe (.ref e) s := by
  have hfr : (A.deeper (envOfC qual scope s0.heap.objs.size f cd)).frames = some (envOfC qual scope s0.heap.objs.size f cd :: outer) := I.ok.frames
  show wpAny (model P w) (A.deeper (envOfC qual scope s0.heap.objs.size f cd)) (leaving (envOfC qual scope s0.heap.objs.size f cd) (.ref e)) _ _ s
  obtain ⟨hφ, _, _⟩ : (s.heap.get? e = some ⟨.ref C, dx, .fields #[.ref t, .none, .none, .none, .bool false, .none], #[]⟩) ∧ _ ∧ _ := I.hok e _ he
  let hid : List Addr := e :: frs (envOfC qual scope s0.heap.objs.size f cd :: outer)
  have st : (PySem.W.hideAll s.heap hid).StaysIn s.heap := fun b o q => PySem.W.of_hideAll _ q
  have hB : ∀ b o, s.heap.get? b = some o → b ∉ hid → (PySem.W.hideAll s.heap hid).get? b = some o := fun b o q hb => PySem.W.hideAll_get _ q hb
  have hBn : ∀ b, b ∈ hid → (PySem.W.hideAll s.heap hid).get? b = none := fun b hb => PySem.W.hideAll_none _ hb
  have stk : s.heap.FunFrames base (envOfC qual scope s0.heap.objs.size f cd :: outer) := I.stack
  have hfun : s.heap.FunFrames (PySem.W.hideAll s.heap hid) (envOfC qual scope s0.heap.objs.size f cd :: outer) :=
    PySem.W.funFrames_hide stk fun env he' b hb => List.mem_cons_of_mem _ (List.mem_filterMap.mpr ⟨env, he', hb⟩)
  have hfree : ∀ b ∈ frs (envOfC qual scope s0.heap.objs.size f cd :: outer), H b = none := I.stkFree
  refine fl_leave hfr rfl (st := none) ⟨st, hBn e (List.mem_cons_self ..), hfun, _, hφ, rfl, rfl, rfl⟩ (.inl rfl) fun h' F' u' => ?_
  have ab : ∀ b o, s0.heap.get? b = some o → b ≠ s0.heap.objs.size := fun b o q => Nat.ne_of_lt (Heap.lt_size q)
  have I0 : Un (frs outer) [] H0 H s0.heap s.heap := I.base
  have ne : ∀ b o, s0.heap.get? b = some o → b ≠ e := fun b o q => Nat.ne_of_lt (Nat.lt_of_lt_of_le (Heap.lt_size q) hnew)
  have nh : ∀ b o, s0.heap.get? b = some o → b ∉ frs outer → b ∉ hid := fun b o q hb hm => by
    rcases List.mem_cons.mp hm with z | z
    · exact ne b o q z
    · unfold frs at z
      rw [List.filterMap_cons] at z
      rcases List.mem_cons.mp z with z | z
      · exact ab b o q z
      · exact hb z
  have fro : ∀ b, b ∈ frs outer → ∀ o, s.heap.get? b = some o → ∀ vs, o.data ≠ .fields vs := fun b hb o q vs hd => by
    obtain ⟨_, o', ho', hn'⟩ := stk.mem (b := b) (by rw [List.filterMap_cons]; exact List.mem_cons_of_mem _ hb)
    rw [q] at ho'; cases ho'; exact hn' vs hd
  refine ⟨e, t, C, dx, rm H e, PySem.W.hideAll s.heap hid, rfl, I.os, I.bare, F', fun b o q => ?_, ⟨fun b o q n hb => ?_, fun b o q n hb => ?_, fun b o q n => ?_, fun b o q hb => ?_, fun b o q hb => ?_, fun b xs q => ?_, fun b o u q => ?_, fun b ps q => ?_⟩, rm_self, hnew, q⟩
  · have hbe : b ≠ e := fun z => by rw [z, rm_self] at q; cases q
    rw [rm_ne hbe] at q
    refine (I.hok b o q).stay (fun c v hc z => hB c v z fun hm => ?_) (fun c z => ?_) fun c xs z => ?_
    · rcases List.mem_cons.mp hm with y | y
      · subst y
        rcases hc with y | y
        · exact hbe y.symm
        · rw [he] at y; cases y
      · have := hfree c y
        rcases hc with y' | y'
        · rw [y', q] at this; cases this
        · rw [y'] at this; cases this
    · rw [rm_ne fun y => by rw [y, he] at z; cases z]; exact z
    · rw [rm_ne fun y => by rw [y, he] at z; cases z]; exact z
  · exact hB b o (I0.keep b o q n hb (by simp)) (nh b o q hb)
  · obtain ⟨sl, z⟩ := I0.slot b o q n hb (by simp)
    obtain ⟨sl2, z2⟩ := u' b _ z (fro b hb _ z)
    exact ⟨sl2, z2⟩
  · rw [rm_ne (ne b o q)]; exact I0.free b o q n (by simp)
  · obtain ⟨o', z⟩ := I0.there b o q (by simp)
    exact ⟨o', hB b o' z (nh b o q hb)⟩
  · obtain ⟨o', z⟩ := I0.there b o q (by simp)
    obtain ⟨sl2, z2⟩ := u' b _ z (fro b hb _ z)
    exact ⟨_, z2⟩
  · have z := I0.tups b xs q
    rw [rm_ne fun y => by rw [y, he] at z; cases z]; exact z
  · have z := I0.frzs b o u q
    rw [rm_ne fun y => by rw [y, he] at z; cases z]; exact z
  · obtain ⟨m, z⟩ := I0.tbls b ps q
    exact ⟨m, by rw [rm_ne fun y => by rw [y, he] at z; cases z]; exact z⟩
end
end L2

set_option Elab.async false
set_option linter.all false
set_option maxRecDepth 100000
set_option maxHeartbeats 4000000
namespace L2
open PySem PySem.Spec PyProof.Rows PySem.W PySem.Builtin PySem.Builtin.ObjectAttr
/-- what the class of an exception must have, by the fragment -/
structure XCls (K : PySem.W.Frag) (C : Addr) (cd : ClassData) (f : Addr) : Prop where
  cls : PySem.W.clsIn K C = some cd
  dct : cd.hasDict = true
  own : ∃ pre, cd.mro = pre ++ [.type "ValueError", .type "Exception", .type "BaseException", .type "object"] ∧ ∀ v ∈ pre, ∃ c, v = Value.ref c
  setA : PySem.W.findIn K (.ref C) "__setattr__" = some (some (.builtin "object.__setattr__"))
section
variable {prog : Program} {w : World} {K : PySem.W.Frag} {A : Around} {E : Value → Shared → Prop} {s : Shared} {e C f : Addr} {cd : ClassData} {name : Str} {v : Value} {vs : Array Value}
theorem refuse_exc (self : Value) : ∀ (pre : List Value), (∀ v ∈ pre, ∃ c, v = Value.ref c) → refuseLoop self "__setattr__" (pre ++ [.type "ValueError", .type "Exception", .type "BaseException", .type "object"]) = pure ()
  | [], _ => by kernel_rfl
  | v :: r, h => by
    obtain ⟨c, rfl⟩ := h v (List.mem_cons_self ..)
    rw [List.cons_append, refuseLoop_ref]
    exact refuse_exc self r fun v hv => h v (List.mem_cons_of_mem _ hv)

theorem sub_object (XC : XCls K C cd f) : cd.mro.contains (.type "object") = true ∧ cd.mro.isEmpty = false := by
  obtain ⟨pre, e, _⟩ := XC.own
  rw [e]
  refine ⟨?_, by cases pre <;> rfl⟩
  rw [List.contains_iff_mem]
  exact List.mem_append_right _ (by simp)
theorem set_exc {Q : Unit → Shared → Prop} (KI : K.In s.heap) (XC : XCls K C cd f) (he : s.heap.get? e = some ⟨.ref C, none, .fields vs, #[]⟩) (ht : PySem.W.takerIn K C name = some none)
    (h : ∀ (h' : Heap), h'.get? e = some ⟨.ref C, some s.heap.objs.size, .fields vs, #[]⟩ → h'.Ns1 s.heap.objs.size (fun x => if x = name then some v else none) → (∀ b o, b ≠ e → s.heap.get? b = some o → h'.get? b = some o) → Q () { s with heap := h', toks := s.toks + 2 }) :
    wpAny (model prog w) A (setAttr (.ref e) name v) Q E s := by
  have II : InstAt s.heap e ⟨.ref C, none, .fields vs, #[]⟩ C none := ⟨he, rfl, rfl, trivial⟩
  refine set_plain KI II XC.setA ?_
  have SF := PySem.F.store_object
  obtain ⟨hobj, hne⟩ := sub_object XC
  have mr : Looks (model prog w) s.heap (mroOf (.ref C)) cd.mro := (looks_clsIn KI XC.cls).andThen .now
  have isO : Looks (model prog w) s.heap (isInstance (.ref e) (.type "object")) true :=
    II.type.andThen (looks_mroIn KI (by unfold mroIn; rw [XC.cls, Option.bind_some, if_neg (by rw [hne]; decide), hobj]))
  refine codeAny_call_builtin (s := { s with toks := s.toks + 1 }) SF.slot.plain SF.entry
    (@check_slot (model prog w) _ _ { s with toks := s.toks + 1 } "object.__setattr__" "object" "__setattr__" (.ref e) [.str name s.toks, v] [] _ SF.kind SF.split isO (SF.args (.ref e) (.str name s.toks) v) ?_)
  obtain ⟨attr, ha, hr⟩ := Option.bind_eq_some_iff.mp ht
  have tk3 : Looks (model prog w) s.heap (storeTaker? attr) none := by
    cases attr with
    | none => cases hr; exact .now
    | some a =>
      obtain ⟨b, hb, hbe⟩ := Option.map_eq_some_iff.mp hr
      cases b with
      | true => cases hbe
      | false => exact (looks_takesIn KI hb).andThen .now
  rw [osa_eq, refuse_eq]
  refine wpAny_bind (wpAny_bind (Looks.here (s := { s with toks := s.toks + 1 }) II.type (wpAny_bind (Looks.here (s := { s with toks := s.toks + 1 }) mr ?_))))
  obtain ⟨pre, hpre, hown⟩ := XC.own
  rw [hpre, refuse_exc _ pre hown]
  refine wpAny_pure (wpAny_bind (Looks.here (s := { s with toks := s.toks + 1 }) II.type (wpAny_bind (Looks.here (s := { s with toks := s.toks + 1 }) (looks_findIn KI ha) (wpAny_bind (Looks.here (s := { s with toks := s.toks + 1 }) tk3 ?_))))))
  show wpAny (model prog w) A.in1 (storeInOwnDict (.ref e) (.ref C) (.str name s.toks) name v attr.isSome) _ _ { s with toks := s.toks + 1 }
  refine wpAny_bind (wpAny_pure (wpAny_bind (wpAny_bind (wpAny_loadPart he (wpAny_bind (Looks.here (s := { s with toks := s.toks + 1 }) (looks_clsIn KI XC.cls) ?_))))))
  rw [XC.dct]
  refine wpAny_bind (wpAny_alloc (wpAny_bind (wpAny_update (o := ⟨.ref C, none, .fields vs, #[]⟩) (Heap.get?_push_of_some _ he) (wpAny_pure ?_))))
  dsimp only
  show wpAny (model prog w) A.in1 (storeInDict s.heap.objs.size (.str name s.toks) name v) _ _ _
  have hde : e ≠ s.heap.objs.size := Nat.ne_of_lt (Heap.lt_size he)
  generalize hU : ((s.heap.push { cls := .type "dict", data := .dict #[] }).update e fun o => { cls := o.cls, dict := some s.heap.objs.size, data := o.data, slots := o.slots }) = h1
  have he1 : h1.get? e = some ⟨.ref C, some s.heap.objs.size, .fields vs, #[]⟩ := by
    rw [← hU, Heap.get?_update_self _ (Heap.get?_push_of_some _ he) rfl]
  have hd1 : h1.get? s.heap.objs.size = some { cls := .type "dict", data := .dict #[] } := by
    rw [← hU, Heap.get?_update_other _ _ hde]; exact Heap.get?_push_size _ rfl
  have hk1 : ∀ b o, b ≠ e → s.heap.get? b = some o → h1.get? b = some o := fun b o hb q => by
    rw [← hU, Heap.get?_update_other _ _ (Ne.symm hb)]; exact Heap.get?_push_of_some _ q
  have hn1 : h1.Ns1 s.heap.objs.size (fun _ => none) := ⟨_, #[], 0, hd1, rfl, by intro x hx; simp at hx, by simp [UniqKeys], fun _ => rfl⟩
  unfold storeInDict newKeyGuard
  refine wpAny_bind (wpAny_pure (wpAny_bind (wpAny_nsSet1 (m := fun _ => none) hn1 fun h2 hn2 hs2 => ?_)))
  obtain ⟨od, es, ep, ho, hdd, r⟩ := hn2.count (PySem.Within.cons name v PySem.Within.nil)
  refine wpAny_bind (wpAny_lookBehind ho ?_ (wpAny_pure ?_))
  · rw [hdd]
    exact pastItsLine_dict (Nat.le_trans r (by show 1 ≤ _; decide))
  · exact h h2 ((hs2.2 e hde).trans he1) hn2 fun b o hb q => (hs2.2 b (Nat.ne_of_lt (Heap.lt_size q))).trans (hk1 b o hb q)

/-- C(..) of an exception class with an __init__ of its own: the arguments' tuple, the exception, then the __init__ -/
theorem make_exc {Q : Value → Shared → Prop} {nm q : Str} {N : Addr} {bs bm : List Value} {hdct : Bool} {sn : List Str} {sub : List Value} {ab : Bool} {col : Option Bool} {dd : Option Addr} {k0 k1 k2 k3 k5 : Option Value} {rest : List Value}
    (KI : K.In s.heap) (hC : K.lookup C = some (excClassObj nm q C N bs bm hdct sn sub ab col dd k0 k1 k2 k3 k5 "ValueError.__new__"))
    (tl : tailIn K [.type "ValueError", .type "Exception", .type "BaseException", .type "object"] bm = true) (hi : findIn K (.ref C) "__init__" = some (some (.ref f))) (hf : typeIn K (.ref f) = some (.type "function")) (hrest : rest.length ≤ sizeLine)
    (h : codeAny (model prog w) (A.under (.builtin "type.__call__" ⟨.ref C :: rest, []⟩)) (.call (.ref f) ⟨.ref (s.heap.objs.size + 1) :: rest, []⟩)
      (fun r s' => match r with | .ok (.ret u) => u = .none ∧ Q (.ref (s.heap.objs.size + 1)) s' | .ok _ => False | .error x => E x s')
      { s with heap := (s.heap.push { cls := .type "tuple", data := .seq rest.toArray }).push { cls := .ref C, data := .fields #[.ref s.heap.objs.size, .none, .none, .none, .bool false, .none] } }) :
    wpAny (model prog w) A (call (.ref C) rest) Q E s := by
  obtain ⟨hp, g, d, t, os⟩ := s
  have hC0 : hp.get? C = some (excClassObj nm q C N bs bm hdct sn sub ab col dd k0 k1 k2 k3 k5 "ValueError.__new__") := KI _ _ hC
  have TL : OwnTail hp [.type "ValueError", .type "Exception", .type "BaseException", .type "object"] bm := tail_of_in KI tl
  have FV := PySem.F.excBase_ValueError
  have f1 := tc_lookup
  have f2 := tc_bind (.ref C)
  have hT : (⟨hp, g, d, t, os⟩ : Shared).TypeIs (.ref C) "type" := ⟨_, hC0, rfl⟩
  refine wpAny_call (codeAny_of_tree ?_); show wpAny _ _ (callAny (.ref C) _) _ _ _
  repeat (any_goals (first | assumption | with_reducible refine wpAny_loadPart_at hC0 ?_ | wp_step))
  refine ⟨rfl, codeAny_call_builtin_at (Code.quiet_builtin _ (by decide +kernel)) entry_typeCall (wpAny_check_type_call_sub hC0 ?_)⟩
  repeat (first | with_reducible refine wpAny_loadPart_at hC0 ?_ | with_reducible refine wpAny_madeBy_exc hC0 ?_ | wp_step)
  refine codeAny_call_builtin_code (Code.quiet_builtin _ FV.quiet) (wpAny_check_new_subU FV (by decide +kernel) TL hC0 ?_)
  refine codeAny_exc_new_subU FV (by decide +kernel) FV TL hC0 ?_ hrest
  dsimp only at h
  show wpAny (model prog w) _ _ _ _ ⟨(hp.push { cls := .type "tuple", data := .seq rest.toArray }).push { cls := .ref C, data := .fields #[.ref hp.objs.size, .none, .none, .none, .bool false, .none] }, g, d, t, os⟩
  generalize hH1 : (hp.push { cls := .type "tuple", data := .seq rest.toArray }).push { cls := .ref C, data := .fields #[.ref hp.objs.size, .none, .none, .none, .bool false, .none] } = h1 at h ⊢
  have up : ∀ b o, hp.get? b = some o → h1.get? b = some o := fun b o z => by rw [← hH1]; exact Heap.get?_push_of_some _ (Heap.get?_push_of_some _ z)
  have hC1 := up _ _ hC0
  have K1 : K.In h1 := KI.keeps up
  have hget : h1.get? (hp.objs.size + 1) = some { cls := .ref C, data := .fields #[.ref hp.objs.size, .none, .none, .none, .bool false, .none] } := by rw [← hH1]; heap_get
  have hself : (Value.ref C :: bm).contains (.ref C) = true := by simp
  unfold isInstance
  repeat (first | with_reducible refine wpAny_loadPart_at hget ?_ | (with_reducible refine wpAny_isSubtype_exc hC1 ?_; rw [hself]) | wp_step)
  refine Looks.here (s := ⟨h1, g, d, t, os⟩) (looks_findIn K1 hi) ?_
  refine wpAny_holding (wpAny_bind (Looks.here (s := ⟨h1, g, d, t, os⟩) (bind_fn K1 _ hf) ?_))
  refine wpAny_bind (wpAny_call (codeAny_mono h fun r s' z => ?_))
  cases r with
  | error x => exact z
  | ok fl =>
    cases fl with
    | ret u =>
      obtain ⟨rfl, z⟩ := z
      exact wpAny_pure (wpAny_pure z)
    | next => exact z.elim
    | brk => exact z.elim
    | cont => exact z.elim
end
end L2

set_option Elab.async false
set_option linter.all false
set_option maxRecDepth 100000
set_option maxHeartbeats 4000000
namespace L2
open PySem PySem.Spec PyProof.Rows PySem.W
section
variable {X : Cx} {pins : List (Addr × Obj)} {σ : St} {H : Hp} {s : Shared} {C f : Addr} {cd : ClassData}
theorem XO_ok {P : Program} {w : World} {H : Hp} {h : Heap} {C t e : Addr} {dx : Option Addr} (he : h.get? e = some ⟨.ref C, dx, .fields #[.ref t, .none, .none, .none, .bool false, .none], #[]⟩) : ObjOk P w H h e (XO C t dx e) :=
  ⟨he, ⟨_, he⟩, fun h1 h2 q k => k _ q⟩
/-- a new exception, with its arguments' tuple -/
theorem Inv.xmade {xs : List V} {us : List Value} (I : Inv X pins σ H s) (r : Vals xs us) (hz : xs.length ≤ sizeLine) :
    Inv X pins σ (upd (upd H s.heap.objs.size (.tup xs)) (s.heap.objs.size + 1) (XO C s.heap.objs.size none (s.heap.objs.size + 1)))
      { s with heap := (s.heap.push { cls := .type "tuple", data := .seq us.toArray }).push { cls := .ref C, data := .fields #[.ref s.heap.objs.size, .none, .none, .none, .bool false, .none] } } := by
  have I1 := I.laid (a := s.heap.objs.size) (o := .tup xs) (h' := s.heap.push { cls := .type "tuple", data := .seq us.toArray }) (t' := s.toks) (fun b u q => Heap.get?_push_of_some _ q) (Nat.le_refl _) ⟨hz, us, r, IsTup.new _ _⟩
  refine I1.laid (a := s.heap.objs.size + 1) (t' := s.toks) (fun b u q => Heap.get?_push_of_some _ q) (Nat.le_of_eq (Heap.size_push _ _)) (XO_ok ?_)
  have z := Heap.get?_push_size (s.heap.push { cls := .type "tuple", data := .seq us.toArray }) (o := { cls := .ref C, data := .fields #[.ref s.heap.objs.size, .none, .none, .none, .bool false, .none] }) rfl
  rwa [Heap.size_push] at z
/-- the one field of an exception is stored -/
theorem setattr_exc {A : Around} {E : Value → Shared → Prop} {a t : Addr} {n : Str} {y : V} {u : Value} {Q : Unit → Shared → Prop} (I : Inv X pins σ H s) (e : H a = some (XO C t none a)) (XC : XCls X.K C cd f) (ht : takerIn X.K C n = some none) (ry : RelV y u)
    (h : ∀ s' dx, H dx = none → dx ≠ a → Inv X pins σ (upd (upd H dx (.xd [(n, y)])) a (XO C t (some dx) a)) s' → Q () s') : wpAny (model X.prog X.w) A (setAttr (.ref a) n u) Q E s := by
  obtain ⟨he, _, _⟩ : (s.heap.get? a = some ⟨.ref C, none, .fields #[.ref t, .none, .none, .none, .bool false, .none], #[]⟩) ∧ _ ∧ _ := I.hok a _ e
  have hdn : H s.heap.objs.size = none := I.hok.fresh (Nat.le_refl _)
  have hda : s.heap.objs.size ≠ a := Nat.ne_of_gt (Heap.lt_size he)
  refine set_exc I.kIn XC he ht fun h' he' hn' hk => h _ s.heap.objs.size hdn hda ?_
  have nodx : ∀ b o, s.heap.get? b = some o → b ≠ s.heap.objs.size := fun b o q => Nat.ne_of_lt (Heap.lt_size q)
  have nota : ∀ b, H b = none → b ≠ a := fun b q z => by rw [z, e] at q; cases q
  refine I.un (h' := h') ⟨fun b o q n _ _ => hk b o (nota b n) q, fun b o q n _ _ => ⟨o.slots, hk b o (nota b n) q⟩, fun b o q n _ => ?_, fun b o q _ => ?_, fun b xs q => ?_, fun b o u q => ?_, fun b ps q => ⟨#[], ?_⟩⟩ fun b o q => ?_
  · rw [upd_ne (nota b n), upd_ne (nodx b o q)]; exact n
  · by_cases hb : b = a
    · exact ⟨_, by rw [hb]; exact he'⟩
    · exact ⟨o, hk b o hb q⟩
  · rw [upd_ne (fun z => by rw [z, e] at q; cases q), upd_ne (ne_of_none q hdn)]; exact q
  · rw [upd_ne (fun z => by rw [z, e] at q; cases q), upd_ne (ne_of_none q hdn)]; exact q
  · rw [upd_ne (fun z => by rw [z, e] at q; cases q), upd_ne (ne_of_none q hdn), q]; simp
  · by_cases hb : b = a
    · subst hb
      rw [upd_same] at q
      cases q
      exact XO_ok he'
    · rw [upd_ne hb] at q
      by_cases hd : b = s.heap.objs.size
      · subst hd
        rw [upd_same] at q
        cases q
        refine ⟨_, hn', fun g => ?_⟩
        show RelO (List.lookup g [(n, y)]) (if g = n then some u else none)
        by_cases z : g = n
        · subst z; simp [List.lookup_cons, RelO]; exact ry
        · have z' : (g == n) = false := by simpa using z
          simp [List.lookup_cons, z', z, RelO]
      · rw [upd_ne hd] at q
        have st : ∀ c u, H c = some u → ¬ (∃ φ, u = HO.ext φ) → c ≠ a := fun c u z hn y => by rw [y, e] at z; cases z; exact hn ⟨_, rfl⟩
        refine (I.hok b o q).stay (fun c v hc z => hk c v ?_ z) (fun c z => ?_) fun c xs z => ?_
        · rcases hc with y | y
          · rw [y]; exact hb
          · exact st c _ y fun ⟨_, z⟩ => by cases z
        · rw [upd_ne (st c _ z fun ⟨_, z⟩ => by cases z), upd_ne (ne_of_none z hdn)]; exact z
        · rw [upd_ne (st c _ z fun ⟨_, z⟩ => by cases z), upd_ne (ne_of_none z hdn)]; exact z
end
/-- self.n = value, self an exception just made -/
def sXf (K : PySem.W.Frag) (ta tv : TE) (n : Str) : TS := fun D σ H => tv σ H fun y H1 => ta σ H1 fun x H2 => ∃ a C t cd f, x = .ref a ∧ H2 a = some (XO C t none a) ∧ XCls K C cd f ∧ takerIn K C n = some none ∧
  ∀ dx, H2 dx = none → dx ≠ a → D.nx σ (upd (upd H2 dx (.xd [(n, y)])) a (XO C t (some dx) a))
section
variable {X : Cx} {o value : Expr} {n : Str} {pos pos' : Pos} {ta tv : TE}
theorem ps_xf (ha : PE X o ta) (hv : PE X value tv) (hs : swapsWith value (some (.Attribute o n pos')) pos.line X.env = pure false := by rfl) : PS X (.Assign [.Attribute o n pos'] value pos) (sXf X.K ta tv n) := by
  intro pins s σ H D I h
  refine plainObj_wpAny_Assign_Attribute (thn (hv pins s σ H _ I h) fun u s1 ⟨y, H1, I1, ry, q⟩ => thn (ha pins s1 σ H1 _ I1 q) fun ov s2 ⟨x, H2, I2, rx, a, C, t, cd, f, ex, ea, c, n, q2⟩ => ?_) hs
  subst ex
  obtain rfl : ov = Value.ref a := rx
  exact setattr_exc I2 ea c n ry fun s3 dx h1 h2 I3 => ⟨σ, _, I3, q2 dx h1 h2⟩
end
end L2

set_option Elab.async false
set_option linter.all false
set_option maxRecDepth 100000
set_option maxHeartbeats 4000000
namespace L2
open PySem PySem.Spec PyProof.Rows PySem.W
abbrev vErr : List Value := [.type "ValueError", .type "Exception", .type "BaseException", .type "object"]
/-- an exception class of the text, with an __init__ (at f) of its own -/
structure XMk (K : PySem.W.Frag) (C f : Addr) (cd : ClassData) : Prop where
  cls : XCls K C cd f
  obj : ∃ (nm q : Str) (N : Addr) (bs bm : List Value) (hdct : Bool) (sn : List Str) (sub : List Value) (ab : Bool) (col : Option Bool) (dd : Option Addr) (k0 k1 k2 k3 k5 : Option Value),
    K.lookup C = some (excClassObj nm q C N bs bm hdct sn sub ab col dd k0 k1 k2 k3 k5 "ValueError.__new__") ∧ tailIn K vErr bm = true ∧ bm.contains (.type "BaseException") = true
  init : findIn K (.ref C) "__init__" = some (some (.ref f))
  fn : typeIn K (.ref f) = some (.type "function")
  kp : keepIn K (.ref C) = true
/-- what the __init__ with one field promises -/
def spInit (K : PySem.W.Frag) (n : Str) : Sp := fun vs H Q _ => ∃ (a C t f : Addr) (cd : ClassData) (y : V), vs = [.ref a, y] ∧ H a = some (XO C t none a) ∧ XCls K C cd f ∧ takerIn K C n = some none ∧
  ∀ dx, H dx = none → dx ≠ a → Q .non (upd (upd H dx (.xd [(n, y)])) a (XO C t (some dx) a))
section
variable {X : Cx} {C f : Addr} {fd : FuncData} {cd : ClassData} {k : Nat} {n : Str} {ps : List Str}
/-- C(v): the exception, its field told -/
theorem run_xmake {pins : List (Addr × Obj)} {σ : St} {H : Hp} {s : Shared} {Q : VK} {u : Value} {y : V} (M : XMk X.K C f cd) (F : FnOk X.prog X.w X.K X.mg X.base CX0 k f fd ps (spInit X.K n)) (ht : takerIn X.K C n = some none)
    (hr : Room (k + 1) X.A) (hb : Binds X.K fd ps []) (hps : ps.length = 2) (I : Inv X pins σ H s) (r : RelV y u)
    (h : ∀ e t dx, H e = none → H t = none → H dx = none → X.s₀.heap.objs.size ≤ e → e ≠ t → dx ≠ t → dx ≠ e → Q (.ref e) (upd (upd (upd (upd H t (.tup [y])) e (XO C t none e)) dx (.xd [(n, y)])) e (XO C t (some dx) e))) :
    wpAny (model X.prog X.w) X.A (call (.ref C) [u]) (fun v s' => ∃ e H', v = .ref e ∧ Inv X pins σ H' s' ∧ Q (.ref e) H') X.xe s := by
  obtain ⟨nm, q, N, bs, bm, hdct, sn, sub, ab, col, dd, k0, k1, k2, k3, k5, hC, tl, _⟩ := M.obj
  have I2 := I.xmade (C := C) (xs := [y]) (us := [u]) (.cons r .nil) (by show 1 ≤ sizeLine; rw [sizeLine_eq]; decide)
  have hsp : spInit X.K n [.ref (s.heap.objs.size + 1), y] (upd (upd H s.heap.objs.size (.tup [y])) (s.heap.objs.size + 1) (XO C s.heap.objs.size none (s.heap.objs.size + 1))) (fun v H' => v = .non ∧ Q (.ref (s.heap.objs.size + 1)) H') E0 := by
    refine ⟨_, C, s.heap.objs.size, f, cd, y, rfl, upd_same, M.cls, ht, fun dx h1 h2 => ⟨rfl, ?_⟩⟩
    have hdt : dx ≠ s.heap.objs.size := fun z => by rw [upd_ne h2, z, upd_same] at h1; cases h1
    rw [upd_ne h2, upd_ne hdt] at h1
    exact h _ _ dx (I.hok.fresh (Nat.le_succ _)) (I.hok.fresh (Nat.le_refl _)) h1 (Nat.le_trans I.sz (Nat.le_succ _)) (Nat.ne_of_gt (Nat.lt_succ_self _)) hdt h2
  refine make_exc I.kIn hC tl M.init M.fn (by show 1 ≤ sizeLine; rw [sizeLine_eq]; decide) ?_
  refine codeAny_mono (F.run _ X.stack _ _ ⟨[.ref (s.heap.objs.size + 1), u], []⟩ [.ref (s.heap.objs.size + 1), u] [.ref (s.heap.objs.size + 1), y] _ E0 (hr.make C [u] []) (I2.env0.make C [u] []) (by simpa using hb _ [.ref (s.heap.objs.size + 1), u] I2.kIn (by rw [hps]; rfl)) (.cons rfl (.cons r .nil)) hsp) fun r s' hq => ?_
  cases r with
  | error e => exact hq.elim
  | ok fl =>
    cases fl with
    | ret u' =>
      obtain ⟨v, H', I3, rv, ev, q3⟩ := I2.after hq
      subst ev
      exact ⟨rv, _, _, rfl, I3, q3⟩
    | next => exact False.elim hq
    | brk => exact False.elim hq
    | cont => exact False.elim hq
end
/-- raise, the exception just made -/
theorem raise_x {M : Model} {A : Around} {E : Value → Shared → Prop} {s : Shared} {env : Env} {K : PySem.W.Frag} {C : Addr} {nm q : Str} {N : Addr} {bs bm : List Value} {hdct : Bool} {sn : List Str} {sub : List Value} {ab : Bool} {col : Option Bool} {dd : Option Addr} {k0 k1 k2 k3 k5 : Option Value} {newId : String} {x : Sem Value} {Q : Flow → Shared → Prop}
    (hbase : bm.contains (.type "BaseException") = true) (hh : A.handled = none)
    (h : wpAny M A x (fun v s1 => ∃ e t dc, v = .ref e ∧ s1.heap.get? C = some (excClassObj nm q C N bs bm hdct sn sub ab col dd k0 k1 k2 k3 k5 newId) ∧ s1.heap.get? e = some ⟨.ref C, dc, .fields #[.ref t, .none, .none, .none, .bool false, .none], #[]⟩ ∧ E (.ref e) s1) E s) :
    wpAny M A (raiseStmt env (some x) none) Q E s := by
  have hcB : (Value.ref C :: bm).contains (.type "BaseException") = true := by rw [List.contains_cons, hbase, Bool.or_true]
  unfold raiseStmt
  refine wpAny_bind (wpAny_mono h (fun v s1 h1 => ?_) fun _ _ z => z)
  obtain ⟨e, t, dc, rfl, hC, he, hE⟩ := h1
  obtain ⟨hp, g, d, tk, os⟩ := s1
  repeat (first | with_reducible refine wpAny_loadPart_at he ?_ | with_reducible refine wpAny_loadPart_at hC ?_ | (with_reducible refine wpAny_isSubtype_exc hC ?_; rw [hcB]) | wp_step)
  exact wpAny_raiseNew_none hh hE
def tRaise (C : Addr) (n : Str) (E : XK) (te : TE) : TS := fun _ σ H => tCons te tNil σ H fun vs H1 => ∃ y, vs = [y] ∧ ∀ t dx, H1 t = none → H1 dx = none → dx ≠ t → E (.ref C) (some dx) (upd (upd H1 t (.tup [y])) dx (.xd [(n, y)]))
section
variable {P : Program} {w : World} {K : PySem.W.Frag} {mg : Str → Option Value} {base : Heap} {N : List Str} {qual : Str} {scope : Scope} {fa : Addr} {cd0 : Value} {A : Around} {outer : List Env} {s0 : Shared} {H0 : Hp} {E : XK}
  {C f : Addr} {fd : FuncData} {cd : ClassData} {k : Nat} {n x : Str} {ps : List Str} {a : Expr} {te : TE} {p cpos pos : Pos}
theorem ps_raise (M : XMk K C f cd) (F : FnOk P w K mg base CX0 k f fd ps (spInit K n)) (ht : takerIn K C n = some none)
    (hr : Room (k + 1) (A.deeper (envOfC qual scope s0.heap.objs.size fa cd0))) (hb : Binds K fd ps []) (hps : ps.length = 2)
    (hg : Gl (cxOf (CX1 P w) P w K mg base N qual scope fa cd0 A outer s0 H0 E) x) (hm : mg x = some (.ref C))
    (he : PE (cxOf (CX1 P w) P w K mg base N qual scope fa cd0 A outer s0 H0 E) a te) (hdb : (x == ("__debug__" : Str)) = false := by decide) (hs : starEach [a] (cxOf (CX1 P w) P w K mg base N qual scope fa cd0 A outer s0 H0 E).env = [(false, eval a (cxOf (CX1 P w) P w K mg base N qual scope fa cd0 A outer s0 H0 E).env)] := by rfl) :
    PS (cxOf (CX1 P w) P w K mg base N qual scope fa cd0 A outer s0 H0 E) (.Raise (some (.Call (.Name x p) [a] [] cpos)) none pos) (tRaise C n E te) := by
  intro pins s σ H D I h
  obtain ⟨nm, q, N', bs, bm, hdct, sn, sub, ab, col, dd, k0, k1, k2, k3, k5, hC, tl, hB⟩ := M.obj
  rw [arm_exec_Raise]
  refine wpAny_bind (wpAny_standAt (raise_x (K := K) (C := C) (nm := nm) (q := q) (N := N') (bs := bs) (bm := bm) (hdct := hdct) (sn := sn) (sub := sub) (ab := ab) (col := col) (dd := dd) (k0 := k0) (k1 := k1) (k2 := k2) (k3 := k3) (k5 := k5) (newId := "ValueError.__new__") hB hr.hd ?_))
  refine wpAny_bind (thn (Q := fun v s1 => ∃ e H', v = .ref e ∧ Inv (cxOf (CX1 P w) P w K mg base N qual scope fa cd0 A outer s0 H0 E) pins σ H' s1 ∧ ∃ t dx, H' e = some (XO C t (some dx) e) ∧ s0.heap.objs.size ≤ e ∧ E (.ref C) (some dx) (rm H' e)) ?_ fun v s1 h1 => ?_)
  · refine wpAny_Call_Name_kw (ld_glob I hg hm ?_ hdb)
    refine callWith_K (h₀ := base) I.ok.mod.kin M.kp (thn (pa_cons he pa_nil hs cpos pins s σ H _ I h) fun us s1 hh => ?_) hs rfl
    obtain ⟨vs, H1, I1, r, q1⟩ := hh
    refine ⟨I1.kIn, ?_⟩
    obtain ⟨y, rfl, q1⟩ := q1
    obtain ⟨u, rfl, ru⟩ := vals1 r
    refine thn (run_xmake (Q := fun v H' => ∃ e t dx, v = .ref e ∧ H' e = some (XO C t (some dx) e) ∧ s0.heap.objs.size ≤ e ∧ E (.ref C) (some dx) (rm H' e)) M F ht hr hb hps I1 ru fun e t dx e1 e2 e3 e4 e5 e6 e7 => ⟨e, t, dx, rfl, upd_same, e4, ?_⟩) fun v s2 hq => ?_
    · have z := q1 t dx e2 e3 e6
      have eq : rm (upd (upd (upd (upd H1 t (.tup [y])) e (XO C t none e)) dx (.xd [(n, y)])) e (XO C t (some dx) e)) e = upd (upd H1 t (.tup [y])) dx (.xd [(n, y)]) := by
        funext b
        by_cases hb : b = e
        · subst hb
          rw [rm_self, upd_ne (Ne.symm e7), upd_ne e5, e1]
        · rw [rm_ne hb, upd_ne hb]
          by_cases hd : b = dx
          · subst hd; rw [upd_same, upd_same]
          · rw [upd_ne hd, upd_ne hb, upd_ne hd]
      rw [eq]; exact z
    · obtain ⟨e, H', rfl, I2, e', t, dx, ee, h1, h2, h3⟩ := hq
      cases ee
      exact ⟨e, H', rfl, I2, t, dx, h1, h2, h3⟩
  · obtain ⟨e, H', rfl, I1, t, dx, he', hn, q1⟩ := h1
    obtain ⟨hφ, _, _⟩ : (s1.heap.get? e = some ⟨.ref C, some dx, .fields #[.ref t, .none, .none, .none, .bool false, .none], #[]⟩) ∧ _ ∧ _ := I1.hok e _ he'
    exact wpAny_bind (wpAny_standAt (wpAny_pure ⟨e, t, some dx, rfl, I1.kIn _ _ hC, hφ, xe_raise I1 he' hn q1⟩))
end
end L2

set_option Elab.async false
set_option linter.all false
set_option maxRecDepth 100000
set_option maxHeartbeats 4000000
namespace L2
open PySem PySem.Spec PyProof.Rows PySem.W
/-! ### try .. except C as e, the exception caught -/
/-- an exception that was caught: its class, its dict -/
def XC (C dx : Addr) (e : Addr) : HO := .ext fun h => ∃ vs, h.get? e = some ⟨.ref C, some dx, .fields vs, #[]⟩
def blank (N : List Str) : St := N.map fun _ => none
theorem XC_ok {P : Program} {w : World} {H : Hp} {h : Heap} {C dx e : Addr} {vs : Array Value} (he : h.get? e = some ⟨.ref C, some dx, .fields vs, #[]⟩) : ObjOk P w H h e (XC C dx e) :=
  ⟨⟨vs, he⟩, ⟨_, he⟩, fun h1 h2 q k => let ⟨vs, q⟩ := q; ⟨vs, k _ q⟩⟩
section
variable {X : Cx} {pins : List (Addr × Obj)} {σ : St} {H H' : Hp} {s s1 : Shared} {B h' : Heap} {ea C dx t : Addr} {fl : Value}
/-- the frame's names are forgotten -/
theorem Inv.forget {m' : Str → Option Value} {tk : Nat} (I : Inv X pins σ H s) (hn : h'.Ns X.env.locals m') (hs : Heap.SameBut X.env.locals s.heap h') : Inv X pins (blank X.N) H { s with heap := h', toks := tk } := by
  have ab : ∀ b o, X.s₀.heap.get? b = some o → b ≠ X.env.locals := fun b o e => Nat.ne_of_lt (Nat.lt_of_lt_of_le (Heap.lt_size e) I.ok.above)
  refine ⟨I.ok, I.os, I.bare, ⟨fun b o e n hb hx => (hs.2 b (ab b o e)).trans (I.base.keep b o e n hb hx), fun b o e n hb hx => ?_, I.base.free, fun b o e hx => ?_, I.base.tups, I.base.frzs, I.base.tbls⟩, ⟨m', hn, fun i x v e1 e2 _ => ?_⟩, fun x c e => ?_, I.free, I.freeC, fun p hp => ?_, fun b o e => ?_, by unfold blank; rw [List.length_map]⟩
  · obtain ⟨sl, z⟩ := I.base.slot b o e n hb hx
    exact ⟨sl, (hs.2 b (ab b o e)).trans z⟩
  · obtain ⟨o', z⟩ := I.base.there b o e hx
    exact ⟨o', (hs.2 b (ab b o e)).trans z⟩
  · unfold blank at e2
    rw [List.getElem?_map] at e2
    cases q : X.N[i]? with
    | none => rw [q] at e2; cases e2
    | some y => rw [q] at e2; cases e2
  · obtain ⟨v, z⟩ := I.cell x c e
    exact ⟨v, z.sameBut hs (I.cne x c e)⟩
  · obtain ⟨e, n, ne, nf, d⟩ := I.pin p hp
    exact ⟨(hs.2 p.1 ne).trans e, n, ne, nf, d⟩
  · refine (I.hok b o e).stay (fun c v hc z => (hs.2 c ?_).trans z) (fun _ z => z) fun _ _ z => z
    intro y
    rcases hc with y' | y'
    · rw [← y', y] at e; rw [I.free] at e; cases e
    · rw [y, I.free] at y'; cases y'
theorem inv_catch (I : Inv X pins σ H s) (x : XUn X.stack H H' s.heap B s1.heap) (ho : s1.os = s.os) (hg : AllBare s1.gens) (F : Fl B X.stack ea (.ref C) (some dx) (.ref t) (some fl) h') (F1 : s1.heap.FunFrames B X.stack) (u : s1.heap.UpToSlots h') (hok : HOk X.prog X.w H' B) (hea : s.heap.objs.size ≤ ea) (hn : H' ea = none) :
    Inv X pins σ H' { s1 with heap := h' } ∧ Inv X pins σ (upd H' ea (XC C dx ea)) { s1 with heap := h' } := by
  have fro : ∀ b, b ∈ frs X.stack → ∀ o, s1.heap.get? b = some o → ∀ vs, o.data ≠ .fields vs := fun b hb o q vs hd => by
    obtain ⟨_, o', ho', hn'⟩ := F1.mem hb
    rw [q] at ho'; cases ho'; exact hn' vs hd
  have x' : XUn X.stack H H' s.heap B h' := by
    refine ⟨x.keep, fun b o q n hb => ?_, x.free, x.there, fun b o q hb => ?_, x.tups, x.frzs, x.tbls⟩
    · obtain ⟨sl, z⟩ := x.slot b o q n hb
      obtain ⟨sl2, z2⟩ := u b _ z (fro b hb _ z)
      exact ⟨sl2, z2⟩
    · obtain ⟨o', z⟩ := x.fthere b o q hb
      obtain ⟨sl2, z2⟩ := u b _ z (fro b hb _ z)
      exact ⟨_, z2⟩
  have un := x'.un F.stays
  have ne : ∀ b o, s.heap.get? b = some o → b ≠ ea := fun b o q => Nat.ne_of_lt (Nat.lt_of_lt_of_le (Heap.lt_size q) hea)
  have I1 : Inv X pins σ H' { s1 with heap := h' } := I.call' (s' := { s1 with heap := h' }) (ch := []) ho un (hok.kept F.stays) hg (fun _ z => nomatch z)
  refine ⟨I1, I.call' (s' := { s1 with heap := h' }) (ch := []) ho ⟨un.keep, un.slot, fun b o q n hx => ?_, un.there, fun b xs q => ?_, fun b o u q => ?_, fun b ps q => ?_⟩ (fun b o q => ?_) hg (fun _ z => nomatch z)⟩
  · rw [upd_ne (ne b o q)]; exact un.free b o q n hx
  · rw [upd_ne (ne_of_none (un.tups b xs q) hn)]; exact un.tups b xs q
  · rw [upd_ne (ne_of_none (un.frzs b o u q) hn)]; exact un.frzs b o u q
  · obtain ⟨m, z⟩ := un.tbls b ps q
    exact ⟨m, by rw [upd_ne (ne_of_none z hn)]; exact z⟩
  · by_cases hb : b = ea
    · subst hb
      rw [upd_same] at q
      cases q
      obtain ⟨vs, z, _⟩ := F.ex
      exact XC_ok z
    · rw [upd_ne hb] at q
      exact (I1.hok b o q).stay (fun c v _ z => z) (fun c z => by rw [upd_ne (ne_of_none z hn)]; exact z) fun c xs z => by rw [upd_ne (ne_of_none z hn)]; exact z
end
/-- the body of a try; the suite of an except -/
def Cx.tryc (X : Cx) (pn : List (Addr × Obj)) (XE : Value → Shared → Prop) : Cx := { X with pn := pn, xe := XE }
def Cx.hand (X : Cx) (e : Addr) : Cx := { X with A := X.A.mark (some (.ref e)), calm := false, xe := fun _ _ => False }
section
variable {X : Cx} {pins pn : List (Addr × Obj)} {σ : St} {H : Hp} {s : Shared} {XE : Value → Shared → Prop} {e : Addr}
theorem tryc_ok (ok : X.Ok) : (X.tryc pn XE).Ok :=
  ⟨ok.mod, ok.kind, ok.glob, ok.blt, ok.above, ok.inj, ok.has, ok.cab, ok.hd, ok.frames, ok.stk, ok.exf, ok.bs, ok.bsz, ok.noex, ok.exfs, ok.funs, ok.frf⟩
theorem of_tryc_ok (ok : (X.tryc pn XE).Ok) : X.Ok :=
  ⟨ok.mod, ok.kind, ok.glob, ok.blt, ok.above, ok.inj, ok.has, ok.cab, ok.hd, ok.frames, ok.stk, ok.exf, ok.bs, ok.bsz, ok.noex, ok.exfs, ok.funs, ok.frf⟩
theorem hand_ok (ok : X.Ok) : (X.hand e).Ok :=
  ⟨ok.mod, ok.kind, ok.glob, ok.blt, ok.above, ok.inj, ok.has, ok.cab, (fun z => nomatch z), ok.frames, ok.stk, ok.exf, ok.bs, ok.bsz, ok.noex, ok.exfs, ok.funs, ok.frf⟩
theorem of_hand_ok (ok : (X.hand e).Ok) (hd : X.calm = true → X.A.handled = none) : X.Ok :=
  ⟨ok.mod, ok.kind, ok.glob, ok.blt, ok.above, ok.inj, ok.has, ok.cab, hd, ok.frames, ok.stk, ok.exf, ok.bs, ok.bsz, ok.noex, ok.exfs, ok.funs, ok.frf⟩
theorem Inv.tryc (I : Inv X pins σ H s) : Inv (X.tryc (X.pn ++ pins) XE) [] σ H s :=
  ⟨tryc_ok I.ok, I.os, I.bare, I.base, I.loc, I.cell, I.free, I.freeC, fun p hp => I.pin p (by simpa [Cx.tryc] using hp), I.hok, I.len⟩
theorem Inv.of_tryc {pins' : List (Addr × Obj)} (I : Inv (X.tryc (X.pn ++ pins) XE) pins' σ H s) : Inv X pins σ H s :=
  ⟨of_tryc_ok I.ok, I.os, I.bare, I.base, I.loc, I.cell, I.free, I.freeC, fun p hp => I.pin p (List.mem_append_left _ hp), I.hok, I.len⟩
theorem Inv.hand (I : Inv X pins σ H s) : Inv (X.hand e) pins σ H s := ⟨hand_ok I.ok, I.os, I.bare, I.base, I.loc, I.cell, I.free, I.freeC, I.pin, I.hok, I.len⟩
theorem Inv.of_hand (I : Inv (X.hand e) pins σ H s) (hd : X.calm = true → X.A.handled = none) : Inv X pins σ H s := ⟨of_hand_ok I.ok hd, I.os, I.bare, I.base, I.loc, I.cell, I.free, I.freeC, I.pin, I.hok, I.len⟩
end
end L2

set_option Elab.async false
set_option linter.all false
set_option maxRecDepth 100000
set_option maxHeartbeats 4000000
namespace L2
open PySem PySem.Spec PyProof.Rows PySem.W
/-- a class of the text that an except may name -/
def XL (K : PySem.W.Frag) (L : Addr) : Prop := ∃ (nm q : Str) (N : Addr) (bs bm : List Value) (hdct : Bool) (sn : List Str) (sub : List Value) (ab : Bool) (col : Option Bool) (dd : Option Addr) (k0 k1 k2 k3 k5 : Option Value) (nid : String),
  K.lookup L = some (excClassObj nm q L N bs bm hdct sn sub ab col dd k0 k1 k2 k3 k5 nid) ∧ bm.contains (.type "BaseException") = true
theorem match_exc {M : Model} {A : Around} {E : Value → Shared → Prop} {K : PySem.W.Frag} {s : Shared} {e L C : Addr} {oe : Obj} {b : Bool} {Q : Bool → Shared → Prop} (KI : K.In s.heap) (hL : XL K L) (he : s.heap.get? e = some oe) (hcls : oe.cls = .ref C)
    (hs : mroIn K C (.ref L) = some b) (hq : Q b s) : wpAny M A (excMatches (.ref e) (.ref L)) Q E s := by
  obtain ⟨nm, q, N, bs, bm, hdct, sn, sub, ab, col, dd, k0, k1, k2, k3, k5, nid, hl, hbase⟩ := hL
  have hC := KI _ _ hl
  have hcB : (Value.ref L :: bm).contains (.type "BaseException") = true := by rw [List.contains_cons, hbase, Bool.or_true]
  have hsub : Looks M s.heap (isSubtype (.ref C) (.ref L)) b := looks_mroIn KI hs
  have f := tc_notTuple
  obtain ⟨h, g, d, t, os⟩ := s
  unfold excMatches
  repeat (first | (with_reducible refine wpAny_loadPart_at he ?_; rw [hcls]) | with_reducible refine wpAny_loadPart_at hC ?_ | (with_reducible refine wpAny_isSubtype_exc hC ?_; rw [hcB]) | with_reducible refine Looks.here (s := ⟨h, g, d, t, os⟩) hsub ?_ | wp_step)
  cases b <;> (wp_walk; exact hq)
def tTry (N : List Str) (K : PySem.W.Frag) (L : Addr) (j : Nat) (tb : XK → TS) (ts : Addr → TS) : TS := fun D σ H =>
  tb (fun c dx H' => ∃ C d, c = .ref C ∧ dx = some d ∧ mroIn K C (.ref L) = some true ∧ ∀ ea, H' ea = none →
    ts ea { nx := fun _ H2 => D.nx (blank N) H2, rt := D.rt, bk := fun _ H2 => D.bk (blank N) H2, ct := fun _ H2 => D.ct (blank N) H2 } ((blank N).set j (some (.ref ea))) (upd H' ea (XC C d ea))) D σ H
section
variable {X : Cx} {x n : Str} {L : Addr} {j : Nat} {body suite : List Stmt} {b0 : Stmt} {p1 p2 p3 : Pos} {tb : XK → TS} {ts : Addr → TS}
theorem blank_inv {pins : List (Addr × Obj)} {σ : St} {H : Hp} {s : Shared} (I : Inv X pins σ H s) : Inv X pins (blank X.N) H s := by
  obtain ⟨m, hm, _⟩ := I.loc
  exact I.forget (h' := s.heap) (tk := s.toks) hm (.refl _ _)
theorem ps_try (hst : X.stack = X.env :: X.outer) (hfr : X.env.frame = some X.env.locals) (hg : Gl X x) (hm : X.mg x = some (.ref L)) (hL : XL X.K L) (hnd : X.N.Nodup) (hj : X.N[j]? = some n) (hk : X.env.kindOf n = some .local)
    (hb : ∀ pn XE E, Passes (CX1 X.prog X.w) (X.tryc pn XE) E → PSs (X.tryc pn XE) body (tb E)) (hs : ∀ e, PSs (X.hand e) (b0 :: suite) (ts e)) (hdb : (x == ("__debug__" : Str)) = false := by decide) :
    PS X (.Try body [.ExceptHandler (some (.Name x p1)) (some n) (b0 :: suite) p2] [] [] p3) (tTry X.N X.K L j tb ts) := by
  intro pins s σ H D I h
  refine wpAny_Try_except ?_
  have ps : Passes (CX1 X.prog X.w) (X.tryc (X.pn ++ pins) fun e s₁ => wpAny (model X.prog X.w) X.A (noteFrame e X.env) (fun _ s₂ => wpAny (model X.prog X.w) X.A (setFlight e none) (fun _ s₃ => wpAny (model X.prog X.w) X.A (handleBy e X.env [.ExceptHandler (some (.Name x p1)) (some n) (b0 :: suite) p2]) (SP X pins D) X.xe s₃) X.xe s₂) X.xe s₁) (fun c dx H' => ∃ C d, c = .ref C ∧ dx = some d ∧ mroIn X.K C (.ref L) = some true ∧ ∀ ea, H' ea = none →
    ts ea { nx := fun _ H2 => D.nx (blank X.N) H2, rt := D.rt, bk := fun _ H2 => D.bk (blank X.N) H2, ct := fun _ H2 => D.ct (blank X.N) H2 } ((blank X.N).set j (some (.ref ea))) (upd H' ea (XC C d ea))) := by
    intro pins' σ1 H1 s1 e s2 I1 hx
    have I1' : Inv X pins σ1 H1 s1 := I1.of_tryc
    obtain ⟨ea, t, C, dx0, H', B, rfl, ho, hgn, F, hok, xu, hn, hea, C', dx, hC', hd', hsub, q⟩ := hx
    cases hC'; cases hd'
    have F0 : Fl B X.stack ea (.ref C) (some dx) (.ref t) (some .none) s2.heap := F
    have xu0 : XUn X.stack H1 H' s1.heap B s2.heap := xu
    have F' : Fl B (X.env :: X.outer) ea (.ref C) (some dx) (.ref t) (some .none) s2.heap := by rw [← hst]; exact F0
    have hA : X.A.frames = some (X.env :: X.outer) := by rw [← hst]; exact I1'.ok.frames
    refine fl_note hA hfr F' (.inr rfl) fun h3 F3 u3 => ?_
    refine fl_set (s := { s2 with heap := h3 }) F3 fun h4 F4 u4 => ?_
    have F4' : Fl B X.stack ea (.ref C) (some dx) (.ref t) (some .none) h4 := by rw [hst]; exact F4
    have J := (inv_catch (ea := ea) (t := t) I1' xu0 ho hgn F4' F0.frs (u3.trans u4) hok hea hn).1
    refine wpAny_handleBy_cons (codeAny_handlers_test (ld_glob (X := X.hand ea) J.hand hg hm ?_ hdb)) (by intro q; cases q)
    obtain ⟨vs, hvs, _⟩ := F4'.ex
    refine match_exc (K := X.K) J.kIn hL hvs rfl hsub ?_
    refine codeAny_handlers_suite_as ?_
    refine fl_set (s := { s2 with heap := h4 }) F4' fun h5 F5 u5 => ?_
    have J2 := (inv_catch (ea := ea) (t := t) I1' xu0 ho hgn F5 F0.frs ((u3.trans u4).trans u5) hok hea hn).2
    refine store_ok (X := X.hand ea) (i := j) (v := .ref ea) (blank_inv J2).hand hnd hj (.inl hk) rfl (fun s6 J6 => ?_) (.inr hk)
    refine wpAny_mono (hs ea pins s6 _ _ _ J6 (q ea hn)) (fun f s7 hf => ?_) fun _ _ z => z.elim
    have hd : X.calm = true → X.A.handled = none := I1'.ok.hd
    have fin : ∀ {σ' H''} {Q : Unit → Shared → Prop}, Inv (X.hand ea) pins σ' H'' s7 → (∀ s8, Inv X pins (blank X.N) H'' s8 → Q () s8) → wpAny (model X.prog X.w) X.A (do bindName X.env n .none; unbindBehindTheSuite X.env n p2) Q X.xe s7 := by
      intro σ' H'' Q J7 z
      have J8 := J7.of_hand hd
      obtain ⟨m, hmn, _⟩ := J8.loc
      refine wpAny_nameGoes hk hmn ?_ fun h' m' hn' hs' => z _ (J8.forget hn' hs')
      rw [J8.ok.kind]; rfl
    cases f with
    | ret u =>
      obtain ⟨v, σ', H'', J7, rv, qq⟩ := hf
      exact fin J7 fun s8 J8 => ⟨v, _, H'', J8, rv, qq⟩
    | next =>
      obtain ⟨σ', H'', J7, qq⟩ := hf
      exact fin J7 fun s8 J8 => ⟨_, H'', J8, qq⟩
    | brk =>
      obtain ⟨σ', H'', J7, qq⟩ := hf
      exact fin J7 fun s8 J8 => ⟨_, H'', J8, qq⟩
    | cont =>
      obtain ⟨σ', H'', J7, qq⟩ := hf
      exact fin J7 fun s8 J8 => ⟨_, H'', J8, qq⟩
  refine wpAny_mono (hb _ _ _ ps [] s σ H D I.tryc h) (fun f s1 hf => ?_) fun _ _ z => z
  cases f with
  | next =>
    obtain ⟨σ', H', J, q⟩ := hf
    exact wpAny_execs_nil ⟨σ', H', J.of_tryc, q⟩
  | ret u =>
    obtain ⟨v, σ', H', J, rv, q⟩ := hf
    exact ⟨v, σ', H', J.of_tryc, rv, q⟩
  | brk =>
    obtain ⟨σ', H', J, q⟩ := hf
    exact ⟨σ', H', J.of_tryc, q⟩
  | cont =>
    obtain ⟨σ', H', J, q⟩ := hf
    exact ⟨σ', H', J.of_tryc, q⟩
end
end L2

set_option Elab.async false
set_option linter.all false
set_option maxRecDepth 100000
set_option maxHeartbeats 4000000
namespace L2
open PySem PySem.Spec PyProof.Rows PySem.W PySem.Builtin PySem.Builtin.ObjectAttr
/-- reading a field of a caught exception -/
structure XGet (K : PySem.W.Frag) (C : Addr) (n : Str) : Prop where
  ga : findIn K (.ref C) "__getattribute__" = some (some (.builtin "BaseException.__getattribute__"))
  gt : findIn K (.ref C) "__getattr__" = some none
  no : findIn K (.ref C) n = some none
  hd : hasDictIn K C = true
  up : mroIn K C (.type "BaseException") = some true
theorem get_exc {prog : Program} {w : World} {A : Around} {E : Value → Shared → Prop} {s : Shared} {K : PySem.W.Frag} {e C : Addr} {oe od : Obj} {name : Str} {expr : Bool} {v : Value} {Q : Value → Shared → Prop}
    (KI : K.In s.heap) (I : InstAt s.heap e oe C (some od)) (G : XGet K C name) (hl : lookIn name od = some (some v)) (hv : handedIn v = true) (h : Q v { s with toks := s.toks + 1 }) :
    wpAny (model prog w) A (getAttr (.ref e) name expr) Q E s := by
  have FB := PySem.F.attrBase_ValueError
  have hf : findObj K C (some od) name = some (.value v) := findObj_own G.hd G.no rfl hl
  obtain ⟨hh, g, d, t, os⟩ := s
  have T := I.type (M := model prog w)
  have G1 := looks_findIn (M := model prog w) KI G.ga
  have G2 := looks_findIn (M := model prog w) KI G.gt
  have G3 := looks_find (M := model prog w) KI I hf
  have isB : Looks (model prog w) hh (isInstance (.ref e) (.type "BaseException")) true := T.andThen (looks_mroIn KI G.up)
  unfold getAttr getAttrBy
  refine wpAny_bind (wpAny_mkText (wpAny_holding (wpAny_bind (T.at (wpAny_bind (G1.at ?_))))))
  dsimp only
  have no : (Value.builtin "BaseException.__getattribute__" == Value.builtin "object.__getattribute__") = false := by decide +kernel
  rw [no, Bool.and_false, if_neg Bool.false_ne_true]
  unfold getAttrByItsOwn hookBefore
  rw [if_pos (by rfl)]
  refine wpAny_bind (G2.at (wpAny_bind (wpAny_attempt (wpAny_holding ?_))))
  unfold callGetattribute
  rw [if_neg (by cases expr <;> decide)]
  unfold boundAndCalled
  rw [FB.ga.bind (.ref e)]
  refine wpAny_bind (wpAny_pure (wpAny_call (codeAny_call_builtin FB.ga.plain F.entry_bexc_ga (@check_slot (model prog w) _ _ ⟨hh, g, d, t + 1, os⟩ "BaseException.__getattribute__" "BaseException" "__getattribute__" (.ref e) [.str name t] [] _ (by decide +kernel) (by decide +kernel) isB (F.args_bexc_ga _ _) ?_))))
  unfold Builtin.«object.__getattribute__»
  refine wpAny_bind (m := slotArgs _ _ _) (wpAny_pure (wpAny_bind (wpAny_pure (wpAny_bind (T.at (wpAny_bind (G3.at (wpAny_pure ?_))))))))
  show wpAny _ _ (handedOut v) _ _ _
  rw [handedOut_of hv]; exact wpAny_pure h
def tXat (K : PySem.W.Frag) (ta : TE) (n : Str) : TE := fun σ H Q => ta σ H fun x H1 => ∃ a C d v, x = .ref a ∧ H1 a = some (XC C d a) ∧ H1 d = some (.xd [(n, v)]) ∧ XGet K C n ∧ Q v H1
section
variable {X : Cx} {e : Expr} {n : Str} {pos : Pos} {ta : TE}
theorem pe_xat (ha : PE X e ta) (hb : attributeBase e n X.env (eval e X.env) = eval e X.env := by rfl) : PE X (.Attribute e n pos) (tXat X.K ta n) := by
  intro pins s σ H Q I h
  refine attr_of hb (thn (ha pins s σ H _ I h) fun u s1 hq => ?_)
  obtain ⟨x, H1, I1, rx, a, C, d, v, rfl, h1, h2, G, q⟩ := hq
  obtain rfl : u = Value.ref a := rx
  obtain ⟨⟨vs, he⟩, _, _⟩ : (∃ vs, s1.heap.get? a = some ⟨.ref C, some d, .fields vs, #[]⟩) ∧ _ ∧ _ := I1.hok a _ h1
  obtain ⟨mA, hn, hr⟩ : ∃ mA, s1.heap.Ns1 d mA ∧ ∀ f, RelO (List.lookup f [(n, v)]) (mA f) := I1.hok d _ h2
  obtain ⟨od, ho, hlk⟩ := lookIn_ns hn
  obtain ⟨u, hu, ru⟩ := RelO.some_of (v := v) (o := mA n) (by have := hr n; simpa [List.lookup_cons] using this)
  exact get_exc I1.kIn (oe := ⟨.ref C, some d, .fields vs, #[]⟩) ⟨he, rfl, rfl, ho⟩ G (by rw [hlk, hu]) (handed_of ru) ⟨v, H1, I1.tok _, ru, q⟩
/-- isinstance of a caught exception: yes -/
theorem kit_yes {K : PySem.W.Frag} {x t c : Value} {H : Heap → Prop} (ty : ∀ (M : Model) (h : Heap), K.In h → H h → Looks M h (typeOf x) t) (e : kitOne K t c = some true) : Answers (fun s => K.In s.heap ∧ H s.heap) x c true := by
  intro dep tk prog w A R s hs
  obtain ⟨h0, g, d, t0, os⟩ := s
  obtain ⟨⟨KI, p⟩, hq⟩ := hs
  have T := ty (model prog w) h0 KI p
  unfold kitOne at e
  unfold Builtin.«isinstance.nested»
  refine wpAny_bind (T.at ?_)
  by_cases q : (t == c) = true
  · rw [if_pos q]
    exact wpAny_bind (wpAny_rule (wpAny_pure (hq t0)))
  · rw [if_neg q] at e ⊢
    obtain ⟨h1, h2, h3⟩ := kit_cls (M := model prog w) KI e
    have J : Looks (model prog w) h0 (isInstance x c) true := T.andThen h3
    refine wpAny_bind (h1.at ?_)
    rw [if_pos (by decide)]
    k_delta "plainIsInstance"
    refine wpAny_bind (wpAny_bind (h2.at ?_))
    simp only [Bool.not_true, Bool.false_eq_true, if_false]
    refine wpAny_bind (J.at ?_)
    first
      | exact wpAny_pure (wpAny_pure (hq t0))
      | (simp only [if_true]; first | exact wpAny_pure (wpAny_pure (hq t0)) | exact wpAny_pure (hq t0) | exact wpAny_bind (wpAny_pure (wpAny_pure (hq t0))))
theorem call_isX : CallR X (.builtin "isinstance") (fun xs H Q => ∃ (a C d : Addr) (c : V) (cv : Value), xs = [.ref a, c] ∧ H a = some (XC C d a) ∧ (∀ u, RelV c u → u = cv) ∧ kitOne X.K (.ref C) cv = some true ∧ Q (.bl true) H) := by
  intro pins s σ H xs us Q I r h
  obtain ⟨a, C, d, c, cv, rfl, ha, hc, e, q⟩ := h
  obtain ⟨u, w', rfl, ru, rw'⟩ := vals2 r
  obtain rfl := hc _ rw'
  obtain rfl : u = Value.ref a := ru
  obtain ⟨⟨vs, he⟩, _, _⟩ : (∃ vs, s.heap.get? a = some ⟨.ref C, some d, .fields vs, #[]⟩) ∧ _ ∧ _ := I.hok a _ ha
  refine call_isinstance (S := fun _ R s => (X.K.In s.heap ∧ (∃ vs, s.heap.get? a = some ⟨.ref C, some d, .fields vs, #[]⟩)) ∧ ∀ tk, R (.ok (.ret (.bool true))) { s with toks := tk })
    (fun prog w A R s hs => isinstance_outer (kit_yes (K := X.K) (t := .ref C) (H := fun h => ∃ vs, h.get? a = some ⟨.ref C, some d, .fields vs, #[]⟩) (fun M h _ p => ?_) e 0 _ prog w A R s hs) (fun z => nomatch z)) ⟨⟨I.kIn, vs, he⟩, fun tk => ⟨.bl true, H, I.tok _, rfl, q⟩⟩
  obtain ⟨vs, p⟩ := p
  exact (Looks.ld p).andThen .now
end
end L2

set_option Elab.async false
set_option linter.all false
set_option maxRecDepth 100000
set_option maxHeartbeats 4000000
namespace L2
open PySem PySem.Spec PyProof.Rows PySem.W
/-! ### methods of a text -/
section
variable {X : Cx}
def rStarts : V → List V → Hp → VK → Prop := fun x vs H Q => ∃ z y, x = .str z ∧ vs = [.str y] ∧ Q (.bl (Txt.startswith z y)) H
theorem mt_startswith : MtR X "str.startswith" rStarts := by
  intro pins s σ H x xs v us Q I rx rs h
  obtain ⟨z, y, rfl, rfl, q⟩ := h
  obtain ⟨t, rfl⟩ := rx
  obtain ⟨u, rfl, ⟨t', rfl⟩⟩ := vals1 rs
  exact SC.startswith ⟨.bl _, H, I, rfl, q⟩
def rEnds : V → List V → Hp → VK → Prop := fun x vs H Q => ∃ z y, x = .str z ∧ vs = [.str y] ∧ Q (.bl (Txt.endswith z y)) H
theorem mt_endswith : MtR X "str.endswith" rEnds := by
  intro pins s σ H x xs v us Q I rx rs h
  obtain ⟨z, y, rfl, rfl, q⟩ := h
  obtain ⟨t, rfl⟩ := rx
  obtain ⟨u, rfl, ⟨t', rfl⟩⟩ := vals1 rs
  exact SC.endswith ⟨.bl _, H, I, rfl, q⟩
def rRemP : V → List V → Hp → VK → Prop := fun x vs H Q => ∃ z y, x = .str z ∧ vs = [.str y] ∧ z.length ≤ sizeLine ∧ Q (.str (Txt.removeprefix z y)) H
theorem mt_removeprefix : MtR X "str.removeprefix" rRemP := by
  intro pins s σ H x xs v us Q I rx rs h
  obtain ⟨z, y, rfl, rfl, hz, q⟩ := h
  obtain ⟨t, rfl⟩ := rx
  obtain ⟨u, rfl, ⟨t', rfl⟩⟩ := vals1 rs
  exact SC.removeprefix (fun t' k => ⟨.str _, H, I.tok _, ⟨_, rfl⟩, q⟩) hz
/-- int of a text that is a number -/
theorem call_int_text : CallR X (.type "int") (fun xs H Q => ∃ x n, xs = [.str x] ∧ PySem.intText? x = some n ∧ x.length ≤ 640 ∧ Q (.int n) H) := by
  intro pins s σ H xs us Q I r h
  obtain ⟨x, n, rfl, hn, hl, q⟩ := h
  obtain ⟨u, rfl, t, rfl⟩ := vals1 r
  exact KIN.call_text hn hl ⟨.int n, H, I.tok _, ⟨_, rfl⟩, q⟩
end
/-! ### f-texts -/
section
variable {X : Cx} {e e2 : Expr} {es : List Expr} {te : TE} {ts : List TE} {pos : Pos}
end
/-! ### an exception class of the text, with one field told to __init__ -/
structure XTx (K : PySem.W.Frag) (C f : Addr) (fd : FuncData) (n qual : Str) (st : Stmt) : Prop where
  made : ∃ cd, XMk K C f cd
  tk : takerIn K C n = some none
  get : XGet K C n
  val : kitOne K (.ref C) (.type "ValueError") = some true
  ini : ∃ (oc : Value) (od : Option Addr) (dV kV doc pm : Value) (an : Option Addr) (cdv ct : Value) (osl : Array (Option Value)),
    fd = fnOf "__init__" qual (defArgs st) (defBody st) (defScope st) dV kV doc pm an cdv ct ∧ K.lookup f = some ⟨oc, od, .func fd, osl⟩ ∧ codeIn K cdv qual = true
  bd : Binds K fd ["self", n] []
theorem tail1 {K : PySem.W.Frag} {L N : Addr} {c0 oN : Value} {d0 dN : Option Addr} {cd : ClassData} {sl sN : Array (Option Value)} {eN : Array DictEntry} {nN : Nat} (hL : K.lookup L = some ⟨c0, d0, .cls cd, sl⟩) (hN : cd.ns = N) (nl : K.lookup N = some ⟨oN, dN, .dict eN nN, sN⟩)
    (ke : (eN.toList.all fun e => match e.key with | .str _ _ => true | _ => false) = true) (ni : nsIn K N "__init__" = some none) : tailIn K vErr (.ref L :: vErr) = true := by
  have h1 : nsOkIn K N = true := by unfold nsOkIn; rw [nl]; dsimp only; rw [← Array.all_toList]; exact ke
  have h2 : tailIn K vErr vErr = true := by unfold tailIn vErr; simp
  unfold tailIn
  dsimp only
  rw [hL]
  dsimp only
  rw [hN, h1, ni, h2]
  simp
theorem xtx_mk {K : PySem.W.Frag} {C L f N N' : Addr} {nm q nm' q' n qual : Str} {bs bs' : List Value} {hdct : Bool} {sn sn' : List Str} {sub sub' : List Value} {ab ab' : Bool} {col col' : Option Bool} {dd dd' : Option Addr} {k0 k1 k2 k3 k5 k0' k1' k2' k3' k5' : Option Value} {nid : String}
    {st : Stmt} {od an dN : Option Addr} {osl sN : Array (Option Value)} {oc dV kV doc pm cdv ct oN : Value} {eN : Array DictEntry} {nN : Nat}
    (hC : K.lookup C = some (excClassObj nm q C N bs (.ref L :: vErr) true sn sub ab col dd k0 k1 k2 k3 k5 "ValueError.__new__"))
    (hL : K.lookup L = some (excClassObj nm' q' L N' bs' vErr hdct sn' sub' ab' col' dd' k0' k1' k2' k3' k5' nid))
    (nl : K.lookup N' = some ⟨oN, dN, .dict eN nN, sN⟩) (ke : (eN.toList.all fun e => match e.key with | .str _ _ => true | _ => false) = true) (ni : nsIn K N' "__init__" = some none)
    (hi : findIn K (.ref C) "__init__" = some (some (.ref f))) (hf : typeIn K (.ref f) = some (.type "function"))
    (l0 : K.lookup f = some ⟨oc, od, .func (fnOf "__init__" qual (defArgs st) (defBody st) (defScope st) dV kV doc pm an cdv ct), osl⟩) (c0 : codeIn K cdv qual = true)
    (hs : findIn K (.ref C) "__setattr__" = some (some (.builtin "object.__setattr__")))
    (hg : findIn K (.ref C) "__getattribute__" = some (some (.builtin "BaseException.__getattribute__"))) (hg2 : findIn K (.ref C) "__getattr__" = some none)
    (hat : findIn K (.ref C) n = some none) (htk : takerIn K C n = some none) (hkp : keepIn K (.ref C) = true) (hhd : hasDictIn K C = true) (hm1 : mroIn K C (.type "BaseException") = some true) (hk : subIn K (.ref C) (.type "ValueError") = some true)
    (hb : ∀ (s : Shared) (us : List Value), K.In s.heap → us.length = 2 → BindsTo s (fnOf "__init__" qual (defArgs st) (defBody st) (defScope st) dV kV doc pm an cdv ct) ⟨us, []⟩ (List.zip (["self", n] : List Str) us)) :
    XTx K C f (fnOf "__init__" qual (defArgs st) (defBody st) (defScope st) dV kV doc pm an cdv ct) n qual st ∧ XL K L := by
  have hcls : clsIn K C = some { name := nm, bases := bs, mro := .ref C :: .ref L :: vErr, ns := N, qualname := q, hasDict := true, slotNames := sn, subclasses := sub, abstract := ab, collection := col, hasDel := false } := by
    unfold clsIn; rw [hC]
  refine ⟨⟨⟨_, ⟨⟨hcls, rfl, ⟨[.ref C, .ref L], rfl, ?_⟩, hs⟩, ⟨nm, q, N, bs, _, _, sn, sub, ab, col, dd, k0, k1, k2, k3, k5, hC, tail1 hL rfl nl ke ni, by rw [List.contains_cons, Bool.or_eq_true]; exact .inr (by decide)⟩, hi, hf, hkp⟩⟩, htk, ⟨hg, hg2, hat, hhd, hm1⟩, ?_, ⟨oc, od, dV, kV, doc, pm, an, cdv, ct, osl, rfl, l0, c0⟩, fun s us kin hl => by rw [List.append_nil] at hl ⊢; exact hb s us kin hl⟩,
    ⟨nm', q', N', bs', _, hdct, sn', sub', ab', col', dd', k0', k1', k2', k3', k5', nid, hL, by decide⟩⟩
  · intro v hv
    simp at hv
    rcases hv with rfl | rfl
    · exact ⟨_, rfl⟩
    · exact ⟨_, rfl⟩
  · unfold kitOne
    rw [if_neg (by simp)]
    unfold kitCls
    dsimp only
    rw [if_pos (by decide +kernel)]
    exact hk
/-- the __init__ itself -/
theorem XTx.init {P : Program} {w : World} {K : PySem.W.Frag} {mg : Str → Option Value} {base : Heap} {C f : Addr} {fd : FuncData} {n qual : Str} {st : Stmt} (T : XTx K C f fd n qual st) (S : FnScope ["self", n] ["self", n] (defScope st))
    (hbody : ∀ X : Cx, X.N = (["self", n] : List Str) → X.env.scope = defScope st → X.K = K → PSs X (defBody st) (sXf K (tVar 0) (tVar 1) n)) : FnOk P w K mg base CX0 1 f fd ["self", n] (spInit K n) := by
  obtain ⟨oc, od, dV, kV, doc, pm, an, cdv, ct, osl, rfl, lk, hcd⟩ := T.ini
  refine fn_of lk hcd S (fun vs H Q E h => ?_) fun A outer s H vs Q E hr h => ?_
  · obtain ⟨a, C', t, f', cd, y, rfl, _⟩ := h; rfl
  · obtain ⟨a, C', t, f', cd, y, rfl, ha, xc, tk, q⟩ := h
    exact ⟨_, hbody _ rfl rfl rfl, _, rfl, _, rfl, a, C', t, cd, f', rfl, ha, xc, tk, fun dx h1 h2 => q dx h1 h2⟩
/-- a def of the text that may let an exception go -/
theorem Fun.ok1 {P : Program} {w : World} {K : PySem.W.Frag} {mg : Str → Option Value} {base : Heap} {x qual : Str} {st : Stmt} {f : Addr} {fd : FuncData} {N ps : List Str} {k : Nat} {sp : Sp} (F : Fun K x qual st f fd) (S : FnScope N ps (defScope st)) (len : ∀ vs H Q E, sp vs H Q E → vs.length = ps.length)
    (hbody : ∀ (cdv : Value) (A : Around) (outer : List Env) (s : Shared) (H : Hp) (vs : List V) (Q : VK) (E : XK), Room k (A.deeper (envOfC qual (defScope st) s.heap.objs.size f cdv)) → sp vs H Q E →
      ∃ t, PSs (cxOf (CX1 P w) P w K mg base N qual (defScope st) f cdv A outer s H E) (defBody st) t ∧ t { nx := fun _ H' => Q .non H', rt := Q } (start N vs) H) : FnOk P w K mg base (CX1 P w) (k + 1) f fd ps sp := by
  obtain ⟨oc, od, kV, doc, pm, an, cdv, ct, osl, rfl, lk, hcd⟩ := F.ex
  exact fn_of lk hcd S len fun A outer s H vs Q E hr hsp => hbody cdv A outer s H vs Q E hr hsp
end L2

set_option Elab.async false
set_option linter.all false
set_option maxRecDepth 100000
set_option maxHeartbeats 4000000
namespace L2
open PySem PySem.Spec PyProof.Rows PySem.W
/-! ### try .. except C as e, the names kept -/
/-- an exception of a callee, the names as they are told -/
def PassesAt (CX : CXT) (X : Cx) (E : XK) (σ0 : St) : Prop := ∀ (pins : List (Addr × Obj)) (H : Hp) (s : Shared) (e : Value) (s' : Shared), Inv X pins σ0 H s → CX X.stack H s E e s' → X.xe e s'
def tAt (σ0 : St) (t : TE) : TE := fun σ H Q => σ = σ0 ∧ t σ H Q
section
variable {X : Cx} {CX : CXT} {k : Nat} {f : Addr} {fd : FuncData} {ps : List Str} {sp : Sp} {dvs : List V} {ds : List Value} {E : XK} {x : Str} {p pos : Pos} {e : Expr} {es : List Expr} {t : TA} {σ0 : St}
theorem pe_callA (F : FnOk X.prog X.w X.K X.mg X.base CX k f fd ps sp) (hr : Room k X.A) (hg : Gl X x) (hm : X.mg x = some (.ref f)) (hk : keepIn X.K (.ref f) = true) (hb : Binds X.K fd ps ds) (hd : Vals dvs ds) (hx : PassesAt CX X E σ0)
    (ha : PA X (e :: es) t) (hdb : (x == ("__debug__" : Str)) = false := by decide) (he : starEach (e :: es) X.env = (false, eval e X.env) :: starEach es X.env := by rfl) (hpl : (backTo pos (starEach es X.env)).any (·.1) = false := by rfl) :
    PE X (.Call (.Name x p) (e :: es) [] pos) (tAt σ0 (tCall sp dvs E t)) := by
  intro pins s σ H Q I hh
  obtain ⟨rfl, h⟩ := hh
  refine wpAny_Call_Name_kw (ld_glob I hg hm ?_ hdb)
  refine callWith_K (h₀ := X.base) I.ok.mod.kin hk (thn (ha pos pins s σ H _ I h) fun us s1 hq => ?_) he hpl
  obtain ⟨vs, H1, I1, r, q⟩ := hq
  refine ⟨I1.kIn, ?_⟩
  have r2 : Vals (vs ++ dvs) (us ++ ds) := r.append hd
  have q' : sp (vs ++ dvs) H1 Q E := q
  have hl : (us ++ ds).length = ps.length := r2.length ▸ F.len _ _ _ _ q'
  refine wpAny_call (codeAny_mono (F.run X.A X.stack s1 H1 ⟨us, []⟩ (us ++ ds) (vs ++ dvs) Q E hr I1.env0 (hb s1 us I1.kIn hl) r2 q') fun r s' z => ?_)
  match r, z with
  | .error e, z => exact hx pins H1 s1 e s' I1 z
  | .ok (.ret u), z => exact I1.after z
  | .ok .next, z => exact z.elim
  | .ok .brk, z => exact z.elim
  | .ok .cont, z => exact z.elim
end
section
variable {X : Cx} {pins : List (Addr × Obj)} {σ σ2 : St} {H : Hp} {s : Shared} {h' : Heap}
/-- the frame's names anew -/
theorem Inv.renamed {m' : Str → Option Value} {tk : Nat} (I : Inv X pins σ H s) (hn : h'.Ns X.env.locals m') (hs : Heap.SameBut X.env.locals s.heap h') (hl : σ2.length = X.N.length)
    (hσ : ∀ (i : Nat) (x : Str) (v : V), X.N[i]? = some x → σ2[i]? = some (some v) → Vis X.env.scope x → ∃ u, RelV v u ∧ Look X.env h' m' x u) : Inv X pins σ2 H { s with heap := h', toks := tk } := by
  have J := I.forget (tk := tk) hn hs
  exact ⟨J.ok, J.os, J.bare, J.base, ⟨m', hn, hσ⟩, J.cell, J.free, J.freeC, J.pin, J.hok, hl⟩
theorem name_goes {M : Model} {A : Around} {E : Value → Shared → Prop} {n : Str} {j : Nat} {pos : Pos} {Q : Unit → Shared → Prop} (I : Inv X pins σ H s) (hnd : X.N.Nodup) (hj : X.N[j]? = some n) (hk : X.env.kindOf n = some .local)
    (h : ∀ s', Inv X pins (σ.set j none) H s' → Q () s') : wpAny M A (do bindName X.env n .none; unbindBehindTheSuite X.env n pos) Q E s := by
  refine wpAny_bind (wpAny_bindName (store_ok (i := j) (v := .non) (u := Value.none) I hnd hj (.inl hk) rfl (fun s1 I1 => ?_) (.inr hk)))
  unfold unbindBehindTheSuite
  refine wpAny_onRaise ?_
  obtain ⟨m, hm, hl⟩ := I1.loc
  have hjl : j < σ.length := by rw [I.len]; exact (List.getElem?_eq_some_iff.mp hj).1
  obtain ⟨u, ru, lk⟩ := hl j n .non hj (by rw [List.getElem?_set_self hjl]) (.inl hk)
  have hmn : m n = some u := by
    rcases lk with ⟨_, z⟩ | ⟨z, _⟩
    · exact z
    · rw [hk] at z; rcases z with z | z <;> cases z
  have kk : (X.env.scope.kind == .class || (X.env.scope.kind == .module && X.env.locals != X.env.globals)) = false := by rw [I1.ok.kind]; rfl
  refine wpAny_unbindName_local hk hm hmn kk fun h' u' hn' hs' => h _ (I1.renamed hn' hs' (by rw [List.length_set]; exact I.len) fun i y v e1 e2 e3 => ?_)
  by_cases hij : i = j
  · subst hij
    rw [List.getElem?_set_self hjl] at e2
    cases e2
  · rw [List.getElem?_set_ne (Ne.symm hij)] at e2
    have e2' : (σ.set j (some .non))[i]? = some (some v) := by rw [List.getElem?_set_ne (Ne.symm hij)]; exact e2
    obtain ⟨u2, r2, l2⟩ := hl i y v e1 e2' e3
    have hyn : y ≠ n := fun z => hij (nodup_ix hnd e1 (z ▸ hj))
    refine ⟨u2, r2, ?_⟩
    rcases l2 with ⟨z1, z2⟩ | ⟨z1, c, z2, z3⟩
    · exact .inl ⟨z1, (if_neg hyn).trans z2⟩
    · exact .inr ⟨z1, c, z2, z3.sameBut hs' (I1.cne y c z2)⟩
end
section
variable {X : Cx} {x n : Str} {L : Addr} {j : Nat} {body suite : List Stmt} {b0 : Stmt} {p1 p2 p3 : Pos} {tb : XK → St → TS} {ts : Addr → TS}
end
end L2

set_option Elab.async false
set_option linter.all false
set_option maxRecDepth 100000
namespace L2
open PySem PySem.Spec PyProof.Rows

/-! ### lists of pairs as tables -/
section
variable {κ : Type} [DecidableEq κ]
def valV (kvs : List (κ × V)) (k : κ) : Option V := (kvs.find? fun kv => decide (kv.1 = k)).map (·.2)
/-- in its place, or at the end -/
def putK (kvs : List (κ × V)) (k : κ) (v : V) : List (κ × V) :=
  if (kvs.any fun kv => decide (kv.1 = k)) = true then kvs.map (fun kv => if kv.1 = k then (kv.1, v) else kv) else kvs ++ [(k, v)]
def dropK (kvs : List (κ × V)) (k : κ) : List (κ × V) := kvs.filter fun kv => decide (kv.1 ≠ k)

theorem valV_pos {p : κ × V} {r : List (κ × V)} {k : κ} (e : p.1 = k) : valV (p :: r) k = some p.2 := by simp [valV, List.find?_cons, e]
theorem valV_neg {p : κ × V} {r : List (κ × V)} {k : κ} (e : ¬ p.1 = k) : valV (p :: r) k = valV r k := by simp [valV, List.find?_cons, e]
theorem valV_any (k : κ) : ∀ kvs : List (κ × V), (kvs.any fun kv => decide (kv.1 = k)) = (valV kvs k).isSome
  | [] => rfl
  | p :: r => by
    rw [List.any_cons]
    by_cases e : p.1 = k
    · simp only [valV_pos e, decide_eq_true e, Bool.true_or, Option.isSome_some]
    · rw [valV_neg e, decide_eq_false e, Bool.false_or]; exact valV_any k r
theorem length_putK (kvs : List (κ × V)) (k : κ) (v : V) : (putK kvs k v).length ≤ kvs.length + 1 := by
  unfold putK
  split
  · rw [List.length_map]; omega
  · rw [List.length_append, List.length_cons, List.length_nil]; omega
theorem putK_new {kvs : List (κ × V)} {k : κ} (v : V) (h : valV kvs k = none) : putK kvs k v = kvs ++ [(k, v)] := by
  unfold putK
  rw [valV_any, h]
  exact if_neg (by decide)

theorem RelO.isSome_eq {o : Option V} {u : Option Value} (r : RelO o u) : o.isSome = u.isSome := by
  cases o with
  | none => cases u with
    | none => rfl
    | some _ => exact (show False from r).elim
  | some _ => cases u with
    | none => exact (show False from r).elim
    | some _ => rfl
/-- raw tables of the same keys -/
theorem KV.val {kvs : List (κ × V)} {vs : List (κ × Value)} (r : KV kvs vs) (k : κ) : RelO (valV kvs k) (valueAt vs k) := by
  unfold KV at r
  induction r with
  | nil => exact True.intro
  | @cons p q ps qs h t ih =>
    obtain ⟨h1, h2⟩ := h
    by_cases e : p.1 = k
    · have e' : q.1 = k := h1.symm.trans e
      have b : valueAt (q :: qs) k = some q.2 := by simp [valueAt, List.find?_cons, e']
      rw [valV_pos e, b]; exact h2
    · have e' : ¬ q.1 = k := fun z => e (h1.trans z)
      have b : valueAt (q :: qs) k = valueAt qs k := by simp [valueAt, List.find?_cons, e']
      rw [valV_neg e, b]; exact ih
theorem KV.any {kvs : List (κ × V)} {vs : List (κ × Value)} (r : KV kvs vs) (k : κ) : (kvs.any fun kv => decide (kv.1 = k)) = vs.any fun kv => decide (kv.1 = k) := by
  unfold KV at r
  induction r with
  | nil => rfl
  | cons h t ih => rw [List.any_cons, List.any_cons, ih, h.1]
theorem KV.repl {kvs : List (κ × V)} {vs : List (κ × Value)} (r : KV kvs vs) (k : κ) {y : V} {u : Value} (ry : RelV y u) :
    KV (kvs.map fun kv => if kv.1 = k then (kv.1, y) else kv) (vs.map fun kv => if kv.1 = k then (kv.1, u) else kv) := by
  unfold KV at r ⊢
  induction r with
  | nil => exact .nil
  | @cons p q ps qs h t ih =>
    rw [List.map_cons, List.map_cons]
    refine .cons ?_ ih
    obtain ⟨h1, h2⟩ := h
    by_cases e : p.1 = k
    · rw [if_pos e, if_pos (h1.symm.trans e)]; exact ⟨h1, ry⟩
    · rw [if_neg e, if_neg (fun z => e (h1.trans z))]; exact ⟨h1, h2⟩
theorem KV.put {kvs : List (κ × V)} {vs : List (κ × Value)} (r : KV kvs vs) (k : κ) {y : V} {u : Value} (ry : RelV y u) : KV (putK kvs k y) (stored vs k u) := by
  unfold putK stored
  rw [r.any k]
  by_cases e : (vs.any fun kv => decide (kv.1 = k)) = true
  · rw [if_pos e, if_pos e]; exact r.repl k ry
  · rw [if_neg e, if_neg e]; exact Paired.snoc r ⟨rfl, ry⟩
theorem KV.keys {kvs : List (κ × V)} {vs : List (κ × Value)} (r : KV kvs vs) : kvs.map (·.1) = vs.map (·.1) := by
  unfold KV at r
  induction r with
  | nil => rfl
  | cons h t ih => rw [List.map_cons, List.map_cons, ih, h.1]
theorem KV.length {kvs : List (κ × V)} {vs : List (κ × Value)} (r : KV kvs vs) : kvs.length = vs.length := Paired.length r
end


/-! ### a tracked dict, its keys ints and texts or tuples of these -/
theorem kV_is {P : Program} {w : World} {k : Key} {u : Value} (r : RelV (kV k) u) : (mixKind P w).is k u = true := by
  cases k with
  | inl i => obtain ⟨t, e⟩ := (show ∃ t, u = Value.int i t from r); subst e; exact mixKind_int P w i t
  | inr x => obtain ⟨t, e⟩ := (show ∃ t, u = Value.str x t from r); subst e; exact mixKind_str P w x t
theorem items_are {P : Program} {w : World} : ∀ {ks : List Key} {us : List Value}, Vals (ks.map kV) us → ItemsAre (mixKind P w) ks us
  | [], _, r => by rw [List.map_nil] at r; cases r; exact .nil
  | k :: ks, _, r => by
    rw [List.map_cons] at r
    cases r with
    | cons h t => exact .cons (kV_is h) (items_are t)

/-- raw entries of a dict with tuple keys -/
abbrev KT (H : Hp) : List (List Key × V) → List (List Key × Addr × Value) → Prop := Paired fun p q => p.1 = q.1 ∧ H q.2.1 = some (.tup (p.1.map kV)) ∧ RelV p.2 q.2.2
theorem KT.val {H : Hp} {kvs : List (List Key × V)} {xs : List (List Key × Addr × Value)} (r : KT H kvs xs) (k : List Key) : RelO (valV kvs k) ((atKey xs k).map (·.2)) := by
  induction r with
  | nil => exact True.intro
  | @cons p q ps qs h t ih =>
    obtain ⟨h1, _, h2⟩ := h
    by_cases e : p.1 = k
    · have e' : q.1 = k := h1.symm.trans e
      have b : atKey (q :: qs) k = some q.2 := by simp [atKey, List.find?_cons, e']
      rw [valV_pos e, b]; exact h2
    · have e' : ¬ q.1 = k := fun z => e (h1.trans z)
      have b : atKey (q :: qs) k = atKey qs k := by simp [atKey, List.find?_cons, e']
      rw [valV_neg e, b]; exact ih
theorem KT.repl {H : Hp} {kvs : List (List Key × V)} {xs : List (List Key × Addr × Value)} (r : KT H kvs xs) (k : List Key) {y : V} {u : Value} (ry : RelV y u) :
    KT H (kvs.map fun kv => if kv.1 = k then (kv.1, y) else kv) (xs.map (putAt k u)) := by
  induction r with
  | nil => exact .nil
  | @cons p q ps qs h t ih =>
    rw [List.map_cons, List.map_cons]
    refine .cons ?_ ih
    obtain ⟨h1, h2, h3⟩ := h
    unfold putAt
    by_cases e : p.1 = k
    · rw [if_pos e, if_pos (h1.symm.trans e)]; exact ⟨h1, h2, ry⟩
    · rw [if_neg e, if_neg (fun z => e (h1.trans z))]; exact ⟨h1, h2, h3⟩
theorem KT.put {H : Hp} {kvs : List (List Key × V)} {xs : List (List Key × Addr × Value)} (r : KT H kvs xs) (k : List Key) {b : Addr} {y : V} {u : Value} (hb : H b = some (.tup (k.map kV))) (ry : RelV y u) :
    KT H (putK kvs k y) (storedH xs k b u) := by
  have e : (kvs.any fun kv => decide (kv.1 = k)) = (atKey xs k).isSome := by
    rw [valV_any, (r.val k).isSome_eq, Option.isSome_map]
  unfold putK storedH
  rw [e]
  by_cases q : (atKey xs k).isSome = true
  · rw [if_pos q, if_pos q]; exact r.repl k ry
  · rw [if_neg q, if_neg q]; exact Paired.snoc r ⟨rfl, hb, ry⟩
theorem KT.keeps {H H' : Hp} {kvs : List (List Key × V)} {xs : List (List Key × Addr × Value)} (r : KT H kvs xs) (ht : ∀ b ys, H b = some (.tup ys) → H' b = some (.tup ys)) : KT H' kvs xs :=
  Paired.mapP r fun _ _ z => ⟨z.1, ht _ _ z.2.1, z.2.2⟩

section
variable {P : Program} {w : World} {H : Hp} {h : Heap} {a : Addr}
theorem rd_of {u : HO} (ok : HOk P w H h) (e : Rd H a u) : ObjOk P w H h a u := e.ok ok
theorem dk_rd {kvs : List (Key × V)} (ok : HOk P w H h) (e : Rd H a (.dK kvs)) : kvs.length ≤ sizeLine ∧ (a == sysModules) = false ∧ ∃ vs, KV kvs vs ∧ h.DictOf (mixKind P w) a vs :=
  show ObjOk P w H h a (.dK kvs) from rd_of ok e
theorem dk_of {kvs : List (Key × V)} (ok : HOk P w H h) (e : H a = some (.dK kvs)) : kvs.length ≤ sizeLine ∧ (a == sysModules) = false ∧ ∃ vs, KV kvs vs ∧ h.DictOf (mixKind P w) a vs := dk_rd ok (.inl e)
/-- a tracked tuple of ints and texts is a key -/
theorem key_of {ks : List Key} (ok : HOk P w H h) (e : H a = some (.tup (ks.map kV))) : (tupleKind (mixKind P w)).is h ks a := by
  obtain ⟨_, its, r, o, h1, h2, n, h3⟩ := (show ObjOk P w H h a (.tup (ks.map kV)) from ok a _ e)
  exact ⟨o, its.toArray, n, h1, h2, h3, by simpa using items_are r⟩
theorem dt_rd {kvs : List (List Key × V)} (ok : HOk P w H h) (e : Rd H a (.dT kvs)) : kvs.length ≤ sizeLine ∧ (a == sysModules) = false ∧
    ∃ xs, KT H kvs xs ∧ h.DictOfH (tupleKind (mixKind P w)) a xs := by
  obtain ⟨z, y, xs, r, o, es, ep, h1, h2, h3, h4, h5⟩ := (show ObjOk P w H h a (.dT kvs) from rd_of ok e)
  refine ⟨z, y, xs, r, o, es, ep, h1, h2, h3, h4, fun x hx => ?_, h5⟩
  have all : ∀ {l : List (List Key × V)} {m : List (List Key × Addr × Value)}, KT H l m → ∀ x ∈ m, (tupleKind (mixKind P w)).is h x.1 x.2.1 := by
    intro l m q
    induction q with
    | nil => intro x hx; exact nomatch hx
    | @cons p q ps qs hq t ih =>
      intro x hx
      rcases List.mem_cons.mp hx with e | hx
      · subst e
        exact key_of ok (by rw [← hq.1]; exact hq.2.1)
      · exact ih x hx
  exact all r x hx
theorem dt_of {kvs : List (List Key × V)} (ok : HOk P w H h) (e : H a = some (.dT kvs)) : kvs.length ≤ sizeLine ∧ (a == sysModules) = false ∧
    ∃ xs, KT H kvs xs ∧ h.DictOfH (tupleKind (mixKind P w)) a xs := dt_rd ok (.inl e)
end

/-- what the dict at a holds at the key y -/
def DGet (H : Hp) (a : Addr) (y : V) (r : Option V) : Prop :=
  (∃ kvs k, Rd H a (.dK kvs) ∧ y = kV k ∧ r = valV kvs k) ∨ ∃ kvs k b, Rd H a (.dT kvs) ∧ y = .ref b ∧ H b = some (.tup (k.map kV)) ∧ r = valV kvs k
/-- the heap behind a[y] = v -/
def DPut (H : Hp) (a : Addr) (y v : V) (H' : Hp) : Prop :=
  (∃ kvs k, H a = some (.dK kvs) ∧ y = kV k ∧ kvs.length < sizeLine ∧ H' = upd H a (.dK (putK kvs k v))) ∨
  ∃ kvs k b, H a = some (.dT kvs) ∧ y = .ref b ∧ H b = some (.tup (k.map kV)) ∧ kvs.length < sizeLine ∧ H' = upd H a (.dT (putK kvs k v))
theorem DGet.k {H : Hp} {a : Addr} {kvs : List (Key × V)} {k : Key} (e : H a = some (.dK kvs)) : DGet H a (kV k) (valV kvs k) := .inl ⟨kvs, k, .inl e, rfl, rfl⟩
theorem DPut.k {H : Hp} {a : Addr} {kvs : List (Key × V)} {k : Key} {v : V} (e : H a = some (.dK kvs)) (hl : kvs.length < sizeLine) : DPut H a (kV k) v (upd H a (.dK (putK kvs k v))) := .inl ⟨kvs, k, e, rfl, hl, rfl⟩
section
variable {X : Cx} {pins : List (Addr × Obj)} {σ : St} {H : Hp} {s : Shared} {a : Addr} {y v : V} {u r : Value} {o : Option V} {A : Around} {E : Value → Shared → Prop}

theorem Inv.big (I : Inv X pins σ H s) : sysModules < s.heap.objs.size := by
  have h : mainGlobals < s.heap.objs.size := (I.mod.glob.keeps I.bk).lt
  exact Nat.lt_trans (by decide) h

/-- d[y], there -/
theorem d_getItem {Q : Value → Shared → Prop} (hu : A.units + 1 < cLine) (I : Inv X pins σ H s) (g : DGet H a y (some v)) (ry : RelV y u) (h : ∀ w' s', Inv X pins σ H s' → RelV v w' → Q w' s') :
    wpAny (model X.prog X.w) A (getItem (.ref a) u) Q E s := by
  rcases g with ⟨kvs, k, e, ey, l⟩ | ⟨kvs, k, b, e, ey, eb, l⟩
  · subst ey
    obtain ⟨z, hd, vs, rel, dd⟩ := dk_rd I.hok e
    obtain ⟨w', hw, rw'⟩ := RelO.some_of (v := v) (o := valueAt vs k) (by rw [l]; exact rel.val k)
    exact wpAny_getItem_of (kV_is ry) dd.mapOf hw (h w' _ (I.tok _) rw')
  · subst ey
    cases (show u = Value.ref b from ry)
    obtain ⟨z, hd, xs, rel, dd⟩ := dt_rd I.hok e
    obtain ⟨w', hw, rw'⟩ := RelO.some_of (v := v) (o := (atKey xs k).map (·.2)) (by rw [l]; exact rel.val k)
    obtain ⟨p, hp, hp2⟩ := Option.map_eq_some_iff.mp hw
    refine wpAny_getItem_heap (tupleKind_room_in1 hu) (key_of I.hok eb) dd hp ?_
    rw [hp2]
    exact h w' _ (I.tok _) rw'
/-- a dict's object is replaced -/
theorem d_write {h' : Heap} {t' : Nat} {ob : HO} (I : Inv X pins σ H s) (mu : Mut (H a)) (hs : Heap.SameBut a s.heap h') (he : ∃ q, h'.get? a = some q) (new : ObjOk X.prog X.w (upd H a ob) h' a ob) :
    Inv X pins σ (upd H a ob) { s with heap := h', toks := t' } :=
  I.write (x := a) (e := a) mu (.inl rfl) (fun b q hb z => (hs.2 b hb).trans z) he new
theorem dk_new {P : Program} {w : World} {H' : Hp} {h' : Heap} {kvs : List (Key × V)} {vs : List (Key × Value)} (z : kvs.length ≤ sizeLine) (hd : (a == sysModules) = false) (rel : KV kvs vs) (dd : h'.DictOf (mixKind P w) a vs) :
    ObjOk P w H' h' a (.dK kvs) := ⟨z, hd, vs, rel, dd⟩
/-- d[y] = v -/
theorem d_setItem {H' : Hp} {Q : Unit → Shared → Prop} (hu : A.units + 1 < cLine) (I : Inv X pins σ H s) (g : DPut H a y v H') (ry : RelV y u) (rv : RelV v r) (h : ∀ s', Inv X pins σ H' s' → Q () s') :
    wpAny (model X.prog X.w) A (setItem (.ref a) u r) Q E s := by
  rcases g with ⟨kvs, k, e, ey, l, eH⟩ | ⟨kvs, k, b, e, ey, eb, l, eH⟩
  · subst ey eH
    obtain ⟨z, hd, vs, rel, dd⟩ := dk_of I.hok e
    have hz : vs.length ≤ sizeLine := by rw [← rel.length]; exact z
    have hl : (putK kvs k v).length ≤ sizeLine := by have := length_putK kvs k v; omega
    refine wpAny_setItem_pairs (hsz := hz) (kV_is ry) dd fun h' dd' hs => h _ ?_
    have he : ∃ q, h'.get? a = some q := let ⟨q, _, _, hq, _⟩ := dd'; ⟨q, hq⟩
    exact d_write I (by rw [e]; exact True.intro) hs he (dk_new hl hd (rel.put k rv) dd')
  · subst ey eH
    cases (show u = Value.ref b from ry)
    obtain ⟨z, hd, xs, rel, dd⟩ := dt_of I.hok e
    have hz : xs.length ≤ sizeLine := by rw [← Paired.length rel]; exact z
    have hl : (putK kvs k v).length ≤ sizeLine := by have := length_putK kvs k v; omega
    refine wpAny_setItem_heap (hsz := hz) (tupleKind_room_in1 hu) (key_of I.hok eb) dd fun h' dd' hs => h _ ?_
    obtain ⟨q, es, ep, hq, h2, h3, h4, _, h5⟩ := dd'
    refine d_write I (by rw [e]; exact True.intro) hs ⟨q, hq⟩ ⟨hl, hd, _, (rel.put k eb rv).keeps fun c ys ec => ?_, q, es, ep, hq, h2, h3, h4, h5⟩
    rw [upd_ne (ne_of ec e (fun z => nomatch z))]
    exact ec
end

section
variable {X : Cx} {pins : List (Addr × Obj)} {σ : St} {H : Hp} {s : Shared} {a : Addr} {kvs : List (Key × V)} {k : Key} {u : Value} {A : Around} {E : Value → Shared → Prop}
end


/-! ### readings and rules -/
/-- the element of a subscription, not a slice -/
def NoSl (i : Expr) : Prop := ∀ ov iv, subscripted i false ov iv = operate [ov, iv] (getItem ov iv)
theorem subD_of {prog : Program} {w : World} {A : Around} {E : Value → Shared → Prop} {s : Shared} {env : Env} {value slice : Expr} {pos : Pos} {T id : String} {Q : Value → Shared → Prop}
    (hl : typeLookup (.type T) "__getitem__" = pure (some (.builtin id))) (hs : NoSl slice)
    (h : wpAny (model prog w) A (eval value env) (fun o s₁ => wpAny (model prog w) A (eval slice env) (fun i s₂ => s₂.TypeIs o T ∧ wpAny (model prog w) A (getItem o i) Q E s₂) E s₁) E s) :
    wpAny (model prog w) A (eval (.Subscript value slice pos) env) Q E s := by
  refine Subscript_ (wpAny_mono h (fun o s₁ h₁ => wpAny_mono h₁ (fun i s₂ h₂ => ?_) fun _ _ x => x) fun _ _ x => x)
  obtain ⟨hT, h₂⟩ := h₂
  unfold subscriptTail
  refine wpAny_bind ?_
  rw [getitemInPython_of_ne hT.not_modules]
  refine wpAny_bind (wpAny_specialOf hT hl ?_)
  have fin : wpAny (model prog w) A (subscripted slice false o i) (fun r s₃ => wpAny (model prog w) A (letTemporaryGo value o r >>= fun _ => pure r) Q E s₃) E s₂ := by
    rw [hs o i]
    exact wpAny_operating (wpAny_mono h₂ (fun r s₃ h₃ => wpAny_bind (wpAny_letTemporaryGo (wpAny_pure h₃))) fun _ _ x => x)
  first
    | exact wpAny_pure (wpAny_bind fin)
    | exact wpAny_bind (wpAny_pure (wpAny_bind fin))
    | exact wpAny_bind fin

theorem dict_typeIs {X : Cx} {pins : List (Addr × Obj)} {σ : St} {H : Hp} {s : Shared} {a : Addr} {y : V} {o : Option V} (I : Inv X pins σ H s) (g : DGet H a y o) : s.TypeIs (.ref a) "dict" := by
  rcases g with ⟨kvs, k, e, _, _⟩ | ⟨kvs, k, b, e, _, _, _⟩
  · obtain ⟨_, _, vs, _, dd⟩ := dk_rd I.hok e
    exact dd.typeIs
  · obtain ⟨_, _, xs, _, dd⟩ := dt_rd I.hok e
    exact dd.typeIs
/-- d[y] -/
def tDGet (td ty : TE) : TE := fun σ H Q => td σ H fun x H1 => ty σ H1 fun y H2 => ∃ a v, x = .ref a ∧ DGet H2 a y (some v) ∧ Q v H2
/-- d[y] = v -/
def sDPut (td ty tv : TE) : TS := fun D σ H => tv σ H fun v H1 => td σ H1 fun x H2 => ty σ H2 fun y H3 => ∃ a H4, x = .ref a ∧ DPut H3 a y v H4 ∧ D.nx σ H4
section
variable {X : Cx} {o i e value : Expr} {pos pos' tpos : Pos} {td ty tv : TE}
theorem pe_dget (hu : X.A.units + 1 < cLine) (ho : PE X o td) (hi : PE X i ty) (hs : NoSl i) : PE X (.Subscript o i pos) (tDGet td ty) := by
  intro pins s σ H Q I h
  refine subD_of PySem.F.slot_dict_getitem.lookup hs (thn (ho pins s σ H _ I h) fun u s1 ⟨x, H1, I1, rx, q1⟩ => thn (hi pins s1 σ H1 _ I1 q1) fun iv s2 ⟨y, H2, I2, ry, a, v, ex, g, q2⟩ => ?_)
  subst ex
  obtain rfl : u = Value.ref a := rx
  exact ⟨dict_typeIs I2 g, d_getItem hu I2 g ry fun w' s3 I3 rw' => ⟨v, H2, I3, rw', q2⟩⟩
theorem ps_dput (hu : X.A.units + 1 < cLine) (ho : PE X o td) (hi : PE X i ty) (hv : PE X value tv) (hs : swapsWith value (some (.Subscript o i pos')) pos.line X.env = pure false) :
    PS X (.Assign [.Subscript o i pos'] value pos) (sDPut td ty tv) := by
  intro pins s σ H D I h
  refine wpAny_Assign_Subscript (thn (hv pins s σ H _ I h) fun r s1 ⟨v, H1, I1, rv, q1⟩ => thn (ho pins s1 σ H1 _ I1 q1) fun u s2 ⟨x, H2, I2, rx, q2⟩ => thn (hi pins s2 σ H2 _ I2 q2) fun iv s3 ⟨y, H3, I3, ry, a, H4, ex, g, q3⟩ => ?_) hs
  subst ex
  obtain rfl : u = Value.ref a := rx
  exact d_setItem hu I3 g ry rv fun s4 I4 => ⟨σ, H4, I4, q3⟩
end


/-! ### displays -/
theorem dk_empty {P : Program} {w : World} {H : Hp} (h : Heap) (hb : sysModules < h.objs.size) : ObjOk P w H (h.push { cls := .type "dict", data := .dict #[] }) h.objs.size (.dK []) :=
  ⟨Nat.zero_le _, beq_eq_false_iff_ne.mpr (Ne.symm (Nat.ne_of_lt hb)), [], .nil, Heap.DictOf.new h⟩
/-- {}, to be a dict of the kind that is wanted -/
def tDNewK : TE := fun _ H Q => ∀ p, H p = none → Q (.ref p) (upd H p (.dK []))
section
variable {X : Cx} {pos : Pos}
theorem pe_dnewK : PE X (.Dict [] [] pos) tDNewK := fun pins s σ H Q I h =>
  wpAny_Dict_empty ⟨.ref s.heap.objs.size, _, I.laid (a := s.heap.objs.size) (o := .dK []) (t' := s.toks) (fun _ _ q => Heap.get?_push_of_some _ q) (Nat.le_refl _) (dk_empty s.heap I.big), rfl, h _ (I.hok.fresh (Nat.le_refl _))⟩
end

/-! ### methods -/
section
variable {X : Cx} {pins : List (Addr × Obj)} {σ : St} {H : Hp} {s : Shared} {a : Addr} {y d : V} {u r : Value} {o : Option V} {A : Around} {E : Value → Shared → Prop}
end

section
variable {X : Cx} {o e f : Expr} {apos cpos : Pos} {td ty tx : TE}
end

/-! ### dict(d): a copy -/
section
variable {X : Cx} {pins : List (Addr × Obj)} {σ : St} {H : Hp} {s : Shared} {a : Addr} {kvs : List (Key × V)} {A : Around} {E : Value → Shared → Prop}
end


section
variable {X : Cx} {pins : List (Addr × Obj)} {σ : St} {H : Hp} {s : Shared} {a : Addr} {y : V} {u : Value} {A : Around} {E : Value → Shared → Prop}
end
section
variable {X : Cx}
end
/-! ### a dict's pairs: keys that differ -/
section
variable {κ : Type} [DecidableEq κ]
theorem valV_in {kvs : List (κ × V)} {k : κ} {v : V} (h : valV kvs k = some v) : k ∈ kvs.map (·.1) := by
  have q : (kvs.any fun kv => decide (kv.1 = k)) = true := by
    rw [valV_any, h]
    all_goals rfl
  obtain ⟨p, hp, e⟩ := List.any_eq_true.mp q
  exact List.mem_map.mpr ⟨p, hp, of_decide_eq_true e⟩
end
end L2

set_option Elab.async false
set_option linter.all false
set_option maxRecDepth 100000
set_option maxHeartbeats 4000000
namespace L2
open PySem PySem.Spec PyProof.Rows PySem.W
theorem ent_loop : entryFor table "dict.update.loop" = some Builtin.«dict.update.loop» := entryFor_of_tree (by kernel_rfl)
theorem pl_loop : plainId "dict.update.loop" = true := by decide +kernel
theorem list_keys : typeLookup (.type "list") "keys" = pure none := by rw [typeLookup_type, builtinLookup_eq_fast]; kernel_rfl
/-- a list has no keys -/
theorem keys_miss {prog : Program} {w : World} {A : Around} {E : Value → Shared → Prop} {s : Shared} {a : Addr} {xs : Array Value} {k : Nat} {sl : Array (Option Value)} {Q : Option Value → Shared → Prop} (hh : A.handled = none)
    (hx : s.heap.get? a = some { cls := .type "list", dict := none, data := .seq xs k, slots := sl }) (h : ∀ h' tk, (∀ b o, s.heap.get? b = some o → h'.get? b = some o) → Q none { s with heap := h', toks := tk }) :
    wpAny (model prog w) A (getAttr? (.ref a) "keys") Q E s := by
  obtain ⟨hp, g, d, tk, os⟩ := s
  have hT : ∀ tk', (⟨hp, g, d, tk', os⟩ : Shared).TypeIs (.ref a) "list" := fun _ => ⟨_, hx, rfl⟩
  have f1 := sub_AttributeError
  have f3 := F.slot_list_getattribute.lookup
  have f4 := F.slot_list_getattribute.bind (.ref a)
  have f5 := am_list_getattr_none
  unfold getAttr? getAttrBy?
  refine wpAny_bind (wpAny_mkText (wpAny_bind (wpAny_attempt ?_)))
  unfold getAttrBy
  repeat (any_goals (first | assumption | exact hT _ | ((with_reducible show wpAny _ _ (call (Value.builtin "list.__getattribute__") _ _) _ _ _); refine call_meets F.slot_list_getattribute (hT _) am_entry_list_getattribute (F.args_list_getattribute_2 _ _) (meets_getattribute_miss_list a xs k sl "keys" _ list_keys (by decide +kernel) (by decide +kernel)) ⟨hx, hh, fun h' tk' e hx' => ?_⟩) | wp_step))
  obtain ⟨t', u', he⟩ := hx'.there
  show wpAny _ _ (getattributeRaised _ _ _ _ _ _ _) _ _ _
  unfold getattributeRaised
  repeat (any_goals (first | assumption | wp_step))
  exact h _ _ hx'.keeps
section
variable {prog : Program} {w : World} {A : Around} {s : Shared} {it l d : Addr} {items : Array Value}
def foldP (ps : List (Key × Value)) : List (Key × Value) := ps.foldl (fun a p => stored a p.1 p.2) []
theorem foldP_snoc (ps : List (Key × Value)) (p : Key × Value) : foldP (ps ++ [p]) = stored (foldP ps) p.1 p.2 := by unfold foldP; rw [List.foldl_append]; rfl
theorem stored_len (a : List (Key × Value)) (k : Key) (v : Value) : (stored a k v).length ≤ a.length + 1 := by
  unfold stored
  split
  · rw [List.length_map]; omega
  · rw [List.length_append]; simp
theorem foldP_len (ps : List (Key × Value)) : (foldP ps).length ≤ ps.length := by
  have g : ∀ (ps a : List (Key × Value)), (ps.foldl (fun a p => stored a p.1 p.2) a).length ≤ a.length + ps.length := by
    intro ps
    induction ps with
    | nil => intro a; exact Nat.le_refl _
    | cons p ps ih =>
      intro a
      have h1 := ih (stored a p.1 p.2)
      have h2 := stored_len a p.1 p.2
      rw [List.foldl_cons, List.length_cons]
      omega
  have := g ps []
  rw [List.length_nil, Nat.zero_add] at this
  exact this
/-- the pairs that a list holds -/
def PairsAt (h : Heap) (d it : Addr) (items : Array Value) (ps : List (Key × Value)) : Prop := items.size = ps.length ∧ ∀ (j : Nat) (p : Key × Value), ps[j]? = some p → ∃ T kv, items[j]? = some (.ref T) ∧ h.IsTuple T #[kv, p.2] ∧ keyIs p.1 kv = true ∧ T ≠ it ∧ T ≠ d
theorem loop_pairs (hh : A.handled = none) (hli : l ≠ it) (hld : l ≠ d) (hdi : d ≠ it) (ps : List (Key × Value)) (hz : ps.length ≤ sizeLine) : ∀ (n i : Nat) (s : Shared) (R : Result → Shared → Prop), ps.length - i = n → i ≤ ps.length → s.heap.IsListIter it l i → s.heap.IsList l items → PairsAt s.heap d it items ps →
    s.heap.DictOf (mixKind prog w) d (foldP (ps.take i)) →
    (∀ h' tk, h'.DictOf (mixKind prog w) d (foldP ps) → (∀ b o, b ≠ it → b ≠ d → s.heap.get? b = some o → h'.get? b = some o) → R (.ok (.ret .none)) { s with heap := h', toks := tk }) →
    codeAny (model prog w) A (.builtin "dict.update.loop" ⟨[.ref d, .ref it, rawInt i, .none], []⟩) R s := by
  intro n
  induction n with
  | zero =>
    intro i s R hn hi hit hl hp hd hR
    refine codeAny_builtin ent_loop ?_
    rw [Around.under_plainId pl_loop _]
    unfold Builtin.«dict.update.loop»
    have e : i = ps.length := by omega
    refine wpAny_bind (wpAny_pyNext_list_end hh hit hl (by rw [Array.getElem?_eq_none]; rw [hp.1]; omega) fun h' he => ?_)
    refine wpAny_bind (m := Builtin.Dict.addKeywords d []) (wpAny_pure (wpAny_pure ?_))
    have e2 : ps.take i = ps := by rw [e, List.take_length]
    rw [e2] at hd
    exact hR h' s.toks (hd.extBut he hdi) fun b o hb _ q => he b o hb q
  | succ n ih =>
    intro i s R hn hi hit hl hp hd hR
    refine codeAny_builtin ent_loop ?_
    rw [Around.under_plainId pl_loop _]
    unfold Builtin.«dict.update.loop»
    obtain ⟨p, hpi⟩ : ∃ p, ps[i]? = some p := ⟨_, List.getElem?_eq_getElem (by omega)⟩
    obtain ⟨T, kv, h1, h2, h3, h4, h5⟩ := hp.2 i p hpi
    refine wpAny_bind (wpAny_pyNext_list_item hit hl h1 fun h' hit' sb => ?_)
    have hT := h2.extBut sb.extBut h4
    have hd1 := hd.extBut sb.extBut hdi
    have hl1 := hl.extBut sb.extBut hli
    refine wpAny_bind (wpAny_holding (wpAny_bind (wpAny_tryCatch ?_)))
    unfold Builtin.Dict.pairItems
    obtain ⟨oT, hoT, hcT, nT, hdT⟩ := id hT
    refine wpAny_bind (wpAny_typeOf (s := { s with heap := h' }) (T := "tuple") ⟨oT, hoT, hcT⟩ ?_)
    rw [if_pos (by decide)]
    refine wpAny_bind (wpAny_seqItems hoT hdT (wpAny_pure ?_))
    show wpAny _ _ (holding [kv, p.2] (dictSet d kv p.2)) _ _ _
    have hlen : (foldP (ps.take i)).length ≤ sizeLine := by
      have a1 := foldP_len (ps.take i)
      have a2 : (ps.take i).length ≤ ps.length := by rw [List.length_take]; omega
      omega
    refine wpAny_holding (wpAny_dictSet_pairs (s := { s with heap := h' }) (hsz := hlen) (knd := mixKind prog w) h3 hd1 fun h2' hd2 sb2 => ?_)
    refine wpAny_pure ⟨Code.quiet_builtin _ (by decide +kernel), ?_⟩
    have et : ps.take (i + 1) = ps.take i ++ [p] := by rw [List.take_add_one, hpi]; rfl
    have ei : ((i : Int) + 1) = ((i + 1 : Nat) : Int) := by omega
    show codeAny (model prog w) A (.builtin "dict.update.loop" ⟨[.ref d, .ref it, rawInt ((i : Int) + 1), .none], []⟩) R _
    rw [ei]
    refine ih (i + 1) _ R (by omega) (by have := (List.getElem?_eq_some_iff.mp hpi).1; omega) (hit'.extBut sb2.extBut (Ne.symm hdi)) (hl1.extBut sb2.extBut hld) ⟨hp.1, fun j q hq => ?_⟩ (by rw [et, foldP_snoc]; exact hd2) fun h3' tk hd3 hk => ?_
    · obtain ⟨T', kv', a1, a2, a3, a4, a5⟩ := hp.2 j q hq
      exact ⟨T', kv', a1, (a2.extBut sb.extBut a4).extBut sb2.extBut a5, a3, a4, a5⟩
    · exact hR h3' tk hd3 fun b o hb1 hb2 q => hk b o hb1 hb2 (sb2.extBut b o hb2 (sb.extBut b o hb1 q))
theorem dict_of_pairs {E : Value → Shared → Prop} {Q : Value → Shared → Prop} {n : Nat} (hh : A.handled = none) (ho : s.heap.get? l = some { cls := .type "list", dict := none, data := .seq items n, slots := #[] }) (ps : List (Key × Value)) (hz : ps.length ≤ sizeLine)
    (hp : items.size = ps.length ∧ ∀ (j : Nat) (p : Key × Value), ps[j]? = some p → ∃ T kv, items[j]? = some (.ref T) ∧ s.heap.IsTuple T #[kv, p.2] ∧ keyIs p.1 kv = true)
    (h : ∀ h' tk, h'.DictOf (mixKind prog w) s.heap.objs.size (foldP ps) → (∀ b o, s.heap.get? b = some o → h'.get? b = some o) → Q (.ref s.heap.objs.size) { s with heap := h', toks := tk }) :
    wpAny (model prog w) A (call (.type "dict") [.ref l]) Q E s := by
  refine callType_codes (Q₁ := fun obj s₁ => obj = .ref s.heap.objs.size ∧ s₁ = { s with heap := s.heap.push { cls := .type "dict", data := .dict #[] } }) F.kt_called_dict (F.kt_typeCall_dict_1 _) F.entry_dict_init (kt_code_dict_new _ ⟨rfl, rfl⟩) ?_
  rintro obj s₁ ⟨rfl, rfl⟩
  have hnew : (s.heap.push { cls := .type "dict", data := .dict #[] }).DictOf (mixKind prog w) s.heap.objs.size [] := Heap.DictOf.new s.heap
  have up : ∀ b o, s.heap.get? b = some o → (s.heap.push { cls := .type "dict", data := .dict #[] }).get? b = some o := fun b o q => Heap.get?_push_of_some _ q
  have hlt : l < s.heap.objs.size := Heap.lt_size ho
  refine ⟨hnew.typeIs, F.args_dict_init_2 _ _, ?_⟩
  unfold Builtin.«dict.__init__»
  refine wpAny_bind ?_
  unfold Builtin.Dict.selfAndRest
  refine wpAny_bind (wpAny_notOrdered_dict hnew.typeIs ?_)
  show wpAny _ _ (pure (s.heap.objs.size, [Value.ref l])) _ _ _
  refine wpAny_pure ?_
  show wpAny _ _ (Builtin.Dict.updateFrom "dict.__init__" s.heap.objs.size (.ref l) [] .none) _ _ _
  unfold Builtin.Dict.updateFrom
  refine wpAny_bind (wpAny_typeOf (T := "list") ⟨_, up l _ ho, rfl⟩ ?_)
  rw [if_pos (by decide)]
  refine wpAny_bind (keys_miss (A := A.in1.in1) hh (up l _ ho) fun h1 tk1 k1 => ?_)
  rw [if_pos (by rfl)]
  have k01 : ∀ b o, s.heap.get? b = some o → h1.get? b = some o := fun b o q => k1 b o (up b o q)
  have hl1 : h1.IsList l items := ⟨_, k01 l _ ho, rfl, n, rfl⟩
  have hd1 : h1.DictOf (mixKind prog w) s.heap.objs.size [] := hnew.at fun o q => k1 _ o q
  refine wpAny_bind (wpAny_rule (wpAny_bind (wpAny_pyIter_list (s := { s with heap := h1, toks := tk1 }) hl1 (wpAny_pure ⟨Code.quiet_builtin _ (by decide +kernel), ?_⟩))))
  have hsz : s.heap.objs.size < h1.objs.size := by
    obtain ⟨_, _, _, e, _⟩ := hd1
    exact Heap.lt_size e
  have tlt : ∀ T xs, s.heap.IsTuple T xs → T < s.heap.objs.size := fun T xs ⟨_, e, _⟩ => Heap.lt_size e
  refine loop_pairs (l := l) (items := items) (A := A.in1) hh (Nat.ne_of_lt (Nat.lt_trans hlt hsz)) (Nat.ne_of_lt hlt) (Nat.ne_of_lt hsz) ps hz _ 0 _ _ rfl (Nat.zero_le _) ⟨_, Heap.get?_push_size _ rfl, rfl, rfl⟩ (hl1.push _) ⟨hp.1, fun j p hj => ?_⟩ (hd1.push _) fun h' tk hd' hk => ?_
  · obtain ⟨T, kv, a1, a2, a3⟩ := hp.2 j p hj
    have := tlt T _ a2
    exact ⟨T, kv, a1, (a2.at fun o q => Heap.get?_push_of_some _ (k01 _ o q)), a3, Nat.ne_of_lt (Nat.lt_trans this hsz), Nat.ne_of_lt this⟩
  · refine ⟨rfl, h h' tk hd' fun b o q => hk b o ?_ ?_ (Heap.get?_push_of_some _ (k01 b o q))⟩
    · exact Nat.ne_of_lt (Nat.lt_trans (Heap.lt_size q) hsz)
    · exact Nat.ne_of_lt (Heap.lt_size q)
end
section
variable {X : Cx}
/-! ### sorted, of a list of texts -/
theorem vals_of_strs : ∀ {us : List Value} {ys : List Str}, StrsAre us ys → Vals (ys.map V.str) us := by
  intro us ys h
  induction h with
  | nil => exact .nil
  | cons y t _ ih => exact .cons ⟨t, rfl⟩ ih
theorem call_sortedS : CallR X (.builtin "sorted") (fun xs H Q => ∃ p ss, xs = [.ref p] ∧ SqL X.K H p (ss.map V.str) ∧ ss.length < 64 ∧ ∀ ss' l, ss'.Perm ss → sortedS ss' = true → H l = none → Q (.ref l) (upd H l (.lst (ss'.map V.str)))) := by
  intro pins s σ H xs us Q I r h
  obtain ⟨p, ss, rfl, hq, hz, q⟩ := h
  obtain ⟨u, rfl, ru⟩ := vals1 r
  cases ru
  obtain ⟨its, rv, pl, _⟩ := I.list hq
  have hS := strs_are rv
  have hl : its.length < 64 := by rw [← rv.length, List.length_map]; exact hz
  refine sorted_strs pl.isList (by simpa using hS) hl fun out ss' a1 a2 a3 => ?_
  obtain ⟨e, he⟩ := sortedAll_at s.heap its out
  have hf : H (s.heap.objs.size + 1) = none := I.hok.fresh (Nat.le_succ _)
  have hl' : ss'.length = ss.length := a2.length_eq
  exact ⟨.ref (s.heap.objs.size + 1), _, I.laid (t' := s.toks) (o := .lst (ss'.map V.str)) (fun b o z => sortedAll_old z) (Nat.le_succ _) ⟨by rw [List.length_map, hl', sizeLine_eq]; omega, out.toList, e, vals_of_strs a1, he⟩, rfl, q ss' _ a2 a3 hf⟩
/-! ### list(d), the keys of a dict -/
theorem rel_key {k : Key} {v : Value} (h : keyIs k v = true) : RelV (kV k) v := by
  rcases keyIs_shape h with ⟨i, t, rfl, rfl⟩ | ⟨x, t, rfl, rfl⟩
  · exact ⟨t, rfl⟩
  · exact ⟨t, rfl⟩
theorem vals_keys : ∀ (ks : List Key) (acc : List Value), acc.length = ks.length → (∀ (j : Nat) (v : Value), acc[j]? = some v → ∃ k, ks[j]? = some k ∧ keyIs k v = true) → Vals (ks.map kV) acc
  | [], [], _, _ => .nil
  | k :: ks, v :: acc, hl, h => by
    obtain ⟨k', e, hk⟩ := h 0 v rfl
    have e' : k = k' := by simpa using e
    subst e'
    exact .cons (rel_key hk) (vals_keys ks acc (by simpa using hl) fun j u hu => by simpa using h (j + 1) u (by simpa using hu))
  | [], _ :: _, hl, _ => by simp at hl
  | _ :: _, [], hl, _ => by simp at hl
theorem call_listD (hc : X.calm = true) : CallR X (.type "list") (fun xs H Q => ∃ d kvs, xs = [.ref d] ∧ Rd H d (.dK kvs) ∧ ∀ l, H l = none → Q (.ref l) (upd H l (.lst ((kvs.map (·.1)).map kV)))) := by
  intro pins s σ H xs us Q I r h
  obtain ⟨d, kvs, rfl, hd, q⟩ := h
  obtain ⟨u, rfl, ru⟩ := vals1 r
  cases ru
  obtain ⟨z, lo, vs, rel, dd⟩ := dk_rd I.hok hd
  obtain ⟨ep, hat⟩ := dd.dictAt
  refine kdl_call (kdl_dict (knd := mixKind X.prog X.w) (kvs := vs) (ep := ep) lo) (I.ok.hd hc) hat (by rw [← rel.length]; exact z) fun h' tk acc c kp he hit => ?_
  have hl : acc.toList.length = kvs.length := by rw [Array.length_toList, hit.1, rel.length]
  have hv : Vals ((kvs.map (·.1)).map kV) acc.toList := vals_keys _ _ (by rw [List.length_map]; exact hl) fun j v hj => by
    obtain ⟨k, x, e, hk⟩ := hit.2 j v (by rw [← Array.getElem?_toList]; exact hj)
    refine ⟨k, ?_, hk⟩
    rw [rel.keys, List.getElem?_map, e]
    rfl
  refine ⟨.ref s.heap.objs.size, _, I.laid (t' := tk) (o := .lst ((kvs.map (·.1)).map kV)) kp (Nat.le_refl _) ⟨by rw [List.length_map, List.length_map]; exact z, acc.toList, c, hv, ?_⟩, rfl, q _ (I.hok.fresh (Nat.le_refl _))⟩
  rw [Array.toArray_toList]
  exact he
/-! ### dict(l), of a list of pairs -/
def foldK (kvs : List (Key × V)) : List (Key × V) := kvs.foldl (fun a p => putK a p.1 p.2) []
theorem kv_fold {kvs : List (Key × V)} {vs : List (Key × Value)} (r : KV kvs vs) : KV (foldK kvs) (foldP vs) := by
  have g : ∀ {kvs : List (Key × V)} {vs : List (Key × Value)}, KV kvs vs → ∀ {a : List (Key × V)} {b : List (Key × Value)}, KV a b → KV (kvs.foldl (fun a p => putK a p.1 p.2) a) (vs.foldl (fun a p => stored a p.1 p.2) b) := by
    intro kvs vs h
    unfold KV at h
    induction h with
    | nil => intro a b h; exact h
    | @cons p q _ _ h1 _ ih =>
      intro a b h
      rw [List.foldl_cons, List.foldl_cons]
      have z := KV.put h p.1 h1.2
      rw [← h1.1]
      exact ih z
  exact g r .nil
theorem pair_vals {P : Program} {w : World} {H : Hp} {h : Heap} (hok : HOk P w H h) : ∀ (ts : List Addr) (kvs : List (Key × V)) (us : List Value), ts.length = kvs.length → (∀ (j : Nat) (t : Addr) (kv : Key × V), ts[j]? = some t → kvs[j]? = some kv → H t = some (.tup [kV kv.1, kv.2])) → Vals (ts.map V.ref) us →
    ∃ vs : List (Key × Value), KV kvs vs ∧ us.length = vs.length ∧ ∀ (j : Nat) (p : Key × Value), vs[j]? = some p → ∃ T kv, us[j]? = some (.ref T) ∧ h.IsTuple T #[kv, p.2] ∧ keyIs p.1 kv = true
  | [], [], us, _, _, r => by cases r; exact ⟨[], .nil, rfl, fun j p hj => by simp at hj⟩
  | t :: ts, kv :: kvs, us, hl, hH, r => by
    cases r with
    | cons r1 r2 =>
      cases r1
      obtain ⟨vs, h1, h2, h3⟩ := pair_vals hok ts kvs _ (by simpa using hl) (fun j t' kv' a b => hH (j + 1) t' kv' (by simpa using a) (by simpa using b)) r2
      obtain ⟨_, its, rv, pl⟩ := (show ObjOk P w H h t (.tup [kV kv.1, kv.2]) from hok t _ (hH 0 t kv rfl rfl))
      obtain ⟨u1, u2, rfl, ru1, ru2⟩ := vals2 rv
      refine ⟨(kv.1, u2) :: vs, .cons ⟨rfl, ru2⟩ h1, by rw [List.length_cons, List.length_cons, h2], fun j p hj => ?_⟩
      cases j with
      | zero =>
        have e : (kv.1, u2) = p := by simpa using hj
        subst e
        exact ⟨t, u1, rfl, pl, kV_is (P := P) (w := w) ru1⟩
      | succ j =>
        obtain ⟨T, k, a1, a2, a3⟩ := h3 j p (by simpa using hj)
        exact ⟨T, k, by simpa using a1, a2, a3⟩
  | [], _ :: _, _, hl, _, _ => by simp at hl
  | _ :: _, [], _, hl, _, _ => by simp at hl
theorem foldK_len (kvs : List (Key × V)) : (foldK kvs).length ≤ kvs.length := by
  have g : ∀ (ps a : List (Key × V)), (ps.foldl (fun a p => putK a p.1 p.2) a).length ≤ a.length + ps.length := by
    intro ps
    induction ps with
    | nil => intro a; exact Nat.le_refl _
    | cons p ps ih =>
      intro a
      have h1 := ih (putK a p.1 p.2)
      have h2 := length_putK a p.1 p.2
      rw [List.foldl_cons, List.length_cons]
      omega
  have := g kvs []
  rw [List.length_nil, Nat.zero_add] at this
  exact this
theorem call_dictP (hc : X.calm = true) : CallR X (.type "dict") (fun xs H Q => ∃ (p : Addr) (ts : List Addr) (kvs : List (Key × V)), xs = [.ref p] ∧ H p = some (.lst (ts.map V.ref)) ∧ ts.length = kvs.length ∧
    (∀ (j : Nat) (t : Addr) (kv : Key × V), ts[j]? = some t → kvs[j]? = some kv → H t = some (.tup [kV kv.1, kv.2])) ∧ ∀ d, H d = none → Q (.ref d) (upd H d (.dK (foldK kvs)))) := by
  intro pins s σ H xs us Q I r h
  obtain ⟨p, ts, kvs, rfl, hp, hl, hH, q⟩ := h
  obtain ⟨u, rfl, ru⟩ := vals1 r
  cases ru
  obtain ⟨hz, its, n, rv, hg⟩ := (show ObjOk X.prog X.w H s.heap p (.lst (ts.map V.ref)) from I.hok p _ hp)
  obtain ⟨vs, h1, h2, h3⟩ := pair_vals I.hok ts kvs its hl hH rv
  have hz' : kvs.length ≤ sizeLine := by rw [← hl]; rw [List.length_map] at hz; exact hz
  refine dict_of_pairs (I.ok.hd hc) hg vs (by rw [← h1.length]; exact hz') ⟨by rw [List.size_toArray]; exact h2, fun j p hj => ?_⟩ fun h' tk hd kp => ?_
  · obtain ⟨T, kv, a1, a2, a3⟩ := h3 j p hj
    exact ⟨T, kv, by simpa using a1, a2, a3⟩
  · refine ⟨.ref s.heap.objs.size, _, I.laid (t' := tk) (o := .dK (foldK kvs)) kp (Nat.le_refl _) ⟨Nat.le_trans (foldK_len kvs) hz', ?_, foldP vs, kv_fold h1, hd⟩, rfl, q _ (I.hok.fresh (Nat.le_refl _))⟩
    exact beq_eq_false_iff_ne.mpr (Nat.ne_of_gt I.big)
end
end L2

set_option Elab.async false
set_option linter.all false
set_option maxRecDepth 100000
set_option maxHeartbeats 4000000
namespace L2
open PySem PySem.Spec PyProof.Rows PySem.W
/-! ### a dict that is walked: frozen while that lasts -/
section
variable {X : Cx} {pins : List (Addr × Obj)} {σ : St} {H : Hp} {s : Shared} {d : Addr} {kvs : List (Key × V)} {o : Obj}
/-- another word for the same object -/
theorem Inv.reword {u u' : HO} (I : Inv X pins σ H s) (e : H d = some u) (e' : ObjOk X.prog X.w (upd H d u') s.heap d u') (hu : ∀ xs, u ≠ .tup xs) (hw : ∀ a, u ≠ .own a) (ht : ∀ ps, u ≠ .tbl ps) (hf : ∀ o v, X.H₀ d ≠ some (.frz o v)) : Inv X pins σ (upd H d u') s := by
  have nd : ∀ b, H b = none → b ≠ d := fun b q z => by rw [z, e] at q; cases q
  refine ⟨I.ok, I.os, I.bare, ⟨I.base.keep, I.base.slot, fun b o q n hx => ?_, I.base.there, fun b xs q => ?_, fun b o v q => ?_, fun b ps q => ?_⟩, I.loc, I.cell, ?_, fun x c q => ?_, fun p hp => ?_, fun b v q => ?_, I.len⟩
  · have z := I.base.free b o q n hx
    rw [upd_ne (nd b z)]; exact z
  · have z := I.base.tups b xs q
    rw [upd_ne fun y => hu xs (Option.some.inj ((y ▸ e).symm.trans z))]; exact z
  · have z := I.base.frzs b o v q
    rw [upd_ne (show b ≠ d from fun y => hf o v (by rw [← y]; exact q))]; exact z
  · obtain ⟨m, z⟩ := I.base.tbls b ps q
    exact ⟨m, by rw [upd_ne fun y => ht _ (Option.some.inj ((y ▸ e).symm.trans z))]; exact z⟩
  · rw [upd_ne (nd _ I.free)]; exact I.free
  · rw [upd_ne (nd _ (I.freeC x c q))]; exact I.freeC x c q
  · obtain ⟨a1, a2, a3⟩ := I.pin p hp
    exact ⟨a1, by rw [upd_ne (nd _ a2)]; exact a2, a3⟩
  · by_cases hb : b = d
    · subst hb
      rw [upd_same] at q
      cases q
      exact e'
    · rw [upd_ne hb] at q
      refine (I.hok b v q).stay (fun _ _ _ z => z) (fun c z => ?_) fun c xs z => ?_
      · rw [upd_ne fun y => hw b (Option.some.inj ((y ▸ e).symm.trans z))]; exact z
      · rw [upd_ne fun y => hu xs (Option.some.inj ((y ▸ e).symm.trans z))]; exact z
theorem Inv.h0 (I : Inv X pins σ H s) (e : H d = some (.dK kvs)) : ∀ o v, X.H₀ d ≠ some (.frz o v) := fun o v q => by
  have z := I.base.frzs d o v q
  rw [e] at z; cases z
theorem Inv.freeze (I : Inv X pins σ H s) (e : H d = some (.dK kvs)) : ∃ o, Inv X pins σ (upd H d (.frz o (.dK kvs))) s := by
  obtain ⟨z, lo, vs, rel, o, es, ep, ho, r⟩ := dk_of I.hok e
  exact ⟨o, I.reword e ⟨ho, z, lo, vs, rel, o, es, ep, ho, r⟩ (fun _ y => nomatch y) (fun _ y => nomatch y) (fun _ y => nomatch y) (I.h0 e)⟩
theorem Inv.thaw (I : Inv X pins σ H s) (e : H d = some (.frz o (.dK kvs))) (hf : ∀ o v, X.H₀ d ≠ some (.frz o v)) : Inv X pins σ (upd H d (.dK kvs)) s := by
  obtain ⟨ho, z, lo, vs, rel, dd⟩ := (show ObjOk X.prog X.w H s.heap d (.frz o (.dK kvs)) from I.hok d _ e)
  exact I.reword e ⟨z, lo, vs, rel, dd⟩ (fun _ y => nomatch y) (fun _ y => nomatch y) (fun _ y => nomatch y) hf
end
/-- behind a walk over a dict -/
def tThaw (H0 : Hp) (t : TE) : TE := fun σ H Q => t σ H fun v H1 => Q v H1 ∨ ∃ d o kvs, H1 d = some (.frz o (.dK kvs)) ∧ (∀ o u, H0 d ≠ some (.frz o u)) ∧ Q v (upd H1 d (.dK kvs))
theorem pe_thaw {X : Cx} {e : Expr} {t : TE} (h : PE X e t) : PE X e (tThaw X.H₀ t) := by
  intro pins s σ H Q I hq
  refine thn (h pins s σ H _ I hq) fun u s1 ⟨x, H1, I1, r, q⟩ => ?_
  rcases q with q | ⟨d, o, kvs, e, hf, q⟩
  · exact ⟨x, H1, I1, r, q⟩
  · exact ⟨x, _, I1.thaw e hf, r, q⟩
/-- the keys of the dict at d, in their order -/
def Itd (d : Addr) (o : Obj) (kvs : List (Key × V)) : It :=
  ⟨fun i H => H d = some (.frz o (.dK kvs)) ∧ i < kvs.length, fun i H x H' => H' = H ∧ ∃ k, (kvs.map (·.1))[i]? = some k ∧ x = kV k, fun i H => H d = some (.frz o (.dK kvs)) ∧ kvs.length ≤ i⟩
theorem at_frz {P : Program} {w : World} {H : Hp} {h : Heap} {d : Addr} {o : Obj} {kvs : List (Key × V)} (hok : HOk P w H h) (e : H d = some (.frz o (.dK kvs))) :
    ∃ vs es ep, KV kvs vs ∧ (d == sysModules) = false ∧ h.DictAt (mixKind P w) d vs ep ∧ o.data = .dict es ep := by
  obtain ⟨ho, z, lo, vs, rel, o', es, ep, ho', hc, hd, r⟩ := (show ObjOk P w H h d (.frz o (.dK kvs)) from hok d _ e)
  rw [ho] at ho'
  cases ho'
  exact ⟨vs, es, ep, rel, lo, ⟨o, es, ho, hc, hd, r⟩, hd⟩
theorem turn_dict {P : Program} {w : World} {K : PySem.W.Frag} {tg : Expr} (d it : Addr) (o : Obj) (kvs : List (Key × V)) (es : Array DictEntry) (ep : Nat) (hd : o.data = .dict es ep) :
    Turn P w K tg (Itd d o kvs) [it] it (fun i h => h.IsKeyIter it d i kvs.length ep) where
  mem := by simp
  obj := fun i h st b hb => by
    have e : b = it := by simpa using hb
    subst e
    obtain ⟨o, e, c, dd⟩ := st
    exact ⟨o, e, fun v z => by rw [dd] at z; cases z⟩
  keep := fun i h h' st k => st.at fun o e => k it (by simp) o e
  item := by
    intro X hP hw hK hc i pins s σ H E I hf st hg
    subst hP hw hK
    obtain ⟨he, hlt⟩ := hg
    obtain ⟨vs, es', ep', rel, lo, hat, hd'⟩ := at_frz I.hok he
    rw [hd] at hd'
    cases hd'
    obtain ⟨f0, f1, f2, f3, f4, f5⟩ := hf it (by simp)
    obtain ⟨⟨k, x⟩, hx⟩ : ∃ p, vs[i]? = some p := ⟨_, List.getElem?_eq_getElem (by rw [← rel.length]; exact hlt)⟩
    rw [rel.length] at st
    refine wpAny_pyNext_dict_item st hat hx fun key h' hkey st' sb => ?_
    have I1 : Inv X pins σ H { s with heap := h' } := I.turned (t' := s.toks) (fun b o hb e => (sb.2 b hb).trans e) f0 f1 f3 f4 f5
    obtain ⟨o1, e1, c1, d1⟩ := id st'
    refine ⟨key, rfl, go_of (s := { s with heap := h' }) e1 c1 d1 (by decide) ⟨kV k, H, I1, rel_key hkey, ⟨rfl, k, ?_, rfl⟩, by rw [rel.length]; exact st', fun b hb => (hf b hb).1⟩⟩
    rw [rel.keys, List.getElem?_map, hx]; rfl
  done := by
    intro X hP hw hK hc i pins s σ H E I hf st hg
    subst hP hw hK
    obtain ⟨he, hle⟩ := hg
    obtain ⟨vs, es', ep', rel, lo, hat, hd'⟩ := at_frz I.hok he
    rw [hd] at hd'
    cases hd'
    obtain ⟨f0, f1, f2, f3, f4, f5⟩ := hf it (by simp)
    rw [rel.length] at st
    exact wpAny_pyNext_dict_end (I.ok.hd hc) st hat (by rw [List.getElem?_eq_none]; rw [← rel.length]; exact hle) fun h' eb => ⟨rfl, I.turned (t' := s.toks) (fun b o hb e => eb b o hb e) f0 f1 f3 f4 f5⟩
  self := fun _ _ _ _ _ st h => wpAny_pyIter_keyiter st h
def iDict (tl : TE) : TI := fun σ H R => tl σ H fun x H1 => ∃ d kvs, x = .ref d ∧ ((H1 d = some (.dK kvs) ∧ ∀ o, R (Itd d o kvs) (upd H1 d (.frz o (.dK kvs)))) ∨ ∃ o, H1 d = some (.frz o (.dK kvs)) ∧ R (Itd d o kvs) H1)
theorem pi_dict {X : Cx} {tg l : Expr} {tl : TE} (hl : PE X l tl) : PI X tg l (iDict tl) := by
  intro pins s σ H R I h
  refine thn (hl pins s σ H _ I h) fun v s1 hq => ?_
  obtain ⟨x, H1, I1, r1, d, kvs, rfl, q⟩ := hq
  cases r1
  have go : ∀ {H2 : Hp} {o : Obj}, Inv X pins σ H2 s1 → H2 d = some (.frz o (.dK kvs)) → R (Itd d o kvs) H2 → wpAny (model X.prog X.w) X.A (pyIter (.ref d)) (PIE X pins σ tg R) X.xe s1 := fun {H2 o} I2 he q2 => by
    obtain ⟨vs, es, ep, rel, lo, hat, hd⟩ := at_frz I2.hok he
    refine wpAny_pyIter_dict lo hat ⟨s1.heap.objs.size, [s1.heap.objs.size], _, _, H2, rfl, I2.kept (t' := s1.toks) (fun b o e => Heap.get?_push_of_some _ e), turn_dict d _ o kvs es ep hd, ⟨_, Heap.get?_push_size _ rfl, rfl, ?_⟩, fun b hb => ?_, q2⟩
    · rw [rel.length]; rfl
    · have e : b = s1.heap.objs.size := by simpa using hb
      subst e
      exact I2.fpOk (Nat.le_refl _) (I2.hok.fresh (Nat.le_refl _))
  rcases q with ⟨e, q⟩ | ⟨o, e, q⟩
  · obtain ⟨o, I2⟩ := I1.freeze e
    exact go I2 upd_same (q o)
  · exact go I1 e q
end L2

set_option Elab.async false
set_option linter.all false
set_option maxRecDepth 100000
set_option maxHeartbeats 4000000
namespace L2
open PySem PySem.Spec PyProof.Rows PySem.W
/-! ### two tuples beside one another -/
section
variable {prog : Program} {w : World} {A : Around} {E : Value → Shared → Prop} {s : Shared}
theorem next_tup {i t : Addr} {k : Nat} {xs : Array Value} {x : Value} {Q : Value → Shared → Prop} (st : s.heap.IsTupleIter i t k) (ht : s.heap.IsTuple t xs) (hx : xs[k]? = some x)
    (q : ∀ h', h'.IsTupleIter i t (k + 1) → Heap.SameBut i s.heap h' → Q x { s with heap := h' }) : wpAny (model prog w) A (Builtin.SmallTypes.nextOf (.ref i)) Q E s := by
  obtain ⟨oi, e1, c1, d1⟩ := id st
  obtain ⟨ot, e2, _, n2, d2⟩ := ht
  unfold Builtin.SmallTypes.nextOf
  refine wpAny_bind (wpAny_callSpecial?_slot (name := Str.ofString "__next__") st.typeIs F.slot_tuple_iterator_next (wpAny_call_entry F.slot_tuple_iterator_next st.typeIs F.entry_tuple_iterator_next ?_ (F.args_tuple_iterator_next_1 _)))
  show wpAny _ _ (field (.ref i) 0 >>= _) _ _ s
  refine wpAny_bind (wpAny_field e1 d1 (x := .ref t) rfl ?_)
  show wpAny _ _ (if (Value.ref t == Value.none) = true then _ else _) _ _ s
  rw [if_neg (show ¬ ((Value.ref t == Value.none) = true) from nofun)]
  show wpAny _ _ (field (.ref i) 1 >>= _) _ _ s
  refine wpAny_bind (wpAny_field e1 d1 (x := .int k 0) rfl ?_)
  show wpAny _ _ (seqItems? (.ref t) >>= _) _ _ s
  refine wpAny_bind (wpAny_seqItems e2 d2 ?_)
  simp only [hx, Int.toNat_natCast]
  refine wpAny_bind (wpAny_setField e1 d1 (by simp) (wpAny_pure ⟨x, rfl, wpAny_pure (q _ ⟨_, Heap.get?_update_self _ e1 (Obj.isFreed_of_fields (Obj.data_mapFields d1 _)), (Obj.cls_mapFields ..).trans c1, ?_⟩ (Heap.SameBut.update ..))⟩))
  rw [Obj.data_mapFields d1]
  simp [rawInt]
theorem stop_tup {i t : Addr} {k : Nat} {xs : Array Value} {Q : Value → Shared → Prop} (hh : A.handled = none) (st : s.heap.IsTupleIter i t k) (ht : s.heap.IsTuple t xs) (hx : xs[k]? = none)
    (q : ∀ h' e, Heap.ExtBut i s.heap h' → (∃ o, h'.get? e = some o ∧ o.cls = .type "StopIteration") → E (.ref e) { s with heap := h' }) : wpAny (model prog w) A (Builtin.SmallTypes.nextOf (.ref i)) Q E s := by
  obtain ⟨oi, e1, c1, d1⟩ := id st
  obtain ⟨ot, e2, _, n2, d2⟩ := ht
  unfold Builtin.SmallTypes.nextOf
  refine wpAny_bind (wpAny_callSpecial?_slot (name := Str.ofString "__next__") st.typeIs F.slot_tuple_iterator_next (wpAny_call_entry F.slot_tuple_iterator_next st.typeIs F.entry_tuple_iterator_next ?_ (F.args_tuple_iterator_next_1 _)))
  show wpAny _ _ (field (.ref i) 0 >>= _) _ _ s
  refine wpAny_bind (wpAny_field e1 d1 (x := .ref t) rfl ?_)
  show wpAny _ _ (if (Value.ref t == Value.none) = true then _ else _) _ _ s
  rw [if_neg (show ¬ ((Value.ref t == Value.none) = true) from nofun)]
  show wpAny _ _ (field (.ref i) 1 >>= _) _ _ s
  refine wpAny_bind (wpAny_field e1 d1 (x := .int k 0) rfl ?_)
  show wpAny _ _ (seqItems? (.ref t) >>= _) _ _ s
  refine wpAny_bind (wpAny_seqItems e2 d2 ?_)
  simp only [hx, Int.toNat_natCast]
  refine wpAny_bind (wpAny_rule (wpAny_bind (wpAny_setField e1 d1 (by simp) ?_)))
  show wpAny _ _ (newExc (.type "StopIteration") [] >>= _) _ _ _
  refine wpAny_bind ?_
  simp only [newTuple, newExc]
  refine wpAny_bind (wpAny_newObj_type ?_ (by size_fits))
  refine wpAny_bind (m := firstArgMember _ _) (wpAny_of_eq (a := Value.none) (by first | (simp only [firstArgMember]; rfl) | rfl) (wpAny_newObj_type ?_ (by size_fits)))
  simp only [raiseNew]
  refine wpAny_bind (wpAny_handled ?_)
  rw [show A.in1.handled = none from hh]
  exact wpAny_bind (wpAny_pure (wpAny_throw (q _ _ (((Heap.SameBut.update ..).extBut.push _).push _) ⟨_, Heap.get?_push_size _ rfl, rfl⟩)))
/-- the zip's parts, over two tuples -/
def ZipT (z TI TO i1 i2 t1 t2 : Addr) (k : Nat) (h : Heap) : Prop := IsZip h z TI TO .none ∧ IsPair h TI (.ref i1) (.ref i2) ∧ (∃ a b, IsPair h TO a b) ∧ h.IsTupleIter i1 t1 k ∧ h.IsTupleIter i2 t2 k
theorem zipT_item {z TI TO i1 i2 t1 t2 : Addr} {k : Nat} {xs ys : Array Value} {x y : Value} {Q : Value → Shared → Prop} (D : ZipApart z TI TO i1 i2 t1 t2) (Z : ZipT z TI TO i1 i2 t1 t2 k s.heap) (g1 : s.heap.IsTuple t1 xs) (g2 : s.heap.IsTuple t2 ys) (hx : xs[k]? = some x) (hy : ys[k]? = some y)
    (q : ∀ h', IsZip h' z TI TO (rawInt s.heap.objs.size) → IsPair h' TI (.ref i1) (.ref i2) → IsPair h' TO x y → h'.IsTupleIter i1 t1 (k + 1) → h'.IsTupleIter i2 t2 (k + 1) → IsPair h' s.heap.objs.size x y →
      (∀ c o, c ∉ [z, TO, i1, i2] → s.heap.get? c = some o → h'.get? c = some o) → Q (.ref s.heap.objs.size) { s with heap := h' }) :
    wpAny (model prog w) A (Builtin.«zip.__next__» ⟨[.ref z], []⟩) (fun fin s' => ∃ v, fin = .done (.ret v) ∧ Q v s') E s := by
  obtain ⟨z0, zI, ⟨a, b, zO⟩, st1, st2⟩ := Z
  show wpAny _ _ (field (.ref z) 2 >>= _) _ _ _
  refine wpAny_bind (wpAny_field z0 rfl (x := .bool false) rfl ?_)
  show wpAny _ _ (field (.ref z) 3 >>= _) _ _ _
  refine wpAny_bind (wpAny_field z0 rfl (x := .ref TI) rfl (wpAny_bind (wpAny_seqItems zI rfl ?_)))
  show wpAny _ _ (Builtin.SmallTypes.ownedTupleIsFree (.ref z) >>= _) _ _ _
  refine wpAny_bind ?_
  unfold Builtin.SmallTypes.ownedTupleIsFree
  refine wpAny_bind (wpAny_field z0 rfl (x := .none) rfl (wpAny_pure ?_))
  simp only [if_true]
  refine wpAny_bind (wpAny_rule (wpAny_bind (wpAny_field z0 rfl (x := .ref TO) rfl (wpAny_bind (wpAny_setField_rec z0 (by simp) fun ha za sa => ?_)))))
  replace za : IsZip ha z TI TO .ellipsis := za
  refine wpAny_bind ?_
  simp only [List.zipIdx_nil, List.zipIdx_cons, List.forIn_nil, List.forIn_cons]
  refine wpAny_bind (wpAny_bind (wpAny_onRaise ?_))
  show wpAny _ _ (Builtin.SmallTypes.nextOf (.ref i1) >>= _) _ _ _
  refine wpAny_bind (next_tup (st1.extBut sa.extBut D.i1z) (g1.extBut sa.extBut D.l1z) hx fun hb st1b sb => wpAny_pure ?_)
  have zOb : IsPair hb TO a b := sb.extBut _ _ D.TOi1 (sa.extBut _ _ D.TOz zO)
  refine wpAny_bind (wpAny_seqItems zOb rfl (wpAny_bind (wpAny_updateSeq_pair zOb fun hc zOc sc => ?_)))
  replace zOc : IsPair hc TO x b := zOc
  refine wpAny_bind (wpAny_letGo (wpAny_pure (wpAny_bind (wpAny_bind (wpAny_onRaise ?_)))))
  show wpAny _ _ (Builtin.SmallTypes.nextOf (.ref i2) >>= _) _ _ _
  refine wpAny_bind (next_tup (((st2.extBut sa.extBut D.i2z).extBut sb.extBut D.i12.symm).extBut sc.extBut D.TOi2.symm) (((g2.extBut sa.extBut D.l2z).extBut sb.extBut D.l2i1).extBut sc.extBut D.l2TO) hy fun hd st2d sd => wpAny_pure ?_)
  have zOd : IsPair hd TO x b := sd.extBut _ _ D.TOi2 zOc
  refine wpAny_bind (wpAny_seqItems zOd rfl (wpAny_bind (wpAny_updateSeq_pair zOd fun he zOe se => ?_)))
  replace zOe : IsPair he TO x y := zOe
  refine wpAny_bind (wpAny_letGo (wpAny_pure (wpAny_pure (wpAny_bind (wpAny_seqItems zOe rfl (wpAny_bind (wpAny_newTuple ?_)))))))
  have size : he.objs.size = s.heap.objs.size := by rw [se.1, sd.1, sc.1, sb.1, sa.1]
  have ze : IsZip he z TI TO .ellipsis := se.extBut _ _ D.TOz.symm (sd.extBut _ _ D.i2z.symm (sc.extBut _ _ D.TOz.symm (sb.extBut _ _ D.i1z.symm za)))
  have ke : ∀ c o, c ∉ [z, TO, i1, i2] → s.heap.get? c = some o → he.get? c = some o := fun c o hn e => by
    simp only [List.mem_cons, List.not_mem_nil, or_false, not_or] at hn
    exact se.extBut _ _ hn.2.1 (sd.extBut _ _ hn.2.2.2 (sc.extBut _ _ hn.2.1 (sb.extBut _ _ hn.2.2.1 (sa.extBut _ _ hn.1 e))))
  have s1e : he.IsTupleIter i1 t1 (k + 1) := ((st1b.extBut sc.extBut D.TOi1.symm).extBut sd.extBut D.i12).extBut se.extBut D.TOi1.symm
  have s2e : he.IsTupleIter i2 t2 (k + 1) := st2d.extBut se.extBut D.TOi2.symm
  have lz : z < he.objs.size := Heap.lt_size ze
  show wpAny _ _ (Builtin.SmallTypes.ownedTupleHandOut (.ref z) (.ref he.objs.size) >>= _) _ _ _
  refine wpAny_bind ?_
  unfold Builtin.SmallTypes.ownedTupleHandOut
  have zf : IsZip (he.push { cls := .type "tuple", data := .seq #[x, y] }) z TI TO .ellipsis := Heap.get?_push_of_some _ ze
  refine wpAny_bind (wpAny_setField_rec zf (by simp) fun hg zg sg => ?_)
  replace zg : IsZip hg z TI TO (rawInt he.objs.size) := zg
  refine wpAny_setField_rec zg (by simp) fun hj zj sj => ?_
  replace zj : IsZip hj z TI TO (rawInt he.objs.size) := zj
  have up : ∀ c o, c ≠ z → he.get? c = some o → hj.get? c = some o := fun c o hn e => sj.extBut _ _ hn (sg.extBut _ _ hn (Heap.get?_push_of_some _ e))
  have pj : IsPair hj he.objs.size x y := sj.extBut _ _ (Nat.ne_of_gt lz) (sg.extBut _ _ (Nat.ne_of_gt lz) (Heap.get?_push_size _ rfl))
  rw [size] at zj pj
  refine wpAny_pure ⟨_, rfl, ?_⟩
  show Q (.ref he.objs.size) _
  rw [size]
  refine q hj zj (up _ _ D.TIz (ke TI _ ?_ zI)) (up _ _ D.TOz zOe) (let ⟨o, e, r⟩ := s1e; ⟨o, up _ o D.i1z e, r⟩) (let ⟨o, e, r⟩ := s2e; ⟨o, up _ o D.i2z e, r⟩) pj fun c o hn e => up c o (fun y => hn (by simp [y])) (ke c o hn e)
  simp only [List.mem_cons, List.not_mem_nil, or_false, not_or]
  exact ⟨D.TIz, D.TITO, D.TIi1, D.TIi2⟩
theorem zipT_stop {z TI TO i1 i2 t1 t2 : Addr} {k : Nat} {xs ys : Array Value} {Q : Fin → Shared → Prop} (hh : A.handled = none) (D : ZipApart z TI TO i1 i2 t1 t2) (Z : ZipT z TI TO i1 i2 t1 t2 k s.heap) (g1 : s.heap.IsTuple t1 xs) (g2 : s.heap.IsTuple t2 ys) (hn : xs[k]? = none ∨ ys[k]? = none)
    (q : ∀ h' e, (∀ c o, c ∉ [z, TO, i1, i2] → s.heap.get? c = some o → h'.get? c = some o) → (∃ o, h'.get? e = some o ∧ o.cls = .type "StopIteration") → E (.ref e) { s with heap := h' }) :
    wpAny (model prog w) A (Builtin.«zip.__next__» ⟨[.ref z], []⟩) Q E s := by
  obtain ⟨z0, zI, ⟨a, b, zO⟩, st1, st2⟩ := Z
  show wpAny _ _ (field (.ref z) 2 >>= _) _ _ _
  refine wpAny_bind (wpAny_field z0 rfl (x := .bool false) rfl ?_)
  show wpAny _ _ (field (.ref z) 3 >>= _) _ _ _
  refine wpAny_bind (wpAny_field z0 rfl (x := .ref TI) rfl (wpAny_bind (wpAny_seqItems zI rfl ?_)))
  show wpAny _ _ (Builtin.SmallTypes.ownedTupleIsFree (.ref z) >>= _) _ _ _
  refine wpAny_bind ?_
  unfold Builtin.SmallTypes.ownedTupleIsFree
  refine wpAny_bind (wpAny_field z0 rfl (x := .none) rfl (wpAny_pure ?_))
  simp only [if_true]
  refine wpAny_bind (wpAny_rule (wpAny_bind (wpAny_field z0 rfl (x := .ref TO) rfl (wpAny_bind (wpAny_setField_rec z0 (by simp) fun ha za sa => ?_)))))
  replace za : IsZip ha z TI TO .ellipsis := za
  refine wpAny_bind ?_
  simp only [List.zipIdx_nil, List.zipIdx_cons, List.forIn_nil, List.forIn_cons]
  refine wpAny_bind (wpAny_bind (wpAny_onRaise ?_))
  show wpAny _ _ (Builtin.SmallTypes.nextOf (.ref i1) >>= _) _ _ _
  have parts : ∀ {c : Addr}, c ∉ [z, TO, i1, i2] → c ≠ z ∧ c ≠ TO ∧ c ≠ i1 ∧ c ≠ i2 := fun {c} h => by simpa only [List.mem_cons, List.not_mem_nil, or_false, not_or] using h
  have fin : ∀ {hx : Heap} {e : Addr}, IsZip hx z TI TO .ellipsis → (∀ c o, c ∉ [z, TO, i1, i2] → s.heap.get? c = some o → hx.get? c = some o) → (∃ o, hx.get? e = some o ∧ o.cls = .type "StopIteration") →
      wpAny (model prog w) A (setField (.ref z) 0 .none) (fun _ s' => E (.ref e) s') E { s with heap := hx } := fun {hx e} zx kx ex => by
    obtain ⟨oe, ee, ce⟩ := ex
    have ne : e ≠ z := fun y => by rw [y, zx] at ee; cases ee; simp at ce
    exact wpAny_setField_rec zx (by simp) fun hy _ sy => q hy e (fun c o hc e' => sy.extBut _ _ (parts hc).1 (kx c o hc e')) ⟨oe, sy.extBut _ _ ne ee, ce⟩
  cases hx : xs[k]? with
  | none =>
    refine wpAny_bind (stop_tup hh (st1.extBut sa.extBut D.i1z) (g1.extBut sa.extBut D.l1z) hx fun hb e sb ex => ?_)
    exact fin (sb _ _ D.i1z.symm za) (fun c o hc e' => sb _ _ (parts hc).2.2.1 (sa.extBut _ _ (parts hc).1 e')) ex
  | some x =>
    have hy : ys[k]? = none := hn.resolve_left fun y => by rw [hx] at y; cases y
    refine wpAny_bind (next_tup (st1.extBut sa.extBut D.i1z) (g1.extBut sa.extBut D.l1z) hx fun hb st1b sb => wpAny_pure ?_)
    have zOb : IsPair hb TO a b := sb.extBut _ _ D.TOi1 (sa.extBut _ _ D.TOz zO)
    refine wpAny_bind (wpAny_seqItems zOb rfl (wpAny_bind (wpAny_updateSeq_pair zOb fun hc zOc sc => ?_)))
    refine wpAny_bind (wpAny_letGo (wpAny_pure (wpAny_bind (wpAny_bind (wpAny_onRaise ?_)))))
    show wpAny _ _ (Builtin.SmallTypes.nextOf (.ref i2) >>= _) _ _ _
    refine wpAny_bind (stop_tup hh (((st2.extBut sa.extBut D.i2z).extBut sb.extBut D.i12.symm).extBut sc.extBut D.TOi2.symm) (((g2.extBut sa.extBut D.l2z).extBut sb.extBut D.l2i1).extBut sc.extBut D.l2TO) hy fun hd e sd ex => ?_)
    exact fin (sd _ _ D.i2z.symm (sc.extBut _ _ D.TOz.symm (sb.extBut _ _ D.i1z.symm za))) (fun c o hc e' => sd _ _ (parts hc).2.2.2 (sc.extBut _ _ (parts hc).2.1 (sb.extBut _ _ (parts hc).2.2.1 (sa.extBut _ _ (parts hc).1 e')))) ex
theorem pyNext_zipT {z TI TO i1 i2 t1 t2 : Addr} {k : Nat} {xs ys : Array Value} {x y : Value} {Q : Option Value → Shared → Prop} (D : ZipApart z TI TO i1 i2 t1 t2) (Z : ZipT z TI TO i1 i2 t1 t2 k s.heap) (g1 : s.heap.IsTuple t1 xs) (g2 : s.heap.IsTuple t2 ys) (hx : xs[k]? = some x) (hy : ys[k]? = some y)
    (q : ∀ h', IsZip h' z TI TO (rawInt s.heap.objs.size) → IsPair h' TI (.ref i1) (.ref i2) → IsPair h' TO x y → h'.IsTupleIter i1 t1 (k + 1) → h'.IsTupleIter i2 t2 (k + 1) → IsPair h' s.heap.objs.size x y →
      (∀ c o, c ∉ [z, TO, i1, i2] → s.heap.get? c = some o → h'.get? c = some o) → Q (some (.ref s.heap.objs.size)) { s with heap := h' }) : wpAny (model prog w) A (pyNext (.ref z)) Q E s := by
  have ty : s.TypeIs (.ref z) "zip" := ⟨_, Z.1, rfl⟩
  unfold pyNext
  exact wpAny_bind (wpAny_attempt (wpAny_callSpecial?_slot (name := Str.ofString "__next__") ty F.slot_zip_next (wpAny_call_entry F.slot_zip_next ty F.entry_zip_next
    (zipT_item D Z g1 g2 hx hy fun h' a1 a2 a3 a4 a5 a6 a7 => wpAny_pure (q h' a1 a2 a3 a4 a5 a6 a7)) (F.args_zip_next_1 _))))
theorem pyStop_zipT {z TI TO i1 i2 t1 t2 : Addr} {k : Nat} {xs ys : Array Value} {Q : Option Value → Shared → Prop} (hh : A.handled = none) (D : ZipApart z TI TO i1 i2 t1 t2) (Z : ZipT z TI TO i1 i2 t1 t2 k s.heap) (g1 : s.heap.IsTuple t1 xs) (g2 : s.heap.IsTuple t2 ys) (hn : xs[k]? = none ∨ ys[k]? = none)
    (q : ∀ h', (∀ c o, c ∉ [z, TO, i1, i2] → s.heap.get? c = some o → h'.get? c = some o) → Q none { s with heap := h' }) : wpAny (model prog w) A (pyNext (.ref z)) Q E s := by
  have ty : s.TypeIs (.ref z) "zip" := ⟨_, Z.1, rfl⟩
  unfold pyNext
  refine wpAny_bind (wpAny_attempt (wpAny_callSpecial?_slot (name := Str.ofString "__next__") ty F.slot_zip_next (wpAny_call_entry F.slot_zip_next ty F.entry_zip_next
    (zipT_stop hh D Z g1 g2 hn fun h' e kx ex => ?_) (F.args_zip_next_1 _))))
  obtain ⟨o, e1, e2⟩ := ex
  exact wpAny_bind (wpAny_isInstance (T := "StopIteration") (b := true) ⟨o, e1, e2⟩ isSubtype_stop (wpAny_pure (q _ kx)))
theorem new_zipT (t1 t2 : Addr) (xs ys : Array Value) : Meets (Builtin.«zip.__new__» ⟨[.type "zip", .ref t1, .ref t2], []⟩) (fun _ R s => s.heap.IsTuple t1 xs ∧ s.heap.IsTuple t2 ys ∧
    R (.ok (.ret (.ref (s.heap.objs.size + 4)))) { s with heap := ((((s.heap.push { cls := .type "tuple_iterator", data := .fields #[.ref t1, .int 0 0] }).push { cls := .type "tuple_iterator", data := .fields #[.ref t2, .int 0 0] }).push { cls := .type "tuple", data := .seq #[.ref s.heap.objs.size, .ref (s.heap.objs.size + 1)] }).push
      { cls := .type "tuple", data := .seq #[.none, .none] }).push { cls := .type "zip", data := .fields #[.none, .bool false, .bool false, .ref (s.heap.objs.size + 2), .ref (s.heap.objs.size + 3)] } }) :=
  .of_wp fun prog w A R s h => by
    obtain ⟨hp, g, d, tk, os⟩ := s
    obtain ⟨g1, g2, h⟩ := h
    have hsub := sub_zip
    have p1 : Heap.IsTuple (Shared.heap ⟨hp, g, d, tk, os⟩) t1 xs := g1
    have p2 : Heap.IsTuple (Shared.heap ⟨hp.push { cls := .type "tuple_iterator", data := .fields #[.ref t1, .int 0 0] }, g, d, tk, os⟩) t2 ys := Heap.IsTuple.push g2 _
    wp_walk using wpAny_pyIter_tuple p1, wpAny_pyIter_tuple p2
    refine ⟨_, rfl, ?_⟩
    simp only [Heap.size_push]
    exact h
theorem call_zipT {t1 t2 : Addr} {xs ys : Array Value} {Q : Value → Shared → Prop} (g1 : s.heap.IsTuple t1 xs) (g2 : s.heap.IsTuple t2 ys)
    (q : ∀ h', ZipT (s.heap.objs.size + 4) (s.heap.objs.size + 2) (s.heap.objs.size + 3) s.heap.objs.size (s.heap.objs.size + 1) t1 t2 0 h' → (∀ c o, s.heap.get? c = some o → h'.get? c = some o) → Q (.ref (s.heap.objs.size + 4)) { s with heap := h' }) :
    wpAny (model prog w) A (call (.type "zip") [.ref t1, .ref t2]) Q E s := by
  refine callType_new F.called_zip (by decide) (F.typeCall_zip_2 _ _) (F.newCall_zip_2 _ _) (fun obj => F.args_object_init_3 obj _ _) F.entry_zip_new (new_zipT t1 t2 xs ys) ⟨g1, g2, ?_⟩
  generalize ho1 : ({ cls := .type "tuple_iterator", data := .fields #[.ref t1, .int 0 0] } : Obj) = o1
  generalize ho2 : ({ cls := .type "tuple_iterator", data := .fields #[.ref t2, .int 0 0] } : Obj) = o2
  generalize ho3 : ({ cls := .type "tuple", data := .seq #[.ref s.heap.objs.size, .ref (s.heap.objs.size + 1)] } : Obj) = o3
  generalize ho4 : ({ cls := .type "tuple", data := .seq #[.none, .none] } : Obj) = o4
  generalize ho5 : ({ cls := .type "zip", data := .fields #[.none, .bool false, .bool false, .ref (s.heap.objs.size + 2), .ref (s.heap.objs.size + 3)] } : Obj) = o5
  have z1 : (s.heap.push o1).objs.size = s.heap.objs.size + 1 := Heap.size_push ..
  have z2 : ((s.heap.push o1).push o2).objs.size = s.heap.objs.size + 2 := by rw [Heap.size_push, z1]
  have z3 : (((s.heap.push o1).push o2).push o3).objs.size = s.heap.objs.size + 3 := by rw [Heap.size_push, z2]
  have z4 : ((((s.heap.push o1).push o2).push o3).push o4).objs.size = s.heap.objs.size + 4 := by rw [Heap.size_push, z3]
  have f1 : o1.isFreed = false := by rw [← ho1]; rfl
  have f2 : o2.isFreed = false := by rw [← ho2]; rfl
  have f3 : o3.isFreed = false := by rw [← ho3]; rfl
  have f4 : o4.isFreed = false := by rw [← ho4]; rfl
  have f5 : o5.isFreed = false := by rw [← ho5]; rfl
  have e5 := Heap.get?_push_size ((((s.heap.push o1).push o2).push o3).push o4) (o := o5) f5
  have e4 := Heap.get?_push_of_some o5 (Heap.get?_push_size (((s.heap.push o1).push o2).push o3) (o := o4) f4)
  have e3 := Heap.get?_push_of_some o5 (Heap.get?_push_of_some o4 (Heap.get?_push_size ((s.heap.push o1).push o2) (o := o3) f3))
  have e2 := Heap.get?_push_of_some o5 (Heap.get?_push_of_some o4 (Heap.get?_push_of_some o3 (Heap.get?_push_size (s.heap.push o1) (o := o2) f2)))
  have e1 := Heap.get?_push_of_some o5 (Heap.get?_push_of_some o4 (Heap.get?_push_of_some o3 (Heap.get?_push_of_some o2 (Heap.get?_push_size s.heap (o := o1) f1))))
  rw [z4] at e5
  rw [z3] at e4
  rw [z2] at e3
  rw [z1] at e2
  refine ⟨⟨_, e5, by rw [← ho5]⟩, q _ ⟨?_, ?_, ⟨.none, .none, ?_⟩, ⟨o1, e1, by rw [← ho1], by rw [← ho1]; rfl⟩, ⟨o2, e2, by rw [← ho2], by rw [← ho2]; rfl⟩⟩ fun c o x => Heap.get?_push_of_some _ (Heap.get?_push_of_some _ (Heap.get?_push_of_some _ (Heap.get?_push_of_some _ (Heap.get?_push_of_some _ x))))⟩
  · show _ = some _; rw [e5, ← ho5]
  · show _ = some _; rw [e3, ← ho3]
  · show _ = some _; rw [e4, ← ho4]
end
end L2

set_option Elab.async false
set_option linter.all false
set_option maxRecDepth 100000
set_option maxHeartbeats 4000000
namespace L2
open PySem PySem.Spec PyProof.Rows PySem.W
def ItzT (K : PySem.W.Frag) (a b : Addr) : It :=
  ⟨fun i H => ∃ xs ys x y, SqT K H a xs ∧ SqT K H b ys ∧ xs[i]? = some x ∧ ys[i]? = some y,
   fun i H u H' => ∃ T, u = .ref T ∧ H T = none ∧ (∀ xs ys, SqT K H a xs → SqT K H b ys → ∃ x y, xs[i]? = some x ∧ ys[i]? = some y ∧ H' = upd H T (.tup [x, y])),
   fun i H => ∃ xs ys, SqT K H a xs ∧ SqT K H b ys ∧ xs.length = ys.length ∧ xs.length = i⟩
theorem turn_zipT {P : Program} {w : World} {K : PySem.W.Frag} {es : List Expr} {k : Nat} {tp : Pos} (z TI TO i1 i2 a b : Addr) (D : ZipApart z TI TO i1 i2 a b) :
    Turn P w K (.Tuple es k tp) (ItzT K a b) [z, TI, TO, i1, i2] z (fun i h => ZipT z TI TO i1 i2 a b i h) where
  mem := by simp
  obj := fun i h st c hc => by
    obtain ⟨s1, s2, ⟨x, y, s3⟩, ⟨o4, e4, c4, d4⟩, ⟨o5, e5, c5, d5⟩⟩ := st
    simp at hc
    rcases hc with rfl | rfl | rfl | rfl | rfl
    · exact ⟨_, s1, fun v q => by cases q⟩
    · exact ⟨_, s2, fun v q => by cases q⟩
    · exact ⟨_, s3, fun v q => by cases q⟩
    · exact ⟨_, e4, fun v q => by rw [d4] at q; cases q⟩
    · exact ⟨_, e5, fun v q => by rw [d5] at q; cases q⟩
  keep := fun i h h' st kk => by
    obtain ⟨s1, s2, ⟨x, y, s3⟩, ⟨o4, e4, r4⟩, ⟨o5, e5, r5⟩⟩ := st
    exact ⟨kk z (by simp) _ s1, kk TI (by simp) _ s2, ⟨x, y, kk TO (by simp) _ s3⟩, ⟨o4, kk i1 (by simp) o4 e4, r4⟩, ⟨o5, kk i2 (by simp) o5 e5, r5⟩⟩
  item := by
    intro X hP hw hK hc i pins s σ H E I hf st hg
    subst hP hw hK
    obtain ⟨xs, ys, x, y, h1, h2, hx, hy⟩ := hg
    obtain ⟨its1, rv1, p1, _⟩ := I.tuple h1
    obtain ⟨its2, rv2, p2, _⟩ := I.tuple h2
    obtain ⟨u1, hw1, r1⟩ := rv1.get hx
    obtain ⟨u2, hw2, r2⟩ := rv2.get hy
    refine pyNext_zipT D st (show s.heap.IsTuple a its1.toArray from p1) (show s.heap.IsTuple b its2.toArray from p2) (x := u1) (y := u2) (by simpa using hw1) (by simpa using hw2) fun h' c1 c2 c3 c4 c5 c6 kk => ?_
    refine ⟨_, rfl, wpAny_letOwnedTupleGo_zip c1 fun h'' c1' sb => ?_⟩
    have kk2 : ∀ c o, c ≠ z → h'.get? c = some o → h''.get? c = some o := fun c o hn e => sb.extBut c o hn e
    have hTn : H s.heap.objs.size = none := I.hok.fresh (Nat.le_refl _)
    have keep2 : ∀ c o, c ∉ [z, TO, i1, i2] → s.heap.get? c = some o → h''.get? c = some o := fun c o hc e => kk2 c o (fun y => hc (by simp [y])) (kk c o hc e)
    have frOf : ∀ c ∈ [z, TO, i1, i2], c ∈ [z, TI, TO, i1, i2] := fun c hc => by simp at hc ⊢; rcases hc with rfl | rfl | rfl | rfl <;> simp
    have nwr : ∀ c u, H c = some u → c ∉ [z, TO, i1, i2] := fun c u e hc => by rw [(hf c (frOf c hc)).1] at e; cases e
    have zlt : z < s.heap.objs.size := Heap.lt_size st.1
    have hTup2 : IsTup h'' s.heap.objs.size #[u1, u2] := ⟨_, kk2 _ _ (Nat.ne_of_gt zlt) c6, rfl, _, rfl⟩
    have I2 : Inv X pins σ (upd H s.heap.objs.size (.tup [x, y])) { s with heap := h'' } := by
      refine I.step (t' := s.toks) (g' := s.gens) (d' := s.drawn) (ch := [z, TO, i1, i2]) (fun c hc => ?_) (fun c o _ _ hc e _ => keep2 c o hc e) (fun c o _ _ hc e _ => ⟨o.slots, keep2 c o hc e⟩) (fun c o hc e n => ?_) (fun c o hc e => ⟨o, keep2 c o hc e⟩)
        (fun c xs e => ?_) (fun c o xs e => ?_) (fun c ps e => ⟨#[], ?_⟩) (fun m hm => ?_) ?_ I.bare
      · obtain ⟨g0, g1, g2, g3, g4, g5⟩ := hf c (frOf c hc)
        exact ⟨g3, g1, g4, g5⟩
      · rw [upd_ne (Nat.ne_of_lt (Heap.lt_size e))]; exact n
      · rw [upd_ne (ne_of_none e hTn)]; exact e
      · rw [upd_ne (ne_of_none e hTn)]; exact e
      · rw [upd_ne (ne_of_none e hTn), e]; simp
      · obtain ⟨o, es, ep, ho, r⟩ := hm
        refine ⟨o, es, ep, keep2 _ o (fun hc => ?_) ho, r⟩
        exact (hf _ (frOf _ hc)).2.1 rfl
      · intro c u e
        by_cases hcT : c = s.heap.objs.size
        · rw [hcT, upd_same] at e
          cases e
          rw [hcT]
          exact ⟨by show 2 ≤ sizeLine; rw [sizeLine_eq]; decide, [u1, u2], .cons r1 (.cons r2 .nil), hTup2⟩
        · rw [upd_ne hcT] at e
          refine (I.hok c u e).stay (fun d v hd q => keep2 d v ?_ q) (fun d q => by rw [upd_ne (ne_of_none q hTn)]; exact q) fun d xs q => by rw [upd_ne (ne_of_none q hTn)]; exact q
          rcases hd with rfl | hd
          · exact nwr d u e
          · exact nwr d _ hd
    refine ⟨.ref s.heap.objs.size, _, I2, rfl, ⟨_, rfl, hTn, fun xs' ys' h1' h2' => ⟨x, y, ?_, ?_, rfl⟩⟩, ⟨c1', kk2 _ _ D.TIz c2, ⟨_, _, kk2 _ _ D.TOz c3⟩, ?_, ?_⟩, fun c hc => ?_⟩
    · rw [I.tuple_inj h1' h1]; exact hx
    · rw [I.tuple_inj h2' h2]; exact hy
    · obtain ⟨o, e, r⟩ := c4; exact ⟨o, kk2 _ _ D.i1z e, r⟩
    · obtain ⟨o, e, r⟩ := c5; exact ⟨o, kk2 _ _ D.i2z e, r⟩
    · obtain ⟨o, eo, _⟩ : ∃ o, s.heap.get? c = some o ∧ True := by
        obtain ⟨s1, s2, ⟨x', y', s3⟩, s4, s5⟩ := st
        simp at hc
        rcases hc with rfl | rfl | rfl | rfl | rfl
        · exact ⟨_, s1, trivial⟩
        · exact ⟨_, s2, trivial⟩
        · exact ⟨_, s3, trivial⟩
        · obtain ⟨o, e, _⟩ := s4; exact ⟨o, e, trivial⟩
        · obtain ⟨o, e, _⟩ := s5; exact ⟨o, e, trivial⟩
      rw [upd_ne (Nat.ne_of_lt (Heap.lt_size eo))]
      exact (hf c hc).1
  done := by
    intro X hP hw hK hc i pins s σ H E I hf st hg
    subst hP hw hK
    obtain ⟨xs, ys, h1, h2, hl, hi⟩ := hg
    obtain ⟨its1, rv1, p1, _⟩ := I.tuple h1
    obtain ⟨its2, rv2, p2, _⟩ := I.tuple h2
    refine pyStop_zipT (I.ok.hd hc) D st (show s.heap.IsTuple a its1.toArray from p1) (show s.heap.IsTuple b its2.toArray from p2) (.inl (by have := rv1.length; simp; omega)) fun h' kk => ⟨rfl, ?_⟩
    have frOf : ∀ c ∈ [z, TO, i1, i2], c ∈ [z, TI, TO, i1, i2] := fun c hc => by simp at hc ⊢; rcases hc with rfl | rfl | rfl | rfl <;> simp
    have nwr : ∀ c u, H c = some u → c ∉ [z, TO, i1, i2] := fun c u e hc => by rw [(hf c (frOf c hc)).1] at e; cases e
    refine I.step (t' := s.toks) (g' := s.gens) (d' := s.drawn) (ch := [z, TO, i1, i2]) (fun c hc => ?_) (fun c o _ _ hc e _ => kk c o hc e) (fun c o _ _ hc e _ => ⟨o.slots, kk c o hc e⟩) (fun c o hc e n => n) (fun c o hc e => ⟨o, kk c o hc e⟩)
        (fun c xs e => e) (fun c o xs e => e) (fun c ps e => ⟨#[], by rw [e]; simp⟩) (fun m hm => ?_) ?_ I.bare
    · obtain ⟨g0, g1, g2, g3, g4, g5⟩ := hf c (frOf c hc)
      exact ⟨g3, g1, g4, g5⟩
    · obtain ⟨o, es, ep, ho, r⟩ := hm
      refine ⟨o, es, ep, kk _ o (fun hc => ?_) ho, r⟩
      exact (hf _ (frOf _ hc)).2.1 rfl
    · intro c u e
      refine (I.hok c u e).stay (fun d v hd q => kk d v ?_ q) (fun d q => q) fun d xs q => q
      rcases hd with rfl | hd
      · exact nwr d u e
      · exact nwr d _ hd
  self := fun A i s Q E st h => by
    exact wpAny_pyIter_zip st.1 h
section
variable {X : Cx}
def iZipT (K : PySem.W.Frag) (ta : TA) : TI := fun σ H R => ta σ H fun vs H1 => ∃ a b, vs = [.ref a, .ref b] ∧ (∃ xs, SqT K H1 a xs) ∧ (∃ ys, SqT K H1 b ys) ∧ R (ItzT K a b) H1
theorem pi_zipT {a b : Expr} {ta : TA} {p pos tp : Pos} {es : List Expr} {k : Nat} (hg : Gl X "zip") (hm : X.mg "zip" = none) (ha : PA X [a, b] ta) (hs : starEach [a, b] X.env = [(false, eval a X.env), (false, eval b X.env)] := by rfl) (hs2 : starEach [b] X.env = [(false, eval b X.env)] := by rfl) :
    PI X (.Tuple es k tp) (.Call (.Name "zip" p) [a, b] [] pos) (iZipT X.K ta) := by
  intro pins s σ H R I h
  refine Call_ (ld_blt I hg hm boot_zip (PyProof.Rows.callWith_type1 (thn (ha pos pins s σ H _ I h) fun us s1 hq => ?_) (by rw [hs, hs2]) (by rw [hs2]; rfl)))
  obtain ⟨vs, H1, I1, r1, a', b', rfl, ⟨xs, h1⟩, ⟨ys, h2⟩, q⟩ := hq
  obtain ⟨u, w', rfl, ru, rw'⟩ := vals2 r1
  cases ru
  cases rw'
  obtain ⟨its1, rv1, p1, _⟩ := I1.tuple h1
  obtain ⟨its2, rv2, p2, _⟩ := I1.tuple h2
  have a1 : a' < s1.heap.objs.size := by obtain ⟨_, e, _⟩ := p1; exact Heap.lt_size e
  have a2 : b' < s1.heap.objs.size := by obtain ⟨_, e, _⟩ := p2; exact Heap.lt_size e
  refine call_zipT (show s1.heap.IsTuple a' its1.toArray from p1) (show s1.heap.IsTuple b' its2.toArray from p2) fun h' Z hk => wpAny_pyIter_zip Z.1 ?_
  refine ⟨_, _, _, _, H1, rfl, I1.kept (t' := s1.toks) hk, turn_zipT _ _ _ _ _ a' b' (zipApart_new a1 a2), Z, fun c hc => ?_, q⟩
  have hle : s1.heap.objs.size ≤ c := by
    simp at hc
    rcases hc with rfl | rfl | rfl | rfl | rfl <;> first | exact Nat.le_add_right _ _ | exact Nat.le_refl _
  exact I1.fpOk hle (I1.hok.fresh hle)
end
end L2

set_option Elab.async false
set_option linter.all false
set_option maxRecDepth 100000
set_option maxHeartbeats 4000000
namespace L2
open PySem PySem.Spec PyProof.Rows
section
variable {X : Cx} {e : Expr} {te : TE} {pos p2 : Pos}
/-! ### a list the other way about -/
end
/-! ### extend by a tuple -/
section
open AutoSeq1
set_option maxRecDepth 8000
end
end L2

set_option Elab.async false
set_option linter.all false
set_option maxRecDepth 100000
set_option maxHeartbeats 4000000
namespace L2
open PySem PySem.Spec PyProof.Rows PySem.W PySem.Calls
/-! ### a def that a name of the frame holds -/
section
variable {X : Cx} {CX : CXT} {k : Nat} {f : Addr} {fd : FuncData} {ps : List Str} {sp : Sp} {dvs : List V} {ds : List Value} {E : XK} {x : Str} {p pos : Pos} {e : Expr} {es : List Expr} {t : TA}
end

/-! ### del xs[k:] -/
section
variable {prog : Program} {w : World} {A : Around} {E : Value → Shared → Prop} {s : Shared}
end
section
variable {X : Cx} {o e : Expr} {td te : TE} {pos tpos p2 : Pos}
end
end L2

set_option Elab.async false
set_option linter.all false
set_option maxRecDepth 100000
set_option maxHeartbeats 4000000
namespace L2
open PySem PySem.Spec PyProof.Rows PySem.W
/-! ### enumerate of a tuple, of a list -/
section
open AutoSeq1 (wpAny_loadPart')
end
section
variable {X : Cx}
end
section
variable {X : Cx}
end
end L2

set_option Elab.async false
set_option linter.all false
set_option maxRecDepth 100000
set_option maxHeartbeats 4000000
namespace L2
open PySem PySem.Spec PyProof.Rows PySem.W
/-! ### a cut: what is wanted in between -/
section
variable {X : Cx} {e : Expr} {st : Stmt} {te : TE} {tt : TT} {ts : TS}
def tCut (te : TE) : TE := fun σ H Q => ∃ R : VK, te σ H R ∧ ∀ v H', R v H' → Q v H'
theorem pe_cut (he : PE X e te) : PE X e (tCut te) := fun pins s σ H Q I ⟨R, h, q⟩ => thn (he pins s σ H R I h) fun u s1 ⟨v, H1, I1, r, z⟩ => ⟨v, H1, I1, r, q v H1 z⟩
def sCut (ts : TS) : TS := fun D σ H => ∃ N : St → Hp → Prop, ts { D with nx := N } σ H ∧ ∀ σ' H', N σ' H' → D.nx σ' H'
theorem ps_cut (hs : PS X st ts) : PS X st (sCut ts) := fun pins s σ H D I ⟨N, h, q⟩ => thn (hs pins s σ H { D with nx := N } I h) fun f s1 z => by
  cases f with
  | next => obtain ⟨σ', H', I', z⟩ := z; exact ⟨σ', H', I', q σ' H' z⟩
  | brk => exact z
  | cont => exact z
  | ret u => exact z
end
end L2

set_option Elab.async false
set_option linter.all false
set_option maxRecDepth 100000
set_option maxHeartbeats 4000000
namespace L2
open PySem PySem.Spec PyProof.Rows PySem.W
/-! ### the same in a box, for what must not be run ahead (a display of constants) -/
structure Box (p : Prop) : Prop where un : p
section
variable {X : Cx} {st : Stmt} {rest : List Stmt} {t u : TS} {e o f : Expr} {te td ty tx : TE} {pos apos cpos : Pos}
theorem bss_cons (h1 : Box (PS X st t)) (h2 : Box (PSs X rest u)) : Box (PSs X (st :: rest) (tSeq t u)) := ⟨pss_cons h1.un h2.un⟩
theorem bss_one (h1 : Box (PS X st t)) : Box (PSs X [st] t) := ⟨pss_one h1.un⟩
theorem bs_ret (he : Box (PE X e te)) : Box (PS X (.Return (some e) pos) (tRet te)) := ⟨ps_ret he.un⟩
end
end L2

set_option Elab.async false
set_option linter.all false
set_option maxRecDepth 100000
set_option maxHeartbeats 4000000
namespace L2
open PySem PySem.Spec PyProof.Rows PySem.W
/-! ### a lambda that takes one name from the frame around it -/
end L2

set_option Elab.async false
set_option linter.all false
set_option maxRecDepth 100000
set_option maxHeartbeats 4000000
namespace L2
open PySem PySem.Spec PyProof.Rows PySem.W
/-! ### a lambda made; the table of the code around it -/
def CodeO (c : Addr) (qual : Str) : HO := .ext fun h => h.CodeRec (.ref c) qual
def TabHit (H : Hp) (Pt c' : Addr) (qual : Str) (pos : Pos) : Prop := H Pt = some (.tbl #[rawInt pos.line, rawInt pos.col, .ref c']) ∧ H c' = some (CodeO c' qual)
def TabI (H : Hp) (Pt : Addr) (qual : Str) (pos : Pos) : Prop := H Pt = some (.tbl #[]) ∨ ∃ c', TabHit H Pt c' qual pos
def BM (mg : Str → Option Value) (base : Heap) : Prop := ∃ bm ob, mg "__builtins__" = some (.ref bm) ∧ bm ≠ builtinsNs ∧ base.get? bm = some ob ∧ ob.cls = .type "module" ∧ ob.dict = some builtinsNs ∧ ob.data = .plain
section
variable {X : Cx}
end
end L2

set_option Elab.async false
set_option linter.all false
set_option maxRecDepth 100000
set_option maxHeartbeats 4000000
namespace L2
open PySem PySem.Spec PyProof.Rows PySem.W
/-! ### g(e, lambda ..) -/
section
variable {X : Cx} {CX : CXT} {k : Nat} {g : Addr} {gd : FuncData} {gps : List Str} {E : XK} {x : Str} {p pos lpos : Pos} {e : Expr} {te : TE} {params : Arguments} {body : Expr} {scope : Scope} {Pt c0 : Addr} {qual y : Str} {i : Nat}
end

/-! ### the head, with tables of code that grow -/
end L2

set_option Elab.async false
set_option linter.all false
set_option maxRecDepth 100000
set_option maxHeartbeats 4000000
namespace L2
open PySem PySem.Spec PyProof.Rows PySem.W
section
variable {X : Cx}
/-! ### == and != of two tuples of as many flat things -/
def rEqT (K : PySem.W.Frag) (neg : Bool) : R2 := fun x y H Q => ∃ p q xs ys, x = .ref p ∧ y = .ref q ∧ SqT K H p xs ∧ SqT K H q ys ∧ xs.length = ys.length ∧ xs.all flatV = true ∧ ys.all flatV = true ∧ Q (.bl (if neg then !(List.zipWith eqV xs ys).all id else (List.zipWith eqV xs ys).all id)) H
theorem eqT_items {A : Around} {s : Shared} {xs ys : List V} {its1 its2 : List Value} (r1 : Vals xs its1) (r2 : Vals ys its2) (f1 : xs.all flatV = true) (f2 : ys.all flatV = true) (j : Nat) (j1 : j < its1.toArray.size) (j2 : j < its2.toArray.size) :
    SeqAt.EqAt A s its1.toArray[j] its2.toArray[j] (eqV (xs.getD j .non) (ys.getD j .non)) := by
  have l1 : j < xs.length := by rw [r1.length]; simpa using j1
  have l2 : j < ys.length := by rw [r2.length]; simpa using j2
  obtain ⟨u1, e1, ru1⟩ := r1.get (List.getElem?_eq_getElem l1)
  obtain ⟨u2, e2, ru2⟩ := r2.get (List.getElem?_eq_getElem l2)
  have a1 : its1.toArray[j] = u1 := by
    have : its1[j]? = some its1.toArray[j] := by simp
    rw [e1] at this; exact (Option.some.inj this).symm
  have a2 : its2.toArray[j] = u2 := by
    have : its2[j]? = some its2.toArray[j] := by simp
    rw [e2] at this; exact (Option.some.inj this).symm
  have g1 : xs.getD j .non = xs[j] := by simp [List.getD_eq_getElem?_getD, List.getElem?_eq_getElem l1]
  have g2 : ys.getD j .non = ys[j] := by simp [List.getD_eq_getElem?_getD, List.getElem?_eq_getElem l2]
  rw [a1, a2, g1, g2]
  exact eqAt_V ru1 ru2 (List.all_eq_true.mp f1 _ (List.getElem_mem l1)) (List.all_eq_true.mp f2 _ (List.getElem_mem l2))
theorem eqT_all {xs ys : List V} {its1 its2 : List Value} (r1 : Vals xs its1) (r2 : Vals ys its2) (hl : xs.length = ys.length) :
    ((List.range (min its1.toArray.size its2.toArray.size)).all (fun j => eqV (xs.getD j .non) (ys.getD j .non)) && its1.toArray.size == its2.toArray.size) = (List.zipWith eqV xs ys).all id := by
  have e1 : its1.toArray.size = xs.length := by rw [List.size_toArray]; exact r1.length.symm
  have e2 : its2.toArray.size = xs.length := by rw [List.size_toArray, ← r2.length, hl]
  rw [e1, e2, Nat.min_self, zip_all xs ys hl]
  simp
theorem op_eqT (hu : X.A.units < cLine) : OpR X (compareOp .Eq) (rEqT X.K false) := by
  intro pins s σ H x y v u Q I rx ry h
  obtain ⟨p, q, xs, ys, rfl, rfl, h1, h2, hl, f1, f2, k⟩ := h
  cases rx
  cases ry
  obtain ⟨its1, r1, p1, _⟩ := I.tuple h1
  obtain ⟨its2, r2, p2, _⟩ := I.tuple h2
  refine SeqAt.eq_tupleAt (e := fun j => eqV (xs.getD j .non) (ys.getD j .non)) (show s.heap.IsTuple p its1.toArray from p1) (show s.heap.IsTuple q its2.toArray from p2) hu (eqT_items r1 r2 f1 f2) ⟨.bl _, H, I, rfl, ?_⟩
  rw [eqT_all r1 r2 hl]
  exact k
/-! ### is True, is False -/
/-! ### products of any size that is not out of all bounds -/
/-! ### any, of a list of bools -/
/-! ### match, by texts -/
end
/-! ### a def that makes a lambda: the code of its frame is known -/
section
variable {P : Program} {w : World} {K : PySem.W.Frag} {mg : Str → Option Value} {base : Heap}
end
/-- all is as it was but for the table -/
def SameX (Pt : Addr) (H H' : Hp) : Prop := ∀ b o, b ≠ Pt → H b = some o → H' b = some o
end L2

set_option Elab.async false
set_option linter.all false
set_option maxRecDepth 100000
set_option maxHeartbeats 4000000
namespace L2
open PySem PySem.Spec PyProof.Rows PySem.W
/-! ### more in a box -/
section
variable {X : Cx} {e o : Expr} {es : List Expr} {te to : TE} {t : TA} {pos apos cpos : Pos} {name : Str} {T id : String} {r : V → List V → Hp → VK → Prop}
theorem bpa_nil : Box (PA X [] tNil) := ⟨pa_nil⟩
theorem bpa_cons (ha : Box (PE X e te)) (hr : Box (PA X es t)) (hs : starEach (e :: es) X.env = (false, eval e X.env) :: starEach es X.env) : Box (PA X (e :: es) (tCons te t)) := ⟨pa_cons ha.un hr.un hs⟩
theorem be_tup {x1} (h : Box (PA X es t)) : Box (PE X (.Tuple es x1 pos) (tTup t)) := ⟨pe_tup h.un⟩
theorem be_lst (h : Box (PA X es t)) : Box (PE X (.List es pos) (tLst t)) := ⟨pe_lst h.un⟩
theorem bs_set {i : Nat} {x : Str} {pos' : Pos} (hN : X.N.Nodup) (hi : X.N[i]? = some x) (hx : Loc X.env.scope x) (he : Box (PE X e te)) (hs : swapsWith e (some (.Name x pos')) pos.line X.env = pure false) (hf : X.fn x = true ∨ X.env.scope.names.lookup x = some .local) :
    Box (PS X (.Assign [.Name x pos'] e pos) (tAsg te (gName i))) := ⟨ps_set hN hi hx he.un hs hf⟩
end
/-! ### x, y = (e, e') -/
section
variable {X : Cx} {e : Expr} {te : TE} {pos tpos px py : Pos} {x y : Str} {i j k : Nat}
end
end L2

set_option Elab.async false
set_option linter.all false
set_option maxRecDepth 100000
set_option maxHeartbeats 4000000
namespace L2
open PySem PySem.Spec PyProof.Rows PySem.W
/-! ### repr of a dict of flat things -/
section
variable {X : Cx}
/-! ### the place of a text in a text -/
end
end L2

set_option Elab.async false
set_option linter.all false
set_option maxRecDepth 100000
set_option maxHeartbeats 4000000
namespace L2
open PySem PySem.Spec PyProof.Rows PySem.W PySem.Builtin PySem.Builtin.ObjectAttr
/-! ### exceptions of a class with no __init__ of its own -/
section
variable {prog : Program} {w : World} {K : PySem.W.Frag} {A : Around} {E : Value → Shared → Prop} {s : Shared} {C : Addr}
end
section
variable {P : Program} {w : World} {K : PySem.W.Frag} {mg : Str → Option Value} {base : Heap} {N : List Str} {qual : Str} {scope : Scope} {fa : Addr} {cd0 : Value} {A : Around} {outer : List Env} {s0 : Shared} {H0 : Hp} {E : XK}
  {C : Addr} {k : Nat} {x : Str} {p cpos pos : Pos}
end
/-! ### try .. except L as e, for exceptions with a dict or with none -/
/-- an exception that was caught: its class, its dict (if it has one) -/
def XCo (C : Addr) (dx : Option Addr) (e : Addr) : HO := .ext fun h => ∃ vs, h.get? e = some ⟨.ref C, dx, .fields vs, #[]⟩
theorem XCo_ok {P : Program} {w : World} {H : Hp} {h : Heap} {C e : Addr} {dx : Option Addr} {vs : Array Value} (he : h.get? e = some ⟨.ref C, dx, .fields vs, #[]⟩) : ObjOk P w H h e (XCo C dx e) :=
  ⟨⟨vs, he⟩, ⟨_, he⟩, fun h1 h2 q k => let ⟨vs, q⟩ := q; ⟨vs, k _ q⟩⟩
section
variable {X : Cx} {pins : List (Addr × Obj)} {σ : St} {H H' : Hp} {s s1 : Shared} {B h' : Heap} {ea C t : Addr} {dx : Option Addr} {fl : Value}
theorem inv_catchO (I : Inv X pins σ H s) (x : XUn X.stack H H' s.heap B s1.heap) (ho : s1.os = s.os) (hg : AllBare s1.gens) (F : Fl B X.stack ea (.ref C) dx (.ref t) (some fl) h') (F1 : s1.heap.FunFrames B X.stack) (u : s1.heap.UpToSlots h') (hok : HOk X.prog X.w H' B) (hea : s.heap.objs.size ≤ ea) (hn : H' ea = none) :
    Inv X pins σ H' { s1 with heap := h' } ∧ Inv X pins σ (upd H' ea (XCo C dx ea)) { s1 with heap := h' } := by
  have fro : ∀ b, b ∈ frs X.stack → ∀ o, s1.heap.get? b = some o → ∀ vs, o.data ≠ .fields vs := fun b hb o q vs hd => by
    obtain ⟨_, o', ho', hn'⟩ := F1.mem hb
    rw [q] at ho'; cases ho'; exact hn' vs hd
  have x' : XUn X.stack H H' s.heap B h' := by
    refine ⟨x.keep, fun b o q n hb => ?_, x.free, x.there, fun b o q hb => ?_, x.tups, x.frzs, x.tbls⟩
    · obtain ⟨sl, z⟩ := x.slot b o q n hb
      obtain ⟨sl2, z2⟩ := u b _ z (fro b hb _ z)
      exact ⟨sl2, z2⟩
    · obtain ⟨o', z⟩ := x.fthere b o q hb
      obtain ⟨sl2, z2⟩ := u b _ z (fro b hb _ z)
      exact ⟨_, z2⟩
  have un := x'.un F.stays
  have ne : ∀ b o, s.heap.get? b = some o → b ≠ ea := fun b o q => Nat.ne_of_lt (Nat.lt_of_lt_of_le (Heap.lt_size q) hea)
  have I1 : Inv X pins σ H' { s1 with heap := h' } := I.call' (s' := { s1 with heap := h' }) (ch := []) ho un (hok.kept F.stays) hg (fun _ z => nomatch z)
  refine ⟨I1, I.call' (s' := { s1 with heap := h' }) (ch := []) ho ⟨un.keep, un.slot, fun b o q n hx => ?_, un.there, fun b xs q => ?_, fun b o u q => ?_, fun b ps q => ?_⟩ (fun b o q => ?_) hg (fun _ z => nomatch z)⟩
  · rw [upd_ne (ne b o q)]; exact un.free b o q n hx
  · rw [upd_ne (ne_of_none (un.tups b xs q) hn)]; exact un.tups b xs q
  · rw [upd_ne (ne_of_none (un.frzs b o u q) hn)]; exact un.frzs b o u q
  · obtain ⟨m, z⟩ := un.tbls b ps q
    exact ⟨m, by rw [upd_ne (ne_of_none z hn)]; exact z⟩
  · by_cases hb : b = ea
    · subst hb
      rw [upd_same] at q
      cases q
      obtain ⟨vs, z, _⟩ := F.ex
      exact XCo_ok z
    · rw [upd_ne hb] at q
      exact (I1.hok b o q).stay (fun c v _ z => z) (fun c z => by rw [upd_ne (ne_of_none z hn)]; exact z) fun c xs z => by rw [upd_ne (ne_of_none z hn)]; exact z
end
def tTryO (K : PySem.W.Frag) (L : Addr) (j : Nat) (tb : XK → St → TS) (ts : Addr → TS) : TS := fun D σ H =>
  tb (fun c dx H' => ∃ C, c = .ref C ∧ mroIn K C (.ref L) = some true ∧ ∀ ea, H' ea = none →
    ts ea { nx := fun σ' H2 => D.nx (σ'.set j none) H2, rt := D.rt, bk := fun σ' H2 => D.bk (σ'.set j none) H2, ct := fun σ' H2 => D.ct (σ'.set j none) H2 } (σ.set j (some (.ref ea))) (upd H' ea (XCo C dx ea))) σ D σ H
section
variable {X : Cx} {x n : Str} {L : Addr} {j : Nat} {body suite : List Stmt} {b0 : Stmt} {p1 p2 p3 : Pos} {tb : XK → St → TS} {ts : Addr → TS}
theorem ps_tryO (hst : X.stack = X.env :: X.outer) (hfr : X.env.frame = some X.env.locals) (hg : Gl X x) (hm : X.mg x = some (.ref L)) (hL : XL X.K L) (hnd : X.N.Nodup) (hj : X.N[j]? = some n) (hk : X.env.kindOf n = some .local)
    (hb : ∀ pn XE E σ0, PassesAt (CX1 X.prog X.w) (X.tryc pn XE) E σ0 → PSs (X.tryc pn XE) body (tb E σ0)) (hs : ∀ e, PSs (X.hand e) (b0 :: suite) (ts e)) (hdb : (x == ("__debug__" : Str)) = false := by decide) :
    PS X (.Try body [.ExceptHandler (some (.Name x p1)) (some n) (b0 :: suite) p2] [] [] p3) (tTryO X.K L j tb ts) := by
  intro pins s σ H D I h
  refine wpAny_Try_except ?_
  have ps : PassesAt (CX1 X.prog X.w) (X.tryc (X.pn ++ pins) fun e s₁ => wpAny (model X.prog X.w) X.A (noteFrame e X.env) (fun _ s₂ => wpAny (model X.prog X.w) X.A (setFlight e none) (fun _ s₃ => wpAny (model X.prog X.w) X.A (handleBy e X.env [.ExceptHandler (some (.Name x p1)) (some n) (b0 :: suite) p2]) (SP X pins D) X.xe s₃) X.xe s₂) X.xe s₁) (fun c dx H' => ∃ C, c = .ref C ∧ mroIn X.K C (.ref L) = some true ∧ ∀ ea, H' ea = none →
    ts ea { nx := fun σ' H2 => D.nx (σ'.set j none) H2, rt := D.rt, bk := fun σ' H2 => D.bk (σ'.set j none) H2, ct := fun σ' H2 => D.ct (σ'.set j none) H2 } (σ.set j (some (.ref ea))) (upd H' ea (XCo C dx ea))) σ := by
    intro pins' H1 s1 e s2 I1 hx
    have I1' : Inv X pins σ H1 s1 := I1.of_tryc
    obtain ⟨ea, t, C, dx, H', B, rfl, ho, hgn, F, hok, xu, hn, hea, C', hC', hsub, q⟩ := hx
    cases hC'
    have F0 : Fl B X.stack ea (.ref C) dx (.ref t) (some .none) s2.heap := F
    have xu0 : XUn X.stack H1 H' s1.heap B s2.heap := xu
    have F' : Fl B (X.env :: X.outer) ea (.ref C) dx (.ref t) (some .none) s2.heap := hst ▸ F0
    have hA : X.A.frames = some (X.env :: X.outer) := hst ▸ I1'.ok.frames
    refine fl_note hA hfr F' (.inr rfl) fun h3 F3 u3 => fl_set (s := { s2 with heap := h3 }) F3 fun h4 F4 u4 => ?_
    have F4' : Fl B X.stack ea (.ref C) dx (.ref t) (some .none) h4 := by rw [hst]; exact F4
    have J := (inv_catchO (ea := ea) (t := t) I1' xu0 ho hgn F4' F0.frs (u3.trans u4) hok hea hn).1
    refine wpAny_handleBy_cons (codeAny_handlers_test (ld_glob (X := X.hand ea) J.hand hg hm ?_ hdb)) (fun q => nomatch q)
    obtain ⟨vs, hvs, _⟩ := F4'.ex
    refine match_exc (K := X.K) J.kIn hL hvs rfl hsub (codeAny_handlers_suite_as (fl_set (s := { s2 with heap := h4 }) F4' fun h5 F5 u5 => ?_))
    have J2 := (inv_catchO (ea := ea) (t := t) I1' xu0 ho hgn F5 F0.frs ((u3.trans u4).trans u5) hok hea hn).2
    refine store_ok (X := X.hand ea) (i := j) (v := .ref ea) J2.hand hnd hj (.inl hk) rfl (fun s6 J6 => ?_) (.inr hk)
    refine wpAny_mono (hs ea pins s6 _ _ _ J6 (q ea hn)) (fun f s7 hf => ?_) fun _ _ z => z.elim
    have hd : X.calm = true → X.A.handled = none := I1'.ok.hd
    match f, hf with
    | .ret u, ⟨v, σ', H'', J7, rv, qq⟩ => exact name_goes (J7.of_hand hd) hnd hj hk fun s8 J8 => ⟨v, _, H'', J8, rv, qq⟩
    | .next, ⟨σ', H'', J7, qq⟩ => exact name_goes (J7.of_hand hd) hnd hj hk fun s8 J8 => ⟨_, H'', J8, qq⟩
    | .brk, ⟨σ', H'', J7, qq⟩ => exact name_goes (J7.of_hand hd) hnd hj hk fun s8 J8 => ⟨_, H'', J8, qq⟩
    | .cont, ⟨σ', H'', J7, qq⟩ => exact name_goes (J7.of_hand hd) hnd hj hk fun s8 J8 => ⟨_, H'', J8, qq⟩
  refine wpAny_mono (hb _ _ _ σ ps [] s σ H D I.tryc h) (fun f s1 hf => ?_) fun _ _ z => z
  match f, hf with
  | .next, ⟨σ', H', J, q⟩ => exact wpAny_execs_nil ⟨σ', H', J.of_tryc, q⟩
  | .ret u, ⟨v, σ', H', J, rv, q⟩ => exact ⟨v, σ', H', J.of_tryc, rv, q⟩
  | .brk, ⟨σ', H', J, q⟩ => exact ⟨σ', H', J.of_tryc, q⟩
  | .cont, ⟨σ', H', J, q⟩ => exact ⟨σ', H', J.of_tryc, q⟩
end
section
variable {X : Cx}
theorem call_isXo : CallR X (.builtin "isinstance") (fun xs H Q => ∃ (a C : Addr) (d : Option Addr) (c : V) (cv : Value), xs = [.ref a, c] ∧ H a = some (XCo C d a) ∧ (∀ u, RelV c u → u = cv) ∧ kitOne X.K (.ref C) cv = some true ∧ Q (.bl true) H) := by
  intro pins s σ H xs us Q I r h
  obtain ⟨a, C, d, c, cv, rfl, ha, hc, e, q⟩ := h
  obtain ⟨u, w', rfl, ru, rw'⟩ := vals2 r
  obtain rfl := hc _ rw'
  obtain rfl : u = Value.ref a := ru
  obtain ⟨⟨vs, he⟩, _, _⟩ : (∃ vs, s.heap.get? a = some ⟨.ref C, d, .fields vs, #[]⟩) ∧ _ ∧ _ := I.hok a _ ha
  refine call_isinstance (S := fun _ R s => (X.K.In s.heap ∧ (∃ vs, s.heap.get? a = some ⟨.ref C, d, .fields vs, #[]⟩)) ∧ ∀ tk, R (.ok (.ret (.bool true))) { s with toks := tk })
    (fun prog w A R s hs => isinstance_outer (kit_yes (K := X.K) (t := .ref C) (H := fun h => ∃ vs, h.get? a = some ⟨.ref C, d, .fields vs, #[]⟩) (fun M h _ p => ?_) e 0 _ prog w A R s hs) (fun z => nomatch z)) ⟨⟨I.kIn, vs, he⟩, fun tk => ⟨.bl true, H, I.tok _, rfl, q⟩⟩
  obtain ⟨vs, p⟩ := p
  exact (Looks.ld p).andThen .now
end
section
variable {P : Program} {w : World} {K : PySem.W.Frag} {mg : Str → Option Value} {base : Heap} {N : List Str} {qual : Str} {scope : Scope} {f : Addr} {cv : Value} {cl : List (Str × Addr)} {A : Around} {outer : List Env} {s0 : Shared} {H0 : Hp} {E : XK}
end
/-! ### an exception class of the text that tells nothing -/
section
variable {P : Program} {w : World} {K : PySem.W.Frag} {mg : Str → Option Value} {base : Heap}
end
end L2

set_option Elab.async false
set_option linter.all false
set_option maxRecDepth 100000
set_option maxHeartbeats 4000000
namespace L2
open PySem PySem.Spec PyProof.Rows PySem.W
section
variable {X : Cx}
end
end L2

set_option Elab.async false
set_option linter.all false
set_option maxRecDepth 100000
set_option maxHeartbeats 4000000
namespace L2
open PySem PySem.Spec PyProof.Rows PySem.W
/-! ### still more in a box -/
section
variable {X : Cx} {t u : TS} {pos : Pos}
theorem bss_nil : Box (PSs X [] tNext) := ⟨pss_nil⟩
theorem bs_if {c : Expr} {a b : List Stmt} {tc : TT} (hc : Box (PT X c tc)) (ha : Box (PSs X a t)) (hb : Box (PSs X b u)) : Box (PS X (.If c a b pos) (tIfS tc t u)) := ⟨ps_if hc.un ha.un hb.un⟩
theorem be_op {a b : Expr} {ta tb : TE} {op : Operator} {r : R2} (ho : OpR X (binaryOp op) r) (ha : Box (PE X a ta)) (hb : Box (PE X b tb)) : Box (PE X (.BinOp a op b pos) (tOp r ta tb)) := ⟨pe_op ho ha.un hb.un⟩
end
end L2

set_option Elab.async false
set_option linter.all false
set_option maxRecDepth 100000
set_option maxHeartbeats 4000000
namespace L2
open PySem PySem.Spec PyProof.Rows PySem.W
section
variable {X : Cx}
/-- z.partition(y) -/
def rPart : V → List V → Hp → VK → Prop := fun x vs H Q => ∃ z y, x = .str z ∧ vs = [.str y] ∧ (y.length == 0) = false ∧ z.length ≤ sizeLine ∧ ∀ p, H p = none → Q (.ref p) (upd H p (.tup [.str (Txt.partition z y).1, .str (Txt.partition z y).2.1, .str (Txt.partition z y).2.2]))
theorem mt_partition : MtR X "str.partition" rPart := by
  intro pins s σ H x xs v us Q I rx rs h
  obtain ⟨z, y, rfl, rfl, h0, hz, q⟩ := h
  obtain ⟨t, rfl⟩ := rx
  obtain ⟨u, rfl, ⟨t', rfl⟩⟩ := vals1 rs
  have hf : H s.heap.objs.size = none := I.hok.fresh (Nat.le_refl _)
  have q' := q _ hf
  have fin : ∀ (x1 x2 x3 : Str) (t1 t2 t3 : Tok) (tk : Nat), Q (.ref s.heap.objs.size) (upd H s.heap.objs.size (.tup [.str x1, .str x2, .str x3])) → EP X pins σ Q (.ref s.heap.objs.size) { s with toks := tk, heap := s.heap.push { cls := .type "tuple", data := .seq [Value.str x1 t1, .str x2 t2, .str x3 t3].toArray } } := fun x1 x2 x3 t1 t2 t3 tk qq =>
    ⟨.ref s.heap.objs.size, _, I.laid (t' := tk) (o := .tup [.str x1, .str x2, .str x3]) (fun b ob z => Heap.get?_push_of_some _ z) (Nat.le_refl _) ⟨by show 3 ≤ sizeLine; rw [sizeLine_eq]; decide, [.str x1 t1, .str x2 t2, .str x3 t3], .cons ⟨_, rfl⟩ (.cons ⟨_, rfl⟩ (.cons ⟨_, rfl⟩ .nil)), ⟨_, Heap.get?_push_size _ rfl, rfl, 0, rfl⟩⟩, rfl, qq⟩
  refine call_meets F.slot_str_partition (typeIs_str _ _ _) F.entry_str_partition (F.args_str_partition_2 _ _) (meets_str_partition z y t t' h0 hz) ?_
  unfold Txt.partition at q'
  revert q'
  cases Builtin.Str.occurrences z y 0 z.length 1 with
  | nil => intro q'; exact fin _ _ _ _ _ _ _ q'
  | cons i r => intro q'; exact fin _ _ _ _ _ _ _ q'
end
end L2

set_option Elab.async false
set_option linter.all false
set_option maxRecDepth 100000
set_option maxHeartbeats 4000000
namespace L2
open PySem PySem.Spec PyProof.Rows PySem.W
section
variable {P : Program} {w : World} {KT : Type} [DecidableEq KT] {kn : KeyKind P w KT} {A : Around} {E : Value → Shared → Prop} {s : Shared}
end
end L2

set_option Elab.async false
set_option linter.all false
set_option maxRecDepth 100000
set_option maxHeartbeats 4000000
namespace L2
open PySem PySem.Spec PyProof.Rows PySem.W
section
variable {P : Program} {w : World} {A : Around} {E : Value → Shared → Prop} {s : Shared}
end
end L2

set_option Elab.async false
set_option linter.all false
set_option maxRecDepth 100000
set_option maxHeartbeats 4000000
namespace L2
open PySem PySem.Spec PyProof.Rows PySem.W
/-! ### enumerate(l, start=k) -/
section
open AutoSeq1 (wpAny_loadPart')
theorem new_enum_at (l : Addr) (items : Array Value) (n : Nat) (dct : Option Addr) (sl : Array (Option Value)) (k : Int) (t : Tok) (hk : (!Builtin.SmallTypes.fitsIndex k) = false) :
    Meets (Builtin.«enumerate.__new__» ⟨[.type "enumerate", .ref l], [("start", .int k t)]⟩) (fun _ R s => s.heap.get? l = some { cls := .type "list", dict := dct, data := .seq items n, slots := sl } ∧
      R (.ok (.ret (.ref (s.heap.push { cls := .type "list_iterator", data := .fields #[.ref l, .int 0 0] }).objs.size)))
        { s with heap := (s.heap.push { cls := .type "list_iterator", data := .fields #[.ref l, .int 0 0] }).push { cls := .type "enumerate", data := .fields #[.none, .bool false, .ref s.heap.objs.size, rawInt k, .none, .none] } }) :=
  .of_wp fun prog w A R s h => by
    obtain ⟨hp, ge, dr, tk, os⟩ := s
    obtain ⟨hl, h⟩ := h
    have hsub := sub_enumerate
    have hL : Heap.IsList hp l items := ⟨_, hl, rfl, n, rfl⟩
    wp_walk using wpAny_loadPart' hl
    refine wpAny_stack_any fun st => wpAny_pure ?_
    split
    · rename_i c _ _ _ _ _
      cases (c == Value.type "enumerate") <;> (wp_walk using wpAny_loadPart' hl, wpAny_pyIter_list hL; exact ⟨_, rfl, h⟩)
    · wp_walk using wpAny_loadPart' hl, wpAny_pyIter_list hL; exact ⟨_, rfl, h⟩
end
section
variable {prog : Program} {w : World} {A : Around} {E : Value → Shared → Prop} {s : Shared}
theorem init_kw {T newId : String} {self : Value} {rest : List Value} {kw : List (Str × Value)} (hl : typeLookup (.type T) "__init__" = pure (some (.builtin "object.__init__")))
    (hm : Bind.madeBy (.type T) = pure (some newId)) (hne : (some newId != some "object.__new__") = true) :
    Meets (Builtin.«object.__init__» ⟨self :: rest, kw⟩) (fun _ R s => s.TypeIs self T ∧ R (.ok (.ret .none)) s) := by
  refine Meets.of_wp fun prog w A R s hs => ?_
  obtain ⟨hT, hq⟩ := hs
  cases rest with
  | nil =>
    cases kw with
    | nil => exact wpAny_pure ⟨_, rfl, hq⟩
    | cons a r =>
      (repeat (any_goals (first | assumption | wp_step))); exact ⟨_, rfl, hq⟩
  | cons a rest =>
    (repeat (any_goals (first | assumption | wp_step))); exact ⟨_, rfl, hq⟩
theorem type_kw {T newId : String} {Bn : Builtin} {args : List Value} {kw : List (Str × Value)} {S : PySem.Spec} {Q : Value → Shared → Prop} (ft : TypeCalled T newId "object.__init__") (hne : (some newId != some "object.__new__") = true)
    (hct : checkTypeCall T ⟨args, kw⟩ = pure ()) (hcn : checkBuiltinCall newId ⟨.type T :: args, kw⟩ = pure ()) (hok : ∀ obj, argsOk "object.__init__" ⟨obj :: args, kw⟩)
    (entryN : entryFor table newId = some Bn) (g : Meets (Bn ⟨.type T :: args, kw⟩) S) (h : S A.in1 (wants (fun obj s₁ => s₁.TypeIs obj T ∧ Q obj s₁) E) s) :
    wpAny (model prog w) A (call (.type T) args kw) Q E s := by
  obtain ⟨c, tl, hmro⟩ := ft.mro
  have hmade := ft.made
  have hsub := ft.sub
  have h1 := ft.notType
  have h2 := ft.canCreate
  refine wpAny_call (codeAny_of_tree ?_); show wpAny _ _ (callAny (.type T) _) _ _ _
  refine wpAny_pure ⟨Code.quiet_builtin _ (by decide +kernel), codeAny_builtin F.entry_type_call ?_⟩
  rw [Around.under_plain (weight_type_call_type T args kw) (units_type_call_type T args kw)]
  repeat (any_goals (first | assumption | wp_step))
  refine codeAny_mono (codeAny_call_builtin ft.plain entryN (wpAny_of_eq hcn (g prog w A.in1 _ s h))) fun r s₁ hr => ?_
  cases r with
  | error e => exact hr
  | ok fl =>
    cases fl with
    | ret obj =>
      obtain ⟨hT, hq⟩ := hr
      have hli := ft.init.lookup
      have hbi := ft.init.bind obj
      repeat (any_goals (first | assumption | wp_step))
      refine codeAny_mono (codeAny_call_builtin ft.init.plain F.entry_object_init (ft.init.check _ _ _ _ _ _ _ _ hT (hok obj) (init_kw ft.init.lookup ft.made hne prog w A.in1 (wants (fun r s₂ => r = .none ∧ Q obj s₂) E) s₁ ⟨hT, rfl, hq⟩))) fun r₂ s₂ hr₂ => ?_
      cases r₂ with
      | error e => exact hr₂
      | ok fl₂ =>
        cases fl₂ with
        | ret r =>
          obtain ⟨rfl, hq⟩ := hr₂
          repeat (any_goals (first | assumption | wp_step))
        | _ => exact hr₂.elim
    | _ => exact hr.elim
theorem enum_list_at {l : Addr} {items : Array Value} {k : Int} {t : Tok} {Q : Value → Shared → Prop} (hk : (!Builtin.SmallTypes.fitsIndex k) = false) (hL : s.heap.IsList l items)
    (h : ∀ h', IsEnum h' (s.heap.objs.size + 1) s.heap.objs.size k .none → h'.IsListIter s.heap.objs.size l 0 → (∀ b o, s.heap.get? b = some o → h'.get? b = some o) → Q (.ref (s.heap.objs.size + 1)) { s with heap := h' }) :
    wpAny (model prog w) A (call (.type "enumerate") [.ref l] [("start", .int k t)]) Q E s := by
  obtain ⟨⟨c, dct, dt, sl⟩, hl, hc, n, hd⟩ := hL
  simp only at hc hd
  subst hc hd
  refine type_kw F.called_enumerate (by decide) (by kernel_rfl) (by kernel_rfl) (fun obj => ?_) F.entry_enumerate_new (new_enum_at l items n dct sl k t hk) ⟨hl, ?_⟩
  · unfold argsOk; rw [signature?_of (id := "object.__init__") (n := ['_', '_', 't', 'i', 'n', 'i', '_', '_']) (o := ['t', 'c', 'e', 'j', 'b', 'o']) (by kernel_rfl) F.owner_object]; kernel_rfl
  have hz : (s.heap.push { cls := .type "list_iterator", data := .fields #[.ref l, .int 0 0] }).objs.size = s.heap.objs.size + 1 := Heap.size_push ..
  show _ ∧ _
  rw [hz]
  have he : IsEnum ((s.heap.push { cls := .type "list_iterator", data := .fields #[.ref l, .int 0 0] }).push { cls := .type "enumerate", data := .fields #[.none, .bool false, .ref s.heap.objs.size, rawInt k, .none, .none] }) (s.heap.objs.size + 1) s.heap.objs.size k .none := by
    rw [← hz]; exact Heap.get?_push_size _ rfl
  exact ⟨⟨_, he, rfl⟩, h _ he ⟨_, Heap.get?_push_of_some _ (Heap.get?_push_size _ rfl), rfl, rfl⟩ fun b o x => Heap.get?_push_of_some _ (Heap.get?_push_of_some _ x)⟩
theorem draws_up {it : Addr} {fp : List Addr} {n : Nat} {P : Nat → Value → Prop} {St : Nat → Heap → Prop} (k : Nat) (D : Draws prog w A it fp n P St) : Draws prog w A it fp (n + k) (fun i v => P (i - k) v) (fun i h => k ≤ i ∧ St (i - k) h) where
  live := fun i h st => D.live _ h st.2
  frame := fun i h h' st hk => ⟨st.1, D.frame _ h h' st.2 hk⟩
  item := fun i s Q E hi st hQ => D.item (i - k) s Q E (by omega) st.2 fun x h' tk p st' sb => hQ x h' tk p ⟨by omega, by rw [show i + 1 - k = i - k + 1 by omega]; exact st'⟩ sb
  done := fun s Q E st hE => D.done s Q E (by have := st.2; rwa [Nat.add_sub_cancel] at this) hE
end
def ItES (k0 : Nat) (K : PySem.W.Frag) (a : Addr) : It :=
  ⟨fun i H => ∃ xs x, SqL K H a xs ∧ xs[i]? = some x,
   fun i H u H' => ∃ T, u = .ref T ∧ H T = none ∧ (∀ xs, SqL K H a xs → ∃ x, xs[i]? = some x ∧ H' = upd H T (.tup [.int ((i + k0 : Nat) : Int), x])),
   fun i H => ∃ xs, SqL K H a xs ∧ xs.length = i⟩
theorem turn_enumS (k0 : Nat) {P : Program} {w : World} {K : PySem.W.Frag} {es : List Expr} {k : Nat} {tp : Pos} (e it a : Addr) (hei : e ≠ it) :
    Turn P w K (.Tuple es k tp) (ItES k0 K a) [e, it] e (fun i h => (∃ old, IsEnum h e it ((i + k0 : Nat) : Int) old) ∧ h.IsListIter it a i) where
  mem := by simp
  obj := fun i h st c hc => by
    obtain ⟨⟨old, s1⟩, ⟨o4, e4, c4, d4⟩⟩ := st
    simp at hc
    rcases hc with rfl | rfl
    · exact ⟨_, s1, fun v q => by cases q⟩
    · exact ⟨_, e4, fun v q => by rw [d4] at q; cases q⟩
  keep := fun i h h' st kk => by
    obtain ⟨⟨old, s1⟩, ⟨o4, e4, r4⟩⟩ := st
    exact ⟨⟨old, kk e (by simp) _ s1⟩, ⟨o4, kk it (by simp) o4 e4, r4⟩⟩
  item := by
    intro X hP hw hK hc i pins s σ H E I hf st hg
    subst hP hw hK
    obtain ⟨xs, x, h1, hx⟩ := hg
    obtain ⟨its1, rv1, p1, _⟩ := I.list h1
    obtain ⟨u1, hw1, r1⟩ := rv1.get hx
    obtain ⟨⟨old, he⟩, hit⟩ := st
    have tp : s.heap.IsList a its1.toArray := p1.isList
    have hea : e ≠ a := fun z => by
      obtain ⟨o, q, c, _⟩ := tp
      rw [← z, he] at q; cases q; simp at c
    have hia : it ≠ a := fun z => by
      obtain ⟨o, q, c, _⟩ := tp
      obtain ⟨o2, q2, c2, _⟩ := hit
      rw [← z, q2] at q; cases q; rw [c2] at c; simp at c
    have hlt : i < its1.toArray.size := by
      have := List.getElem?_eq_some_iff.mp hw1
      obtain ⟨w1, _⟩ := this
      simpa using w1
    refine wpAny_pyNext_enum_itemD (draws_up k0 (Draws.list (show X.A.in1.handled = none from I.ok.hd hc) it a hia.symm its1.toArray)) he ⟨Nat.le_add_left _ _, by rw [Nat.add_sub_cancel]; exact ⟨hit, tp⟩⟩ (Nat.add_lt_add_right hlt k0) hei (by simp; exact ⟨hei, hea⟩) fun u h' tk hu c1 c2 c3 csz kk => ?_
    have eu : u = u1 := by
      have hu' : its1[i]? = some u := by rw [Nat.add_sub_cancel] at hu; simpa using hu
      rw [hw1] at hu'; exact (Option.some.inj hu').symm
    subst eu
    refine ⟨_, rfl, wpAny_letOwnedTupleGo_enum c1 fun h'' c1' sb => ?_⟩
    have kk2 : ∀ c o, c ≠ e → h'.get? c = some o → h''.get? c = some o := fun c o hn q => sb.extBut c o hn q
    have hTn : H s.heap.objs.size = none := I.hok.fresh (Nat.le_refl _)
    have keep2 : ∀ c o, c ∉ [e, it] → s.heap.get? c = some o → h''.get? c = some o := fun c o hc q => kk2 c o (fun y => hc (by simp [y])) (kk c o (fun y => hc (by simp [y])) (fun y => hc (by simp [y])) q)
    have nwr : ∀ c u, H c = some u → c ∉ [e, it] := fun c u q hc => by rw [(hf c hc).1] at q; cases q
    have elt : e < s.heap.objs.size := Heap.lt_size he
    have hTup2 : IsTup h'' s.heap.objs.size #[.int ((i + k0 : Nat) : Int) tk, u] := ⟨_, kk2 _ _ (Nat.ne_of_gt elt) c3, rfl, _, rfl⟩
    have I2 : Inv X pins σ (upd H s.heap.objs.size (.tup [.int ((i + k0 : Nat) : Int), x])) { s with heap := h'', toks := tk + 1 } := by
      refine I.step (t' := tk + 1) (g' := s.gens) (d' := s.drawn) (ch := [e, it]) (fun c hc => ?_) (fun c o _ _ hc q _ => keep2 c o hc q) (fun c o _ _ hc q _ => ⟨o.slots, keep2 c o hc q⟩) (fun c o hc q n => ?_) (fun c o hc q => ⟨o, keep2 c o hc q⟩)
        (fun c xs q => ?_) (fun c o xs q => ?_) (fun c ps q => ⟨#[], ?_⟩) (fun m hm => ?_) ?_ I.bare
      · obtain ⟨g0, g1, g2, g3, g4, g5⟩ := hf c hc
        exact ⟨g3, g1, g4, g5⟩
      · rw [upd_ne (Nat.ne_of_lt (Heap.lt_size q))]; exact n
      · rw [upd_ne (ne_of_none q hTn)]; exact q
      · rw [upd_ne (ne_of_none q hTn)]; exact q
      · rw [upd_ne (ne_of_none q hTn), q]; simp
      · obtain ⟨o, es, ep, ho, r⟩ := hm
        refine ⟨o, es, ep, keep2 _ o (fun hc => ?_) ho, r⟩
        exact (hf _ hc).2.1 rfl
      · intro c u' q
        by_cases hcT : c = s.heap.objs.size
        · rw [hcT, upd_same] at q
          cases q
          rw [hcT]
          exact ⟨by show 2 ≤ sizeLine; rw [sizeLine_eq]; decide, [.int ((i + k0 : Nat) : Int) tk, u], .cons ⟨_, rfl⟩ (.cons r1 .nil), hTup2⟩
        · rw [upd_ne hcT] at q
          refine (I.hok c u' q).stay (fun d v hd q' => keep2 d v ?_ q') (fun d q' => by rw [upd_ne (ne_of_none q' hTn)]; exact q') fun d xs q' => by rw [upd_ne (ne_of_none q' hTn)]; exact q'
          rcases hd with rfl | hd
          · exact nwr d u' q
          · exact nwr d _ hd
    refine ⟨.ref s.heap.objs.size, _, I2, rfl, ⟨_, rfl, hTn, fun xs' h1' => ⟨x, ?_, rfl⟩⟩, ⟨⟨_, by rw [show ((i + 1 + k0 : Nat) : Int) = ((i + k0 : Nat) : Int) + 1 by omega]; exact c1'⟩, ?_⟩, fun c hc => ?_⟩
    · rw [I.list_inj h1' h1]; exact hx
    · have c2' := c2.2.1; rw [show i + k0 + 1 - k0 = i + 1 by omega] at c2'; obtain ⟨o, q, r⟩ := c2'; exact ⟨o, kk2 _ _ (Ne.symm hei) q, r⟩
    · obtain ⟨o, eo⟩ : ∃ o, s.heap.get? c = some o := by
        simp at hc
        rcases hc with rfl | rfl
        · exact ⟨_, he⟩
        · obtain ⟨o, q, _⟩ := hit; exact ⟨o, q⟩
      rw [upd_ne (Nat.ne_of_lt (Heap.lt_size eo))]
      exact (hf c hc).1
  done := by
    intro X hP hw hK hc i pins s σ H E I hf st hg
    subst hP hw hK
    obtain ⟨xs, h1, hi⟩ := hg
    obtain ⟨its1, rv1, p1, _⟩ := I.list h1
    obtain ⟨⟨old, he⟩, hit⟩ := st
    have tp : s.heap.IsList a its1.toArray := p1.isList
    have hia : it ≠ a := fun z => by
      obtain ⟨o, q, c, _⟩ := tp
      obtain ⟨o2, q2, c2, _⟩ := hit
      rw [← z, q2] at q; cases q; rw [c2] at c; simp at c
    have el : i = its1.toArray.size := by have := rv1.length; simp; omega
    subst el
    obtain ⟨f0, f1, f2, f3, f4, f5⟩ := hf it (by simp)
    refine wpAny_pyNext_enum_endD (draws_up k0 (Draws.list (show X.A.in1.handled = none from I.ok.hd hc) it a hia.symm its1.toArray)) he ⟨Nat.le_add_left _ _, by rw [Nat.add_sub_cancel]; exact ⟨hit, tp⟩⟩ fun h' kk => ⟨rfl, I.turned (t' := s.toks) (fun b o hb e => kk b o hb e) f0 f1 f3 f4 f5⟩
  self := fun A i s Q E st h => by
    obtain ⟨⟨old, he⟩, _⟩ := st
    exact wpAny_pyIter_enum he h
theorem type_withkw {M : Model} {A : Around} {E : Value → Shared → Prop} {s : Shared} {env : Env} {pos : Pos} {T : String} {e : Expr} {rest : List Expr} {kws : List Keyword} {Q : Value → Shared → Prop}
    (h : wpAny M A (spliced (backTo pos (starEach (e :: rest) env))) (fun vs s₁ => wpAny M A (evalAll ((backToKw pos (keywordEach kws env)).map (·.2))) (fun kvs s₂ => wpAny M A (call (.type T) vs (((backToKw pos (keywordEach kws env)).filterMap (·.1)).zip kvs)) Q E s₂) E s₁) E s)
    (he : backTo pos (starEach (e :: rest) env) = (false, eval e env) :: backTo pos (starEach rest env)) (hplain : ((backTo pos (starEach (e :: rest) env)).any (·.1) || (backToKw pos (keywordEach kws env)).any (·.1.isNone)) = false) (hall : (backToKw pos (keywordEach kws env)).all (·.1.isSome) = true) :
    wpAny M A (callWith pos (.type T) [] (backTo pos (starEach (e :: rest) env)) (backToKw pos (keywordEach kws env))) Q E s := by
  unfold callWith
  have h' : wpAny M A (evalArgs (.type T) true (backTo pos (starEach (e :: rest) env)) (backToKw pos (keywordEach kws env))) (fun a s₁ => wpAny M A (call (.type T) ([] ++ a.pos) a.kw) Q E s₁) E s := by
    rw [he] at h ⊢; exact evalArgs_kwB hall h
  refine wpAny_bind (wpAny_holding (thn h' fun a s₁ h₁ => wpAny_bind (wpAny_standAt ?_)))
  simp only [hplain]
  refine wpAny_bind (wpAny_pure ?_)
  exact wpAny_bind (thn h₁ fun r s₂ hr => wpAny_bind (wpAny_holding (wpAny_point (wpAny_pure hr))))
theorem Call_kws {M : Model} {A : Around} {E : Value → Shared → Prop} {s : Shared} {env : Env} {n : Str} {p : Pos} {args : List Expr} {kws : List Keyword} {pos : Pos} {Q : Value → Shared → Prop}
    (h : wpAny M A (eval (.Name n p) env) (fun f s₁ => wpAny M A (callWith pos f [] (backTo pos (starEach args env)) (backToKw pos (keywordEach kws env))) Q E s₁) E s)
    (he : eval (.Call (.Name n p) args kws pos) env = (do callWith pos (← eval (.Name n p) env) [] (backTo pos (starEach args env)) (backToKw pos (keywordEach kws env)))) : wpAny M A (eval (.Call (.Name n p) args kws pos) env) Q E s := by
  rw [he]
  exact wpAny_bind h
section
variable {X : Cx}
def iEnS (k0 : Nat) (K : PySem.W.Frag) (ta : TA) : TI := fun σ H R => ta σ H fun vs H1 => ∃ a, vs = [.ref a] ∧ (∃ xs, SqL K H1 a xs) ∧ R (ItES k0 K a) H1
theorem pi_enumS {k0 ck : Nat} {kp np : Pos} {a : Expr} {ta : TA} {p pos tp : Pos} {es : List Expr} {k : Nat} (hk0 : (!Builtin.SmallTypes.fitsIndex (k0 : Int)) = false) (hg : Gl X "enumerate") (hm : X.mg "enumerate" = none) (ha : PA X [a] ta) (hs : starEach [a] X.env = [(false, eval a X.env)] := by rfl) :
    PI X (.Tuple es k tp) (.Call (.Name "enumerate" p) [a] [⟨some "start", .Constant (.int (k0 : Int)) ck np, kp⟩] pos) (iEnS k0 X.K ta) := by
  intro pins s σ H R I h
  refine Call_kws (ld_blt I hg hm (by decide +kernel : bootBuiltins "enumerate" = some (.type "enumerate")) ?_) (by rfl)
  refine type_withkw (thn (ha pos pins s σ H _ I h) fun us s1 hq => kws_cons (wpAny_Constant_int (kws_nil ?_))) (by rw [hs]; rfl) (by rw [hs]; rfl) rfl
  obtain ⟨vs, H1, I1, r1, a', rfl, ⟨xs, h1⟩, q⟩ := hq
  obtain ⟨u, rfl, ru⟩ := vals1 r1
  cases ru
  obtain ⟨its1, rv1, p1, _⟩ := I1.list h1
  have tp : s1.heap.IsList a' its1.toArray := p1.isList
  refine enum_list_at hk0 (by exact tp) fun h' he hit hk => wpAny_pyIter_enum he ?_
  refine ⟨_, _, _, _, H1, rfl, I1.kept (t' := s1.toks + 1) hk, turn_enumS k0 _ _ a' (Nat.succ_ne_self _), ⟨⟨_, by rw [Nat.zero_add]; exact he⟩, hit⟩, fun c hc => ?_, q⟩
  have hle : s1.heap.objs.size ≤ c := by
    simp at hc
    rcases hc with rfl | rfl <;> first | exact Nat.le_add_right _ _ | exact Nat.le_refl _
  exact I1.fpOk hle (I1.hok.fresh hle)
end
theorem for_enumS {k0 : Nat} {K : PySem.W.Frag} {a : Addr} {xs : List V} {g : TG} {tb : TS} {D : Ends} {σ : St} {H : Hp} (Pv : Nat → St → Hp → Prop) (h0 : Pv 0 σ H) (hl : ∀ i σ H, i ≤ xs.length → Pv i σ H → SqL K H a xs)
    (hs : ∀ i x σ H T, xs[i]? = some x → Pv i σ H → H T = none → g (.ref T) σ (upd H T (.tup [.int ((i + k0 : Nat) : Int), x])) fun σ2 H2 => tb { D with nx := Pv (i + 1), ct := Pv (i + 1), bk := D.nx } σ2 H2) (hd : ∀ σ H, Pv xs.length σ H → D.nx σ H) :
    ∃ W : Nat → Nat → St → Hp → Prop, (∃ m, W 0 m σ H) ∧ ∀ i m σ H, W i m σ H →
      ((ItES k0 K a).stop i H ∧ D.nx σ H) ∨ ((ItES k0 K a).go i H ∧ ∃ N : St → Hp → Prop, (∀ σ' H', N σ' H' → ∃ m', m' < m ∧ W (i + 1) m' σ' H') ∧ ∀ x H', (ItES k0 K a).yld i H x H' → g x σ H' fun σ2 H2 => tb { D with nx := N, ct := N, bk := D.nx } σ2 H2) := by
  refine ⟨fun i m σ H => m = xs.length - i ∧ i ≤ xs.length ∧ Pv i σ H, ⟨xs.length, by simp, Nat.zero_le _, h0⟩, ?_⟩
  rintro i m σ H ⟨rfl, hi, p⟩
  have q := hl i σ H hi p
  by_cases hlt : i < xs.length
  · refine .inr ⟨⟨xs, xs[i], q, by simp [hlt]⟩, Pv (i + 1), fun σ' H' p' => ⟨xs.length - (i + 1), by omega, rfl, hlt, p'⟩, fun x H' y => ?_⟩
    obtain ⟨T, e, hT, y⟩ := y
    subst e
    obtain ⟨x, hx, rfl⟩ := y xs q
    exact hs i x σ _ T hx p hT
  · have e : i = xs.length := by omega
    subst e
    exact .inl ⟨⟨xs, q, rfl⟩, hd σ H p⟩
end L2

set_option Elab.async false
set_option linter.all false
set_option maxRecDepth 100000
set_option maxHeartbeats 4000000
namespace L2
open PySem PySem.Spec PyProof.Rows PySem.W
/-! ### sorted(d) -/
section
variable {prog : Program} {w : World} {A : Around} {E : Value → Shared → Prop} {s : Shared}
end
section
variable {X : Cx}
end
/-! ### repr of things in things -/
def flatD : V → Option PyData
  | .non => some .none
  | .bl b => some (.bool b)
  | .int i => some (.int i)
  | .str x => some (.str x)
  | _ => none
def keyD : Key → PyData
  | .inl i => .int i
  | .inr x => .str x
/-- what things read as; lists among them if b -/
inductive RdL (b : Bool) (H : Hp) : List V → List PyData → Prop
  | nil : RdL b H [] []
  | flat {v : V} {d : PyData} {vs : List V} {ds : List PyData} : flatD v = some d → RdL b H vs ds → RdL b H (v :: vs) (d :: ds)
  | tup {a : Addr} {xs : List V} {es : List PyData} {vs : List V} {ds : List PyData} : H a = some (.tup xs) → RdL b H xs es → RdL b H vs ds → RdL b H (.ref a :: vs) (.tuple es :: ds)
  | lst {a : Addr} {xs : List V} {es : List PyData} {vs : List V} {ds : List PyData} : b = true → H a = some (.lst xs) → RdL b H xs es → RdL b H vs ds → RdL b H (.ref a :: vs) (.list es :: ds)
  | dic {a : Addr} {kvs : List (Key × V)} {es : List PyData} {vs : List V} {ds : List PyData} : H a = some (.dK kvs) → RdL b H (kvs.map (·.2)) es → RdL b H vs ds → RdL b H (.ref a :: vs) (.dict ((kvs.map fun kv => keyD kv.1).zip es) :: ds)
section
variable {X : Cx}
end
end L2

set_option Elab.async false
set_option linter.all false
set_option maxRecDepth 100000
set_option maxHeartbeats 4000000
namespace L2
open PySem PySem.Spec PyProof.Rows PySem.W
theorem ix_tupK {X : Cx} {K : PySem.W.Frag} (h : X.K = K) : IxR X (rIxT K) := by subst h; exact ix_tup
/-- either promise -/
theorem FnOk.or {P : Program} {w : World} {K : PySem.W.Frag} {mg : Str → Option Value} {base : Heap} {CX : CXT} {k : Nat} {f : Addr} {fd : FuncData} {ps : List Str} {sp sp' : Sp} (F : FnOk P w K mg base CX k f fd ps sp) (G : FnOk P w K mg base CX k f fd ps sp') :
    FnOk P w K mg base CX k f fd ps (fun vs H Q E => sp vs H Q E ∨ sp' vs H Q E) :=
  ⟨fun vs H Q E q => q.elim (F.len vs H Q E) (G.len vs H Q E), fun A outer s H args us vs Q E hr he hb hv hs => hs.elim (F.run A outer s H args us vs Q E hr he hb hv) (G.run A outer s H args us vs Q E hr he hb hv)⟩
end L2

set_option Elab.async false
set_option linter.all false
set_option maxRecDepth 100000
set_option maxHeartbeats 4000000
namespace L2
open PySem PySem.Spec PyProof.Rows PySem.W
/-! ### a text, n times -/
def repS (i : Str) (n : Int) : Str := ⟨(List.replicate n.toNat i.cps).foldl (· ++ ·) #[]⟩
theorem op_mul_str {X : Cx} : OpR X (binaryOp .Mult) (fun x y H Q => ∃ i n, x = .str i ∧ y = .int n ∧ 1 < n ∧ n ≤ 100 ∧ 1 ≤ i.length ∧ i.length ≤ 100 ∧ (repS i n).length ≤ sizeLine ∧ Q (.str (repS i n)) H) := by
  intro pins s σ H x y v u Q I rx ry h
  obtain ⟨i, n, rfl, rfl, h1, h2, h3, h4, h5, q⟩ := h
  obtain ⟨t, rfl⟩ := rx
  obtain ⟨t', rfl⟩ := ry
  have e1 : ¬ n < 1 := by omega
  have e2 : (n == 1 || i.length == 0) = false := by
    rw [Bool.or_eq_false_iff]
    exact ⟨beq_eq_false_iff_ne.mpr (by omega), beq_eq_false_iff_ne.mpr (by omega)⟩
  refine P.mul_str (by rw [decide_eq_false (by omega), decide_eq_false (by omega)]; rfl) (fun _ _ => ?_) (fun _ _ => ?_) ?_
  · have : (2 ^ 63 - 1 : Int) / n ≥ 1000 := by
      refine Int.le_ediv_of_mul_le (by omega) ?_
      omega
    omega
  · have hm : i.length * n.toNat ≤ 100 * 100 := Nat.mul_le_mul h4 (by omega)
    show decide (_ > sizeLine) = false
    rw [decide_eq_false]
    rw [sizeLine_eq]; omega
  · rw [if_neg e1, if_neg (by rw [e2]; decide)]
    exact ⟨h5, ⟨.str (repS i n), H, I.tok _, ⟨_, rfl⟩, q⟩⟩
end L2

set_option Elab.async false
set_option linter.all false
set_option maxRecDepth 100000
set_option maxHeartbeats 4000000
namespace L2
open PySem PySem.Spec PyProof.Rows PySem.W
theorem star_tup {es' es : List Expr} {k : Nat} {p : Pos} {env : Env} : starEach (.Tuple es' k p :: es) env = (false, eval (.Tuple es' k p) env) :: starEach es env := rfl
theorem star_lst {es' es : List Expr} {p : Pos} {env : Env} : starEach (.List es' p :: es) env = (false, eval (.List es' p) env) :: starEach es env := rfl
theorem star_con {c : Const} {k : Nat} {es : List Expr} {p : Pos} {env : Env} : starEach (.Constant c k p :: es) env = (false, eval (.Constant c k p) env) :: starEach es env := rfl
theorem star_nam {n : Str} {es : List Expr} {p : Pos} {env : Env} : starEach (.Name n p :: es) env = (false, eval (.Name n p) env) :: starEach es env := rfl
theorem star_bin {o : Operator} {l r : Expr} {es : List Expr} {p : Pos} {env : Env} : starEach (.BinOp l o r p :: es) env = (false, eval (.BinOp l o r p) env) :: starEach es env := rfl
theorem star_cal {f : Expr} {as es : List Expr} {kw : List Keyword} {p : Pos} {env : Env} : starEach (.Call f as kw p :: es) env = (false, eval (.Call f as kw p) env) :: starEach es env := rfl
theorem swap_lst {es : List Expr} {p : Pos} {t : Option Expr} {n : Nat} {env : Env} : swapsWith (.List es p) t n env = pure false := rfl
theorem boxE {X : Cx} {b : List Stmt} {R : TS → Prop} (h : ∃ t, Box (PSs X b t) ∧ R t) : ∃ t, PSs X b t ∧ R t := let ⟨t, h1, h2⟩ := h; ⟨t, h1.un, h2⟩
end L2

set_option Elab.async false
set_option linter.all false
set_option maxRecDepth 100000
set_option maxHeartbeats 4000000
namespace My
open PySem L2
def top (i : Nat) : Stmt := PySem.Challenge.pw_logdelve_k04_rows_misread.main.body.getD i (.Pass ⟨0, 0, 0, 0⟩)
def clsBody (s : Stmt) : List Stmt := match s with
  | .ClassDef _ _ _ b _ _ _ _ _ _ _ => b
  | _ => []
def meth (i : Nat) : Stmt := (clsBody (top i)).getD 0 (.Pass ⟨0, 0, 0, 0⟩)
set_option genInjectivity false in
set_option genSizeOf false in
structure Adr where
  f_is_name : Addr
  d_is_name : FuncData
  f_is_word : Addr
  d_is_word : FuncData
  f_begins_with_letter : Addr
  d_begins_with_letter : FuncData
  f_has_only : Addr
  d_has_only : FuncData
  f_value_in : Addr
  d_value_in : FuncData
  f_number_in : Addr
  d_number_in : FuncData
  f_read_row : Addr
  d_read_row : FuncData
  f_read_fields : Addr
  d_read_fields : FuncData
  f_is_field_name : Addr
  d_is_field_name : FuncData
  f_begin : Addr
  d_begin : FuncData
  f_take : Addr
  d_take : FuncData
  f_of : Addr
  d_of : FuncData
  f_same : Addr
  d_same : FuncData
  f_kept_word : Addr
  d_kept_word : FuncData
  f_letters : Addr
  d_letters : FuncData
  f_drawn_name : Addr
  d_drawn_name : FuncData
  f_drawn_word : Addr
  d_drawn_word : FuncData
  f_number : Addr
  d_number : FuncData
  f_value : Addr
  d_value : FuncData
  f_value_text : Addr
  d_value_text : FuncData
  f_kinds : Addr
  d_kinds : FuncData
  f_fields : Addr
  d_fields : FuncData
  f_time : Addr
  d_time : FuncData
  f_number_of : Addr
  d_number_of : FuncData
  f_name_ok : Addr
  d_name_ok : FuncData
  f_value_of : Addr
  d_value_of : FuncData
  f_wrong : Addr
  d_wrong : FuncData
  f_bent : Addr
  d_bent : FuncData
  f_read_at : Addr
  d_read_at : FuncData
  f_few : Addr
  d_few : FuncData
  f_law : Addr
  d_law : FuncData
  u_LETTERS : Value
  u_FIGURES : Value
  u_NAME_SIGNS : Value
  u_WORD_SIGNS : Value
  u_MOST_SIGNS : Value
  u_MOST_FIGURES : Value
  a_KEPT_WORDS : Addr
  a_ROW_NAMES : Addr
  c_LogError : Addr
  c_BadText : Addr
  i_BadText : Addr
  j_BadText : FuncData
structure Txt (K : PySem.W.Frag) (mg : Str → Option Value) (a : Adr) : Prop where
  F_is_name : Fun K "is_name" "is_name" (top 11) a.f_is_name a.d_is_name
  m_is_name : mg "is_name" = some (.ref a.f_is_name)
  b_is_name : Binds K a.d_is_name ["text"] []
  F_is_word : Fun K "is_word" "is_word" (top 12) a.f_is_word a.d_is_word
  m_is_word : mg "is_word" = some (.ref a.f_is_word)
  b_is_word : Binds K a.d_is_word ["text"] []
  F_begins_with_letter : Fun K "begins_with_letter" "begins_with_letter" (top 13) a.f_begins_with_letter a.d_begins_with_letter
  m_begins_with_letter : mg "begins_with_letter" = some (.ref a.f_begins_with_letter)
  b_begins_with_letter : Binds K a.d_begins_with_letter ["text"] []
  F_has_only : Fun K "has_only" "has_only" (top 14) a.f_has_only a.d_has_only
  m_has_only : mg "has_only" = some (.ref a.f_has_only)
  b_has_only : Binds K a.d_has_only ["text", "signs", "most"] []
  F_value_in : Fun K "value_in" "value_in" (top 15) a.f_value_in a.d_value_in
  m_value_in : mg "value_in" = some (.ref a.f_value_in)
  b_value_in : Binds K a.d_value_in ["text"] []
  F_number_in : Fun K "number_in" "number_in" (top 16) a.f_number_in a.d_number_in
  m_number_in : mg "number_in" = some (.ref a.f_number_in)
  b_number_in : Binds K a.d_number_in ["text"] []
  F_read_row : Fun K "read_row" "read_row" (top 19) a.f_read_row a.d_read_row
  m_read_row : mg "read_row" = some (.ref a.f_read_row)
  b_read_row : Binds K a.d_read_row ["text"] []
  F_read_fields : Fun K "read_fields" "read_fields" (top 20) a.f_read_fields a.d_read_fields
  m_read_fields : mg "read_fields" = some (.ref a.f_read_fields)
  b_read_fields : Binds K a.d_read_fields ["words"] []
  F_is_field_name : Fun K "is_field_name" "is_field_name" (top 21) a.f_is_field_name a.d_is_field_name
  m_is_field_name : mg "is_field_name" = some (.ref a.f_is_field_name)
  b_is_field_name : Binds K a.d_is_field_name ["text"] []
  F_begin : Fun K "_law_begin" "_law_begin" (top 23) a.f_begin a.d_begin
  m_begin : mg "_law_begin" = some (.ref a.f_begin)
  b_begin : Binds K a.d_begin ["_law_script"] []
  F_take : Fun K "_law_take" "_law_take" (top 24) a.f_take a.d_take
  m_take : mg "_law_take" = some (.ref a.f_take)
  b_take : Binds K a.d_take ["_law_draw", "_law_many"] []
  F_of : Fun K "_law_of" "_law_of" (top 25) a.f_of a.d_of
  m_of : mg "_law_of" = some (.ref a.f_of)
  b_of : Binds K a.d_of ["_law_draw", "_law_some"] []
  F_same : Fun K "_law_same" "_law_same" (top 26) a.f_same a.d_same
  m_same : mg "_law_same" = some (.ref a.f_same)
  b_same : Binds K a.d_same ["_law_told", "_law_due"] []
  F_kept_word : Fun K "_law_kept_word" "_law_kept_word" (top 27) a.f_kept_word a.d_kept_word
  m_kept_word : mg "_law_kept_word" = some (.ref a.f_kept_word)
  b_kept_word : Binds K a.d_kept_word ["_law_text"] []
  F_letters : Fun K "_law_letters" "_law_letters" (top 28) a.f_letters a.d_letters
  m_letters : mg "_law_letters" = some (.ref a.f_letters)
  b_letters : Binds K a.d_letters ["_law_draw", "_law_signs", "_law_most"] []
  F_drawn_name : Fun K "_law_drawn_name" "_law_drawn_name" (top 29) a.f_drawn_name a.d_drawn_name
  m_drawn_name : mg "_law_drawn_name" = some (.ref a.f_drawn_name)
  b_drawn_name : Binds K a.d_drawn_name ["_law_draw"] []
  F_drawn_word : Fun K "_law_drawn_word" "_law_drawn_word" (top 30) a.f_drawn_word a.d_drawn_word
  m_drawn_word : mg "_law_drawn_word" = some (.ref a.f_drawn_word)
  b_drawn_word : Binds K a.d_drawn_word ["_law_draw"] []
  F_number : Fun K "_law_number" "_law_number" (top 31) a.f_number a.d_number
  m_number : mg "_law_number" = some (.ref a.f_number)
  b_number : Binds K a.d_number ["_law_draw"] []
  F_value : Fun K "_law_value" "_law_value" (top 32) a.f_value a.d_value
  m_value : mg "_law_value" = some (.ref a.f_value)
  b_value : Binds K a.d_value ["_law_draw", "_law_sort"] []
  F_value_text : Fun K "_law_value_text" "_law_value_text" (top 33) a.f_value_text a.d_value_text
  m_value_text : mg "_law_value_text" = some (.ref a.f_value_text)
  b_value_text : Binds K a.d_value_text ["_law_value_here"] []
  F_kinds : Fun K "_law_kinds" "_law_kinds" (top 34) a.f_kinds a.d_kinds
  m_kinds : mg "_law_kinds" = some (.ref a.f_kinds)
  b_kinds : Binds K a.d_kinds ["_law_draw"] []
  F_fields : Fun K "_law_fields" "_law_fields" (top 35) a.f_fields a.d_fields
  m_fields : mg "_law_fields" = some (.ref a.f_fields)
  b_fields : Binds K a.d_fields ["_law_draw", "_law_kinds_here"] []
  F_time : Fun K "_law_time" "_law_time" (top 36) a.f_time a.d_time
  m_time : mg "_law_time" = some (.ref a.f_time)
  b_time : Binds K a.d_time ["_law_draw"] []
  F_number_of : Fun K "_law_number_of" "_law_number_of" (top 37) a.f_number_of a.d_number_of
  m_number_of : mg "_law_number_of" = some (.ref a.f_number_of)
  b_number_of : Binds K a.d_number_of ["_law_text"] []
  F_name_ok : Fun K "_law_name_ok" "_law_name_ok" (top 38) a.f_name_ok a.d_name_ok
  m_name_ok : mg "_law_name_ok" = some (.ref a.f_name_ok)
  b_name_ok : Binds K a.d_name_ok ["_law_text"] []
  F_value_of : Fun K "_law_value_of" "_law_value_of" (top 39) a.f_value_of a.d_value_of
  m_value_of : mg "_law_value_of" = some (.ref a.f_value_of)
  b_value_of : Binds K a.d_value_of ["_law_text"] []
  F_wrong : Fun K "_law_wrong" "_law_wrong" (top 40) a.f_wrong a.d_wrong
  m_wrong : mg "_law_wrong" = some (.ref a.f_wrong)
  b_wrong : Binds K a.d_wrong ["_law_text"] []
  F_bent : Fun K "_law_bent" "_law_bent" (top 41) a.f_bent a.d_bent
  m_bent : mg "_law_bent" = some (.ref a.f_bent)
  b_bent : Binds K a.d_bent ["_law_draw", "_law_text"] []
  F_read_at : Fun K "_law_read_at" "_law_read_at" (top 42) a.f_read_at a.d_read_at
  m_read_at : mg "_law_read_at" = some (.ref a.f_read_at)
  b_read_at : Binds K a.d_read_at ["_law_text"] []
  F_few : Fun K "_law_few" "_law_few" (top 43) a.f_few a.d_few
  m_few : mg "_law_few" = some (.ref a.f_few)
  b_few : Binds K a.d_few [] []
  F_law : Fun K "law" "law" (top 44) a.f_law a.d_law
  m_law : mg "law" = some (.ref a.f_law)
  b_law : Binds K a.d_law ["_law_script"] []
  g_LETTERS : mg "LETTERS" = some a.u_LETTERS ∧ RelV (.str "abcdefghijklmnopqrstuvwxyz") a.u_LETTERS
  g_FIGURES : mg "FIGURES" = some a.u_FIGURES ∧ RelV (.str "0123456789") a.u_FIGURES
  g_NAME_SIGNS : mg "NAME_SIGNS" = some a.u_NAME_SIGNS ∧ RelV (.str "abcdefghijklmnopqrstuvwxyz_") a.u_NAME_SIGNS
  g_WORD_SIGNS : mg "WORD_SIGNS" = some a.u_WORD_SIGNS ∧ RelV (.str "abcdefghijklmnopqrstuvwxyz0123456789") a.u_WORD_SIGNS
  g_MOST_SIGNS : mg "MOST_SIGNS" = some a.u_MOST_SIGNS ∧ RelV (.int 12) a.u_MOST_SIGNS
  g_MOST_FIGURES : mg "MOST_FIGURES" = some a.u_MOST_FIGURES ∧ RelV (.int 30) a.u_MOST_FIGURES
  g_KEPT_WORDS : mg "KEPT_WORDS" = some (.ref a.a_KEPT_WORDS) ∧ RelV (.ref a.a_KEPT_WORDS) (.ref a.a_KEPT_WORDS)
  t_KEPT_WORDS : ∀ H, SqT K H a.a_KEPT_WORDS [(.str "and"), (.str "or"), (.str "not"), (.str "has"), (.str "yes"), (.str "no"), (.str "by"), (.str "up"), (.str "down"), (.str "count"), (.str "sum"), (.str "least"), (.str "most"), (.str "unlike"), (.str "all"), (.str "within")]
  g_ROW_NAMES : mg "ROW_NAMES" = some (.ref a.a_ROW_NAMES) ∧ RelV (.ref a.a_ROW_NAMES) (.ref a.a_ROW_NAMES)
  t_ROW_NAMES : ∀ H, SqT K H a.a_ROW_NAMES [(.str "time"), (.str "source"), (.str "number")]
  n_len : mg "len" = none
  n_all : mg "all" = none
  n_isinstance : mg "isinstance" = none
  n_bool : mg "bool" = none
  n_int : mg "int" = none
  n_str : mg "str" = none
  n_list : mg "list" = none
  n_dict : mg "dict" = none
  n_tuple : mg "tuple" = none
  n_range : mg "range" = none
  n_zip : mg "zip" = none
  n_sorted : mg "sorted" = none
  n_enumerate : mg "enumerate" = none
  m_LogError : mg "LogError" = some (.ref a.c_LogError)
  x_LogError : XL K a.c_LogError
  m_BadText : mg "BadText" = some (.ref a.c_BadText)
  x_BadText : XTx K a.c_BadText a.i_BadText a.j_BadText "at" "BadText.__init__" (meth 2)
  y_BadText : PySem.W.mroIn K a.c_BadText (.ref a.c_LogError) = some true
theorem sc_BadText__init : FnScope ["self", "at"] ["self", "at"] (defScope (meth 2)) := ⟨rfl, rfl, rfl, by decide +kernel, rfl, by decide +kernel, by decide +kernel⟩
theorem ok_BadText__init {P : Program} {w : World} {K : PySem.W.Frag} {mg : Str → Option Value} {base : Heap} {a : Adr} (T : Txt K mg a) : FnOk P w K mg base CX0 1 a.i_BadText a.j_BadText ["self", "at"] (spInit K "at") :=
  T.x_BadText.init sc_BadText__init fun X hN hS hK => by subst hK; exact pss_one (ps_xf (pe_var (i := 0) (by rw [hN]; rfl) (by rw [hS]; exact Or.inl rfl)) (pe_var (i := 1) (by rw [hN]; rfl) (by rw [hS]; exact Or.inl rfl)))
theorem sc_is_name : FnScope ["text"] ["text"] (defScope (top 11)) := ⟨rfl, rfl, rfl, by decide +kernel, rfl, by decide +kernel, by decide +kernel⟩
theorem sc_is_word : FnScope ["text"] ["text"] (defScope (top 12)) := ⟨rfl, rfl, rfl, by decide +kernel, rfl, by decide +kernel, by decide +kernel⟩
theorem sc_begins_with_letter : FnScope ["text"] ["text"] (defScope (top 13)) := ⟨rfl, rfl, rfl, by decide +kernel, rfl, by decide +kernel, by decide +kernel⟩
theorem sc_has_only : FnScope ["text", "signs", "most"] ["text", "signs", "most"] (defScope (top 14)) := ⟨rfl, rfl, rfl, by decide +kernel, rfl, by decide +kernel, by decide +kernel⟩
theorem sc_value_in : FnScope ["text", "word"] ["text"] (defScope (top 15)) := ⟨rfl, rfl, rfl, by decide +kernel, rfl, by decide +kernel, by decide +kernel⟩
theorem sc_number_in : FnScope ["text", "figures"] ["text"] (defScope (top 16)) := ⟨rfl, rfl, rfl, by decide +kernel, rfl, by decide +kernel, by decide +kernel⟩
theorem sc_read_row : FnScope ["text", "words", "time", "number"] ["text"] (defScope (top 19)) := ⟨rfl, rfl, rfl, by decide +kernel, rfl, by decide +kernel, by decide +kernel⟩
theorem sc_read_fields : FnScope ["words", "fields", "ahead", "at", "word", "name", "sign", "written", "value"] ["words"] (defScope (top 20)) := ⟨rfl, rfl, rfl, by decide +kernel, rfl, by decide +kernel, by decide +kernel⟩
theorem sc_is_field_name : FnScope ["text"] ["text"] (defScope (top 21)) := ⟨rfl, rfl, rfl, by decide +kernel, rfl, by decide +kernel, by decide +kernel⟩
theorem sc_begin : FnScope ["_law_script"] ["_law_script"] (defScope (top 23)) := ⟨rfl, rfl, rfl, by decide +kernel, rfl, by decide +kernel, by decide +kernel⟩
theorem sc_take : FnScope ["_law_draw", "_law_many", "_law_cell", "_law_digit", "_law_one"] ["_law_draw", "_law_many"] (defScope (top 24)) := ⟨rfl, rfl, rfl, by decide +kernel, rfl, by decide +kernel, by decide +kernel⟩
theorem sc_of : FnScope ["_law_draw", "_law_some"] ["_law_draw", "_law_some"] (defScope (top 25)) := ⟨rfl, rfl, rfl, by decide +kernel, rfl, by decide +kernel, by decide +kernel⟩
theorem sc_same : FnScope ["_law_told", "_law_due"] ["_law_told", "_law_due"] (defScope (top 26)) := ⟨rfl, rfl, rfl, by decide +kernel, rfl, by decide +kernel, by decide +kernel⟩
theorem sc_kept_word : FnScope ["_law_text", "_law_kept"] ["_law_text"] (defScope (top 27)) := ⟨rfl, rfl, rfl, by decide +kernel, rfl, by decide +kernel, by decide +kernel⟩
theorem sc_letters : FnScope ["_law_draw", "_law_signs", "_law_most"] ["_law_draw", "_law_signs", "_law_most"] (defScope (top 28)) := ⟨rfl, rfl, rfl, by decide +kernel, rfl, by decide +kernel, by decide +kernel⟩
theorem sc_drawn_name : FnScope ["_law_draw", "_law_name"] ["_law_draw"] (defScope (top 29)) := ⟨rfl, rfl, rfl, by decide +kernel, rfl, by decide +kernel, by decide +kernel⟩
theorem sc_drawn_word : FnScope ["_law_draw"] ["_law_draw"] (defScope (top 30)) := ⟨rfl, rfl, rfl, by decide +kernel, rfl, by decide +kernel, by decide +kernel⟩
theorem sc_number : FnScope ["_law_draw", "_law_fork"] ["_law_draw"] (defScope (top 31)) := ⟨rfl, rfl, rfl, by decide +kernel, rfl, by decide +kernel, by decide +kernel⟩
theorem sc_value : FnScope ["_law_draw", "_law_sort"] ["_law_draw", "_law_sort"] (defScope (top 32)) := ⟨rfl, rfl, rfl, by decide +kernel, rfl, by decide +kernel, by decide +kernel⟩
theorem sc_value_text : FnScope ["_law_value_here"] ["_law_value_here"] (defScope (top 33)) := ⟨rfl, rfl, rfl, by decide +kernel, rfl, by decide +kernel, by decide +kernel⟩
theorem sc_kinds : FnScope ["_law_draw", "_law_names", "_law_sorts"] ["_law_draw"] (defScope (top 34)) := ⟨rfl, rfl, rfl, by decide +kernel, rfl, by decide +kernel, by decide +kernel⟩
theorem sc_fields : FnScope ["_law_draw", "_law_kinds_here", "_law_names"] ["_law_draw", "_law_kinds_here"] (defScope (top 35)) := ⟨rfl, rfl, rfl, by decide +kernel, rfl, by decide +kernel, by decide +kernel⟩
theorem sc_time : FnScope ["_law_draw", "_law_fork"] ["_law_draw"] (defScope (top 36)) := ⟨rfl, rfl, rfl, by decide +kernel, rfl, by decide +kernel, by decide +kernel⟩
theorem sc_number_of : FnScope ["_law_text", "_law_figures"] ["_law_text"] (defScope (top 37)) := ⟨rfl, rfl, rfl, by decide +kernel, rfl, by decide +kernel, by decide +kernel⟩
theorem sc_name_ok : FnScope ["_law_text"] ["_law_text"] (defScope (top 38)) := ⟨rfl, rfl, rfl, by decide +kernel, rfl, by decide +kernel, by decide +kernel⟩
theorem sc_value_of : FnScope ["_law_text", "_law_inner", "_law_good"] ["_law_text"] (defScope (top 39)) := ⟨rfl, rfl, rfl, by decide +kernel, rfl, by decide +kernel, by decide +kernel⟩
theorem sc_wrong : FnScope ["_law_text", "_law_words", "_law_number_here", "_law_fields_here", "_law_last", "_law_at", "_law_name", "_law_value_here", "_law_good"] ["_law_text"] (defScope (top 40)) := ⟨rfl, rfl, rfl, by decide +kernel, rfl, by decide +kernel, by decide +kernel⟩
theorem sc_bent : FnScope ["_law_draw", "_law_text", "_law_words", "_law_fork", "_law_at", "_law_other", "_law_turned", "_law_place", "_law_sign"] ["_law_draw", "_law_text"] (defScope (top 41)) := ⟨rfl, rfl, rfl, by decide +kernel, rfl, by decide +kernel, by decide +kernel⟩
theorem sc_read_at : FnScope ["_law_text", "e"] ["_law_text"] (defScope (top 42)) := ⟨rfl, rfl, rfl, by decide +kernel, rfl, by decide +kernel, by decide +kernel⟩
theorem sc_few : FnScope ["_law_found"] [] (defScope (top 43)) := ⟨rfl, rfl, rfl, by decide +kernel, rfl, by decide +kernel, by decide +kernel⟩
theorem sc_law : FnScope ["_law_script", "_law_draw", "_law_kinds_here", "_law_turn", "_law_row", "_law_words", "_law_text", "_law_at", "_law_due", "_law_told", "_law_wrong_here", "e"] ["_law_script"] (defScope (top 44)) := ⟨rfl, rfl, rfl, by decide +kernel, rfl, by decide +kernel, by decide +kernel⟩
/-! ### plain functions -/
theorem same_new {H : Hp} {p : Addr} (h : H p = none) (o : HO) : Same H (upd H p o) := fun b u q => by rw [upd_ne (ne_of_none q h)]; exact q
theorem small {n : Nat} (h : n ≤ 1000) : n ≤ sizeLine := Nat.le_of_lt (small1000 h)
def kw : List Str := ["and", "or", "not", "has", "yes", "no", "by", "up", "down", "count", "sum", "least", "most", "unlike", "all", "within"]
def kept (x : Str) : Bool := inV (.str x) (kw.map V.str)
def isLet (c : Nat) : Bool := decide (97 ≤ c) && decide (c ≤ 122)
def isFig (c : Nat) : Bool := decide (48 ≤ c) && decide (c ≤ 57)
def sz (x : Str) : Bool := decide (1 ≤ x.length) && decide (x.length ≤ 12)
def bwl (x : Str) : Bool := match x.cps.toList with
  | [] => false
  | c :: _ => isLet c
def nsg (c : Nat) : Bool := isLet c || c == 95
def wsg (c : Nat) : Bool := isLet c || isFig c
def nameB (x : Str) : Bool := sz x && (bwl x && (x.cps.toList.all nsg && !kept x))
def wordB (x : Str) : Bool := sz x && (bwl x && x.cps.toList.all wsg)
/-- one sign in a written text -/
theorem in_small (L : List Nat) (p : Nat → Bool) (h1 : ∀ x ∈ L, x < 128) (h2 : ∀ c, 128 ≤ c → p c = false) (h3 : ((List.range 128).all fun c => decide (c ∈ L) == p c) = true) (c : Nat) : decide (c ∈ L) = p c := by
  by_cases h : c < 128
  · exact eq_of_beq (List.all_eq_true.mp h3 c (List.mem_range.mpr h))
  · rw [h2 c (by omega)]; exact decide_eq_false fun z => h (h1 c z)
theorem let_big (c : Nat) (h : 128 ≤ c) : isLet c = false := by unfold isLet; rw [decide_eq_false (show ¬ c ≤ 122 by omega), Bool.and_false]
theorem fig_big (c : Nat) (h : 128 ≤ c) : isFig c = false := by unfold isFig; rw [decide_eq_false (show ¬ c ≤ 57 by omega), Bool.and_false]
theorem let_in (c : Nat) : decide (c ∈ (("abcdefghijklmnopqrstuvwxyz" : Str)).cps.toList) = isLet c := in_small _ _ (by decide +kernel) let_big (by decide +kernel) c
theorem nsg_in (c : Nat) : decide (c ∈ (("abcdefghijklmnopqrstuvwxyz_" : Str)).cps.toList) = nsg c := in_small _ _ (by decide +kernel) (fun c h => by unfold nsg; rw [let_big c h, Bool.false_or, beq_eq_false_iff_ne]; omega) (by decide +kernel) c
theorem wsg_in (c : Nat) : decide (c ∈ (("abcdefghijklmnopqrstuvwxyz0123456789" : Str)).cps.toList) = wsg c := in_small _ _ (by decide +kernel) (fun c h => by unfold wsg; rw [let_big c h, fig_big c h]; rfl) (by decide +kernel) c
/-- 'a' <= c, c <= 'z' -/
theorem lt_sign (c d : Nat) : (([c] : List Nat) < [d]) ↔ c < d := by
  rw [List.cons_lt_cons_iff]
  simp
theorem ge_sign (c d : Nat) : (!decide (([c] : List Nat) < [d])) = decide (d ≤ c) := by
  rw [Bool.eq_iff_iff]
  simp only [Bool.not_eq_true', decide_eq_false_iff_not, decide_eq_true_eq, lt_sign]
  omega
/-- a comprehension over a text whose element is a flag by the sign -/
theorem comp_its {z : Str} {im : List (Option Nat)} {σ : St} {H : Hp} {Q : VK} {te : TE} (p : Nat → Bool) (hz : z.cps.size ≤ sizeLine)
    (he : ∀ c (R : VK), R (.bl (p c)) H → te ((inner im σ).set 0 (some (.str ⟨#[c]⟩))) H R)
    (hq : ∀ D, H D = none → Q (.ref D) (upd H D (.lst ((z.cps.toList.map p).map V.bl)))) :
    CompAt im (gName 0) tNoIf te σ Q (Its z) H := by
  have hs : z.cps.size = z.cps.toList.length := by simp
  refine ⟨fun i m ys H' => m = z.cps.size - i ∧ i ≤ z.cps.size ∧ ys = ((z.cps.toList.take i).map p).map V.bl ∧ H' = H, ⟨z.cps.size, by simp⟩, ?_⟩
  rintro i m ys H' ⟨rfl, hi, rfl, rfl⟩
  refine ⟨by rw [List.length_map, List.length_map, List.length_take]; omega, ?_⟩
  by_cases hlt : i < z.cps.size
  · refine .inr ⟨hlt, fun x H'' y => ?_⟩
    obtain ⟨e, c, hc, rfl⟩ := y
    subst e
    refine he c _ ⟨z.cps.size - (i + 1), by omega, rfl, hlt, ?_, rfl⟩
    have hc' : z.cps.toList[i]? = some c := by rw [Array.getElem?_toList]; exact hc
    rw [List.take_add_one, hc']
    simp
  · have e : i = z.cps.size := by omega
    subst e
    refine .inl ⟨rfl, fun D hD => ?_⟩
    rw [hs, List.take_length]
    exact hq D hD

section
variable {P : Program} {w : World} {K : PySem.W.Frag} {mg : Str → Option Value} {base : Heap} {a : Adr}
/-- a text goes in, a flag comes out -/
def spTB (p : Str → Bool) : Sp := fun vs H Q _ => ∃ x, vs = [.str x] ∧ x.length ≤ sizeLine ∧ ∀ H', Same H H' → Q (.bl (p x)) H'
theorem ok_begins_with_letter (T : Txt K mg a) : FnOk P w K mg base CX0 1 a.f_begins_with_letter a.d_begins_with_letter ["text"] (spTB bwl) := by
  refine T.F_begins_with_letter.ok sc_begins_with_letter (fun vs H Q E h => ?_) (fun cdv A outer s H vs Q E hr h => ?_)
  · obtain ⟨x, rfl, _⟩ := h; rfl
  obtain ⟨x, rfl, hx, q⟩ := h
  refine ⟨_, (pss_one (ps_ret (pe_and (pe_cmpR op_ne (pv 0) pe_str (nomark _)) (pe_one (pe_cmpR op_in_str (pe_ix ix_str (pv 0) pe_int (fun _ _ => rfl)) (pe_glob rfl T.g_LETTERS.1 T.g_LETTERS.2) (by with_unfolding_all rfl)))))), ?_⟩
  refine ⟨_, rfl, rfl, _, rfl, ?_⟩
  refine ite2 (fun c => ?_) (fun c => ?_)
  · have hne : x.cps.toList ≠ [] := fun e => by
      have : x = "" := by
        obtain ⟨cps⟩ := x
        have e' : cps = #[] := by simpa using e
        subst e'
        decide +kernel
      rw [this] at c
      exact absurd c (by decide +kernel)
    obtain ⟨d, r, hd⟩ : ∃ d r, x.cps.toList = d :: r := by
      cases e : x.cps.toList with
      | nil => exact absurd e hne
      | cons d r => exact ⟨d, r, rfl⟩
    refine ⟨_, rfl, x, 0, d, rfl, rfl, hx, ?_, _, _, rfl, rfl, ?_⟩
    · rw [hd]; exact atI_nat (j := 0) rfl
    · show Q (.bl (!(Builtin.Str.occurrences _ _ 0 _ 1).isEmpty)) H
      rw [PySem.StrLaws.found_one, let_in]
      have : bwl x = isLet d := by unfold bwl; rw [hd]
      rw [← this]
      exact q H (Same.refl H)
  · have e : x = "" := by
      by_cases e : x = ""
      · exact e
      · exact absurd (by simpa using e) c
    subst e
    have z := q H (Same.refl H)
    have : bwl "" = false := by decide +kernel
    rw [this] at z
    exact z
def inT (s : Str) (c : Nat) : Bool := decide (c ∈ s.cps.toList)
def spHO : Sp := fun vs H Q _ => ∃ x s n, vs = [.str x, .str s, .int n] ∧ x.length ≤ sizeLine ∧ ∀ H', Same H H' → Q (.bl (decide (1 ≤ (x.length : Int)) && (decide ((x.length : Int) ≤ n) && x.cps.toList.all (inT s)))) H'
theorem ok_has_only (T : Txt K mg a) : FnOk P w K mg base CX0 1 a.f_has_only a.d_has_only ["text", "signs", "most"] spHO := by
  refine T.F_has_only.ok sc_has_only (fun vs H Q E h => ?_) (fun cdv A outer s H vs Q E hr h => ?_)
  · obtain ⟨x, s, n, rfl, _⟩ := h; rfl
  obtain ⟨x, sg, n, rfl, hx, q⟩ := h
  refine ⟨_, (pss_one (ps_ret (pe_and (pe_chain op_le op_le pe_int (pe_callB call_len_str rfl T.n_len PySem.boot_len (pa_cons (pv 0) pa_nil)) (pv 2)) (pe_one (pe_callB (call_all rfl) rfl T.n_all (by decide +kernel) (pa_cons (pe_comp ["sign", "signs"] [none, some 1] (pi_str (pv 0)) (fun _ _ _ _ _ => (pg_name (i := 0) (show List.Nodup (["sign", "signs"] : List Str) from by decide +kernel) rfl (Or.inl rfl) (Or.inr rfl))) (fun _ _ _ _ _ => pts_nil) (fun _ _ _ _ _ => (pe_cmpR op_in_str (pv 0) (pv 1) (by with_unfolding_all rfl)))) pa_nil)))))), ?_⟩
  refine ⟨_, rfl, _, rfl, hx, _, _, rfl, rfl, _, rfl, ?_⟩
  refine ite2 (fun c => ?_) (fun c => ?_)
  · rw [c] at q
    refine ⟨_, rfl, _, _, rfl, rfl, _, rfl, ?_⟩
    refine ite2 (fun c2 => ?_) (fun c2 => ?_)
    · rw [c2] at q
      refine ⟨_, rfl, _, rfl, comp_its (inT sg) hx (fun c R hR => ?_) (fun D hD => ?_)⟩
      · refine ⟨_, rfl, _, rfl, _, _, rfl, rfl, ?_⟩
        show R (.bl (!(Builtin.Str.occurrences _ _ 0 _ 1).isEmpty)) H
        rw [PySem.StrLaws.found_one]
        exact hR
      · refine ⟨D, _, rfl, SqL.of upd_same, ?_⟩
        have z := q _ (same_new hD (.lst ((x.cps.toList.map (inT sg)).map V.bl)))
        have e : (x.cps.toList.map (inT sg)).all id = x.cps.toList.all (inT sg) := by rw [List.all_map]; rfl
        rw [e]
        exact z
    · rw [Bool.eq_false_iff.mpr c2] at q
      exact q H (Same.refl H)
  · rw [Bool.eq_false_iff.mpr c] at q
    exact ⟨_, rfl, iteF (q H (Same.refl H))⟩
theorem ok_is_word (T : Txt K mg a) : FnOk P w K mg base CX0 2 a.f_is_word a.d_is_word ["text"] (spTB wordB) := by
  refine T.F_is_word.ok sc_is_word (fun vs H Q E h => ?_) (fun cdv A outer s H vs Q E hr h => ?_)
  · obtain ⟨x, rfl, _⟩ := h; rfl
  obtain ⟨x, rfl, hx, q⟩ := h
  refine ⟨_, (pss_one (ps_ret (pe_and (pe_call (ok_begins_with_letter T) (hr.mono (by decide)) rfl T.m_begins_with_letter T.F_begins_with_letter.kp T.b_begins_with_letter .nil pass0 (pa_cons (pv 0) pa_nil)) (pe_one (pe_call (ok_has_only T) (hr.mono (by decide)) rfl T.m_has_only T.F_has_only.kp T.b_has_only .nil pass0 (pa_cons (pv 0) (pa_cons (pe_glob rfl T.g_WORD_SIGNS.1 T.g_WORD_SIGNS.2) (pa_cons (pe_glob rfl T.g_MOST_SIGNS.1 T.g_MOST_SIGNS.2) pa_nil)))))))), ?_⟩
  refine ⟨_, rfl, x, rfl, hx, fun H1 g1 => ⟨_, rfl, ?_⟩⟩
  refine ite2 (fun c => ?_) (fun c => ?_)
  · refine ⟨_, rfl, x, _, _, rfl, hx, fun H2 g2 => ?_⟩
    have z := q H2 (g1.trans g2)
    have e : wordB x = (decide (1 ≤ (x.length : Int)) && (decide ((x.length : Int) ≤ 12) && x.cps.toList.all (inT "abcdefghijklmnopqrstuvwxyz0123456789"))) := by
      unfold wordB sz
      rw [c, Bool.true_and]
      have e1 : x.cps.toList.all wsg = x.cps.toList.all (inT "abcdefghijklmnopqrstuvwxyz0123456789") := by
        congr 1; funext d; unfold inT; rw [wsg_in]
      rw [e1, Bool.and_assoc]
      congr 1
      · rw [Bool.eq_iff_iff]; simp only [decide_eq_true_eq]; omega
      · congr 1; rw [Bool.eq_iff_iff]; simp only [decide_eq_true_eq]; omega
    rw [e] at z
    exact z
  · have z := q H1 g1
    have e : wordB x = false := by unfold wordB; rw [Bool.eq_false_iff.mpr c, Bool.false_and, Bool.and_false]
    rw [e] at z
    exact z
theorem ok_is_name (T : Txt K mg a) : FnOk P w K mg base CX0 2 a.f_is_name a.d_is_name ["text"] (spTB nameB) := by
  refine T.F_is_name.ok sc_is_name (fun vs H Q E h => ?_) (fun cdv A outer s H vs Q E hr h => ?_)
  · obtain ⟨x, rfl, _⟩ := h; rfl
  obtain ⟨x, rfl, hx, q⟩ := h
  refine ⟨_, (pss_one (ps_ret (pe_and (pe_call (ok_begins_with_letter T) (hr.mono (by decide)) rfl T.m_begins_with_letter T.F_begins_with_letter.kp T.b_begins_with_letter .nil pass0 (pa_cons (pv 0) pa_nil)) (pe_and (pe_call (ok_has_only T) (hr.mono (by decide)) rfl T.m_has_only T.F_has_only.kp T.b_has_only .nil pass0 (pa_cons (pv 0) (pa_cons (pe_glob rfl T.g_NAME_SIGNS.1 T.g_NAME_SIGNS.2) (pa_cons (pe_glob rfl T.g_MOST_SIGNS.1 T.g_MOST_SIGNS.2) pa_nil)))) (pe_one (pe_cmpR op_notIn_seq (pv 0) (pe_glob rfl T.g_KEPT_WORDS.1 T.g_KEPT_WORDS.2) (by with_unfolding_all rfl))))))), ?_⟩
  refine ⟨_, rfl, x, rfl, hx, fun H1 g1 => ⟨_, rfl, ?_⟩⟩
  refine ite2 (fun c => ?_) (fun c => ?_)
  · refine ⟨_, rfl, x, _, _, rfl, hx, fun H2 g2 => ⟨_, rfl, ?_⟩⟩
    have e : (decide (1 ≤ (x.length : Int)) && (decide ((x.length : Int) ≤ 12) && x.cps.toList.all (inT "abcdefghijklmnopqrstuvwxyz_"))) = (sz x && x.cps.toList.all nsg) := by
      have e1 : x.cps.toList.all nsg = x.cps.toList.all (inT "abcdefghijklmnopqrstuvwxyz_") := by
        congr 1; funext d; unfold inT; rw [nsg_in]
      unfold sz
      rw [e1, Bool.and_assoc]
      congr 1
      · rw [Bool.eq_iff_iff]; simp only [decide_eq_true_eq]; omega
      · congr 1; rw [Bool.eq_iff_iff]; simp only [decide_eq_true_eq]; omega
    have e2 : nameB x = ((sz x && x.cps.toList.all nsg) && !kept x) := by
      unfold nameB
      rw [c, Bool.true_and, Bool.and_assoc]
    rw [e]
    rw [e2] at q
    refine ite2 (fun c2 => ?_) (fun c2 => ?_)
    · rw [c2, Bool.true_and] at q
      exact ⟨_, rfl, _, _, rfl, .inr (T.t_KEPT_WORDS H2), rfl, (by decide +kernel), q H2 (g1.trans g2)⟩
    · rw [Bool.eq_false_iff.mpr c2, Bool.false_and] at q
      exact q H2 (g1.trans g2)
  · have z := q H1 g1
    have e : nameB x = false := by unfold nameB; rw [Bool.eq_false_iff.mpr c, Bool.false_and, Bool.and_false]
    rw [e] at z
    exact z
abbrev kwT : Str := "and or not has yes no by up down count sum least most unlike all within"
theorem kw_split : Txt.split kwT " " = kw := by decide +kernel
theorem kw_parts : (Builtin.Str.partsBetween kwT (Builtin.Str.occurrences kwT " " 0 kwT.length (kwT.length + 1)) (" " : Str).length).length = 16 := by decide +kernel
theorem kw_len : kwT.length = 71 := by decide +kernel
/-- the written words, parted -/
theorem split_kw {H : Hp} {Q : VK} (q : ∀ p, H p = none → Q (.ref p) (upd H p (.lst (kw.map V.str)))) : rSplit (.str kwT) [.str " "] H Q :=
  ⟨kwT, " ", rfl, rfl, by decide +kernel, by rw [kw_len]; exact small (by decide), by rw [kw_parts]; exact small (by decide), by rw [kw_split]; exact small (by decide), by rw [kw_split]; exact q⟩
theorem ok_kept_word (T : Txt K mg a) : FnOk P w K mg base CX0 1 a.f_kept_word a.d_kept_word ["_law_text"] (spTB kept) := by
  refine T.F_kept_word.ok sc_kept_word (fun vs H Q E h => ?_) (fun cdv A outer s H vs Q E hr h => ?_)
  · obtain ⟨x, rfl, _⟩ := h; rfl
  obtain ⟨x, rfl, hx, q⟩ := h
  refine ⟨_, (pss_cons (ps_set (i := 1) sc_kept_word.nd rfl (by first | exact Or.inl rfl | exact Or.inr rfl) pe_str) (pss_one (ps_ret (pe_cmpR op_in_seq (pv 0) (pe_bm PySem.F.plainAttrs_str PySem.F.slot_str_split PySem.F.type_str_split mt_split (pv 1) (pa_cons pe_str pa_nil)) (by with_unfolding_all rfl))))), ?_⟩
  refine ⟨_, rfl, _, rfl, rfl, ?_⟩
  dsimp only [tCons, tC, tNil]
  refine split_kw fun p hp => ?_
  exact ⟨p, kw.map V.str, rfl, .inl (SqL.of upd_same), rfl, (by decide +kernel), q _ (same_new hp _)⟩
theorem chain_sign {c : Nat} : (!decide (([c] : List Nat) < [97])) = true → (!decide (([122] : List Nat) < [c])) = isLet c := by
  intro h
  rw [ge_sign] at h ⊢
  unfold isLet
  rw [h, Bool.true_and]
theorem sz_of (x : Str) : (decide (1 ≤ (x.length : Int)) && decide ((x.length : Int) ≤ 12)) = sz x := by
  unfold sz
  congr 1 <;> (rw [Bool.eq_iff_iff]; simp only [decide_eq_true_eq]; omega)
theorem not_let {c : Nat} (k : ¬ (!decide (([c] : List Nat) < [97])) = true) : isLet c = false := by
  rw [ge_sign] at k
  unfold isLet
  rw [Bool.eq_false_iff.mpr k, Bool.false_and]
theorem one_eq (c d : Nat) : decide (V.str ⟨#[c]⟩ = V.str ⟨#[d]⟩) = (c == d) := by
  rw [Bool.eq_iff_iff]
  simp
theorem last95 {σ : St} {c : Nat} {H : Hp} {R : VK} (z : R (.bl (c == 95)) H) (h0 : σ[0]? = some (some (.str ⟨#[c]⟩)) := by rfl) : tOp rEq (tVar 0) (tC (.str "_")) σ H R := by
  refine ⟨_, h0, rfl, ?_⟩
  have e : decide (V.str ⟨#[c]⟩ = V.str "_") = (c == 95) := one_eq c 95
  rw [e]; exact z
theorem ok_name_ok (T : Txt K mg a) : FnOk P w K mg base CX0 2 a.f_name_ok a.d_name_ok ["_law_text"] (spTB nameB) := by
  refine T.F_name_ok.ok sc_name_ok (fun vs H Q E h => ?_) (fun cdv A outer s H vs Q E hr h => ?_)
  · obtain ⟨x, rfl, _⟩ := h; rfl
  obtain ⟨x, rfl, hx, q⟩ := h
  refine ⟨_, (pss_cons (ps_if (PW.pt (pw_or (pt_not (pt_chain op_le op_le pe_int (pe_callB call_len_str rfl T.n_len PySem.boot_len (pa_cons (pv 0) pa_nil)) pe_int)) (pw_or (pt_val (pe_call (ok_kept_word T) (hr.mono (by decide)) rfl T.m_kept_word T.F_kept_word.kp T.b_kept_word .nil pass0 (pa_cons (pv 0) pa_nil))) (pw_or1 (pt_not (pt_chain op_le_str op_le_str pe_str (pe_ix ix_str (pv 0) pe_int (fun _ _ => rfl)) pe_str)))))) (pss_one (ps_ret pe_bl)) pss_nil) (pss_one (ps_ret (pe_callB (call_all rfl) rfl T.n_all (by decide +kernel) (pa_cons (pe_comp ["_law_sign"] [none] (pi_str (pv 0)) (fun _ _ _ _ _ => (pg_name (i := 0) (show List.Nodup (["_law_sign"] : List Str) from by decide +kernel) rfl (Or.inl rfl) (Or.inr rfl))) (fun _ _ _ _ _ => pts_nil) (fun _ _ _ _ _ => (pe_or (pe_chain op_le_str op_le_str pe_str (pv 0) pe_str) (pe_one (pe_cmpR op_eq (pv 0) pe_str (nomark _)))))) pa_nil))))), ?_⟩
  have no : ∀ {H'}, Same H H' → nameB x = false → Q (.bl false) H' := fun g e => by have z := q _ g; rw [e] at z; exact z
  refine ⟨_, rfl, _, rfl, hx, _, _, rfl, rfl, _, rfl, ?_⟩
  refine ite2 (fun c => ?_) (fun c => ?_)
  · refine ⟨_, _, rfl, rfl, _, rfl, ?_⟩
    refine ite2 (fun c2 => ?_) (fun c2 => ?_)
    · have hs : sz x = false := by
        rw [← sz_of, c, Bool.true_and]; simpa using c2
      exact no (Same.refl H) (by unfold nameB; rw [hs, Bool.false_and])
    · have hs : sz x = true := by
        rw [← sz_of, c, Bool.true_and]; simpa using c2
      refine ⟨_, rfl, x, rfl, hx, fun H1 g1 => ⟨_, rfl, ?_⟩⟩
      refine ite2 (fun c3 => ?_) (fun c3 => ?_)
      · exact no g1 (by unfold nameB; rw [c3]; simp)
      · have hk : kept x = false := Bool.eq_false_iff.mpr c3
        obtain ⟨d, r, hd⟩ : ∃ d r, x.cps.toList = d :: r := by
          cases e : x.cps.toList with
          | nil =>
            have hl : x.length = 0 := by
              have : x.cps.size = x.cps.toList.length := by simp
              show x.cps.size = 0
              rw [this, e]; rfl
            unfold sz at hs; rw [hl] at hs; exact absurd hs (by decide)
          | cons d r => exact ⟨d, r, rfl⟩
        have hb : bwl x = isLet d := by unfold bwl; rw [hd]
        refine ⟨_, rfl, x, 0, d, rfl, rfl, hx, by rw [hd]; exact atI_nat (j := 0) rfl, _, _, rfl, rfl, _, rfl, ?_⟩
        refine ite2 (fun c4 => ?_) (fun c4 => ?_)
        · refine ⟨_, _, rfl, rfl, _, rfl, ?_⟩
          have e4 : (!decide (([122] : List Nat) < [d])) = isLet d := chain_sign c4
          have e5 : (!decide ((("z" : Str)).cps.toList < ((⟨#[d]⟩ : Str)).cps.toList)) = isLet d := e4
          rw [e5]
          refine ite2 (fun c5 => ?_) (fun c5 => ?_)
          · have : isLet d = false := by simpa using c5
            exact no g1 (by unfold nameB; rw [hb, this]; simp)
          · have hl : isLet d = true := by simpa using c5
            refine ⟨_, rfl, _, rfl, comp_its nsg hx (fun c R hR => ?_) (fun D hD => ?_)⟩
            · refine ⟨_, rfl, _, _, rfl, rfl, _, rfl, ?_⟩
              have z : R (.bl (isLet c || c == 95)) H1 := hR
              refine ite2 (fun k => ?_) (fun k => ?_)
              · refine ⟨_, _, rfl, rfl, _, rfl, ?_⟩
                have k1 : (!decide ((("z" : Str)).cps.toList < ((⟨#[c]⟩ : Str)).cps.toList)) = isLet c := chain_sign k
                rw [k1]
                refine ite2 (fun k2 => ?_) (fun k2 => ?_)
                · rw [k2, Bool.true_or] at z; exact z
                · rw [Bool.eq_false_iff.mpr k2, Bool.false_or] at z
                  exact last95 z
              · have k1 : isLet c = false := not_let k
                rw [k1, Bool.false_or] at z
                exact ⟨_, rfl, iteF (last95 z)⟩
            · refine ⟨D, _, rfl, SqL.of upd_same, ?_⟩
              have e : (x.cps.toList.map nsg).all id = x.cps.toList.all nsg := by rw [List.all_map]; rfl
              rw [e]
              have z := q _ (g1.trans (same_new hD (.lst ((x.cps.toList.map nsg).map V.bl))))
              have e6 : nameB x = x.cps.toList.all nsg := by unfold nameB; rw [hs, hb, hl, hk]; simp
              rw [e6] at z
              exact z
        · have : isLet d = false := by
            unfold isLet
            have c4' : ¬ (!decide (([d] : List Nat) < [97])) = true := c4
            rw [ge_sign] at c4'
            rw [Bool.eq_false_iff.mpr c4', Bool.false_and]
          exact ⟨_, rfl, iteT (no g1 (by unfold nameB; rw [hb, this]; simp))⟩
  · have hs : sz x = false := by rw [← sz_of, Bool.eq_false_iff.mpr c, Bool.false_and]
    exact ⟨_, rfl, iteT (no (Same.refl H) (by unfold nameB; rw [hs, Bool.false_and]))⟩
theorem lastFig {σ : St} {c : Nat} {H : Hp} {R : VK} (z : R (.bl (isFig c)) H) (h0 : σ[0]? = some (some (.str ⟨#[c]⟩)) := by rfl) :
    tChain (fun x y H Q => ∃ i j, x = .str i ∧ y = .str j ∧ Q (.bl (!decide (j.cps.toList < i.cps.toList))) H) (fun x y H Q => ∃ i j, x = .str i ∧ y = .str j ∧ Q (.bl (!decide (j.cps.toList < i.cps.toList))) H) (tC (.str "0")) (tVar 0) (tC (.str "9")) σ H R := by
  refine ⟨_, h0, _, _, rfl, rfl, _, rfl, ?_⟩
  refine ite2 (fun k => ?_) (fun k => ?_)
  · refine ⟨_, _, rfl, rfl, ?_⟩
    have k' : (!decide (([c] : List Nat) < [48])) = true := k
    have e : (!decide ((("9" : Str)).cps.toList < ((⟨#[c]⟩ : Str)).cps.toList)) = isFig c := by
      show (!decide (([57] : List Nat) < [c])) = isFig c
      rw [ge_sign] at k' ⊢
      unfold isFig
      rw [k', Bool.true_and]
    rw [e]; exact z
  · have k' : ¬ (!decide (([c] : List Nat) < [48])) = true := k
    have e : isFig c = false := by
      rw [ge_sign] at k'
      unfold isFig
      rw [Bool.eq_false_iff.mpr k', Bool.false_and]
    rw [e] at z
    exact z
end

end My

set_option Elab.async false
set_option linter.all false
set_option maxRecDepth 100000
set_option maxHeartbeats 4000000
namespace My
open PySem L2
/-! ### the draw -/
def Drw (H : Hp) (d : Addr) : Prop := ∃ (l : Addr) (ns : List Int) (p c s : Int), H d = some (.lst [.ref l, .int p, .int c, .int s]) ∧ H l = some (.lst (ns.map V.int)) ∧ 0 ≤ p ∧ 0 ≤ s ∧ s < 2305843009213693951
structure Ev (d : Addr) (H H' : Hp) : Prop where
  same : ∀ b o, b ≠ d → H b = some o → H' b = some o
  drw : Drw H' d
theorem Ev.trans {d : Addr} {H H1 H2 : Hp} (e1 : Ev d H H1) (e2 : Ev d H1 H2) : Ev d H H2 := ⟨fun b o hb e => e2.same b o hb (e1.same b o hb e), e2.drw⟩
theorem Ev.refl {d : Addr} {H : Hp} (h : Drw H d) : Ev d H H := ⟨fun _ _ _ e => e, h⟩
theorem Drw.keep {d : Addr} {H H' : Hp} (h : Drw H d) (g : Same H H') : Drw H' d := by
  obtain ⟨l, ns, p, c, s, h1, h2, r⟩ := h
  exact ⟨l, ns, p, c, s, g _ _ h1, g _ _ h2, r⟩
theorem Ev.of {d : Addr} {H H' : Hp} (h : Drw H d) (g : Same H H') : Ev d H H' := ⟨fun b o _ e => g b o e, h.keep g⟩
theorem Ev.then {d : Addr} {H H1 H2 : Hp} (e : Ev d H H1) (g : Same H1 H2) : Ev d H H2 := e.trans (Ev.of e.drw g)
theorem Drw.some {d : Addr} {H : Hp} (h : Drw H d) : ∃ xs, H d = some (.lst xs) := by obtain ⟨l, ns, p, c, s, h1, _⟩ := h; exact ⟨_, h1⟩
theorem Drw.ne_of_none {d b : Addr} {H : Hp} (h : Drw H d) (hb : H b = Option.none) : b ≠ d := fun z => by
  obtain ⟨xs, e⟩ := h.some
  rw [z, e] at hb; cases hb
/-- an item of a list at a written place -/
theorem ixd {K : PySem.W.Frag} {σ : St} {H : Hp} {Q : VK} {d : Addr} {xs : List V} {i : Nat} (k : Nat) {v : V} (hσ : σ[i]? = some (some (.ref d))) (hd : H d = some (.lst xs)) (hk : xs[k]? = some v) (q : Q v H) : tOp (rIxL K) (tVar i) (tC (.int (k : Nat))) σ H Q :=
  ⟨_, hσ, d, xs, _, v, rfl, rfl, SqL.of hd, atI_nat hk, q⟩
def spTake : Sp := fun vs H Q _ => ∃ (d : Addr) (m : Int), vs = [.ref d, .int m] ∧ Drw H d ∧ 1 ≤ m ∧ m < 2 ^ 200 ∧ ∀ r H', 0 ≤ r → r < m → Ev d H H' → Q (.int r) H'
section
variable {P : Program} {w : World} {K : PySem.W.Frag} {mg : Str → Option Value} {base : Heap} {a : Adr}
theorem ok_take (T : Txt K mg a) : FnOk P w K mg base CX0 1 a.f_take a.d_take ["_law_draw", "_law_many"] spTake := by
  refine T.F_take.ok sc_take (fun vs H Q E h => ?_) (fun cdv A outer s H vs Q E hr h => ?_)
  · obtain ⟨x, s, rfl, _⟩ := h; rfl
  obtain ⟨d, m, rfl, hD, hm1, hm2, q⟩ := h
  obtain ⟨l, ns, p, c, s0, hd, hl, hp, hs0, hs1⟩ := hD
  have hld : l ≠ d := fun z => by
    subst z
    rw [hd] at hl
    cases ns with
    | nil => cases hl
    | cons n ns => injection hl with hl; injection hl with hl; injection hl with h1 _; cases h1
  refine ⟨_, (pss_cons (ps_if (PW.pt (pw_and (pt_cmpR op_lt (pe_ix ix_list (pv 0) pe_int (fun _ _ => rfl)) (pv 1) (nomark _)) (pw_and1 (pt_cmpR op_lt (pe_ix ix_list (pv 0) pe_int (fun _ _ => rfl)) (pe_callB call_len rfl T.n_len PySem.boot_len (pa_cons (pe_ix ix_list (pv 0) pe_int (fun _ _ => rfl)) pa_nil)) (nomark _))))) (pss_cons (ps_set (i := 2) sc_take.nd rfl (by first | exact Or.inl rfl | exact Or.inr rfl) (pe_ix ix_seq (pe_ix ix_list (pv 0) pe_int (fun _ _ => rfl)) (pe_ix ix_list (pv 0) pe_int (fun _ _ => rfl)) (fun _ _ => rfl))) (pss_cons (ps_asg (pe_op op_add (pe_ix ix_list (pv 0) pe_int (fun _ _ => rfl)) pe_int) (pg_sub (pv 0) pe_int set_list)) (pss_cons (ps_asg pe_int (pg_sub (pv 0) pe_int set_list)) (pss_cons (ps_if (pt_cmpR op_ge (pv 2) (pe_op op_pow pe_int pe_int) (nomark _)) (pss_one (ps_asg (pv 2) (pg_sub (pv 0) pe_int set_list))) pss_nil) (pss_one (ps_asg (pe_op op_mod (pe_op op_add (pe_op op_add (pe_op op_mul (pe_ix ix_list (pv 0) pe_int (fun _ _ => rfl)) pe_int) (pe_op op_mul (pv 2) pe_int)) (pe_ix ix_list (pv 0) pe_int (fun _ _ => rfl))) pe_int) (pg_sub (pv 0) pe_int set_list))))))) pss_nil) (pss_cons (ps_if (pt_cmpR op_ge (pe_ix ix_list (pv 0) pe_int (fun _ _ => rfl)) (pv 1) (nomark _)) (pss_cons (ps_set (i := 3) sc_take.nd rfl (by first | exact Or.inl rfl | exact Or.inr rfl) (pe_op op_mod (pe_ix ix_list (pv 0) pe_int (fun _ _ => rfl)) (pv 1))) (pss_cons (ps_asg (pe_op op_fdivB (pe_ix ix_list (pv 0) pe_int (fun _ _ => rfl)) (pv 1)) (pg_sub (pv 0) pe_int set_list)) (pss_one (ps_ret (pv 3))))) pss_nil) (pss_cons (ps_set (i := 4) sc_take.nd rfl (by first | exact Or.inl rfl | exact Or.inr rfl) (pe_op op_mod (pe_op op_mul (pe_ix ix_list (pv 0) pe_int (fun _ _ => rfl)) (pe_ix ix_list (pv 0) pe_int (fun _ _ => rfl))) pe_int)) (pss_cons (ps_asg (pe_op op_mod (pe_op op_add (pe_op op_add (pe_op op_mul (pv 4) pe_int) (pe_op op_mul (pe_ix ix_list (pv 0) pe_int (fun _ _ => rfl)) pe_int)) pe_int) pe_int) (pg_sub (pv 0) pe_int set_list)) (pss_one (ps_ret (pe_op op_mod (pe_op op_fdivB (pe_ix ix_list (pv 0) pe_int (fun _ _ => rfl)) pe_int) (pv 1)))))))), ?_⟩
  refine ixd 2 rfl hd rfl ⟨_, rfl, _, _, rfl, rfl, _, rfl, ?_⟩
  refine ite2 (fun c1 => ?_) (fun c1 => ?_)
  · refine ixd 1 rfl hd rfl (ixd 0 rfl hd rfl ⟨_, _, rfl, .inl ⟨_, SqL.of hl, rfl⟩, _, _, rfl, rfl, _, rfl, ?_⟩)
    refine ite2 (fun c2 => ?_) (fun c2 => ?_)
    · have c2' : p < (ns.map V.int).length := of_decide_eq_true c2
      rw [List.length_map] at c2'
      obtain ⟨cell, hcell⟩ : ∃ v, ns[p.toNat]? = some v := ⟨ns[p.toNat]'(by omega), List.getElem?_eq_getElem _⟩
      have hat : atI (ns.map V.int) p = some (.int cell) := by
        have z : atI (ns.map V.int) ((p.toNat : Nat) : Int) = some (.int cell) := atI_nat (by rw [List.getElem?_map, hcell]; rfl)
        have e : ((p.toNat : Nat) : Int) = p := by omega
        rw [e] at z; exact z
      refine ixd 0 rfl hd rfl (ixd 1 rfl hd rfl (.inl ⟨l, _, _, _, rfl, rfl, SqL.of hl, hat, ?_⟩))
      refine ixd 1 rfl hd rfl ⟨_, _, rfl, rfl, _, rfl, d, _, _, 1, rfl, rfl, hd, rfl, ?_⟩
      refine ⟨_, rfl, d, _, _, 2, rfl, rfl, upd_same, rfl, ?_⟩
      refine ⟨_, rfl, _, _, rfl, rfl, ⟨by decide, by decide, by decide⟩, _, _, rfl, rfl, _, rfl, ?_⟩
      refine ite2 (fun c3 => ?_) (fun c3 => ?_)
      · refine ⟨_, rfl, _, rfl, d, _, _, 2, rfl, rfl, upd_same, rfl, ?_⟩
        refine ixd 3 rfl upd_same rfl ⟨_, _, rfl, rfl, .inr ⟨by decide, by decide⟩, _, rfl, _, _, rfl, rfl, .inr ⟨by decide, by decide⟩, _, _, rfl, rfl, ixd 1 rfl upd_same rfl ⟨_, _, rfl, rfl, _, _, rfl, rfl, (show (0 : Int) < 2305843009213693951 by decide), ?_⟩⟩
        refine ⟨_, rfl, d, _, _, 3, rfl, rfl, upd_same, rfl, ?_⟩
        refine ixd 2 rfl upd_same rfl ⟨_, rfl, _, _, rfl, rfl, _, rfl, ?_⟩
        refine ite2 (fun k1 => ?_) (fun k1 => ?_)
        · refine ixd 2 rfl upd_same rfl ⟨_, rfl, _, _, rfl, rfl, (show 0 < m by omega), ?_⟩
          refine ixd 2 rfl upd_same rfl ⟨_, rfl, _, _, rfl, rfl, (show CDivB _ m from ⟨by omega, hm2⟩), _, rfl, d, _, _, 2, rfl, rfl, upd_same, rfl, ?_⟩
          refine ⟨_, rfl, q _ _ (Int.emod_nonneg _ (by omega)) (Int.emod_lt_of_pos _ (by omega)) ⟨fun b o hb e => by simp only [upd_ne hb]; exact e, l, ns, _, _, _, upd_same, by simp only [upd_ne hld]; exact hl, by omega, by omega, by omega⟩⟩
        · refine ixd 3 rfl upd_same rfl (ixd 3 rfl upd_same rfl ⟨_, _, rfl, rfl, .inl ⟨by omega, by omega⟩, _, _, rfl, rfl, (show (0 : Int) < 2305843009213693951 by decide), ?_⟩)
          refine ⟨_, rfl, _, _, rfl, rfl, .inr ⟨by decide, by decide⟩, ixd 3 rfl upd_same rfl ⟨_, _, rfl, rfl, .inr ⟨by decide, by decide⟩, _, _, rfl, rfl, _, _, rfl, rfl, _, _, rfl, rfl, (show (0 : Int) < 2305843009213693951 by decide), ?_⟩⟩
          refine ⟨_, rfl, d, _, _, 3, rfl, rfl, upd_same, rfl, ?_⟩
          refine ixd 3 rfl upd_same rfl ⟨_, _, rfl, rfl, (show CDivB _ 1021 from ⟨by decide, by decide⟩), _, rfl, _, _, rfl, rfl, (show 0 < m by omega), ?_⟩
          exact q _ _ (Int.emod_nonneg _ (by omega)) (Int.emod_lt_of_pos _ (by omega)) ⟨fun b o hb e => by simp only [upd_ne hb]; exact e, l, ns, _, _, _, upd_same, by simp only [upd_ne hld]; exact hl, by omega, by omega, by omega⟩
      · refine ixd 3 rfl upd_same rfl ⟨_, _, rfl, rfl, .inr ⟨by decide, by decide⟩, _, rfl, _, _, rfl, rfl, .inr ⟨by decide, by decide⟩, _, _, rfl, rfl, ixd 1 rfl upd_same rfl ⟨_, _, rfl, rfl, _, _, rfl, rfl, (show (0 : Int) < 2305843009213693951 by decide), ?_⟩⟩
        refine ⟨_, rfl, d, _, _, 3, rfl, rfl, upd_same, rfl, ?_⟩
        refine ixd 2 rfl upd_same rfl ⟨_, rfl, _, _, rfl, rfl, _, rfl, ?_⟩
        refine ite2 (fun k1 => ?_) (fun k1 => ?_)
        · refine ixd 2 rfl upd_same rfl ⟨_, rfl, _, _, rfl, rfl, (show 0 < m by omega), ?_⟩
          refine ixd 2 rfl upd_same rfl ⟨_, rfl, _, _, rfl, rfl, (show CDivB _ m from ⟨by omega, hm2⟩), _, rfl, d, _, _, 2, rfl, rfl, upd_same, rfl, ?_⟩
          refine ⟨_, rfl, q _ _ (Int.emod_nonneg _ (by omega)) (Int.emod_lt_of_pos _ (by omega)) ⟨fun b o hb e => by simp only [upd_ne hb]; exact e, l, ns, _, _, _, upd_same, by simp only [upd_ne hld]; exact hl, by omega, by omega, by omega⟩⟩
        · refine ixd 3 rfl upd_same rfl (ixd 3 rfl upd_same rfl ⟨_, _, rfl, rfl, .inl ⟨by omega, by omega⟩, _, _, rfl, rfl, (show (0 : Int) < 2305843009213693951 by decide), ?_⟩)
          refine ⟨_, rfl, _, _, rfl, rfl, .inr ⟨by decide, by decide⟩, ixd 3 rfl upd_same rfl ⟨_, _, rfl, rfl, .inr ⟨by decide, by decide⟩, _, _, rfl, rfl, _, _, rfl, rfl, _, _, rfl, rfl, (show (0 : Int) < 2305843009213693951 by decide), ?_⟩⟩
          refine ⟨_, rfl, d, _, _, 3, rfl, rfl, upd_same, rfl, ?_⟩
          refine ixd 3 rfl upd_same rfl ⟨_, _, rfl, rfl, (show CDivB _ 1021 from ⟨by decide, by decide⟩), _, rfl, _, _, rfl, rfl, (show 0 < m by omega), ?_⟩
          exact q _ _ (Int.emod_nonneg _ (by omega)) (Int.emod_lt_of_pos _ (by omega)) ⟨fun b o hb e => by simp only [upd_ne hb]; exact e, l, ns, _, _, _, upd_same, by simp only [upd_ne hld]; exact hl, by omega, by omega, by omega⟩
    · refine ixd 2 rfl hd rfl ⟨_, rfl, _, _, rfl, rfl, _, rfl, ?_⟩
      refine ite2 (fun k1 => ?_) (fun k1 => ?_)
      · refine ixd 2 rfl hd rfl ⟨_, rfl, _, _, rfl, rfl, (show 0 < m by omega), ?_⟩
        refine ixd 2 rfl hd rfl ⟨_, rfl, _, _, rfl, rfl, (show CDivB _ m from ⟨by omega, hm2⟩), _, rfl, d, _, _, 2, rfl, rfl, hd, rfl, ?_⟩
        refine ⟨_, rfl, q _ _ (Int.emod_nonneg _ (by omega)) (Int.emod_lt_of_pos _ (by omega)) ⟨fun b o hb e => by simp only [upd_ne hb]; exact e, l, ns, _, _, _, upd_same, by simp only [upd_ne hld]; exact hl, by omega, by omega, by omega⟩⟩
      · refine ixd 3 rfl hd rfl (ixd 3 rfl hd rfl ⟨_, _, rfl, rfl, .inl ⟨by omega, by omega⟩, _, _, rfl, rfl, (show (0 : Int) < 2305843009213693951 by decide), ?_⟩)
        refine ⟨_, rfl, _, _, rfl, rfl, .inr ⟨by decide, by decide⟩, ixd 3 rfl hd rfl ⟨_, _, rfl, rfl, .inr ⟨by decide, by decide⟩, _, _, rfl, rfl, _, _, rfl, rfl, _, _, rfl, rfl, (show (0 : Int) < 2305843009213693951 by decide), ?_⟩⟩
        refine ⟨_, rfl, d, _, _, 3, rfl, rfl, hd, rfl, ?_⟩
        refine ixd 3 rfl upd_same rfl ⟨_, _, rfl, rfl, (show CDivB _ 1021 from ⟨by decide, by decide⟩), _, rfl, _, _, rfl, rfl, (show 0 < m by omega), ?_⟩
        exact q _ _ (Int.emod_nonneg _ (by omega)) (Int.emod_lt_of_pos _ (by omega)) ⟨fun b o hb e => by simp only [upd_ne hb]; exact e, l, ns, _, _, _, upd_same, by simp only [upd_ne hld]; exact hl, by omega, by omega, by omega⟩
  · refine ixd 2 rfl hd rfl ⟨_, rfl, _, _, rfl, rfl, _, rfl, ?_⟩
    refine ite2 (fun k1 => ?_) (fun k1 => ?_)
    · refine ixd 2 rfl hd rfl ⟨_, rfl, _, _, rfl, rfl, (show 0 < m by omega), ?_⟩
      refine ixd 2 rfl hd rfl ⟨_, rfl, _, _, rfl, rfl, (show CDivB _ m from ⟨by omega, hm2⟩), _, rfl, d, _, _, 2, rfl, rfl, hd, rfl, ?_⟩
      refine ⟨_, rfl, q _ _ (Int.emod_nonneg _ (by omega)) (Int.emod_lt_of_pos _ (by omega)) ⟨fun b o hb e => by simp only [upd_ne hb]; exact e, l, ns, _, _, _, upd_same, by simp only [upd_ne hld]; exact hl, by omega, by omega, by omega⟩⟩
    · refine ixd 3 rfl hd rfl (ixd 3 rfl hd rfl ⟨_, _, rfl, rfl, .inl ⟨by omega, by omega⟩, _, _, rfl, rfl, (show (0 : Int) < 2305843009213693951 by decide), ?_⟩)
      refine ⟨_, rfl, _, _, rfl, rfl, .inr ⟨by decide, by decide⟩, ixd 3 rfl hd rfl ⟨_, _, rfl, rfl, .inr ⟨by decide, by decide⟩, _, _, rfl, rfl, _, _, rfl, rfl, _, _, rfl, rfl, (show (0 : Int) < 2305843009213693951 by decide), ?_⟩⟩
      refine ⟨_, rfl, d, _, _, 3, rfl, rfl, hd, rfl, ?_⟩
      refine ixd 3 rfl upd_same rfl ⟨_, _, rfl, rfl, (show CDivB _ 1021 from ⟨by decide, by decide⟩), _, rfl, _, _, rfl, rfl, (show 0 < m by omega), ?_⟩
      exact q _ _ (Int.emod_nonneg _ (by omega)) (Int.emod_lt_of_pos _ (by omega)) ⟨fun b o hb e => by simp only [upd_ne hb]; exact e, l, ns, _, _, _, upd_same, by simp only [upd_ne hld]; exact hl, by omega, by omega, by omega⟩
end

end My

set_option Elab.async false
set_option linter.all false
set_option maxRecDepth 100000
set_option maxHeartbeats 4000000
namespace My
open PySem L2
/-! ### texts: lengths -/
theorem slice_len (x : Str) (l u : Option Int) : (Txt.slice x l u).length ≤ x.length := by
  unfold Txt.slice
  split
  · exact Nat.le_refl _
  · show (List.toArray _).size ≤ _
    rw [List.size_toArray]
    exact Nat.le_trans (List.length_filterMap_le _ _) (sliceIndices_le _ _ _)
theorem glue_size (ys : List Str) : ∀ (acc : Array Nat), (ys.foldl (fun acc p => acc ++ ("" : Str).cps ++ p.cps) acc).size = acc.size + (ys.map (·.length)).sum := by
  have e0 : ("" : Str).cps.size = 0 := by decide +kernel
  induction ys with
  | nil => intro acc; simp
  | cons y ys ih =>
    intro acc
    rw [List.foldl_cons, ih, Array.size_append, Array.size_append, e0, List.map_cons, List.sum_cons]
    show acc.size + 0 + y.cps.size + _ = acc.size + (y.cps.size + _)
    omega
theorem join_len (ys : List Str) : (Txt.join "" ys).length = (ys.map (·.length)).sum := by
  unfold Txt.join Builtin.Str.glued
  show (List.foldl _ _ _ : Array Nat).size = _
  cases ys with
  | nil => decide +kernel
  | cons y ys =>
    rw [List.drop_succ_cons, List.drop_zero, glue_size, List.headD_cons, List.map_cons, List.sum_cons]
    rfl
theorem sum_ge : ∀ (ys : List Str), (∀ y ∈ ys, y.length = 1) → (ys.map (·.length)).sum = ys.length
  | [], _ => rfl
  | y :: ys, h => by
    rw [List.map_cons, List.sum_cons, List.length_cons, sum_ge ys fun z hz => h z (List.mem_cons_of_mem _ hz), h y List.mem_cons_self]
    omega
theorem cat_len (x y : Str) : (x ++ y).length = x.length + y.length := by
  show (x.cps ++ y.cps).size = x.cps.size + y.cps.size
  rw [Array.size_append]
/-- a comprehension over a range -/
theorem comp_rng {im : List (Option Nat)} {σ : St} {H : Hp} {Q : VK} {te : TE} {n : Nat} {lo : Int} (R : Nat → List V → Hp → Prop) (h0 : R 0 [] H) (hlen : ∀ i ys H', i ≤ n → R i ys H' → ys.length ≤ sizeLine)
    (he : ∀ i ys H', i < n → R i ys H' → te ((inner im σ).set 0 (some (.int (lo + i)))) H' fun y H'' => R (i + 1) (ys ++ [y]) H'')
    (mono : ∀ σ' H' (Q1 Q2 : VK), (∀ v H'', Q1 v H'' → Q2 v H'') → te σ' H' Q1 → te σ' H' Q2)
    (hq : ∀ ys H', R n ys H' → ∀ D, H' D = none → Q (.ref D) (upd H' D (.lst ys))) : CompAt im (gName 0) tNoIf te σ Q (Itr lo n) H := by
  refine ⟨fun i m ys H' => m = n - i ∧ i ≤ n ∧ R i ys H', ⟨n, by simp, Nat.zero_le _, h0⟩, ?_⟩
  rintro i m ys H' ⟨rfl, hi, r⟩
  refine ⟨hlen i ys H' hi r, ?_⟩
  by_cases hlt : i < n
  · refine .inr ⟨hlt, fun x H'' y => ?_⟩
    obtain ⟨e, rfl⟩ := y
    subst e
    exact mono _ _ _ _ (fun v H3 z => ⟨n - (i + 1), by omega, rfl, hlt, z⟩) (he i ys _ hlt r)
  · have e : i = n := by omega
    subst e
    exact .inl ⟨Nat.le_refl _, hq ys H' r⟩
section
variable {P : Program} {w : World} {K : PySem.W.Frag} {mg : Str → Option Value} {base : Heap} {a : Adr}
def spBegin : Sp := fun vs H Q _ => ∃ (b : Addr) (ns : List Int), vs = [.ref b] ∧ SqL K H b (ns.map V.int) ∧ ns.length ≤ 63 ∧ ∀ d H', H d = none → Same H H' → Drw H' d → Q (.ref d) H'
theorem ok_begin (T : Txt K mg a) : FnOk P w K mg base CX0 1 a.f_begin a.d_begin ["_law_script"] (spBegin (K := K)) := by
  refine T.F_begin.ok sc_begin (fun vs H Q E h => ?_) (fun cdv A outer s H vs Q E hr h => ?_)
  · obtain ⟨x, s, rfl, _⟩ := h; rfl
  obtain ⟨b, ns, rfl, hb, hn, q⟩ := h
  refine ⟨_, (pss_one (ps_ret (pe_lst (pa_cons (pe_callTy call_list_of rfl T.n_list (by decide +kernel) (pa_cons (pe_slice sl_list (pv 0) po_none (po_some pe_int)) pa_nil)) (pa_cons pe_int (pa_cons pe_int (pa_cons pe_int pa_nil))))))), ?_⟩
  refine ⟨_, rfl, _, rfl, b, _, rfl, hb, fun p hp => ⟨p, _, rfl, .inl (SqL.of upd_same), fun l hl => ?_⟩⟩
  refine ⟨small (n := 4) (by decide), fun d hd => ?_⟩
  have hcut : ∃ ms : List Int, cutV (ns.map V.int) none (some 63) = ms.map V.int := by
    unfold cutV
    exact ⟨_, by rw [← List.map_drop, ← List.map_take]⟩
  obtain ⟨ms, hms⟩ := hcut
  have g1 := same_new hp (.lst (cutV (ns.map V.int) none (some 63)))
  have g2 := same_new hl (.lst (cutV (ns.map V.int) none (some 63)))
  have g3 := same_new hd (.lst [.ref l, .int 0, .int 0, .int 41])
  have hdl : l ≠ d := fun z => by subst z; rw [upd_same] at hd; cases hd
  refine q d _ ((g1.trans g2).free hd) ((g1.trans g2).trans g3) ⟨l, ms, 0, 0, 41, upd_same, ?_, by decide, by decide, by decide⟩
  rw [upd_ne hdl, upd_same, hms]
def spOf : Sp := fun vs H Q _ => ∃ (d : Addr) (y : V), vs = [.ref d, y] ∧ Drw H d ∧
  ((∃ z : Str, y = .str z ∧ 1 ≤ z.length ∧ z.length ≤ 1000 ∧ ∀ c H', Ev d H H' → c ∈ z.cps.toList → Q (.str ⟨#[c]⟩) H') ∨
   (∃ b xs, y = .ref b ∧ b ≠ d ∧ H b = some (.lst xs) ∧ 1 ≤ xs.length ∧ xs.length ≤ 1000 ∧ ∀ v H', Ev d H H' → v ∈ xs → Q v H'))
theorem atI_of {α : Type} {xs : List α} {r : Int} (h0 : 0 ≤ r) (h1 : r < xs.length) : ∃ v, atI xs r = some v ∧ v ∈ xs := by
  have hk : r.toNat < xs.length := by omega
  refine ⟨xs[r.toNat], ?_, List.getElem_mem hk⟩
  have z : atI xs ((r.toNat : Nat) : Int) = some xs[r.toNat] := atI_nat (List.getElem?_eq_getElem hk)
  have e : ((r.toNat : Nat) : Int) = r := by omega
  rw [e] at z; exact z
theorem lt200 {n : Nat} (h : n ≤ 1000) : (n : Int) < 2 ^ 200 := Int.lt_of_le_of_lt (b := 1000) (by omega) (by decide)
theorem ok_of (T : Txt K mg a) : FnOk P w K mg base CX0 2 a.f_of a.d_of ["_law_draw", "_law_some"] spOf := by
  refine T.F_of.ok sc_of (fun vs H Q E h => ?_) (fun cdv A outer s H vs Q E hr h => ?_)
  · obtain ⟨x, s, rfl, _⟩ := h; rfl
  obtain ⟨d, y, rfl, hD, h⟩ := h
  refine ⟨_, (pss_one (ps_ret (pe_ix ix_seq (pv 1) (pe_call (ok_take T) (hr.mono (by decide)) rfl T.m_take T.F_take.kp T.b_take .nil pass0 (pa_cons (pv 0) (pa_cons (pe_callB call_len rfl T.n_len PySem.boot_len (pa_cons (pv 1) pa_nil)) pa_nil))) (fun _ _ => rfl)))), ?_⟩
  rcases h with ⟨z, rfl, h1, h2, q⟩ | ⟨b, xs, rfl, hbd, hb, h1, h2, q⟩
  · refine ⟨_, rfl, _, rfl, _, rfl, _, _, rfl, ⟨small h2, rfl⟩, d, _, rfl, hD, by omega, lt200 h2, fun r H' r0 r1 ev => .inr (.inr ?_)⟩
    obtain ⟨c, hc, hm⟩ := atI_of (xs := z.cps.toList) r0 (by have : z.cps.toList.length = z.length := by simp [Str.length]
                                                             omega)
    exact ⟨z, r, c, rfl, rfl, small h2, hc, q c H' ev hm⟩
  · refine ⟨_, rfl, _, rfl, _, rfl, _, _, rfl, .inl ⟨_, SqL.of hb, rfl⟩, d, _, rfl, hD, by omega, lt200 h2, fun r H' r0 r1 ev => .inl ?_⟩
    obtain ⟨v, hv, hm⟩ := atI_of (xs := xs) r0 (by omega)
    exact ⟨b, xs, r, v, rfl, rfl, SqL.of (ev.same _ _ hbd hb), hv, q v H' ev hm⟩
end

/-! ### what stands in a cut or glued text -/
theorem slice_mem {x : Str} {l u : Option Int} {c : Nat} (h : c ∈ (Txt.slice x l u).cps.toList) : c ∈ x.cps.toList := by
  unfold Txt.slice at h
  split at h
  · exact h
  · have h' := h
    simp only [List.toList_toArray] at h'
    obtain ⟨i, _, hi⟩ := List.mem_filterMap.mp h'
    exact Array.mem_toList_iff.mpr (Array.mem_of_getElem? hi)
theorem glue_mem (ys : List Str) : ∀ (acc : Array Nat) (c : Nat), c ∈ (ys.foldl (fun acc p => acc ++ ("" : Str).cps ++ p.cps) acc).toList → c ∈ acc.toList ∨ ∃ y ∈ ys, c ∈ y.cps.toList := by
  have e0 : ("" : Str).cps = #[] := by decide +kernel
  induction ys with
  | nil => intro acc c h; exact .inl h
  | cons y ys ih =>
    intro acc c h
    rw [List.foldl_cons] at h
    rcases ih _ c h with h1 | ⟨z, hz, hc⟩
    · rw [e0] at h1
      simp at h1
      rcases h1 with h1 | h1
      · exact .inl (by simpa using h1)
      · exact .inr ⟨y, List.mem_cons_self, by simpa using h1⟩
    · exact .inr ⟨z, List.mem_cons_of_mem _ hz, hc⟩
theorem join_mem {ys : List Str} {c : Nat} (h : c ∈ (Txt.join "" ys).cps.toList) : ∃ y ∈ ys, c ∈ y.cps.toList := by
  unfold Txt.join Builtin.Str.glued at h
  cases ys with
  | nil =>
    have e : (Txt.join "" []).cps.toList = [] := by decide +kernel
    have h' : c ∈ (Txt.join "" []).cps.toList := h
    rw [e] at h'; cases h'
  | cons y ys =>
    rw [List.drop_succ_cons, List.drop_zero, List.headD_cons] at h
    rcases glue_mem ys _ c h with h1 | ⟨z, hz, hc⟩
    · exact ⟨y, List.mem_cons_self, h1⟩
    · exact ⟨z, List.mem_cons_of_mem _ hz, hc⟩
section
variable {P : Program} {w : World} {K : PySem.W.Frag} {mg : Str → Option Value} {base : Heap} {a : Adr}
def spLet : Sp := fun vs H Q _ => ∃ (d : Addr) (z : Str) (m : Int), vs = [.ref d, .str z, .int m] ∧ Drw H d ∧ 1 ≤ z.length ∧ z.length ≤ 1000 ∧ 1 ≤ m ∧ m ≤ 100 ∧ ∀ x H', Ev d H H' → 1 ≤ x.length → (x.length : Int) ≤ m → (∀ c ∈ x.cps.toList, c ∈ z.cps.toList) → Q (.str x) H'
theorem ok_letters (T : Txt K mg a) : FnOk P w K mg base CX0 3 a.f_letters a.d_letters ["_law_draw", "_law_signs", "_law_most"] spLet := by
  refine T.F_letters.ok sc_letters (fun vs H Q E h => ?_) (fun cdv A outer s H vs Q E hr h => ?_)
  · obtain ⟨x, s, r, rfl, _⟩ := h; rfl
  obtain ⟨d, z, m, rfl, hD, h1, h2, h3, h4, q⟩ := h
  refine ⟨_, (pss_one (ps_ret (pe_bm PySem.F.plainAttrs_str PySem.F.slot_str_join PySem.F.type_str_join mt_join pe_str (pa_cons (pe_comp ["_law_step", "_law_draw", "_law_signs"] [none, some 0, some 1] (pi_range1 rfl T.n_range (pa_cons (pe_op op_add pe_int (pe_call (ok_take T) (hr.mono (by decide)) rfl T.m_take T.F_take.kp T.b_take .nil pass0 (pa_cons (pv 0) (pa_cons (pv 2) pa_nil)))) pa_nil)) (fun _ _ _ _ _ => (pg_name (i := 0) (show List.Nodup (["_law_step", "_law_draw", "_law_signs"] : List Str) from by decide +kernel) rfl (Or.inl rfl) (Or.inr rfl))) (fun _ _ _ _ _ => pts_nil) (fun _ _ _ _ _ => (pe_call (ok_of T) (hr.mono (by decide)) rfl T.m_of T.F_of.kp T.b_of .nil pass0 (pa_cons (pv 1) (pa_cons (pv 2) pa_nil))))) pa_nil)))), ?_⟩
  refine ⟨rfl, _, rfl, _, rfl, d, m, rfl, hD, h3, Int.lt_of_le_of_lt (b := 100) h4 (by decide), fun r H1 r0 r1 ev => ⟨_, _, rfl, rfl, _, rfl, by omega, by omega, ?_⟩⟩
  have en : ((1 + r).toNat : Int) = 1 + r := by omega
  refine comp_rng (fun i ys H' => ∃ zs : List Str, ys = zs.map V.str ∧ zs.length = i ∧ (∀ y ∈ zs, y.length = 1) ∧ (∀ y ∈ zs, ∀ c ∈ y.cps.toList, c ∈ z.cps.toList) ∧ Ev d H H') ⟨[], rfl, rfl, by simp, by simp, ev⟩ (fun i ys H' hi r => ?_) (fun i ys H' hi r => ?_) (fun σ' H' Q1 Q2 h t => ?_) (fun ys H' r D hD' => ?_)
  · obtain ⟨zs, rfl, e, _⟩ := r
    rw [List.length_map]; exact small (by omega)
  · obtain ⟨zs, rfl, e, e1, e2, ev'⟩ := r
    refine ⟨_, rfl, _, rfl, d, _, rfl, ev'.drw, .inl ⟨z, rfl, h1, h2, fun c H'' ev'' hc => ⟨zs ++ [⟨#[c]⟩], by simp, by simp [e], fun y hy => ?_, fun y hy => ?_, ev'.trans ev''⟩⟩⟩
    · rcases List.mem_append.mp hy with hy | hy
      · exact e1 y hy
      · have : y = ⟨#[c]⟩ := by simpa using hy
        rw [this]; rfl
    · rcases List.mem_append.mp hy with hy | hy
      · exact e2 y hy
      · have : y = ⟨#[c]⟩ := by simpa using hy
        rw [this]
        intro c' hc'
        have : c' = c := by simpa using hc'
        rw [this]; exact hc
  · obtain ⟨v1, e1, v2, e2, d', y', e3, hD', t⟩ := t
    refine ⟨v1, e1, v2, e2, d', y', e3, hD', ?_⟩
    rcases t with ⟨z, t1, t2, t3, t4⟩ | ⟨b, xs, t1, t2, t3, t4, t5, t6⟩
    · exact .inl ⟨z, t1, t2, t3, fun c H'' ev hc => h _ _ (t4 c H'' ev hc)⟩
    · exact .inr ⟨b, xs, t1, t2, t3, t4, t5, fun v H'' ev hc => h _ _ (t6 v H'' ev hc)⟩
  · obtain ⟨zs, rfl, e, e1, e2, ev'⟩ := r
    have es := sum_ge zs e1
    refine ⟨_, D, zs, rfl, rfl, SqL.of upd_same, ?_, ?_⟩
    · have : ("" : Str).length = 0 := by decide +kernel
      rw [this, es]; omega
    · refine q _ _ (ev'.then (same_new hD' _)) ?_ ?_ fun c hc => ?_
      · rw [join_len, es]; omega
      · rw [join_len, es]; omega
      · obtain ⟨y, hy, hc'⟩ := join_mem hc
        exact e2 y hy c hc'
/-- a draw goes in, a word comes out -/
def spWrd : Sp := fun vs H Q _ => ∃ d : Addr, vs = [.ref d] ∧ Drw H d ∧ ∀ x H', Ev d H H' → wordB x = true → Q (.str x) H'
theorem one_len (c : Nat) : (⟨#[c]⟩ : Str).length = 1 := rfl
theorem sign_pool : ∀ c ∈ ("0123456789abcnoyesz" : Str).cps.toList, wsg c = true := by decide +kernel
theorem let_pool : ∀ c ∈ ("abcdefghijklmnopqrstuvwxyz" : Str).cps.toList, isLet c = true := by decide +kernel
theorem word_cat {c : Nat} {y : Str} (hc : isLet c = true) (hy : ∀ d ∈ y.cps.toList, wsg d = true) (hl : y.length ≤ 11) : wordB (⟨#[c]⟩ ++ y) = true := by
  have ec : (⟨#[c]⟩ ++ y : Str).cps.toList = c :: y.cps.toList := by
    show (#[c] ++ y.cps).toList = _
    simp
  have el : (⟨#[c]⟩ ++ y : Str).length = 1 + y.length := by rw [cat_len]; rfl
  unfold wordB sz bwl
  rw [ec, el]
  simp only [Bool.and_eq_true, decide_eq_true_eq, List.all_cons, List.all_eq_true]
  exact ⟨⟨by omega, by omega⟩, hc, by unfold wsg; rw [hc]; rfl, hy⟩
theorem ok_drawn_word (T : Txt K mg a) : FnOk P w K mg base CX0 4 a.f_drawn_word a.d_drawn_word ["_law_draw"] spWrd := by
  refine T.F_drawn_word.ok sc_drawn_word (fun vs H Q E h => ?_) (fun cdv A outer s H vs Q E hr h => ?_)
  · obtain ⟨x, rfl, _⟩ := h; rfl
  obtain ⟨d, rfl, hD, q⟩ := h
  refine ⟨_, (pss_one (ps_ret (pe_op op_add_str (pe_call (ok_of T) (hr.mono (by decide)) rfl T.m_of T.F_of.kp T.b_of .nil pass0 (pa_cons (pv 0) (pa_cons pe_str pa_nil))) (pe_slice sl_str (pe_call (ok_letters T) (hr.mono (by decide)) rfl T.m_letters T.F_letters.kp T.b_letters .nil pass0 (pa_cons (pv 0) (pa_cons pe_str (pa_cons pe_int pa_nil)))) (po_some pe_int) po_none)))), ?_⟩
  refine ⟨_, rfl, d, _, rfl, hD, .inl ⟨_, rfl, by decide +kernel, by decide +kernel, fun c H1 ev1 hc => ?_⟩⟩
  refine ⟨_, rfl, d, _, _, rfl, ev1.drw, by decide +kernel, by decide +kernel, by decide, by decide, fun x H2 ev2 x1 x2 x3 => ?_⟩
  have sl := slice_len x (some 1) none
  have ol := one_len c
  refine ⟨_, rfl, _, rfl, small (by omega), _, _, rfl, rfl, small (by omega), q _ _ (ev1.trans ev2) ?_⟩
  exact word_cat (let_pool c hc) (fun d hd => sign_pool d (x3 d (slice_mem hd))) (by omega)
end

section
variable {P : Program} {w : World} {K : PySem.W.Frag} {mg : Str → Option Value} {base : Heap} {a : Adr}
def spNum : Sp := fun vs H Q _ => ∃ d : Addr, vs = [.ref d] ∧ Drw H d ∧ ∀ (i : Int) H', Ev d H H' → -(10 ^ 29) < i → i < 10 ^ 29 → Q (.int i) H'
theorem ok_number (T : Txt K mg a) : FnOk P w K mg base CX0 3 a.f_number a.d_number ["_law_draw"] spNum := by
  refine T.F_number.ok sc_number (fun vs H Q E h => ?_) (fun cdv A outer s H vs Q E hr h => ?_)
  · obtain ⟨x, rfl, _⟩ := h; rfl
  obtain ⟨d, rfl, hD, q⟩ := h
  refine ⟨_, (pss_cons (ps_set (i := 1) sc_number.nd rfl (by first | exact Or.inl rfl | exact Or.inr rfl) (pe_call (ok_take T) (hr.mono (by decide)) rfl T.m_take T.F_take.kp T.b_take .nil pass0 (pa_cons (pv 0) (pa_cons pe_int pa_nil)))) (pss_cons (ps_if (pt_cmpR op_eq (pv 1) pe_int (nomark _)) (pss_one (ps_ret (pe_op op_mul (pe_call (ok_of T) (hr.mono (by decide)) rfl T.m_of T.F_of.kp T.b_of .nil pass0 (pa_cons (pv 0) (pa_cons (pe_lst (pa_cons pe_int (pa_cons (pe_op op_sub pe_int pe_int) pa_nil))) pa_nil))) (pe_call (ok_take T) (hr.mono (by decide)) rfl T.m_take T.F_take.kp T.b_take .nil pass0 (pa_cons (pv 0) (pa_cons (pe_op op_pow pe_int pe_int) pa_nil)))))) pss_nil) (pss_cons (ps_if (pt_cmpR op_eq (pv 1) pe_int (nomark _)) (pss_one (ps_ret (pe_op op_sub (pe_call (ok_take T) (hr.mono (by decide)) rfl T.m_take T.F_take.kp T.b_take .nil pass0 (pa_cons (pv 0) (pa_cons pe_int pa_nil))) pe_int))) pss_nil) (pss_one (ps_ret (pe_op op_sub (pe_call (ok_take T) (hr.mono (by decide)) rfl T.m_take T.F_take.kp T.b_take .nil pass0 (pa_cons (pv 0) (pa_cons pe_int pa_nil))) pe_int)))))), ?_⟩
  refine ⟨_, rfl, d, _, rfl, hD, by decide, by decide, fun r H1 r0 r1 ev1 => ?_⟩
  refine ⟨_, rfl, rfl, _, rfl, ?_⟩
  refine ite2 (fun k => ?_) (fun k => ?_)
  · refine ⟨_, rfl, _, _, rfl, rfl, small (by decide), fun b hb => ?_⟩
    have g1 := same_new hb (.lst [.int 1, .int (0 - 1)])
    have ev2 := ev1.then g1
    refine ⟨d, _, rfl, ev2.drw, .inr ⟨b, _, rfl, ev1.drw.ne_of_none hb, upd_same, by decide, by decide, fun v H3 ev3 hv => ?_⟩⟩
    refine ⟨_, rfl, _, _, rfl, rfl, ⟨by decide, by decide, by decide⟩, d, _, rfl, ev3.drw, by decide, by decide, fun r2 H4 s0 s1 ev4 => ?_⟩
    have ev := (ev2.trans ev3).trans ev4
    have s1' : r2 < 10 ^ 29 := s1
    simp at hv
    rcases hv with rfl | rfl
    · refine ⟨_, _, rfl, rfl, .inl ⟨by decide, by decide⟩, q _ _ ev ?_ ?_⟩ <;> omega
    · refine ⟨_, _, rfl, rfl, .inl ⟨by decide, by decide⟩, q _ _ ev ?_ ?_⟩ <;> omega
  · refine ⟨_, rfl, rfl, _, rfl, ?_⟩
    refine ite2 (fun k2 => ?_) (fun k2 => ?_)
    · refine ⟨_, rfl, d, _, rfl, ev1.drw, by decide, by decide, fun r2 H4 s0 s1 ev4 => ⟨_, _, rfl, rfl, q _ _ (ev1.trans ev4) ?_ ?_⟩⟩ <;> omega
    · refine ⟨_, rfl, d, _, rfl, ev1.drw, by decide, by decide, fun r2 H4 s0 s1 ev4 => ⟨_, _, rfl, rfl, q _ _ (ev1.trans ev4) ?_ ?_⟩⟩ <;> omega
end
section
variable {P : Program} {w : World} {K : PySem.W.Frag} {mg : Str → Option Value} {base : Heap} {a : Adr}
/-- what is drawn -/
def goodV (v : V) : Prop := (∃ b, v = .bl b) ∨ (∃ i : Int, v = .int i ∧ -(10 ^ 29) < i ∧ i < 10 ^ 29) ∨ ∃ x, v = .str x ∧ wordB x = true
/-- a value of a sort -/
def valS (s : Str) (v : V) : Prop := (s = "number" ∧ ∃ i : Int, v = .int i ∧ -(10 ^ 29) < i ∧ i < 10 ^ 29) ∨ (s = "flag" ∧ ∃ b, v = .bl b) ∨ (s = "word" ∧ ∃ x, v = .str x ∧ wordB x = true)
theorem valS.good {s : Str} {v : V} (h : valS s v) : goodV v := by
  rcases h with ⟨_, h⟩ | ⟨_, h⟩ | ⟨_, h⟩
  · exact .inr (.inl h)
  · exact .inl h
  · exact .inr (.inr h)
def spVal : Sp := fun vs H Q _ => ∃ (d : Addr) (z : Str), vs = [.ref d, .str z] ∧ Drw H d ∧ (z = "number" ∨ z = "flag" ∨ z = "word") ∧ ∀ v H', Ev d H H' → valS z v → Q v H'
theorem six_words : ∀ x ∈ (["ann", "bob", "a", "z9", "yes", "b"] : List Str), wordB x = true := by decide +kernel
theorem ok_value (T : Txt K mg a) : FnOk P w K mg base CX0 5 a.f_value a.d_value ["_law_draw", "_law_sort"] spVal := by
  refine T.F_value.ok sc_value (fun vs H Q E h => ?_) (fun cdv A outer s H vs Q E hr h => ?_)
  · obtain ⟨x, z, rfl, _⟩ := h; rfl
  obtain ⟨d, z, rfl, hD, hz, q⟩ := h
  refine ⟨_, (pss_cons (ps_if (pt_cmpR op_eq (pv 1) pe_str (nomark _)) (pss_one (ps_ret (pe_call (ok_number T) (hr.mono (by decide)) rfl T.m_number T.F_number.kp T.b_number .nil pass0 (pa_cons (pv 0) pa_nil)))) pss_nil) (pss_cons (ps_if (pt_cmpR op_eq (pv 1) pe_str (nomark _)) (pss_one (ps_ret (pe_cmpR op_eq (pe_call (ok_take T) (hr.mono (by decide)) rfl T.m_take T.F_take.kp T.b_take .nil pass0 (pa_cons (pv 0) (pa_cons pe_int pa_nil))) pe_int (nomark _)))) pss_nil) (pss_cons (ps_if (pt_cmpR op_eq (pe_call (ok_take T) (hr.mono (by decide)) rfl T.m_take T.F_take.kp T.b_take .nil pass0 (pa_cons (pv 0) (pa_cons pe_int pa_nil))) pe_int (nomark _)) (pss_one (ps_ret (pe_call (ok_drawn_word T) (hr.mono (by decide)) rfl T.m_drawn_word T.F_drawn_word.kp T.b_drawn_word .nil pass0 (pa_cons (pv 0) pa_nil)))) pss_nil) (pss_one (ps_ret (pe_call (ok_of T) (hr.mono (by decide)) rfl T.m_of T.F_of.kp T.b_of .nil pass0 (pa_cons (pv 0) (pa_cons (pe_lst (pa_cons pe_str (pa_cons pe_str (pa_cons pe_str (pa_cons pe_str (pa_cons pe_str (pa_cons pe_str pa_nil))))))) pa_nil)))))))), ?_⟩
  rcases hz with rfl | rfl | rfl
  · exact ⟨_, rfl, rfl, _, rfl, iteT ⟨_, rfl, d, rfl, hD, fun i H1 ev1 i0 i1 => q _ _ ev1 (.inl ⟨rfl, i, rfl, i0, i1⟩)⟩⟩
  · exact ⟨_, rfl, rfl, _, rfl, iteF ⟨_, rfl, rfl, _, rfl, iteT ⟨_, rfl, d, _, rfl, hD, by decide, by decide, fun r H1 _ _ ev1 => ⟨rfl, q _ _ ev1 (.inr (.inl ⟨rfl, _, rfl⟩))⟩⟩⟩⟩
  refine ⟨_, rfl, rfl, _, rfl, iteF ⟨_, rfl, rfl, _, rfl, iteF ?_⟩⟩
  refine ⟨_, rfl, d, _, rfl, hD, by decide, by decide, fun r H1 _ _ ev1 => ⟨rfl, _, rfl, ?_⟩⟩
  refine ite2 (fun k => ?_) (fun k => ?_)
  · exact ⟨_, rfl, d, rfl, ev1.drw, fun x H2 ev2 hx => q _ _ (ev1.trans ev2) (.inr (.inr ⟨rfl, x, rfl, hx⟩))⟩
  refine ⟨_, rfl, small (by decide), fun b hb => ?_⟩
  have g1 := same_new hb (.lst [.str "ann", .str "bob", .str "a", .str "z9", .str "yes", .str "b"])
  have ev2 := ev1.then g1
  refine ⟨d, _, rfl, ev2.drw, .inr ⟨b, _, rfl, ev1.drw.ne_of_none hb, upd_same, by decide, by decide, fun v H3 ev3 hv => q _ _ (ev2.trans ev3) ?_⟩⟩
  have hv' : v ∈ (["ann", "bob", "a", "z9", "yes", "b"] : List Str).map V.str := hv
  obtain ⟨x, hx, rfl⟩ := List.mem_map.mp hv'
  exact .inr (.inr ⟨rfl, x, rfl, six_words x hx⟩)
end

section
variable {P : Program} {w : World} {K : PySem.W.Frag} {mg : Str → Option Value} {base : Heap} {a : Adr}
theorem inV_strs (x : Str) : ∀ ks : List Str, inV (.str x) (ks.map V.str) = ks.any (· == x)
  | [] => rfl
  | k :: ks => by
    have e : inV (.str x) ((k :: ks).map V.str) = ((k == x) || inV (.str x) (ks.map V.str)) := rfl
    rw [e, inV_strs x ks, List.any_cons]
theorem kept_mem {x : Str} (h : kept x = true) : x ∈ kw := by
  unfold kept at h
  rw [inV_strs] at h
  obtain ⟨k, hk, e⟩ := List.any_eq_true.mp h
  rw [← eq_of_beq e]; exact hk
theorem kw_signs : ∀ x ∈ kw, x.length ≤ 6 ∧ 95 ∉ x.cps.toList := by decide +kernel
theorem nsg_pool : ∀ c ∈ ("abcnoryest_wz" : Str).cps.toList, nsg c = true := by decide +kernel
theorem not_kept {x : Str} (h : 95 ∈ x.cps.toList) : kept x = false := Bool.eq_false_iff.mpr fun z => (kw_signs x (kept_mem z)).2 h
theorem name_cat {c : Nat} {y : Str} (hc : isLet c = true) (hy : ∀ d ∈ y.cps.toList, nsg d = true) (hl : y.length ≤ 11) (hk : kept (⟨#[c]⟩ ++ y) = false) : nameB (⟨#[c]⟩ ++ y) = true := by
  have ec : (⟨#[c]⟩ ++ y : Str).cps.toList = c :: y.cps.toList := by
    show (#[c] ++ y.cps).toList = _
    simp
  have el : (⟨#[c]⟩ ++ y : Str).length = 1 + y.length := by rw [cat_len]; rfl
  unfold nameB sz bwl
  rw [ec, el, hk]
  simp only [Bool.and_eq_true, decide_eq_true_eq, List.all_cons, List.all_eq_true]
  exact ⟨⟨by omega, by omega⟩, hc, ⟨by unfold nsg; rw [hc]; rfl, hy⟩, rfl⟩
/-- a draw goes in, a name comes out -/
def spNam : Sp := fun vs H Q _ => ∃ d : Addr, vs = [.ref d] ∧ Drw H d ∧ ∀ x H', Ev d H H' → nameB x = true → Q (.str x) H'
theorem ok_drawn_name (T : Txt K mg a) : FnOk P w K mg base CX0 4 a.f_drawn_name a.d_drawn_name ["_law_draw"] spNam := by
  refine T.F_drawn_name.ok sc_drawn_name (fun vs H Q E h => ?_) (fun cdv A outer s H vs Q E hr h => ?_)
  · obtain ⟨x, rfl, _⟩ := h; rfl
  obtain ⟨d, rfl, hD, q⟩ := h
  refine ⟨_, (pss_cons (ps_set (i := 1) sc_drawn_name.nd rfl (by first | exact Or.inl rfl | exact Or.inr rfl) (pe_op op_add_str (pe_call (ok_of T) (hr.mono (by decide)) rfl T.m_of T.F_of.kp T.b_of .nil pass0 (pa_cons (pv 0) (pa_cons pe_str pa_nil))) (pe_slice sl_str (pe_call (ok_letters T) (hr.mono (by decide)) rfl T.m_letters T.F_letters.kp T.b_letters .nil pass0 (pa_cons (pv 0) (pa_cons pe_str (pa_cons pe_int pa_nil)))) (po_some pe_int) po_none))) (pss_one (ps_ret (pe_ifExp (pt_val (pe_call (ok_kept_word T) (hr.mono (by decide)) rfl T.m_kept_word T.F_kept_word.kp T.b_kept_word .nil pass0 (pa_cons (pv 1) pa_nil))) (pe_op op_add_str (pv 1) pe_str) (pv 1))))), ?_⟩
  refine ⟨_, rfl, d, _, rfl, hD, .inl ⟨_, rfl, by decide +kernel, by decide +kernel, fun c H1 ev1 hc => ?_⟩⟩
  refine ⟨_, rfl, d, _, _, rfl, ev1.drw, by decide +kernel, by decide +kernel, by decide, by decide, fun x H2 ev2 x1 x2 x3 => ?_⟩
  have sl := slice_len x (some 1) none
  have ol := one_len c
  have cl := cat_len ⟨#[c]⟩ (Txt.slice x (some 1) none)
  refine ⟨_, rfl, _, rfl, small (by omega), _, _, rfl, rfl, small (by omega), ?_⟩
  refine ⟨_, rfl, _, rfl, small (by omega), fun H3 g3 => ⟨_, rfl, ?_⟩⟩
  have ul : ("_" : Str).length = 1 := by decide +kernel
  have hy : ∀ e ∈ (Txt.slice x (some 1) none).cps.toList, nsg e = true := fun e he => nsg_pool e (x3 e (slice_mem he))
  refine ite2 (fun k => ?_) (fun k => ?_)
  · refine ⟨_, rfl, _, _, rfl, rfl, small (by omega), q _ _ ((ev1.trans ev2).then g3) ?_⟩
    have e6 := (kw_signs _ (kept_mem k)).1
    have ea : (⟨#[c]⟩ ++ Txt.slice x (some 1) none ++ "_" : Str) = ⟨#[c]⟩ ++ (Txt.slice x (some 1) none ++ "_") := by
      show Str.mk _ = Str.mk _
      exact congrArg Str.mk (Array.append_assoc ..)
    have eu : (Txt.slice x (some 1) none ++ "_" : Str).cps.toList = (Txt.slice x (some 1) none).cps.toList ++ [95] := by
      show (_ ++ _ : Array Nat).toList = _
      rw [Array.toList_append]; rfl
    rw [ea]
    refine name_cat (let_pool c hc) (fun e he => ?_) (by rw [cat_len]; omega) (not_kept ?_)
    · rw [eu] at he
      rcases List.mem_append.mp he with he | he
      · exact hy e he
      · rw [List.mem_singleton.mp he]; rfl
    · show 95 ∈ (#[c] ++ _ : Array Nat).toList
      rw [Array.toList_append, List.mem_append]
      right
      rw [eu]; simp
  · exact ⟨_, rfl, q _ _ ((ev1.trans ev2).then g3) (name_cat (let_pool c hc) hy (by omega) (Bool.eq_false_iff.mpr k))⟩
end

end My

set_option Elab.async false
set_option linter.all false
set_option maxRecDepth 100000
set_option maxHeartbeats 4000000
namespace My
open PySem L2
section
variable {P : Program} {w : World} {K : PySem.W.Frag} {mg : Str → Option Value} {base : Heap} {a : Adr}
/-! ### _law_same: flat things, and lists of such -/
theorem flat_cases {x : V} (h : flatV x = true) : x = .non ∨ (∃ b, x = .bl b) ∨ (∃ i, x = .int i) ∨ ∃ z, x = .str z := by
  cases x <;> first | exact .inl rfl | exact .inr (.inl ⟨_, rfl⟩) | exact .inr (.inr (.inl ⟨_, rfl⟩)) | exact .inr (.inr (.inr ⟨_, rfl⟩)) | cases h
def spSameF : Sp := fun vs H Q _ => ∃ x y : V, vs = [x, y] ∧ flatV x = true ∧ flatV y = true ∧ ∀ H', Same H H' → Q (.bl (decide (x = y))) H'
theorem dec_ne {x y : V} (h : x ≠ y) : decide (x = y) = false := decide_eq_false h
theorem ok_sameF (T : Txt K mg a) : FnOk P w K mg base CX0 1 a.f_same a.d_same ["_law_told", "_law_due"] spSameF := by
  refine T.F_same.ok sc_same (fun vs H Q E h => ?_) (fun cdv A outer s H vs Q E hr h => ?_)
  · obtain ⟨x, y, rfl, _⟩ := h; rfl
  obtain ⟨x, y, rfl, fx, fy, q⟩ := h
  refine ⟨_, (pss_cons (ps_if (pt_cmpR op_isN (pv 1) pe_non (nomark _)) (pss_one (ps_ret (pe_cmpR op_isN (pv 0) pe_non (nomark _)))) pss_nil) (pss_cons (ps_if (PW.pt (pw_or (pt_val (pe_callB call_isinst rfl T.n_isinstance (by decide +kernel) (pa_cons (pv 1) (pa_cons (pe_bltn (v := .ty "bool") (u := .type "bool") rfl T.n_bool (by decide +kernel) rfl) pa_nil)))) (pw_or1 (pt_val (pe_callB call_isinst rfl T.n_isinstance (by decide +kernel) (pa_cons (pv 0) (pa_cons (pe_bltn (v := .ty "bool") (u := .type "bool") rfl T.n_bool (by decide +kernel) rfl) pa_nil))))))) (pss_one (ps_ret (pe_and (pe_callB call_isinst rfl T.n_isinstance (by decide +kernel) (pa_cons (pv 1) (pa_cons (pe_bltn (v := .ty "bool") (u := .type "bool") rfl T.n_bool (by decide +kernel) rfl) pa_nil))) (pe_and (pe_callB call_isinst rfl T.n_isinstance (by decide +kernel) (pa_cons (pv 0) (pa_cons (pe_bltn (v := .ty "bool") (u := .type "bool") rfl T.n_bool (by decide +kernel) rfl) pa_nil))) (pe_one (pe_cmpR op_eq (pv 0) (pv 1) (nomark _))))))) pss_nil) (pss_cons (ps_if (pt_val (pe_callB call_isinstT rfl T.n_isinstance (by decide +kernel) (pa_cons (pv 1) (pa_cons (pe_tup (pa_cons (pe_bltn (v := .ty "int") (u := .type "int") rfl T.n_int (by decide +kernel) rfl) (pa_cons (pe_bltn (v := .ty "str") (u := .type "str") rfl T.n_str (by decide +kernel) rfl) pa_nil))) pa_nil)))) (pss_one (ps_ret (pe_and (pe_callB call_isinstT rfl T.n_isinstance (by decide +kernel) (pa_cons (pv 0) (pa_cons (pe_tup (pa_cons (pe_bltn (v := .ty "int") (u := .type "int") rfl T.n_int (by decide +kernel) rfl) (pa_cons (pe_bltn (v := .ty "str") (u := .type "str") rfl T.n_str (by decide +kernel) rfl) pa_nil))) pa_nil))) (pe_and (pe_cmpR op_eq (pe_callB call_isinst rfl T.n_isinstance (by decide +kernel) (pa_cons (pv 0) (pa_cons (pe_bltn (v := .ty "int") (u := .type "int") rfl T.n_int (by decide +kernel) rfl) pa_nil))) (pe_callB call_isinst rfl T.n_isinstance (by decide +kernel) (pa_cons (pv 1) (pa_cons (pe_bltn (v := .ty "int") (u := .type "int") rfl T.n_int (by decide +kernel) rfl) pa_nil))) (nomark _)) (pe_one (pe_cmpR op_eq (pv 0) (pv 1) (nomark _))))))) pss_nil) pss_never))), ?_⟩
  have no : x ≠ y → ∀ H', Same H H' → Q (.bl false) H' := fun hne H' g => by have z := q H' g; rw [dec_ne hne] at z; exact z
  rcases flat_cases fy with rfl | ⟨b, rfl⟩ | ⟨j, rfl⟩ | ⟨z, rfl⟩
  · exact ⟨_, rfl, rfl, _, rfl, iteT ⟨_, rfl, rfl, q H (Same.refl H)⟩⟩
  · refine ⟨_, rfl, rfl, _, rfl, iteF ⟨_, rfl, _, _, _, true, rfl, .bl b, rfl, _, rfl, iteT (iteT ⟨_, rfl, _, _, _, true, rfl, .bl b, rfl, _, rfl, iteT ?_⟩)⟩⟩
    rcases flat_cases fx with rfl | ⟨b', rfl⟩ | ⟨j, rfl⟩ | ⟨z, rfl⟩
    · exact ⟨_, rfl, _, _, _, false, rfl, .non, rfl, _, rfl, iteF (no (by simp) H (Same.refl H))⟩
    · exact ⟨_, rfl, _, _, _, true, rfl, .bl b', rfl, _, rfl, iteT ⟨_, rfl, _, rfl, rfl, q H (Same.refl H)⟩⟩
    · exact ⟨_, rfl, _, _, _, false, rfl, .int j, rfl, _, rfl, iteF (no (by simp) H (Same.refl H))⟩
    · exact ⟨_, rfl, _, _, _, false, rfl, .str z, rfl, _, rfl, iteF (no (by simp) H (Same.refl H))⟩
  · refine ⟨_, rfl, rfl, _, rfl, iteF ⟨_, rfl, _, _, _, false, rfl, .int j, rfl, _, rfl, iteF ?_⟩⟩
    rcases flat_cases fx with rfl | ⟨b', rfl⟩ | ⟨i, rfl⟩ | ⟨z, rfl⟩
    · refine ⟨_, rfl, _, _, _, false, rfl, .non, rfl, _, rfl, iteF ⟨_, rfl, small (n := 2) (by decide), fun tp htp => ⟨_, _, tp, ["int", "str"], true, rfl, upd_same, .int j, rfl, _, rfl, iteT ?_⟩⟩⟩
      refine ⟨_, rfl, small (n := 2) (by decide), fun tp2 htp2 => ⟨_, _, tp2, ["int", "str"], false, rfl, upd_same, .non, rfl, _, rfl, iteF (no (by simp) _ ((same_new htp _).trans (same_new htp2 _)))⟩⟩
    · exact ⟨_, rfl, _, _, _, true, rfl, .bl b', rfl, _, rfl, iteT ⟨_, rfl, _, _, _, false, rfl, .int j, rfl, _, rfl, iteF (no (by simp) H (Same.refl H))⟩⟩
    · refine ⟨_, rfl, _, _, _, false, rfl, .int i, rfl, _, rfl, iteF ⟨_, rfl, small (n := 2) (by decide), fun tp htp => ⟨_, _, tp, ["int", "str"], true, rfl, upd_same, .int j, rfl, _, rfl, iteT ?_⟩⟩⟩
      refine ⟨_, rfl, small (n := 2) (by decide), fun tp2 htp2 => ⟨_, _, tp2, ["int", "str"], true, rfl, upd_same, .int i, rfl, _, rfl, iteT ?_⟩⟩
      exact ⟨_, rfl, _, _, _, true, rfl, .int i, rfl, _, rfl, _, _, _, true, rfl, .int j, rfl, rfl, _, rfl, iteT ⟨_, rfl, _, rfl, rfl, q _ ((same_new htp _).trans (same_new htp2 _))⟩⟩
    · refine ⟨_, rfl, _, _, _, false, rfl, .str z, rfl, _, rfl, iteF ⟨_, rfl, small (n := 2) (by decide), fun tp htp => ⟨_, _, tp, ["int", "str"], true, rfl, upd_same, .int j, rfl, _, rfl, iteT ?_⟩⟩⟩
      refine ⟨_, rfl, small (n := 2) (by decide), fun tp2 htp2 => ⟨_, _, tp2, ["int", "str"], true, rfl, upd_same, .str z, rfl, _, rfl, iteT ?_⟩⟩
      exact ⟨_, rfl, _, _, _, false, rfl, .str z, rfl, _, rfl, _, _, _, true, rfl, .int j, rfl, rfl, _, rfl, iteF (no (by simp) _ ((same_new htp _).trans (same_new htp2 _)))⟩
  · refine ⟨_, rfl, rfl, _, rfl, iteF ⟨_, rfl, _, _, _, false, rfl, .str z, rfl, _, rfl, iteF ?_⟩⟩
    rcases flat_cases fx with rfl | ⟨b', rfl⟩ | ⟨i, rfl⟩ | ⟨z', rfl⟩
    · refine ⟨_, rfl, _, _, _, false, rfl, .non, rfl, _, rfl, iteF ⟨_, rfl, small (n := 2) (by decide), fun tp htp => ⟨_, _, tp, ["int", "str"], true, rfl, upd_same, .str z, rfl, _, rfl, iteT ?_⟩⟩⟩
      refine ⟨_, rfl, small (n := 2) (by decide), fun tp2 htp2 => ⟨_, _, tp2, ["int", "str"], false, rfl, upd_same, .non, rfl, _, rfl, iteF (no (by simp) _ ((same_new htp _).trans (same_new htp2 _)))⟩⟩
    · exact ⟨_, rfl, _, _, _, true, rfl, .bl b', rfl, _, rfl, iteT ⟨_, rfl, _, _, _, false, rfl, .str z, rfl, _, rfl, iteF (no (by simp) H (Same.refl H))⟩⟩
    · refine ⟨_, rfl, _, _, _, false, rfl, .int i, rfl, _, rfl, iteF ⟨_, rfl, small (n := 2) (by decide), fun tp htp => ⟨_, _, tp, ["int", "str"], true, rfl, upd_same, .str z, rfl, _, rfl, iteT ?_⟩⟩⟩
      refine ⟨_, rfl, small (n := 2) (by decide), fun tp2 htp2 => ⟨_, _, tp2, ["int", "str"], true, rfl, upd_same, .int i, rfl, _, rfl, iteT ?_⟩⟩
      exact ⟨_, rfl, _, _, _, true, rfl, .int i, rfl, _, rfl, _, _, _, false, rfl, .str z, rfl, rfl, _, rfl, iteF (no (by simp) _ ((same_new htp _).trans (same_new htp2 _)))⟩
    · refine ⟨_, rfl, _, _, _, false, rfl, .str z', rfl, _, rfl, iteF ⟨_, rfl, small (n := 2) (by decide), fun tp htp => ⟨_, _, tp, ["int", "str"], true, rfl, upd_same, .str z, rfl, _, rfl, iteT ?_⟩⟩⟩
      refine ⟨_, rfl, small (n := 2) (by decide), fun tp2 htp2 => ⟨_, _, tp2, ["int", "str"], true, rfl, upd_same, .str z', rfl, _, rfl, iteT ?_⟩⟩
      exact ⟨_, rfl, _, _, _, false, rfl, .str z', rfl, _, rfl, _, _, _, false, rfl, .str z, rfl, rfl, _, rfl, iteT ⟨_, rfl, _, rfl, rfl, q _ ((same_new htp _).trans (same_new htp2 _))⟩⟩
end

/-! ### names that rise -/
def leC (a b : Str) : Prop := ¬ b.cps.toList < a.cps.toList
theorem rising_pw : ∀ (l : List Str) (p : Str), PyProof.Rows.risingS p l = true → (p :: l).Pairwise leC
  | [], p, _ => by simp
  | x :: r, p, h => by
    have h' : (!Spec.ltCps x.cps.toList p.cps.toList && PyProof.Rows.risingS x r) = true := h
    rw [Bool.and_eq_true, PyProof.Rows.ltCps_eq] at h'
    have h1 : leC p x := by
      have := h'.1
      simpa [leC] using this
    have ih := rising_pw r x h'.2
    refine List.pairwise_cons.mpr ⟨fun y hy => ?_, ih⟩
    rcases List.mem_cons.mp hy with rfl | hy
    · exact h1
    · exact List.le_trans h1 (List.rel_of_pairwise_cons ih hy)
theorem sorted_pw {l : List Str} (h : PyProof.Rows.sortedS l = true) : l.Pairwise leC := by
  cases l with
  | nil => exact .nil
  | cons x r => exact rising_pw r x h
theorem cps_ext {x y : Str} (h : x.cps.toList = y.cps.toList) : x = y := by
  cases x; cases y
  simp only at h
  rw [Array.toList_inj.mp h]
theorem sorted_one {l m : List Str} (h1 : PyProof.Rows.sortedS l = true) (h2 : PyProof.Rows.sortedS m = true) (p : l.Perm m) : l = m :=
  List.Perm.eq_of_pairwise (fun a b _ _ h1 h2 => cps_ext (List.le_antisymm h1 h2)) (sorted_pw h1) (sorted_pw h2) p
/-! ### things that are the same, but for the order in dicts -/
def Eqv : Bool → Nat → Hp → V → V → Prop
  | _, 0, _, x, y => flatV x = true ∧ x = y
  | b, n + 1, H, x, y => (flatV x = true ∧ x = y) ∨
    (∃ (p q : Addr) (xs ys : List V), x = .ref p ∧ y = .ref q ∧ ((H p = some (.lst xs) ∧ H q = some (.lst ys)) ∨ (H p = some (.tup xs) ∧ H q = some (.tup ys))) ∧ xs.length ≤ 1000 ∧ xs.length = ys.length ∧ ∀ (i : Nat) (u v : V), xs[i]? = some u → ys[i]? = some v → Eqv b n H u v) ∨
    (b = true ∧ ∃ (p q : Addr) (kvs kvs' : List (Key × V)) (ss ss' : List Str), x = .ref p ∧ y = .ref q ∧ H p = some (.dK kvs) ∧ H q = some (.dK kvs') ∧ kvs.map (·.1) = ss.map Sum.inr ∧ kvs'.map (·.1) = ss'.map Sum.inr ∧ ss.Perm ss' ∧ ss.length < 64 ∧
      ∀ s v v', valV kvs (Sum.inr s) = some v → valV kvs' (Sum.inr s) = some v' → Eqv false n H v v')
theorem Eqv.keep : ∀ {n : Nat} {b : Bool} {H H' : Hp} {x y : V}, Eqv b n H x y → (∀ a o, H a = some o → (b = true ∨ ∀ kvs, o ≠ .dK kvs) → H' a = some o) → Eqv b n H' x y
  | 0, b, H, H', x, y, h, _ => by
    have h' : flatV x = true ∧ x = y := by unfold Eqv at h; exact h
    show Eqv b 0 H' x y; unfold Eqv; exact h'
  | n + 1, b, H, H', x, y, h, g => by
    unfold Eqv at h ⊢
    rcases h with h | ⟨p, q, xs, ys, rfl, rfl, h1, h2, h3, h4⟩ | ⟨hb, p, q, kvs, kvs', ss, ss', rfl, rfl, h1, h2, h3, h4, h5, h6, h7⟩
    · exact .inl h
    · refine .inr (.inl ⟨p, q, xs, ys, rfl, rfl, ?_, h2, h3, fun i u v hu hv => (h4 i u v hu hv).keep g⟩)
      rcases h1 with ⟨a1, a2⟩ | ⟨a1, a2⟩
      · exact .inl ⟨g _ _ a1 (.inr fun _ z => nomatch z), g _ _ a2 (.inr fun _ z => nomatch z)⟩
      · exact .inr ⟨g _ _ a1 (.inr fun _ z => nomatch z), g _ _ a2 (.inr fun _ z => nomatch z)⟩
    · exact .inr (.inr ⟨hb, p, q, kvs, kvs', ss, ss', rfl, rfl, g _ _ h1 (.inl hb), g _ _ h2 (.inl hb), h3, h4, h5, h6, fun s v v' e1 e2 => (h7 s v v' e1 e2).keep fun a o ha hd => g a o ha (hd.elim (fun z => nomatch z) .inr)⟩)
theorem Eqv.same {n : Nat} {b : Bool} {H H' : Hp} {x y : V} (h : Eqv b n H x y) (g : Same H H') : Eqv b n H' x y := h.keep fun a o ha _ => g a o ha
theorem Eqv.flat {n : Nat} {b : Bool} {H : Hp} {x : V} (h : flatV x = true) : Eqv b n H x x := by
  cases n with
  | zero => unfold Eqv; exact ⟨h, rfl⟩
  | succ n => unfold Eqv; exact .inl ⟨h, rfl⟩
theorem comp_zipL {K : PySem.W.Frag} {p q : Addr} {xs ys : List V} {im : List (Option Nat)} {σ : St} {H : Hp} {Q : VK} {te : TE} (hl : xs.length = ys.length) (hp : SqL K H p xs) (hq : SqL K H q ys) (hz : xs.length ≤ sizeLine)
    (he : ∀ (i : Nat) x y H' (R : VK), xs[i]? = some x → ys[i]? = some y → Same H H' → (∀ H'', Same H' H'' → R (.bl true) H'') → te (((inner im σ).set 0 (some x)).set 1 (some y)) H' R)
    (hQ : ∀ D H', Same H H' → H' D = none → Q (.ref D) (upd H' D (.lst ((List.replicate xs.length true).map V.bl)))) :
    CompAt im (gTup K 2 (gCons (gName 0) (gCons (gName 1) gNil))) tNoIf te σ Q (Itz K p q) H := by
  refine ⟨fun i m zs H' => m = xs.length - i ∧ i ≤ xs.length ∧ zs = (List.replicate i true).map V.bl ∧ Same H H', ⟨xs.length, by simp, Nat.zero_le _, by simp, Same.refl H⟩, ?_⟩
  rintro i m zs H' ⟨rfl, hi, rfl, g⟩
  refine ⟨by rw [List.length_map, List.length_replicate]; omega, ?_⟩
  by_cases hlt : i < xs.length
  · have hlt2 : i < ys.length := by omega
    refine .inr ⟨⟨xs, ys, xs[i], ys[i], g.seq hp, g.seq hq, List.getElem?_eq_getElem hlt, List.getElem?_eq_getElem hlt2⟩, fun u H'' yl => ?_⟩
    obtain ⟨T, rfl, hT, yl⟩ := yl
    obtain ⟨x, y, hx, hy, rfl⟩ := yl xs ys (g.seq hp) (g.seq hq)
    refine ⟨T, [x, y], rfl, SqT.of upd_same, rfl, x, [y], rfl, y, [], rfl, rfl, ?_⟩
    have g2 := g.trans (same_new hT (.tup [x, y]))
    refine he i x y _ _ hx hy g2 fun H3 g3 => ⟨xs.length - (i + 1), by omega, rfl, hlt, ?_, g2.trans g3⟩
    rw [List.replicate_succ', List.map_append]
    rfl
  · have e : i = xs.length := by omega
    subst e
    exact .inl ⟨⟨xs, ys, g.seq hp, g.seq hq, (by omega)⟩, fun D hD => hQ D H' g hD⟩
theorem comp_zipT {K : PySem.W.Frag} {p q : Addr} {xs ys : List V} {im : List (Option Nat)} {σ : St} {H : Hp} {Q : VK} {te : TE} (hl : xs.length = ys.length) (hp : H p = some (.tup xs)) (hq : H q = some (.tup ys)) (hz : xs.length ≤ sizeLine)
    (he : ∀ (i : Nat) x y H' (R : VK), xs[i]? = some x → ys[i]? = some y → Same H H' → (∀ H'', Same H' H'' → R (.bl true) H'') → te (((inner im σ).set 0 (some x)).set 1 (some y)) H' R)
    (hQ : ∀ D H', Same H H' → H' D = none → Q (.ref D) (upd H' D (.lst ((List.replicate xs.length true).map V.bl)))) :
    CompAt im (gTup K 2 (gCons (gName 0) (gCons (gName 1) gNil))) tNoIf te σ Q (ItzT K p q) H := by
  refine ⟨fun i m zs H' => m = xs.length - i ∧ i ≤ xs.length ∧ zs = (List.replicate i true).map V.bl ∧ Same H H', ⟨xs.length, by simp, Nat.zero_le _, by simp, Same.refl H⟩, ?_⟩
  rintro i m zs H' ⟨rfl, hi, rfl, g⟩
  refine ⟨by rw [List.length_map, List.length_replicate]; omega, ?_⟩
  by_cases hlt : i < xs.length
  · have hlt2 : i < ys.length := by omega
    refine .inr ⟨⟨xs, ys, xs[i], ys[i], SqT.of (g _ _ hp), SqT.of (g _ _ hq), List.getElem?_eq_getElem hlt, List.getElem?_eq_getElem hlt2⟩, fun u H'' yl => ?_⟩
    obtain ⟨T, rfl, hT, yl⟩ := yl
    obtain ⟨x, y, hx, hy, rfl⟩ := yl xs ys (SqT.of (g _ _ hp)) (SqT.of (g _ _ hq))
    refine ⟨T, [x, y], rfl, SqT.of upd_same, rfl, x, [y], rfl, y, [], rfl, rfl, ?_⟩
    have g2 := g.trans (same_new hT (.tup [x, y]))
    refine he i x y _ _ hx hy g2 fun H3 g3 => ⟨xs.length - (i + 1), by omega, rfl, hlt, ?_, g2.trans g3⟩
    rw [List.replicate_succ', List.map_append]
    rfl
  · have e : i = xs.length := by omega
    subst e
    exact .inl ⟨⟨xs, ys, SqT.of (g _ _ hp), SqT.of (g _ _ hq), hl, rfl⟩, fun D hD => hQ D H' g hD⟩
/-- a comprehension over a dict -/
theorem comp_dict {kd : Addr} {o : Obj} {kvs : List (Key × V)} {im : List (Option Nat)} {σ : St} {H : Hp} {Q : VK} {te : TE} (R : Nat → List V → Hp → Prop) (h0 : R 0 [] H)
    (hl : ∀ i ys H', i ≤ kvs.length → R i ys H' → ys.length ≤ sizeLine ∧ H' kd = some (.frz o (.dK kvs)))
    (he : ∀ i k v ys H' (N : V → Hp → Prop), kvs[i]? = some (k, v) → R i ys H' → (∀ y H'', R (i + 1) (ys ++ [y]) H'' → N y H'') → te ((inner im σ).set 0 (some (kV k))) H' N)
    (hq : ∀ ys H', R kvs.length ys H' → ∀ D, H' D = none → Q (.ref D) (upd H' D (.lst ys))) : CompAt im (gName 0) tNoIf te σ Q (Itd kd o kvs) H := by
  refine ⟨fun i m ys H' => m = kvs.length - i ∧ i ≤ kvs.length ∧ R i ys H', ⟨kvs.length, by simp, Nat.zero_le _, h0⟩, ?_⟩
  rintro i m ys H' ⟨rfl, hi, r⟩
  have hz := hl i ys H' hi r
  refine ⟨hz.1, ?_⟩
  by_cases hlt : i < kvs.length
  · refine .inr ⟨⟨hz.2, hlt⟩, fun x H'' y => ?_⟩
    obtain ⟨e, k, hk, rfl⟩ := y
    subst e
    rw [List.getElem?_map, List.getElem?_eq_getElem hlt] at hk
    have ek : kvs[i].1 = k := Option.some.inj hk
    subst ek
    exact he i kvs[i].1 kvs[i].2 ys _ _ (List.getElem?_eq_getElem hlt) r fun y H5 z => ⟨kvs.length - (i + 1), by omega, rfl, hlt, z⟩
  · have e : i = kvs.length := by omega
    subst e
    exact .inl ⟨⟨hz.2, Nat.le_refl _⟩, hq ys H' r⟩
theorem valV_mem : ∀ {kvs : List (Key × V)} {k : Key}, k ∈ kvs.map (·.1) → ∃ v, valV kvs k = some v
  | [], k, h => by cases h
  | p :: kvs, k, h => by
    by_cases e : p.1 = k
    · exact ⟨_, valV_pos e⟩
    · rw [valV_neg e]
      rcases List.mem_cons.mp h with h | h
      · exact absurd h.symm e
      · exact valV_mem h
theorem iteT2 {c : Bool} {A B : Prop} (h : c = true) (x : A) : if c = true then A else B := by rw [if_pos h]; exact x
theorem iteF2 {c : Bool} {A B : Prop} (h : c = false) (x : B) : if c = true then A else B := by rw [h]; exact x
theorem eqV_refl {x : V} (h : flatV x = true) : eqV x x = true := by
  cases x with
  | non => rfl
  | bl b => cases b <;> rfl
  | int i => simp [eqV]
  | str z => simp [eqV]
  | byt b => cases h
  | flt b => cases h
  | ref b => cases h
  | ty b => cases h
theorem eqLs_refl (xs : List V) (h : xs.all flatV = true) : eqLs xs xs = true := by
  have g : ∀ xs : List V, xs.all flatV = true → (List.zipWith eqV xs xs).all id = true := by
    intro xs
    induction xs with
    | nil => intro _; rfl
    | cons x xs ih =>
      intro h
      rw [List.all_cons, Bool.and_eq_true] at h
      rw [List.zipWith_cons_cons, List.all_cons, ih h.2, eqV_refl h.1]
      rfl
  unfold eqLs
  rw [g xs h]
  simp
theorem strs_flat (ss : List Str) : (ss.map V.str).all flatV = true := by
  rw [List.all_map, List.all_eq_true]
  intro x _; rfl
section
variable {P : Program} {w : World} {K : PySem.W.Frag} {mg : Str → Option Value} {base : Heap} {a : Adr}
def spE (b : Bool) (n : Nat) : Sp := fun vs H Q _ => ∃ x y, vs = [x, y] ∧ Eqv b n H x y ∧ ∀ H', Same H H' → Q (.bl true) H'
theorem spE_flat {b : Bool} {n : Nat} {vs : List V} {H : Hp} {Q : VK} {E : XK} {x : V} (h : flatV x = true) (e : vs = [x, x]) (q : ∀ H', Same H H' → Q (.bl true) H') : spSameF vs H Q E :=
  ⟨x, x, e, h, h, fun H' g => by rw [decide_eq_true rfl]; exact q H' g⟩
theorem ok_sameE (T : Txt K mg a) (n : Nat) : ∀ (b : Bool), FnOk P w K mg base CX0 (n + 1) a.f_same a.d_same ["_law_told", "_law_due"] (spE b n) := by
  induction n with
  | zero => exact fun b => ((ok_sameF T).mono (by omega)).imp fun vs H Q E ⟨x, y, e, h, q⟩ => by unfold Eqv at h; obtain ⟨h1, h2⟩ := h; subst h2; exact spE_flat (b := b) (n := 0) h1 e q
  | succ n IH =>
    intro b
    have ih := IH b
    have ihf := IH false
    have L : FnOk P w K mg base CX0 (n + 2) a.f_same a.d_same ["_law_told", "_law_due"] (fun vs H Q _ => ∃ p q xs ys, vs = [.ref p, .ref q] ∧ H p = some (.lst xs) ∧ H q = some (.lst ys) ∧ xs.length ≤ 1000 ∧ xs.length = ys.length ∧ (∀ (i : Nat) (u v : V), xs[i]? = some u → ys[i]? = some v → Eqv b n H u v) ∧ ∀ H', Same H H' → Q (.bl true) H') := by
      refine T.F_same.ok sc_same (fun vs H Q E h => ?_) (fun cdv A outer s H vs Q E hr h => ?_)
      · obtain ⟨x, y, xs, ys, rfl, _⟩ := h; rfl
      obtain ⟨p, q', xs, ys, rfl, hp, hq, lx, hl, he, q⟩ := h
      refine ⟨_, (pss_cons (ps_if (pt_cmpR op_isN (pv 1) pe_non (nomark _)) (pss_one (ps_ret (pe_cmpR op_isN (pv 0) pe_non (nomark _)))) pss_nil) (pss_cons (ps_if (PW.pt (pw_or (pt_val (pe_callB call_isinst rfl T.n_isinstance (by decide +kernel) (pa_cons (pv 1) (pa_cons (pe_bltn (v := .ty "bool") (u := .type "bool") rfl T.n_bool (by decide +kernel) rfl) pa_nil)))) (pw_or1 (pt_val (pe_callB call_isinst rfl T.n_isinstance (by decide +kernel) (pa_cons (pv 0) (pa_cons (pe_bltn (v := .ty "bool") (u := .type "bool") rfl T.n_bool (by decide +kernel) rfl) pa_nil))))))) (pss_one (ps_ret (pe_and (pe_callB call_isinst rfl T.n_isinstance (by decide +kernel) (pa_cons (pv 1) (pa_cons (pe_bltn (v := .ty "bool") (u := .type "bool") rfl T.n_bool (by decide +kernel) rfl) pa_nil))) (pe_and (pe_callB call_isinst rfl T.n_isinstance (by decide +kernel) (pa_cons (pv 0) (pa_cons (pe_bltn (v := .ty "bool") (u := .type "bool") rfl T.n_bool (by decide +kernel) rfl) pa_nil))) (pe_one (pe_cmpR op_eq (pv 0) (pv 1) (nomark _))))))) pss_nil) (pss_cons (ps_if (pt_val (pe_callB call_isinstT rfl T.n_isinstance (by decide +kernel) (pa_cons (pv 1) (pa_cons (pe_tup (pa_cons (pe_bltn (v := .ty "int") (u := .type "int") rfl T.n_int (by decide +kernel) rfl) (pa_cons (pe_bltn (v := .ty "str") (u := .type "str") rfl T.n_str (by decide +kernel) rfl) pa_nil))) pa_nil)))) (pss_one (ps_ret (pe_and (pe_callB call_isinstT rfl T.n_isinstance (by decide +kernel) (pa_cons (pv 0) (pa_cons (pe_tup (pa_cons (pe_bltn (v := .ty "int") (u := .type "int") rfl T.n_int (by decide +kernel) rfl) (pa_cons (pe_bltn (v := .ty "str") (u := .type "str") rfl T.n_str (by decide +kernel) rfl) pa_nil))) pa_nil))) (pe_and (pe_cmpR op_eq (pe_callB call_isinst rfl T.n_isinstance (by decide +kernel) (pa_cons (pv 0) (pa_cons (pe_bltn (v := .ty "int") (u := .type "int") rfl T.n_int (by decide +kernel) rfl) pa_nil))) (pe_callB call_isinst rfl T.n_isinstance (by decide +kernel) (pa_cons (pv 1) (pa_cons (pe_bltn (v := .ty "int") (u := .type "int") rfl T.n_int (by decide +kernel) rfl) pa_nil))) (nomark _)) (pe_one (pe_cmpR op_eq (pv 0) (pv 1) (nomark _))))))) pss_nil) (pss_cons (ps_if (pt_val (pe_callB call_isinst rfl T.n_isinstance (by decide +kernel) (pa_cons (pv 1) (pa_cons (pe_bltn (v := .ty "dict") (u := .type "dict") rfl T.n_dict (by decide +kernel) rfl) pa_nil)))) pss_never pss_nil) (pss_cons (ps_if (PW.pt (pw_or (pt_cmpR op_ne (pe_callB call_isinst rfl T.n_isinstance (by decide +kernel) (pa_cons (pv 1) (pa_cons (pe_bltn (v := .ty "list") (u := .type "list") rfl T.n_list (by decide +kernel) rfl) pa_nil))) (pe_callB call_isinst rfl T.n_isinstance (by decide +kernel) (pa_cons (pv 0) (pa_cons (pe_bltn (v := .ty "list") (u := .type "list") rfl T.n_list (by decide +kernel) rfl) pa_nil))) (nomark _)) (pw_or1 (pt_cmpR op_ne (pe_callB call_isinst rfl T.n_isinstance (by decide +kernel) (pa_cons (pv 1) (pa_cons (pe_bltn (v := .ty "tuple") (u := .type "tuple") rfl T.n_tuple (by decide +kernel) rfl) pa_nil))) (pe_callB call_isinst rfl T.n_isinstance (by decide +kernel) (pa_cons (pv 0) (pa_cons (pe_bltn (v := .ty "tuple") (u := .type "tuple") rfl T.n_tuple (by decide +kernel) rfl) pa_nil))) (nomark _))))) (pss_one (ps_ret pe_bl)) pss_nil) (pss_one (ps_ret (pe_and (pe_cmpR op_eq (pe_callB call_len rfl T.n_len PySem.boot_len (pa_cons (pv 0) pa_nil)) (pe_callB call_len rfl T.n_len PySem.boot_len (pa_cons (pv 1) pa_nil)) (nomark _)) (pe_one (pe_callB (call_all rfl) rfl T.n_all (by decide +kernel) (pa_cons (pe_comp (g := gTup K 2 (gCons (gName 0) (gCons (gName 1) gNil))) ["_law_one", "_law_other"] [none, none] (pi_zip rfl T.n_zip (pa_cons (pv 0) (pa_cons (pv 1) pa_nil))) (fun _ _ _ _ _ => (pg_tup (n := 2) rfl (pgs_cons (pg_name (i := 0) (show List.Nodup (["_law_one", "_law_other"] : List Str) from by decide +kernel) rfl (Or.inl rfl) (Or.inr rfl)) (pgs_cons (pg_name (i := 1) (show List.Nodup (["_law_one", "_law_other"] : List Str) from by decide +kernel) rfl (Or.inl rfl) (Or.inr rfl)) pgs_nil)))) (fun _ _ _ _ _ => pts_nil) (fun _ _ _ _ _ => (pe_call ih (hr.mono (by omega)) rfl T.m_same T.F_same.kp T.b_same .nil pass0 (pa_cons (pv 0) (pa_cons (pv 1) pa_nil))))) pa_nil))))))))))), ?_⟩
      refine ⟨_, rfl, rfl, _, rfl, iteF ⟨_, rfl, _, _, _, false, rfl, .lst hq, rfl, _, rfl, iteF ⟨_, rfl, _, _, _, false, rfl, .lst hp, rfl, _, rfl, iteF ?_⟩⟩⟩
      refine ⟨_, rfl, small (n := 2) (by decide), fun tp htp => ?_⟩
      have g1 := same_new htp (.tup [.ty "int", .ty "str"])
      have hp1 := g1 _ _ hp
      have hq1 := g1 _ _ hq
      refine ⟨_, _, tp, ["int", "str"], false, rfl, upd_same, .lst hq1, rfl, _, rfl, iteF ?_⟩
      refine ⟨_, rfl, _, _, _, false, rfl, .lst hq1, rfl, _, rfl, iteF ?_⟩
      refine ⟨_, rfl, _, _, _, true, rfl, .lst hq1, rfl, _, rfl, _, _, _, true, rfl, .lst hp1, rfl, rfl, _, rfl, iteF ?_⟩
      refine ⟨_, rfl, _, _, _, false, rfl, .lst hq1, rfl, _, rfl, _, _, _, false, rfl, .lst hp1, rfl, rfl, _, rfl, iteF ?_⟩
      refine ⟨_, rfl, _, _, rfl, .inl ⟨_, SqL.of hp1, rfl⟩, _, rfl, _, _, rfl, .inl ⟨_, SqL.of hq1, rfl⟩, rfl, _, rfl, iteT2 (decide_eq_true (by rw [hl])) ?_⟩
      refine ⟨_, rfl, _, rfl, p, q', rfl, ⟨_, SqL.of hp1⟩, ⟨_, SqL.of hq1⟩, ?_⟩
      refine comp_zipL hl (SqL.of hp1) (SqL.of hq1) (small lx) (fun i x y H' R hx hy g hR => ?_) (fun D H' g hD => ?_)
      · exact ⟨_, rfl, _, rfl, x, y, rfl, (he i x y hx hy).same (g1.trans g), hR⟩
      · refine ⟨D, _, rfl, SqL.of upd_same, ?_⟩
        have e1 : (List.replicate xs.length true).all id = true := by simp
        rw [e1]
        exact q _ ((g1.trans g).trans (same_new hD _))
    have U : FnOk P w K mg base CX0 (n + 2) a.f_same a.d_same ["_law_told", "_law_due"] (fun vs H Q _ => ∃ p q xs ys, vs = [.ref p, .ref q] ∧ H p = some (.tup xs) ∧ H q = some (.tup ys) ∧ xs.length ≤ 1000 ∧ xs.length = ys.length ∧ (∀ (i : Nat) (u v : V), xs[i]? = some u → ys[i]? = some v → Eqv b n H u v) ∧ ∀ H', Same H H' → Q (.bl true) H') := by
      refine T.F_same.ok sc_same (fun vs H Q E h => ?_) (fun cdv A outer s H vs Q E hr h => ?_)
      · obtain ⟨x, y, xs, ys, rfl, _⟩ := h; rfl
      obtain ⟨p, q', xs, ys, rfl, hp, hq, lx, hl, he, q⟩ := h
      have hu := hr.units0
      refine ⟨_, (pss_cons (ps_if (pt_cmpR op_isN (pv 1) pe_non (nomark _)) (pss_one (ps_ret (pe_cmpR op_isN (pv 0) pe_non (nomark _)))) pss_nil) (pss_cons (ps_if (PW.pt (pw_or (pt_val (pe_callB call_isinst rfl T.n_isinstance (by decide +kernel) (pa_cons (pv 1) (pa_cons (pe_bltn (v := .ty "bool") (u := .type "bool") rfl T.n_bool (by decide +kernel) rfl) pa_nil)))) (pw_or1 (pt_val (pe_callB call_isinst rfl T.n_isinstance (by decide +kernel) (pa_cons (pv 0) (pa_cons (pe_bltn (v := .ty "bool") (u := .type "bool") rfl T.n_bool (by decide +kernel) rfl) pa_nil))))))) (pss_one (ps_ret (pe_and (pe_callB call_isinst rfl T.n_isinstance (by decide +kernel) (pa_cons (pv 1) (pa_cons (pe_bltn (v := .ty "bool") (u := .type "bool") rfl T.n_bool (by decide +kernel) rfl) pa_nil))) (pe_and (pe_callB call_isinst rfl T.n_isinstance (by decide +kernel) (pa_cons (pv 0) (pa_cons (pe_bltn (v := .ty "bool") (u := .type "bool") rfl T.n_bool (by decide +kernel) rfl) pa_nil))) (pe_one (pe_cmpR (op_eqT hu) (pv 0) (pv 1) (nomark _))))))) pss_nil) (pss_cons (ps_if (pt_val (pe_callB call_isinstT rfl T.n_isinstance (by decide +kernel) (pa_cons (pv 1) (pa_cons (pe_tup (pa_cons (pe_bltn (v := .ty "int") (u := .type "int") rfl T.n_int (by decide +kernel) rfl) (pa_cons (pe_bltn (v := .ty "str") (u := .type "str") rfl T.n_str (by decide +kernel) rfl) pa_nil))) pa_nil)))) (pss_one (ps_ret (pe_and (pe_callB call_isinstT rfl T.n_isinstance (by decide +kernel) (pa_cons (pv 0) (pa_cons (pe_tup (pa_cons (pe_bltn (v := .ty "int") (u := .type "int") rfl T.n_int (by decide +kernel) rfl) (pa_cons (pe_bltn (v := .ty "str") (u := .type "str") rfl T.n_str (by decide +kernel) rfl) pa_nil))) pa_nil))) (pe_and (pe_cmpR op_eq (pe_callB call_isinst rfl T.n_isinstance (by decide +kernel) (pa_cons (pv 0) (pa_cons (pe_bltn (v := .ty "int") (u := .type "int") rfl T.n_int (by decide +kernel) rfl) pa_nil))) (pe_callB call_isinst rfl T.n_isinstance (by decide +kernel) (pa_cons (pv 1) (pa_cons (pe_bltn (v := .ty "int") (u := .type "int") rfl T.n_int (by decide +kernel) rfl) pa_nil))) (nomark _)) (pe_one (pe_cmpR (op_eqT hu) (pv 0) (pv 1) (nomark _))))))) pss_nil) (pss_cons (ps_if (pt_val (pe_callB call_isinst rfl T.n_isinstance (by decide +kernel) (pa_cons (pv 1) (pa_cons (pe_bltn (v := .ty "dict") (u := .type "dict") rfl T.n_dict (by decide +kernel) rfl) pa_nil)))) pss_never pss_nil) (pss_cons (ps_if (PW.pt (pw_or (pt_cmpR op_ne (pe_callB call_isinst rfl T.n_isinstance (by decide +kernel) (pa_cons (pv 1) (pa_cons (pe_bltn (v := .ty "list") (u := .type "list") rfl T.n_list (by decide +kernel) rfl) pa_nil))) (pe_callB call_isinst rfl T.n_isinstance (by decide +kernel) (pa_cons (pv 0) (pa_cons (pe_bltn (v := .ty "list") (u := .type "list") rfl T.n_list (by decide +kernel) rfl) pa_nil))) (nomark _)) (pw_or1 (pt_cmpR op_ne (pe_callB call_isinst rfl T.n_isinstance (by decide +kernel) (pa_cons (pv 1) (pa_cons (pe_bltn (v := .ty "tuple") (u := .type "tuple") rfl T.n_tuple (by decide +kernel) rfl) pa_nil))) (pe_callB call_isinst rfl T.n_isinstance (by decide +kernel) (pa_cons (pv 0) (pa_cons (pe_bltn (v := .ty "tuple") (u := .type "tuple") rfl T.n_tuple (by decide +kernel) rfl) pa_nil))) (nomark _))))) (pss_one (ps_ret pe_bl)) pss_nil) (pss_one (ps_ret (pe_and (pe_cmpR op_eq (pe_callB call_len_seq rfl T.n_len PySem.boot_len (pa_cons (pv 0) pa_nil)) (pe_callB call_len_seq rfl T.n_len PySem.boot_len (pa_cons (pv 1) pa_nil)) (nomark _)) (pe_one (pe_callB (call_all rfl) rfl T.n_all (by decide +kernel) (pa_cons (pe_comp (g := gTup K 2 (gCons (gName 0) (gCons (gName 1) gNil))) ["_law_one", "_law_other"] [none, none] (pi_zipT rfl T.n_zip (pa_cons (pv 0) (pa_cons (pv 1) pa_nil))) (fun _ _ _ _ _ => (pg_tup (n := 2) rfl (pgs_cons (pg_name (i := 0) (show List.Nodup (["_law_one", "_law_other"] : List Str) from by decide +kernel) rfl (Or.inl rfl) (Or.inr rfl)) (pgs_cons (pg_name (i := 1) (show List.Nodup (["_law_one", "_law_other"] : List Str) from by decide +kernel) rfl (Or.inl rfl) (Or.inr rfl)) pgs_nil)))) (fun _ _ _ _ _ => pts_nil) (fun _ _ _ _ _ => (pe_call ih (hr.mono (by omega)) rfl T.m_same T.F_same.kp T.b_same .nil pass0 (pa_cons (pv 0) (pa_cons (pv 1) pa_nil))))) pa_nil))))))))))), ?_⟩
      refine ⟨_, rfl, rfl, _, rfl, iteF ⟨_, rfl, _, _, _, false, rfl, .tup hq, rfl, _, rfl, iteF ⟨_, rfl, _, _, _, false, rfl, .tup hp, rfl, _, rfl, iteF ?_⟩⟩⟩
      refine ⟨_, rfl, small (n := 2) (by decide), fun tp htp => ?_⟩
      have g1 := same_new htp (.tup [.ty "int", .ty "str"])
      have hp1 := g1 _ _ hp
      have hq1 := g1 _ _ hq
      refine ⟨_, _, tp, ["int", "str"], false, rfl, upd_same, .tup hq1, rfl, _, rfl, iteF ?_⟩
      refine ⟨_, rfl, _, _, _, false, rfl, .tup hq1, rfl, _, rfl, iteF ?_⟩
      refine ⟨_, rfl, _, _, _, false, rfl, .tup hq1, rfl, _, rfl, _, _, _, false, rfl, .tup hp1, rfl, rfl, _, rfl, iteF ?_⟩
      refine ⟨_, rfl, _, _, _, true, rfl, .tup hq1, rfl, _, rfl, _, _, _, true, rfl, .tup hp1, rfl, rfl, _, rfl, iteF ?_⟩
      refine ⟨_, rfl, _, _, rfl, .inr (SqT.of hp1), _, rfl, _, _, rfl, .inr (SqT.of hq1), rfl, _, rfl, iteT2 (decide_eq_true (by rw [hl])) ?_⟩
      refine ⟨_, rfl, _, rfl, p, q', rfl, ⟨_, SqT.of hp1⟩, ⟨_, SqT.of hq1⟩, ?_⟩
      refine comp_zipT hl hp1 hq1 (small lx) (fun i x y H' R hx hy g hR => ?_) (fun D H' g hD => ?_)
      · exact ⟨_, rfl, _, rfl, x, y, rfl, (he i x y hx hy).same (g1.trans g), hR⟩
      · refine ⟨D, _, rfl, SqL.of upd_same, ?_⟩
        have e1 : (List.replicate xs.length true).all id = true := by simp
        rw [e1]
        exact q _ ((g1.trans g).trans (same_new hD _))
    have Dd : FnOk P w K mg base CX0 (n + 2) a.f_same a.d_same ["_law_told", "_law_due"] (fun vs H Q _ => ∃ (p q : Addr) (kvs kvs' : List (Key × V)) (ss ss' : List Str), vs = [.ref p, .ref q] ∧ H p = some (.dK kvs) ∧ H q = some (.dK kvs') ∧ kvs.map (·.1) = ss.map Sum.inr ∧ kvs'.map (·.1) = ss'.map Sum.inr ∧ ss.Perm ss' ∧ ss.length < 64 ∧
        (∀ s v v', valV kvs (Sum.inr s) = some v → valV kvs' (Sum.inr s) = some v' → Eqv false n H v v') ∧ ∀ H', Same H H' → Q (.bl true) H') := by
      have ih := ihf
      refine T.F_same.ok sc_same (fun vs H Q E h => ?_) (fun cdv A outer s H vs Q E hr h => ?_)
      · obtain ⟨x, y, xs, ys, z1, z2, rfl, _⟩ := h; rfl
      obtain ⟨p, q', kvs, kvs', ss, ss', rfl, hp, hq, k1, k2, hpm, hl, he, q⟩ := h
      have hu := hr.units0
      have hu1 := hu_of hr
      refine ⟨_, (pss_cons (ps_if (pt_cmpR op_isN (pv 1) pe_non (nomark _)) (pss_one (ps_ret (pe_cmpR op_isN (pv 0) pe_non (nomark _)))) pss_nil) (pss_cons (ps_if (PW.pt (pw_or (pt_val (pe_callB call_isinst rfl T.n_isinstance (by decide +kernel) (pa_cons (pv 1) (pa_cons (pe_bltn (v := .ty "bool") (u := .type "bool") rfl T.n_bool (by decide +kernel) rfl) pa_nil)))) (pw_or1 (pt_val (pe_callB call_isinst rfl T.n_isinstance (by decide +kernel) (pa_cons (pv 0) (pa_cons (pe_bltn (v := .ty "bool") (u := .type "bool") rfl T.n_bool (by decide +kernel) rfl) pa_nil))))))) (pss_one (ps_ret (pe_and (pe_callB call_isinst rfl T.n_isinstance (by decide +kernel) (pa_cons (pv 1) (pa_cons (pe_bltn (v := .ty "bool") (u := .type "bool") rfl T.n_bool (by decide +kernel) rfl) pa_nil))) (pe_and (pe_callB call_isinst rfl T.n_isinstance (by decide +kernel) (pa_cons (pv 0) (pa_cons (pe_bltn (v := .ty "bool") (u := .type "bool") rfl T.n_bool (by decide +kernel) rfl) pa_nil))) (pe_one (pe_cmpR op_eq (pv 0) (pv 1) (nomark _))))))) pss_nil) (pss_cons (ps_if (pt_val (pe_callB call_isinstT rfl T.n_isinstance (by decide +kernel) (pa_cons (pv 1) (pa_cons (pe_tup (pa_cons (pe_bltn (v := .ty "int") (u := .type "int") rfl T.n_int (by decide +kernel) rfl) (pa_cons (pe_bltn (v := .ty "str") (u := .type "str") rfl T.n_str (by decide +kernel) rfl) pa_nil))) pa_nil)))) (pss_one (ps_ret (pe_and (pe_callB call_isinstT rfl T.n_isinstance (by decide +kernel) (pa_cons (pv 0) (pa_cons (pe_tup (pa_cons (pe_bltn (v := .ty "int") (u := .type "int") rfl T.n_int (by decide +kernel) rfl) (pa_cons (pe_bltn (v := .ty "str") (u := .type "str") rfl T.n_str (by decide +kernel) rfl) pa_nil))) pa_nil))) (pe_and (pe_cmpR op_eq (pe_callB call_isinst rfl T.n_isinstance (by decide +kernel) (pa_cons (pv 0) (pa_cons (pe_bltn (v := .ty "int") (u := .type "int") rfl T.n_int (by decide +kernel) rfl) pa_nil))) (pe_callB call_isinst rfl T.n_isinstance (by decide +kernel) (pa_cons (pv 1) (pa_cons (pe_bltn (v := .ty "int") (u := .type "int") rfl T.n_int (by decide +kernel) rfl) pa_nil))) (nomark _)) (pe_one (pe_cmpR op_eq (pv 0) (pv 1) (nomark _))))))) pss_nil) (pss_cons (ps_if (pt_val (pe_callB call_isinst rfl T.n_isinstance (by decide +kernel) (pa_cons (pv 1) (pa_cons (pe_bltn (v := .ty "dict") (u := .type "dict") rfl T.n_dict (by decide +kernel) rfl) pa_nil)))) (pss_cons (ps_if (PW.pt (pw_or (pt_not (pt_val (pe_callB call_isinst rfl T.n_isinstance (by decide +kernel) (pa_cons (pv 0) (pa_cons (pe_bltn (v := .ty "dict") (u := .type "dict") rfl T.n_dict (by decide +kernel) rfl) pa_nil))))) (pw_or1 (pt_cmpR (op_neL hu) (pe_callB call_sortedS rfl T.n_sorted (by decide +kernel) (pa_cons (pe_callTy (call_listD rfl) rfl T.n_list (by decide +kernel) (pa_cons (pv 0) pa_nil)) pa_nil)) (pe_callB call_sortedS rfl T.n_sorted (by decide +kernel) (pa_cons (pe_callTy (call_listD rfl) rfl T.n_list (by decide +kernel) (pa_cons (pv 1) pa_nil)) pa_nil)) (nomark _))))) (pss_one (ps_ret pe_bl)) pss_nil) (pss_one (ps_ret (pe_callB (call_all rfl) rfl T.n_all (by decide +kernel) (pa_cons (pe_thaw (pe_comp ["_law_name", "_law_told", "_law_due"] [none, some 0, some 1] (pi_dict (pv 1)) (fun _ _ _ _ _ => (pg_name (i := 0) (show List.Nodup (["_law_name", "_law_told", "_law_due"] : List Str) from by decide +kernel) rfl (Or.inl rfl) (Or.inr rfl))) (fun _ _ _ _ _ => pts_nil) (fun _ _ _ _ _ => (pe_call ih (hr.mono (by omega)) rfl T.m_same T.F_same.kp T.b_same .nil pass0 (pa_cons (pe_dget hu1 (pv 1) (pv 0) (fun _ _ => rfl)) (pa_cons (pe_dget hu1 (pv 2) (pv 0) (fun _ _ => rfl)) pa_nil)))))) pa_nil))))) pss_nil) pss_never)))), ?_⟩
      refine ⟨_, rfl, rfl, _, rfl, iteF ⟨_, rfl, _, _, _, false, rfl, .dK hq, rfl, _, rfl, iteF ⟨_, rfl, _, _, _, false, rfl, .dK hp, rfl, _, rfl, iteF ?_⟩⟩⟩
      refine ⟨_, rfl, small (n := 2) (by decide), fun tp htp => ?_⟩
      have g1 := same_new htp (.tup [.ty "int", .ty "str"])
      have hp1 := g1 _ _ hp
      have hq1 := g1 _ _ hq
      refine ⟨_, _, tp, ["int", "str"], false, rfl, upd_same, .dK hq1, rfl, _, rfl, iteF ?_⟩
      refine ⟨_, rfl, _, _, _, true, rfl, .dK hq1, rfl, _, rfl, iteT ?_⟩
      refine ⟨_, rfl, _, _, _, true, rfl, .dK hp1, rfl, _, rfl, iteF ?_⟩
      have e1 : (kvs.map (·.1)).map kV = ss.map V.str := by rw [k1, List.map_map]; rfl
      have e2 : (kvs'.map (·.1)).map kV = ss'.map V.str := by rw [k2, List.map_map]; rfl
      refine ⟨_, rfl, p, kvs, rfl, .inl hp1, fun l1 hl1 => ?_⟩
      rw [e1]
      refine ⟨l1, ss, rfl, SqL.of upd_same, hl, fun so1 s1 pm1 st1 hs1 => ?_⟩
      have g2 := (same_new hl1 (.lst (ss.map V.str))).trans (same_new hs1 (.lst (so1.map V.str)))
      have hq2 := g2 _ _ hq1
      refine ⟨_, rfl, q', kvs', rfl, .inl hq2, fun l2 hl2 => ?_⟩
      rw [e2]
      refine ⟨l2, ss', rfl, SqL.of upd_same, by rw [← hpm.length_eq]; exact hl, fun so2 s2 pm2 st2 hs2 => ?_⟩
      have g3 := (same_new hl2 (.lst (ss'.map V.str))).trans (same_new hs2 (.lst (so2.map V.str)))
      obtain rfl : so1 = so2 := sorted_one st1 st2 ((pm1.trans hpm).trans pm2.symm)
      refine ⟨s1, s2, _, _, rfl, rfl, SqL.of (g3 _ _ upd_same), SqL.of upd_same, strs_flat _, strs_flat _, _, rfl, ?_⟩
      rw [eqLs_refl _ (strs_flat _)]
      refine iteF ?_
      have g := g1.trans (g2.trans g3)
      have hp4 := g _ _ hp
      have hq4 := g _ _ hq
      have hf0 : ∀ o u, H q' ≠ some (.frz o u) := fun o u z => by rw [hq] at z; cases z
      refine ⟨_, rfl, q', kvs', rfl, .inl ⟨hq4, fun o => ?_⟩⟩
      refine comp_dict (fun i ys H' => ys = (List.replicate i true).map V.bl ∧ Same (upd _ q' (.frz o (.dK kvs'))) H') ⟨rfl, Same.refl _⟩ (fun i ys H' hi r => ?_) (fun i k v ys H' N hk r hN => ?_) (fun ys H' r D hD => ?_)
      · obtain ⟨rfl, gg⟩ := r
        have : kvs'.length < 64 := by
          have := congrArg List.length k2
          rw [List.length_map, List.length_map] at this
          rw [this, ← hpm.length_eq]; exact hl
        exact ⟨by rw [List.length_map, List.length_replicate]; exact small (by omega), gg _ _ upd_same⟩
      · obtain ⟨rfl, gg⟩ := r
        have hfz : H' q' = some (.frz o (.dK kvs')) := gg _ _ upd_same
        have hmem : k ∈ kvs'.map (·.1) := List.mem_map.mpr ⟨_, List.mem_of_getElem? hk, rfl⟩
        rw [k2] at hmem
        obtain ⟨s, hs, rfl⟩ := List.mem_map.mp hmem
        obtain ⟨v', hv'⟩ := valV_mem (kvs := kvs') (k := Sum.inr s) (by rw [k2]; exact List.mem_map.mpr ⟨s, hs, rfl⟩)
        obtain ⟨v1, hv1⟩ := valV_mem (kvs := kvs) (k := Sum.inr s) (by rw [k1]; exact List.mem_map.mpr ⟨s, hpm.mem_iff.mpr hs, rfl⟩)
        have hpr : Rd H' p (.dK kvs) := by
          by_cases hpq : p = q'
          · subst hpq
            rw [hp] at hq; cases hq
            exact .inr ⟨o, hfz⟩
          · exact .inl (gg _ _ (by rw [upd_ne hpq]; exact hp4))
        refine ⟨_, rfl, _, rfl, p, v1, rfl, .inl ⟨kvs, Sum.inr s, hpr, rfl, hv1.symm⟩, ?_⟩
        refine ⟨_, rfl, _, rfl, q', v', rfl, .inl ⟨kvs', Sum.inr s, .inr ⟨o, hfz⟩, rfl, hv'.symm⟩, ?_⟩
        refine ⟨v1, v', rfl, (he s v1 v' hv1 hv').keep fun a u ha hd => ?_, fun H'' g'' => hN _ _ ⟨?_, gg.trans g''⟩⟩
        · refine gg _ _ ?_
          have hne : a ≠ q' := fun z => by
            rw [z, hq] at ha; cases ha
            rcases hd with z | z
            · cases z
            · exact z _ rfl
          rw [upd_ne hne]
          exact g _ _ ha
        · rw [List.replicate_succ', List.map_append]; rfl
      · obtain ⟨rfl, gg⟩ := r
        have hfz : H' q' = some (.frz o (.dK kvs')) := gg _ _ upd_same
        have hne : q' ≠ D := fun z => by rw [z, hD] at hfz; cases hfz
        refine .inr ⟨q', o, kvs', by rw [upd_ne hne]; exact hfz, hf0, D, List.replicate kvs'.length true, rfl, SqL.of ?_, ?_⟩
        · rw [upd_ne (Ne.symm hne), upd_same]
        · have e1 : (List.replicate kvs'.length true).all id = true := by simp
          rw [e1]
          refine q _ fun b u hb => ?_
          by_cases hbq : b = q'
          · subst hbq; rw [hq] at hb; cases hb; exact upd_same
          · rw [upd_ne hbq]
            have hb1 := gg _ _ (by rw [upd_ne hbq]; exact g _ _ hb)
            rw [upd_ne fun z => by rw [z, hD] at hb1; cases hb1]
            exact hb1
    refine (((ok_sameF T).mono (by omega)).or (L.or (U.or Dd))).imp fun vs H Q E ⟨x, y, e, h, q⟩ => ?_
    unfold Eqv at h
    rcases h with ⟨h1, h2⟩ | ⟨p, q', xs, ys, rfl, rfl, h1, h2, h3, h4⟩ | ⟨hb, p, q', kvs, kvs', ss, ss', rfl, rfl, h1, h2, h3, h4, h5, h6, h7⟩
    · subst h2; exact .inl (spE_flat (b := b) (n := 0) h1 e q)
    · rcases h1 with ⟨a1, a2⟩ | ⟨a1, a2⟩
      · exact .inr (.inl ⟨p, q', xs, ys, e, a1, a2, h2, h3, h4, q⟩)
      · exact .inr (.inr (.inl ⟨p, q', xs, ys, e, a1, a2, h2, h3, h4, q⟩))
    · exact .inr (.inr (.inr ⟨p, q', kvs, kvs', ss, ss', e, h1, h2, h3, h4, h5, h6, h7, q⟩))
end

end My

set_option Elab.async false
set_option linter.all false
set_option maxRecDepth 100000
set_option maxHeartbeats 4000000
namespace My
open PySem L2
/-! ### texts as lists of signs -/
theorem str_ext {x y : Str} (h : x.cps.toList = y.cps.toList) : x = y := by
  cases x; cases y
  simp only at h
  rw [Array.toList_inj.mp h]
theorem len_list (x : Str) : x.cps.toList.length = x.length := by simp [Str.length]
theorem q_list : ("'" : Str).cps.toList = [39] := by decide +kernel
theorem m_list : ("-" : Str).cps.toList = [45] := by decide +kernel
theorem starts1 {x y : Str} {d : Nat} (hy : y.cps.toList = [d]) : Txt.startswith x y = (x.cps.toList.head? == some d) := by
  have ly : y.length = 1 := by rw [← len_list, hy]; rfl
  have lx := len_list x
  unfold Txt.startswith
  rw [StrLaws.subAt_eq, hy, ly]
  cases e : x.cps.toList with
  | nil =>
    rw [e] at lx
    have : x.length = 0 := lx.symm
    rw [this]; rfl
  | cons c r =>
    rw [e] at lx
    have : 0 + 1 ≤ x.length := by rw [← lx]; simp
    rw [decide_eq_true this]
    simp
theorem ends1 {x y : Str} {d : Nat} (hy : y.cps.toList = [d]) (hx : 1 ≤ x.length) : Txt.endswith x y = (x.cps.toList[x.length - 1]? == some d) := by
  have ly : y.length = 1 := by rw [← len_list, hy]; rfl
  unfold Txt.endswith
  rw [StrLaws.subAt_eq, hy, ly, decide_eq_true (by omega), Bool.true_and]
  rw [Bool.eq_iff_iff, StrLaws.take1_drop]
  simp
theorem slice_to1 (x : Str) : (Txt.slice x none (some 1)).cps.toList = x.cps.toList.take 1 := by
  cases e : x.cps.toList with
  | nil =>
    have h := slice_len x none (some 1)
    have lx := len_list x
    rw [e] at lx
    have l2 := len_list (Txt.slice x none (some 1))
    have : (Txt.slice x none (some 1)).cps.toList.length = 0 := by
      have : x.length = 0 := lx.symm
      omega
    rw [List.length_eq_zero_iff.mp this]; rfl
  | cons c r =>
    have z : Txt.slice x none (some 1) = StrLaws.sliceText x none (some 1) := rfl
    rw [z, StrLaws.sliceText_to ⟨by decide, by rw [e, List.length_cons]; omega⟩, e]
    rfl
theorem slice_from1 {x : Str} {c : Nat} {r : List Nat} (e : x.cps.toList = c :: r) : (Txt.slice x (some 1) none).cps.toList = r := by
  have z : Txt.slice x (some 1) none = StrLaws.sliceText x (some 1) none := rfl
  rw [z, StrLaws.sliceText_from ⟨by decide, by rw [e, List.length_cons]; omega⟩, e]
  simp
theorem slice_mid {x : Str} (h : 2 ≤ x.length) : (Txt.slice x (some 1) (some (-1))).cps.toList = (x.cps.toList.drop 1).take (x.length - 2) := by
  have z : Txt.slice x (some 1) (some (-1)) = StrLaws.sliceText x (some 1) (some (-1)) := rfl
  have lx := len_list x
  rw [z, StrLaws.sliceText_neg_hi x (some 1) (by decide) (by omega), StrLaws.sliceText_plain ⟨by decide, by omega, by omega⟩]
  have e : (-1 + (x.length : Int) - 1).toNat = x.length - 2 := by omega
  rw [e]
  simp
theorem slice_mid1 {x : Str} (h : x.length ≤ 2) : (Txt.slice x (some 1) (some (-1))).length = 0 := by
  by_cases h2 : 2 ≤ x.length
  · have e := slice_mid h2
    have l := len_list (Txt.slice x (some 1) (some (-1)))
    rw [e] at l
    have : x.length - 2 = 0 := by omega
    rw [this] at l
    simpa using l.symm
  · have l := slice_len x (some 1) (some (-1))
    by_cases h1 : x.length = 1
    · have z : Txt.slice x (some 1) (some (-1)) = StrLaws.sliceText x (some 1) (some (-1)) := rfl
      rw [z]
      unfold StrLaws.sliceText
      rw [h1]
      have : Builtin.Str.strSliceIndices (some 1) (some (-1)) 1 1 = [] := by decide +kernel
      rw [this]
      rfl
    · omega
/-! ### what a text is read as -/
def figs (x : Str) : Str := if (x.cps.toList.head? == some 45) = true then Txt.slice x (some 1) none else x
theorem remove_minus (x : Str) : Txt.removeprefix x "-" = figs x := by
  have ly : ("-" : Str).length = 1 := by decide +kernel
  have lx := len_list x
  rw [StrLaws.removeprefix_eq, StrLaws.subAt_eq, ly, m_list]
  unfold figs
  cases e : x.cps.toList with
  | nil =>
    rw [e] at lx
    have : x.length = 0 := lx.symm
    rw [this]; rfl
  | cons c r =>
    rw [e] at lx
    have h1 : 0 + 1 ≤ x.length := by rw [← lx]; simp
    rw [decide_eq_true h1, Bool.true_and]
    by_cases hc : c = 45
    · subst hc
      rw [if_pos (by simp), if_pos (by simp)]
      apply str_ext
      rw [slice_from1 e]
      have : x.length - 1 = r.length := by rw [← lx]; simp
      rw [this]
      simp
    · rw [if_neg (by simp [hc]), if_neg (by simp [hc])]
theorem to1_minus (x : Str) : decide (V.str (Txt.slice x none (some 1)) = V.str "-") = (x.cps.toList.head? == some 45) := by
  have e1 := slice_to1 x
  rw [Bool.eq_iff_iff, decide_eq_true_eq]
  constructor
  · intro h
    injection h with h
    rw [h, m_list] at e1
    cases e : x.cps.toList with
    | nil => rw [e] at e1; cases e1
    | cons c r => rw [e] at e1; simp at e1; simp [e1]
  · intro h
    cases e : x.cps.toList with
    | nil => rw [e] at h; cases h
    | cons c r =>
      rw [e] at h
      have hc : c = 45 := by simpa using h
      congr 1
      apply str_ext
      rw [e1, e, m_list, hc]
      rfl
def figB (f : Str) : Bool := decide (1 ≤ f.length) && (decide (f.length ≤ 30) && f.cps.toList.all isFig)
def head0 (f : Str) : Bool := f.cps.toList.head? == some 48
def numV (x : Str) : Option V := if figB (figs x) = true then (if (head0 (figs x) && !decide (x = "0")) = true then none else (PySem.intText? x).map V.int) else none
def q1 (x : Str) : Bool := Txt.startswith x "'" && Txt.endswith x "'"
def wrdV (x : Str) : Option V := if wordB (Txt.slice x (some 1) (some (-1))) = true then some (.str (Txt.slice x (some 1) (some (-1)))) else none
def rdV (x : Str) : Option V := if x = "yes" then some (.bl true) else if x = "no" then some (.bl false) else if q1 x = true then wrdV x else numV x
theorem fig_in (c : Nat) : inT "0123456789" c = isFig c := in_small _ _ (by decide +kernel) fig_big (by decide +kernel) c
theorem figB_of (f : Str) : (decide (1 ≤ (f.length : Int)) && (decide ((f.length : Int) ≤ 30) && f.cps.toList.all (inT "0123456789"))) = figB f := by
  unfold figB
  have e1 : f.cps.toList.all (inT "0123456789") = f.cps.toList.all isFig := by congr 1; funext c; exact fig_in c
  rw [e1]
  congr 1
  · rw [Bool.eq_iff_iff]; simp only [decide_eq_true_eq]; omega
  · congr 1; rw [Bool.eq_iff_iff]; simp only [decide_eq_true_eq]; omega
theorem all_fig {l : List Nat} (h : l.all isFig = true) : NumText.AllDigits l := by
  intro c hc
  have := List.all_eq_true.mp h c hc
  unfold isFig at this
  simpa using this
/-- what has a minus and figures -/
theorem figs_cases (x : Str) : (∃ r, x.cps.toList = 45 :: r ∧ (figs x).cps.toList = r) ∨ (x.cps.toList.head? ≠ some 45 ∧ figs x = x) := by
  unfold figs
  cases e : x.cps.toList with
  | nil => exact .inr ⟨by simp, by rw [if_neg (by simp)]⟩
  | cons c r =>
    by_cases hc : c = 45
    · subst hc
      exact .inl ⟨r, rfl, by rw [if_pos (by simp)]; exact slice_from1 e⟩
    · exact .inr ⟨by simp [hc], by rw [if_neg (by simp [hc])]⟩
theorem figB_parts {f : Str} (h : figB f = true) : 1 ≤ f.length ∧ f.length ≤ 30 ∧ f.cps.toList.all isFig = true := by
  unfold figB at h
  simp only [Bool.and_eq_true, decide_eq_true_eq] at h
  exact ⟨h.1, h.2.1, h.2.2⟩
theorem int_of_figs {x : Str} (h : figB (figs x) = true) (hx : x.length ≤ 640) : ∃ n, PySem.intText? x = some n := by
  obtain ⟨h1, h2, h3⟩ := figB_parts h
  have hl := len_list (figs x)
  rcases figs_cases x with ⟨r, e, er⟩ | ⟨_, e⟩
  · rw [er] at h3 hl
    exact ⟨_, intText_neg e (all_fig h3) (fun z => by rw [z] at hl; simp at hl; omega) (by omega)⟩
  · rw [e] at h1 h3 hl
    exact ⟨_, intText_digits (all_fig h3) (fun z => by rw [z] at hl; simp at hl; omega) (by omega)⟩
theorem z_list : ("0" : Str).cps.toList = [48] := by decide +kernel
theorem mz_list : ("-0" : Str).cps.toList = [45, 48] := by decide +kernel
theorem eq_list {x y : Str} : x = y ↔ x.cps.toList = y.cps.toList := ⟨fun h => by rw [h], str_ext⟩
theorem zero_rule {x : Str} (h : figB (figs x) = true) : ((decide (1 < ((figs x).length : Int)) && head0 (figs x)) || decide (x = "-0")) = (head0 (figs x) && !decide (x = "0")) := by
  obtain ⟨h1, h2, h3⟩ := figB_parts h
  have hl := len_list (figs x)
  have d1 : decide (x = "-0") = decide (x.cps.toList = [45, 48]) := by rw [Bool.eq_iff_iff, decide_eq_true_eq, decide_eq_true_eq, eq_list, mz_list]
  have d2 : decide (x = "0") = decide (x.cps.toList = [48]) := by rw [Bool.eq_iff_iff, decide_eq_true_eq, decide_eq_true_eq, eq_list, z_list]
  rw [d1, d2]
  unfold head0
  rcases figs_cases x with ⟨r, e, er⟩ | ⟨hn, e⟩
  · rw [er] at hl ⊢
    rw [e]
    rw [Bool.eq_iff_iff]
    cases r with
    | nil => simp at hl; omega
    | cons c r =>
      rw [← hl]
      cases r with
      | nil => simp
      | cons c2 r => simp; omega
  · rw [e] at hl ⊢
    rw [Bool.eq_iff_iff]
    cases q : x.cps.toList with
    | nil => rw [q] at hl; simp at hl; rw [e] at h1; omega
    | cons c r =>
      rw [q] at hl hn
      have hc : c ≠ 45 := fun z => hn (by rw [z]; rfl)
      rw [← hl]
      cases r with
      | nil => simp [hc]
      | cons c2 r => simp [hc]; omega

/-! ### written and read again -/
theorem yes_list : ("yes" : Str).cps.toList = [121, 101, 115] := by decide +kernel
theorem no_list : ("no" : Str).cps.toList = [110, 111] := by decide +kernel
theorem ne_head {x y : Str} {c d : Nat} {r s : List Nat} (hx : x.cps.toList = c :: r) (hy : y.cps.toList = d :: s) (h : c ≠ d) : x ≠ y := fun e => by
  rw [e, hy] at hx
  injection hx with hx _
  exact h hx.symm
theorem app_list (x y : Str) : (x ++ y).cps.toList = x.cps.toList ++ y.cps.toList := by
  show (x.cps ++ y.cps).toList = _
  simp
theorem rd_word {w : Str} (h : wordB w = true) : rdV ("'" ++ w ++ "'") = some (.str w) := by
  have e : ("'" ++ w ++ "'" : Str).cps.toList = 39 :: (w.cps.toList ++ [39]) := by
    rw [app_list, app_list, q_list]; rfl
  have l : ("'" ++ w ++ "'" : Str).length = w.length + 2 := by
    rw [← len_list, e, List.length_cons, List.length_append, len_list]; rfl
  generalize ("'" ++ w ++ "'" : Str) = x at e l
  have hs : Txt.slice x (some 1) (some (-1)) = w := by
    apply str_ext
    rw [slice_mid (by omega), e, l]
    have : w.length + 2 - 2 = w.cps.toList.length := by rw [len_list]; omega
    rw [this]
    simp
  have hq : q1 x = true := by
    unfold q1
    rw [starts1 q_list, ends1 q_list (by omega), e, l]
    have : w.length + 2 - 1 = w.cps.toList.length + 1 := by rw [len_list]; omega
    rw [this, List.getElem?_cons_succ, List.getElem?_append_right (Nat.le_refl _)]
    simp
  unfold rdV
  rw [if_neg (ne_head e yes_list (by decide)), if_neg (ne_head e no_list (by decide)), if_pos hq]
  unfold wrdV
  rw [hs, if_pos h]
/-- the figures of a number -/
def dig (m : Nat) : List Nat := (Nat.toDigits 10 m).map Char.toNat
theorem dig_small {m : Nat} (h : m < 10) : dig m = [48 + m] := by
  unfold dig
  rw [Nat.toDigits_of_lt_base h]
  have : ∀ d : Nat, d < 10 → (Nat.digitChar d).toNat = 48 + d := by decide
  rw [List.map_singleton, this m h]
theorem dig_big {m : Nat} (h : 10 ≤ m) : dig m = dig (m / 10) ++ [48 + m % 10] := by
  have hm : m % 10 < 10 := Nat.mod_lt m (by decide)
  have t : Nat.toDigits 10 (m / 10) ++ Nat.toDigits 10 (m % 10) = Nat.toDigits 10 (10 * (m / 10) + m % 10) := Nat.toDigits_append_toDigits (by decide) (by omega) hm
  rw [Nat.div_add_mod] at t
  have e := dig_small hm
  unfold dig at e ⊢
  rw [← t, List.map_append, e]
theorem dig_facts (m : Nat) : ∃ c r, dig m = c :: r ∧ (c = 48 → m = 0) ∧ (dig m).all isFig = true ∧ ∀ k, 1 ≤ k → m < 10 ^ k → (dig m).length ≤ k := by
  induction m using Nat.strongRecOn with
  | _ m ih =>
    by_cases h : m < 10
    · refine ⟨48 + m, [], dig_small h, by omega, ?_, fun k hk _ => ?_⟩
      · rw [dig_small h]
        simp only [List.all_cons, List.all_nil, Bool.and_true]
        unfold isFig
        simp only [Bool.and_eq_true, decide_eq_true_eq]
        omega
      · rw [dig_small h]; simpa using hk
    · obtain ⟨c, r, e, h0, h1, h2⟩ := ih (m / 10) (by omega)
      have e2 := dig_big (m := m) (by omega)
      refine ⟨c, r ++ [48 + m % 10], by rw [e2, e]; rfl, fun z => ?_, ?_, fun k hk hm => ?_⟩
      · have := h0 z; omega
      · rw [e2, List.all_append, h1]
        simp only [List.all_cons, List.all_nil, Bool.and_true, Bool.true_and]
        unfold isFig
        simp only [Bool.and_eq_true, decide_eq_true_eq]
        omega
      · rw [e2, List.length_append, List.length_singleton]
        obtain ⟨k', rfl⟩ : ∃ k', k = k' + 1 := ⟨k - 1, by omega⟩
        rw [Nat.pow_succ] at hm
        have hk' : 1 ≤ k' := by
          cases k' with
          | zero => simp at hm; omega
          | succ n => omega
        have := h2 k' hk' (by omega)
        omega
theorem pos_list (m : Nat) : (Str.ofString (toString ((m : Nat) : Int))).cps.toList = dig m := PySem.W.KIN.signs_num m
theorem neg_list (m : Nat) : (Str.ofString (toString (Int.negSucc m))).cps.toList = 45 :: dig (m + 1) := by
  rw [PyProof.Rows.signs_ofString]
  show (("-" : String) ++ Nat.repr (m + 1)).toList.map Char.toNat = _
  rw [String.toList_append, List.map_append, Nat.toList_repr]
  rfl
theorem rd_num {x : Str} {n : Int} {f : List Nat} {c : Nat} {r : List Nat} (hf : (figs x).cps.toList = f) (e : f = c :: r) (hd : f.all isFig = true) (hl : f.length ≤ 30) (h0 : c = 48 → x = "0") (hq : x.cps.toList.head? ≠ some 39 ∧ x ≠ "yes" ∧ x ≠ "no") (hn : PySem.intText? x = some n) : rdV x = some (.int n) := by
  have l := len_list (figs x)
  rw [hf] at l
  have hB : figB (figs x) = true := by
    unfold figB
    rw [← l, hf, hd, e, decide_eq_true (by simp), decide_eq_true (by rw [← e]; exact hl)]
    rfl
  unfold rdV
  rw [if_neg hq.2.1, if_neg hq.2.2]
  have hq1 : q1 x = false := by
    unfold q1
    rw [starts1 q_list, beq_eq_false_iff_ne.mpr hq.1, Bool.false_and]
  rw [hq1, if_neg (by decide)]
  unfold numV
  rw [if_pos hB, hn]
  have hz : (head0 (figs x) && !decide (x = "0")) = false := by
    unfold head0
    rw [hf, e]
    by_cases hc : c = 48
    · rw [decide_eq_true (h0 hc)]; simp
    · have : ((c :: r).head? == some 48) = false := by simpa using hc
      rw [this, Bool.false_and]
  rw [hz, if_neg (by decide)]
  rfl
theorem fig_range {c : Nat} {r : List Nat} (h : (c :: r).all isFig = true) : 48 ≤ c ∧ c ≤ 57 := (all_fig h).head
theorem rd_int {i : Int} (h0 : -(10 ^ 29) < i) (h1 : i < 10 ^ 29) : rdV (Str.ofString (toString i)) = some (.int i) ∧ (Str.ofString (toString i)).length ≤ 30 := by
  cases i with
  | ofNat m =>
    have e := pos_list m
    obtain ⟨c, r, ec, hc, hd, hl⟩ := dig_facts m
    have hl := hl 29 (by decide) (by have h1' : (m : Int) < 10 ^ 29 := h1; omega)
    have l := len_list (Str.ofString (toString ((m : Nat) : Int)))
    rw [e] at l
    have v : NumText.digitsVal (dig m) = m := PySem.W.KIN.val_back m
    show rdV (Str.ofString (toString ((m : Nat) : Int))) = _ ∧ (Str.ofString (toString ((m : Nat) : Int))).length ≤ 30
    generalize hx : Str.ofString (toString ((m : Nat) : Int)) = x at e l ⊢
    have hcr := fig_range (ec ▸ hd)
    have e' : x.cps.toList = c :: r := e.trans ec
    have hfx : figs x = x := by
      rcases figs_cases x with ⟨r', z, _⟩ | ⟨_, z⟩
      · rw [e'] at z; injection z with z _; omega
      · exact z
    refine ⟨rd_num (f := dig m) (by rw [hfx]; exact e) ec hd (by omega) (fun z => ?_) ⟨by rw [e']; simp; omega, ne_head e' yes_list (by omega), ne_head e' no_list (by omega)⟩ ?_, by omega⟩
    · have hm := hc z
      subst hm
      apply str_ext
      rw [e, z_list]
      decide +kernel
    · rw [intText_digits (x := x) (by rw [e]; exact all_fig hd) (by rw [e']; simp) (by omega), e, v]
      rfl
  | negSucc m =>
    have e := neg_list m
    obtain ⟨c, r, ec, hc, hd, hl⟩ := dig_facts (m + 1)
    have hl := hl 29 (by decide) (by have h0' : -(10 ^ 29 : Int) < Int.negSucc m := h0; omega)
    have l := len_list (Str.ofString (toString (Int.negSucc m)))
    rw [e, List.length_cons] at l
    have v : NumText.digitsVal (dig (m + 1)) = m + 1 := PySem.W.KIN.val_back (m + 1)
    generalize hx : Str.ofString (toString (Int.negSucc m)) = x at e l ⊢
    have hcr := fig_range (ec ▸ hd)
    have hfx : (figs x).cps.toList = dig (m + 1) := by
      rcases figs_cases x with ⟨r', z, z2⟩ | ⟨z, _⟩
      · rw [e] at z; injection z with _ z; rw [z2, z]
      · rw [e] at z; exact absurd rfl z
    refine ⟨rd_num hfx ec hd (by omega) (fun z => ?_) ⟨by rw [e]; simp, ne_head e yes_list (by omega), ne_head e no_list (by omega)⟩ ?_, by omega⟩
    · have hm := hc z; omega
    · rw [intText_neg (x := x) e (all_fig hd) (by rw [ec]; simp) (by omega), v]
      rfl
theorem rd_yes : rdV "yes" = some (.bl true) := by unfold rdV; rw [if_pos rfl]
theorem rd_no : rdV "no" = some (.bl false) := by unfold rdV; rw [if_neg (by decide +kernel), if_pos rfl]

/-! ### parting a text at a sign -/
def posL (d : Nat) : Nat → List Nat → List Nat
  | _, [] => []
  | i, c :: r => if c = d then i :: posL d (i + 1) r else posL d (i + 1) r
theorem posL_app (d : Nat) : ∀ (w t : List Nat) (i : Nat), posL d i (w ++ t) = posL d i w ++ posL d (i + w.length) t
  | [], t, i => by simp [posL]
  | c :: w, t, i => by
    have e : i + 1 + w.length = i + (c :: w).length := by rw [List.length_cons]; omega
    rw [List.cons_append, posL, posL, posL_app d w t (i + 1), e]
    split
    · rw [List.cons_append]
    · rfl
theorem posL_no (d : Nat) : ∀ (w : List Nat) (i : Nat), d ∉ w → posL d i w = []
  | [], _, _ => rfl
  | c :: w, i, h => by
    rw [posL, if_neg fun e => h (by rw [e]; exact List.mem_cons_self)]
    exact posL_no d w (i + 1) fun z => h (List.mem_cons_of_mem _ z)
theorem occ_walk {x y : Str} {d : Nat} (hy : y.cps.toList = [d]) (lim : Nat) : ∀ (k i : Nat) (st : Array Nat × Nat), i + k = x.length + 1 → st.snd ≤ i → st.fst.size ≤ lim →
    (forIn (List.range' i k) st (StrLaws.occBody x y x.length lim)).run.fst.toList = st.fst.toList ++ (posL d i (x.cps.toList.drop i)).take (lim - st.fst.size)
  | 0, i, st, hk, _, _ => by
    have e : x.cps.toList.drop i = [] := List.drop_eq_nil_of_le (by rw [len_list]; omega)
    rw [e]
    simp [posL]
  | k + 1, i, st, hk, hs, hl => by
    have ly : y.length = 1 := by rw [← len_list, hy]; rfl
    rw [List.range'_succ, List.forIn_cons]
    unfold StrLaws.occBody
    by_cases hlt : i < x.length
    · have hg : x.cps.toList[i]? = some (x.cps.toList[i]'(by rw [len_list]; exact hlt)) := List.getElem?_eq_getElem _
      have ed : x.cps.toList.drop i = x.cps.toList[i]'(by rw [len_list]; exact hlt) :: x.cps.toList.drop (i + 1) := List.drop_eq_getElem_cons _
      have hsub : (Builtin.Str.subAt x y i = true) ↔ x.cps.toList[i]'(by rw [len_list]; exact hlt) = d := by
        rw [StrLaws.subAt_eq, hy, ly, StrLaws.take1_drop, hg]
        simp
      rw [ed, posL]
      by_cases hc : x.cps.toList[i]'(by rw [len_list]; exact hlt) = d
      · rw [if_pos hc]
        by_cases hz : st.fst.size < lim
        · rw [if_pos ⟨⟨⟨hz, hs⟩, by rw [ly]; omega⟩, hsub.mpr hc⟩]
          have ih := occ_walk (x := x) hy lim k (i + 1) (st.fst.push i, i + y.length) (by omega) (by show i + y.length ≤ i + 1; omega) (by show (st.fst.push i).size ≤ lim; rw [Array.size_push]; omega)
          have e1 : lim - st.fst.size = lim - (st.fst.push i).size + 1 := by rw [Array.size_push]; omega
          rw [e1, List.take_succ_cons]
          refine Eq.trans ih ?_
          simp
        · rw [if_neg fun z => hz z.1.1.1]
          have ih := occ_walk (x := x) hy lim k (i + 1) (st.fst, st.snd) (by omega) (by show st.snd ≤ i + 1; omega) hl
          have e1 : lim - st.fst.size = 0 := by omega
          refine Eq.trans ih ?_
          rw [e1]; simp
      · rw [if_neg hc, if_neg fun z => hc (hsub.mp z.2)]
        exact occ_walk (x := x) hy lim k (i + 1) (st.fst, st.snd) (by omega) (by show st.snd ≤ i + 1; omega) hl
    · have e : x.cps.toList.drop i = [] := List.drop_eq_nil_of_le (by rw [len_list]; omega)
      have e1 : x.cps.toList.drop (i + 1) = [] := List.drop_eq_nil_of_le (by rw [len_list]; omega)
      rw [if_neg fun z => by have := z.1.2; rw [ly] at this; omega]
      have ih := occ_walk (x := x) hy lim k (i + 1) (st.fst, st.snd) (by omega) (by show st.snd ≤ i + 1; omega) hl
      refine Eq.trans ih ?_
      rw [e, e1]; rfl
theorem occ_pos {x y : Str} {d : Nat} (hy : y.cps.toList = [d]) (lim : Nat) : Builtin.Str.occurrences x y 0 x.length lim = (posL d 0 x.cps.toList).take lim := by
  rw [StrLaws.occ_eq]
  have z := occ_walk (x := x) hy lim (x.length + 1 - 0) 0 ((#[] : Array Nat), 0) (by omega) (Nat.le_refl _) (Nat.zero_le _)
  refine Eq.trans z ?_
  simp
theorem posL_len (d : Nat) : ∀ (w : List Nat) (i : Nat), (posL d i w).length ≤ w.length
  | [], _ => Nat.le_refl _
  | c :: w, i => by
    have := posL_len d w (i + 1)
    rw [posL, List.length_cons]
    split
    · rw [List.length_cons]; omega
    · omega
/-- parts between cuts, of signs -/
def prt (X : List Nat) (off : Nat) (cuts : List Nat) : List (List Nat) := ((off :: cuts.map (· + 1)).zip (cuts ++ [X.length])).map fun ij => (X.drop ij.1).take (ij.2 - ij.1)
theorem prt_cons (X : List Nat) (off c : Nat) (cs : List Nat) : prt X off (c :: cs) = (X.drop off).take (c - off) :: prt X (c + 1) cs := by
  unfold prt
  rw [List.cons_append, List.zip_cons_cons, List.map_cons, List.map_cons]
theorem prt_nil (X : List Nat) (off : Nat) : prt X off [] = [X.drop off] := by
  unfold prt
  have e : (X.drop off).take (X.length - off) = X.drop off := List.take_of_length_le (by rw [List.length_drop]; omega)
  simp [e]
def joinL (d : Nat) (w : List Nat) (ws : List (List Nat)) : List Nat := w ++ ws.flatMap fun r => d :: r
theorem prt_join (d : Nat) (X : List Nat) : ∀ (ws : List (List Nat)) (w : List Nat) (off : Nat), X.drop off = joinL d w ws → d ∉ w → (∀ r ∈ ws, d ∉ r) → prt X off (posL d off (X.drop off)) = w :: ws
  | [], w, off, e, hw, _ => by
    have e' : X.drop off = w := by rw [e]; simp [joinL]
    rw [e', posL_no d w off hw, prt_nil, e']
  | r :: ws, w, off, e, hw, hr => by
    have e1 : joinL d w (r :: ws) = w ++ (d :: joinL d r ws) := by simp [joinL]
    have e2 : X.drop (off + w.length + 1) = joinL d r ws := by
      have : X.drop (off + w.length + 1) = (X.drop off).drop (w.length + 1) := by rw [List.drop_drop]; congr 1
      rw [this, e, e1, List.drop_append, List.drop_eq_nil_of_le (Nat.le_succ _)]
      have e0 : w.length + 1 - w.length = 1 := by omega
      rw [e0]; rfl
    have e3 : posL d off (X.drop off) = (off + w.length) :: posL d (off + w.length + 1) (X.drop (off + w.length + 1)) := by
      rw [e, e1, posL_app, posL_no d w off hw, List.nil_append, posL, if_pos rfl, e2]
    rw [e3, prt_cons, prt_join d X ws r (off + w.length + 1) e2 (hr r List.mem_cons_self) fun q hq => hr q (List.mem_cons_of_mem _ hq)]
    congr 1
    rw [e, e1]
    have e0 : off + w.length - off = w.length := by omega
    rw [e0, List.take_left']
    rfl
theorem glue_list (y : Str) (ws : List Str) : ∀ (acc : Array Nat), (ws.foldl (fun acc p => acc ++ y.cps ++ p.cps) acc).toList = acc.toList ++ ws.flatMap fun r => y.cps.toList ++ r.cps.toList := by
  induction ws with
  | nil => intro acc; simp
  | cons w ws ih =>
    intro acc
    rw [List.foldl_cons, ih, Array.toList_append, Array.toList_append, List.flatMap_cons]
    simp
theorem join_list {y : Str} {d : Nat} (hy : y.cps.toList = [d]) (w : Str) (ws : List Str) : (Txt.join y (w :: ws)).cps.toList = joinL d w.cps.toList (ws.map fun r => r.cps.toList) := by
  show (List.foldl _ _ _ : Array Nat).toList = _
  rw [List.drop_succ_cons, List.drop_zero, List.headD_cons, glue_list, hy]
  unfold joinL
  rw [List.flatMap_map]
  rfl
theorem parts_list (x : Str) (cuts : List Nat) : (Builtin.Str.partsBetween x cuts 1).map (fun r => r.cps.toList) = prt x.cps.toList 0 cuts := by
  unfold Builtin.Str.partsBetween prt
  rw [List.map_map, len_list]
  apply List.map_congr_left
  rintro ⟨i, j⟩ _
  exact StrLaws.strSub_toList x i j
theorem strs_ext : ∀ {xs ys : List Str}, (xs.map fun r => r.cps.toList) = (ys.map fun r => r.cps.toList) → xs = ys
  | [], [], _ => rfl
  | [], _ :: _, h => by simp at h
  | _ :: _, [], h => by simp at h
  | x :: xs, y :: ys, h => by
    rw [List.map_cons, List.map_cons] at h
    injection h with h1 h2
    rw [str_ext h1, strs_ext h2]
theorem split_cases {x y : Str} {d : Nat} (hy : y.cps.toList = [d]) (hk : Builtin.Str.strKind y = 1) : Txt.split x y = if d ∈ x.cps.toList then Builtin.Str.partsBetween x (posL d 0 x.cps.toList) 1 else [x] := by
  have ly : y.length = 1 := by rw [← len_list, hy]; rfl
  have hk1 : ¬ Builtin.Str.strKind x < Builtin.Str.strKind y := by
    rw [hk]
    unfold Builtin.Str.strKind
    split
    · omega
    · split <;> omega
  have eo : Builtin.Str.occurrences x y 0 x.length (x.length + 1) = posL d 0 x.cps.toList := by
    rw [occ_pos hy, List.take_of_length_le]
    have := posL_len d x.cps.toList 0
    rw [len_list] at this; omega
  unfold Txt.split
  rw [eo, ly]
  by_cases hd : d ∈ x.cps.toList
  · rw [if_pos hd]
    have hx : ¬ x.length < 1 := fun z => by
      have : x.cps.toList = [] := List.length_eq_zero_iff.mp (by rw [len_list]; omega)
      rw [this] at hd; cases hd
    rw [if_neg (by simp [hx, hk1]), if_neg]
    intro z
    obtain ⟨a, b, e⟩ := List.append_of_mem hd
    rw [e, posL_app, posL, if_pos rfl] at z
    simp at z
  · rw [if_neg hd, posL_no d _ _ hd]
    split
    · rfl
    · rfl
theorem split_join {y : Str} {d : Nat} (hy : y.cps.toList = [d]) (hk : Builtin.Str.strKind y = 1) {w : Str} {ws : List Str} (hw : ∀ r ∈ w :: ws, d ∉ r.cps.toList) : Txt.split (Txt.join y (w :: ws)) y = w :: ws := by
  have ej := join_list hy w ws
  rw [split_cases hy hk]
  have hw0 := hw w List.mem_cons_self
  have hws : ∀ r ∈ ws.map (fun r => r.cps.toList), d ∉ r := fun r hr => by
    obtain ⟨q, hq, rfl⟩ := List.mem_map.mp hr
    exact hw q (List.mem_cons_of_mem _ hq)
  cases ws with
  | nil =>
    have e : Txt.join y [w] = w := str_ext (by rw [ej]; simp [joinL])
    rw [e, if_neg hw0]
  | cons r rs =>
    rw [if_pos (by rw [ej]; simp [joinL])]
    apply strs_ext
    rw [parts_list, List.map_cons]
    have z := prt_join d (Txt.join y (w :: r :: rs)).cps.toList ((r :: rs).map fun r => r.cps.toList) w.cps.toList 0 (by rw [List.drop_zero]; exact ej) hw0 hws
    rw [List.drop_zero] at z
    exact z
theorem split_ne (x y : Str) : Txt.split x y ≠ [] := by
  unfold Txt.split
  split
  · simp
  · split
    · simp
    · unfold Builtin.Str.partsBetween
      cases Builtin.Str.occurrences x y 0 x.length (x.length + 1) <;> simp
theorem split_lens (x y : Str) : ∀ r ∈ Txt.split x y, r.length ≤ x.length := by
  unfold Txt.split
  split
  · intro r hr; rw [List.mem_singleton.mp hr]; exact Nat.le_refl _
  · split
    · intro r hr; rw [List.mem_singleton.mp hr]; exact Nat.le_refl _
    · intro r hr
      unfold Builtin.Str.partsBetween at hr
      obtain ⟨⟨i, j⟩, _, rfl⟩ := List.mem_map.mp hr
      exact strSub_length_le x i j
theorem parts_len (x : Str) (cuts : List Nat) (k : Nat) : (Builtin.Str.partsBetween x cuts k).length = cuts.length + 1 := by
  unfold Builtin.Str.partsBetween
  simp
theorem split_many (x y : Str) : (Txt.split x y).length ≤ x.length + 2 := by
  have := StrLaws.occ_length_le x y 0 x.length (x.length + 1)
  unfold Txt.split
  split
  · simp
  · split
    · simp
    · rw [parts_len]; omega
theorem split_ok {z y : Str} {H : Hp} {Q : VK} (h0 : (y.length == 0) = false) (hz : z.length ≤ 900) (q : ∀ p, H p = none → Q (.ref p) (upd H p (.lst ((Txt.split z y).map V.str)))) : rSplit (.str z) [.str y] H Q :=
  ⟨z, y, rfl, rfl, h0, small (by omega), by rw [parts_len]; have := StrLaws.occ_length_le z y 0 z.length (z.length + 1); exact small (by omega), by have := split_many z y; exact small (by omega), q⟩
theorem part_none {x y : Str} {d : Nat} (hy : y.cps.toList = [d]) (hx : d ∉ x.cps.toList) : Txt.partition x y = (x, Str.empty, Str.empty) := by
  unfold Txt.partition
  rw [occ_pos hy, posL_no d _ _ hx]
  rfl
theorem part_lens (x y : Str) : (Txt.partition x y).1.length ≤ x.length ∧ (Txt.partition x y).2.2.length ≤ x.length := by
  unfold Txt.partition
  split
  · exact ⟨strSub_length_le _ _ _, strSub_length_le _ _ _⟩
  · exact ⟨Nat.le_refl _, Nat.zero_le _⟩

end My

set_option Elab.async false
set_option linter.all false
set_option maxRecDepth 100000
set_option maxHeartbeats 4000000
namespace My
open PySem L2
section
variable {P : Program} {w : World} {K : PySem.W.Frag} {mg : Str → Option Value} {base : Heap} {a : Adr}
/-- what is written -/
def vtx : V → Str
  | .bl b => if b then "yes" else "no"
  | .int i => Str.ofString (toString i)
  | .str x => "'" ++ x ++ "'"
  | _ => ""
theorem log_of {i : Int} (h0 : -(10 ^ 29) < i) (h1 : i < 10 ^ 29) : i.natAbs.log2 < 1920 := by
  by_cases h : i.natAbs = 0
  · rw [h]; decide
  · rw [Nat.log2_lt h]
    have : i.natAbs < 10 ^ 29 := by omega
    exact Nat.lt_of_lt_of_le this (Nat.le_trans (show (10 : Nat) ^ 29 ≤ 2 ^ 100 by decide) (Nat.pow_le_pow_right (by decide) (by decide)))
theorem word_len {x : Str} (h : wordB x = true) : x.length ≤ 12 := by
  unfold wordB sz at h
  simp only [Bool.and_eq_true, decide_eq_true_eq] at h
  exact h.1.2
def spVT : Sp := fun vs H Q _ => ∃ v, vs = [v] ∧ goodV v ∧ ∀ H', Same H H' → Q (.str (vtx v)) H'
theorem ok_value_text (T : Txt K mg a) : FnOk P w K mg base CX0 1 a.f_value_text a.d_value_text ["_law_value_here"] spVT := by
  refine T.F_value_text.ok sc_value_text (fun vs H Q E h => ?_) (fun cdv A outer s H vs Q E hr h => ?_)
  · obtain ⟨x, rfl, _⟩ := h; rfl
  obtain ⟨v, rfl, hv, q⟩ := h
  refine ⟨_, (pss_cons (ps_if (pt_val (pe_callB call_isinst rfl T.n_isinstance (by decide +kernel) (pa_cons (pv 0) (pa_cons (pe_bltn (v := .ty "bool") (u := .type "bool") rfl T.n_bool (by decide +kernel) rfl) pa_nil)))) (pss_one (ps_ret (pe_ix ix_list (pe_lst (pa_cons pe_str (pa_cons pe_str pa_nil))) (pe_callTy call_int1 rfl T.n_int (by decide +kernel) (pa_cons (pv 0) pa_nil)) (fun _ _ => rfl)))) pss_nil) (pss_one (ps_ret (pe_ifExp (pt_val (pe_callB call_isinst rfl T.n_isinstance (by decide +kernel) (pa_cons (pv 0) (pa_cons (pe_bltn (v := .ty "int") (u := .type "int") rfl T.n_int (by decide +kernel) rfl) pa_nil)))) (pe_callTy call_str_int rfl T.n_str (by decide +kernel) (pa_cons (pv 0) pa_nil)) (pe_op op_add_str (pe_op op_add_str pe_str (pv 0)) pe_str))))), ?_⟩
  rcases hv with ⟨b, rfl⟩ | ⟨i, rfl, i0, i1⟩ | ⟨x, rfl, hx⟩
  · refine ⟨_, rfl, _, _, _, true, rfl, .bl b, rfl, _, rfl, iteT ?_⟩
    refine ⟨small (n := 2) (by decide), fun p hp => ⟨_, rfl, .inr ⟨b, rfl, p, _, _, _, rfl, rfl, SqL.of upd_same, ?_, q _ (same_new hp _)⟩⟩⟩
    cases b
    · exact atI_nat (j := 0) rfl
    · exact atI_nat (j := 1) rfl
  · exact ⟨_, rfl, _, _, _, false, rfl, .int i, rfl, _, rfl, iteF ⟨_, rfl, _, _, _, true, rfl, .int i, rfl, _, rfl, iteT ⟨_, rfl, i, rfl, log_of i0 i1, q H (Same.refl H)⟩⟩⟩
  · have hl := word_len hx
    have lq : ("'" : Str).length = 1 := by decide +kernel
    refine ⟨_, rfl, _, _, _, false, rfl, .str x, rfl, _, rfl, iteF ⟨_, rfl, _, _, _, false, rfl, .str x, rfl, _, rfl, iteF ?_⟩⟩
    exact ⟨_, rfl, _, _, rfl, rfl, small (by rw [lq]; omega), _, _, rfl, rfl, small (by rw [cat_len, lq]; omega), q H (Same.refl H)⟩
def nOr : Option V → V := fun o => o.getD .non
def spTN (p : Str → Option V) : Sp := fun vs H Q _ => ∃ x, vs = [.str x] ∧ x.length ≤ 600 ∧ ∀ H', Same H H' → Q (nOr (p x)) H'
theorem figs_len (x : Str) : (figs x).length ≤ x.length := by
  unfold figs
  split
  · exact slice_len x _ _
  · exact Nat.le_refl _
theorem head_at {x : Str} (h : 1 ≤ x.length) : ∃ c r, x.cps.toList = c :: r := by
  have l := len_list x
  cases e : x.cps.toList with
  | nil => rw [e] at l; simp at l; omega
  | cons c r => exact ⟨c, r, rfl⟩
theorem one_is {c d : Nat} {y : Str} (hy : y.cps.toList = [d]) : decide (V.str ⟨#[c]⟩ = V.str y) = (c == d) := by
  rw [Bool.eq_iff_iff, decide_eq_true_eq, beq_iff_eq]
  constructor
  · intro h
    injection h with h
    have e := congrArg (fun z : Str => z.cps.toList) h
    rw [hy] at e
    simpa using e
  · intro h
    congr 1
    apply str_ext
    rw [hy, h]
theorem ok_number_in (T : Txt K mg a) : FnOk P w K mg base CX0 2 a.f_number_in a.d_number_in ["text"] (spTN numV) := by
  refine T.F_number_in.ok sc_number_in (fun vs H Q E h => ?_) (fun cdv A outer s H vs Q E hr h => ?_)
  · obtain ⟨x, rfl, _⟩ := h; rfl
  obtain ⟨x, rfl, hx, q⟩ := h
  have fl := figs_len x
  refine ⟨_, (pss_cons (ps_set (i := 1) sc_number_in.nd rfl (by first | exact Or.inl rfl | exact Or.inr rfl) (pe_bm PySem.F.plainAttrs_str PySem.F.slot_str_removeprefix PySem.F.type_str_removeprefix mt_removeprefix (pv 0) (pa_cons pe_str pa_nil))) (pss_cons (ps_if (pt_not (pt_val (pe_call (ok_has_only T) (hr.mono (by decide)) rfl T.m_has_only T.F_has_only.kp T.b_has_only .nil pass0 (pa_cons (pv 1) (pa_cons (pe_glob rfl T.g_FIGURES.1 T.g_FIGURES.2) (pa_cons (pe_glob rfl T.g_MOST_FIGURES.1 T.g_MOST_FIGURES.2) pa_nil)))))) (pss_one (ps_ret pe_non)) pss_nil) (pss_cons (ps_if (PW.pt (pw_and (pt_cmpR op_eq (pe_ix ix_str (pv 1) pe_int (fun _ _ => rfl)) pe_str (nomark _)) (pw_and1 (pt_cmpR op_ne (pv 0) pe_str (nomark _))))) (pss_one (ps_ret pe_non)) pss_nil) (pss_one (ps_ret (pe_callTy call_int_text rfl T.n_int (by decide +kernel) (pa_cons (pv 0) pa_nil))))))), ?_⟩
  refine ⟨_, rfl, rfl, x, _, rfl, rfl, small (by omega), ?_⟩
  rw [remove_minus]
  refine ⟨_, rfl, _, _, _, rfl, small (by omega), fun H1 g1 => ⟨_, rfl, ?_⟩⟩
  rw [figB_of]
  have z := q H1 g1
  unfold numV nOr at z
  refine ite2 (fun k => ?_) (fun k => ?_)
  · have k' : figB (figs x) = false := by simpa using k
    rw [k', if_neg (by decide)] at z
    exact z
  · have k' : figB (figs x) = true := by simpa using k
    rw [k', if_pos rfl] at z
    obtain ⟨h1, h2, h3⟩ := figB_parts k'
    obtain ⟨c, r, e⟩ := head_at h1
    obtain ⟨n, hn⟩ := int_of_figs k' (by omega)
    have h0 : head0 (figs x) = (c == 48) := by unfold head0; rw [e]; rfl
    rw [hn, h0] at z
    refine ⟨_, rfl, _, _, c, rfl, rfl, small (by omega), by rw [e]; exact atI_nat (j := 0) rfl, rfl, _, rfl, ?_⟩
    rw [one_is z_list]
    refine ite2 (fun k2 => ?_) (fun k2 => ?_)
    · rw [k2, Bool.true_and] at z
      refine ⟨_, rfl, rfl, _, rfl, ?_⟩
      have ex : decide (x = "0") = decide (V.str x = V.str "0") := by rw [Bool.eq_iff_iff]; simp
      rw [ex] at z
      refine ite2 (fun k3 => ?_) (fun k3 => ?_)
      · rw [k3, if_pos rfl] at z
        exact z
      · rw [Bool.eq_false_iff.mpr k3, if_neg (by decide)] at z
        exact ⟨_, rfl, x, n, rfl, hn, by omega, z⟩
    · rw [Bool.eq_false_iff.mpr k2, Bool.false_and, if_neg (by decide)] at z
      exact ⟨_, rfl, x, n, rfl, hn, by omega, z⟩
theorem in_two (x : Str) : inV (.str x) [.str "yes", .str "no"] = (decide (x = "yes") || decide (x = "no")) := by
  have e : inV (.str x) [.str "yes", .str "no"] = ((("yes" : Str) == x) || ((("no" : Str) == x) || false)) := rfl
  rw [e, Bool.eq_iff_iff]
  simp only [Bool.or_eq_true, beq_iff_eq, decide_eq_true_eq, Bool.or_false]
  exact ⟨fun h => h.elim (fun z => .inl z.symm) fun z => .inr z.symm, fun h => h.elim (fun z => .inl z.symm) fun z => .inr z.symm⟩
theorem ok_value_in (T : Txt K mg a) : FnOk P w K mg base CX0 3 a.f_value_in a.d_value_in ["text"] (spTN rdV) := by
  refine T.F_value_in.ok sc_value_in (fun vs H Q E h => ?_) (fun cdv A outer s H vs Q E hr h => ?_)
  · obtain ⟨x, rfl, _⟩ := h; rfl
  obtain ⟨x, rfl, hx, q⟩ := h
  refine ⟨_, (pss_cons (ps_if (pt_cmpR op_in_seq (pv 0) (pe_tup (pa_cons pe_str (pa_cons pe_str pa_nil))) (by with_unfolding_all rfl)) (pss_one (ps_ret (pe_cmpR op_eq (pv 0) pe_str (nomark _)))) pss_nil) (pss_cons (ps_if (PW.pt (pw_and (pt_val (pe_bm PySem.F.plainAttrs_str PySem.F.slot_str_startswith PySem.F.type_str_startswith mt_startswith (pv 0) (pa_cons pe_str pa_nil))) (pw_and1 (pt_val (pe_bm PySem.F.plainAttrs_str PySem.F.slot_str_endswith PySem.F.type_str_endswith mt_endswith (pv 0) (pa_cons pe_str pa_nil)))))) (pss_cons (ps_set (i := 1) sc_value_in.nd rfl (by first | exact Or.inl rfl | exact Or.inr rfl) (pe_slice sl_str (pv 0) (po_some pe_int) (po_some (pe_un un_neg pe_int)))) (pss_one (ps_ret (pe_ifExp (pt_val (pe_call (ok_is_word T) (hr.mono (by decide)) rfl T.m_is_word T.F_is_word.kp T.b_is_word .nil pass0 (pa_cons (pv 1) pa_nil))) (pv 1) pe_non)))) pss_nil) (pss_one (ps_ret (pe_call (ok_number_in T) (hr.mono (by decide)) rfl T.m_number_in T.F_number_in.kp T.b_number_in .nil pass0 (pa_cons (pv 0) pa_nil)))))), ?_⟩
  refine ⟨_, rfl, small (n := 2) (by decide), fun tp htp => ?_⟩
  have g1 := same_new htp (.tup [.str "yes", .str "no"])
  refine ⟨tp, _, rfl, .inr (SqT.of upd_same), rfl, (by rfl), _, rfl, ?_⟩
  have z := fun H' (g : Same _ H') => q H' (g1.trans g)
  rw [in_two]
  refine ite2 (fun k => ?_) (fun k => ?_)
  · refine ⟨_, rfl, rfl, ?_⟩
    have z1 := z _ (Same.refl _)
    by_cases hy : x = "yes"
    · subst hy
      rw [rd_yes] at z1
      rw [decide_eq_true rfl]
      exact z1
    · have hn : x = "no" := by
        rcases Bool.or_eq_true_iff.mp k with e | e
        · exact absurd (of_decide_eq_true e) hy
        · exact of_decide_eq_true e
      subst hn
      rw [rd_no] at z1
      rw [decide_eq_false (by decide +kernel)]
      exact z1
  · have hk : (decide (x = "yes") || decide (x = "no")) = false := Bool.eq_false_iff.mpr k
    obtain ⟨k1, k2⟩ := Bool.or_eq_false_iff.mp hk
    have er : rdV x = if q1 x = true then wrdV x else numV x := by
      unfold rdV
      rw [if_neg (of_decide_eq_false k1), if_neg (of_decide_eq_false k2)]
    rw [er] at z
    have num : ∀ H', Same H H' → Same (upd H tp (.tup [.str "yes", .str "no"])) H' → q1 x = false → spTN numV [.str x] H' Q E := fun H' _ g e => by
      rw [e, if_neg (by decide)] at z
      exact ⟨x, rfl, hx, fun H2 g2 => z H2 (g.trans g2)⟩
    refine ⟨_, rfl, rfl, x, _, rfl, rfl, _, rfl, ?_⟩
    refine ite2 (fun k3 => ?_) (fun k3 => ?_)
    · refine ⟨_, rfl, rfl, x, _, rfl, rfl, _, rfl, ?_⟩
      refine ite2 (fun k4 => ?_) (fun k4 => ?_)
      · have hq : q1 x = true := by unfold q1; rw [k3, k4]; rfl
        rw [hq, if_pos rfl] at z
        have sl := slice_len x (some 1) (some (-1))
        refine ⟨_, rfl, _, rfl, _, rfl, _, rfl, x, rfl, small (by omega), ?_⟩
        refine ⟨_, rfl, _, rfl, small (by omega), fun H2 g2 => ⟨_, rfl, ?_⟩⟩
        have z2 := z H2 g2
        unfold wrdV at z2
        refine ite2 (fun k5 => ?_) (fun k5 => ?_)
        · rw [if_pos k5] at z2
          exact ⟨_, rfl, z2⟩
        · rw [if_neg k5] at z2
          exact z2
      · have hq : q1 x = false := by unfold q1; rw [Bool.eq_false_iff.mpr k4, Bool.and_false]
        exact ⟨_, rfl, num _ g1 (Same.refl _) hq⟩
    · have hq : q1 x = false := by unfold q1; rw [Bool.eq_false_iff.mpr k3, Bool.false_and]
      exact ⟨_, rfl, num _ g1 (Same.refl _) hq⟩
theorem rd_ne {x : Str} {v : V} (h : rdV x = some v) : v ≠ .non ∧ flatV v = true := by
  unfold rdV at h
  split at h
  · cases h; exact ⟨by simp, rfl⟩
  · split at h
    · cases h; exact ⟨by simp, rfl⟩
    · split at h
      · unfold wrdV at h
        split at h
        · cases h; exact ⟨by simp, rfl⟩
        · cases h
      · unfold numV at h
        split at h
        · split at h
          · cases h
          · obtain ⟨n, _, rfl⟩ := Option.map_eq_some_iff.mp h
            exact ⟨by simp, rfl⟩
        · cases h
end

end My

set_option Elab.async false
set_option linter.all false
set_option maxRecDepth 100000
set_option maxHeartbeats 4000000
namespace My
open PySem L2
/-! ### rows, written and read -/
def rowN : List V := [.str "time", .str "source", .str "number"]
def fldB (x : Str) : Bool := nameB x && !inV (.str x) rowN
def leS (x y : Str) : Bool := !decide (y.cps.toList < x.cps.toList)
def fldR : Nat → Str → List (Key × V) → List Str → Nat ⊕ List (Key × V)
  | _, _, kvs, [] => .inr kvs
  | k, ah, kvs, w :: ws => match rdV (Txt.partition w "=").2.2 with
    | none => .inl k
    | some v => if fldB (Txt.partition w "=").1 = true ∧ leS (Txt.partition w "=").1 ah = false then fldR (k + 1) (Txt.partition w "=").1 (putK kvs (Sum.inr (Txt.partition w "=").1) v) ws else .inl k
theorem fldR_none {k : Nat} {ah w : Str} {kvs : List (Key × V)} {ws : List Str} (h : rdV (Txt.partition w "=").2.2 = none) : fldR k ah kvs (w :: ws) = .inl k := by rw [fldR, h]
theorem fldR_bad {k : Nat} {ah w : Str} {kvs : List (Key × V)} {ws : List Str} {v : V} (h : rdV (Txt.partition w "=").2.2 = some v) (b : ¬ (fldB (Txt.partition w "=").1 = true ∧ leS (Txt.partition w "=").1 ah = false)) : fldR k ah kvs (w :: ws) = .inl k := by
  rw [fldR, h]; exact if_neg b
theorem fldR_go {k : Nat} {ah w : Str} {kvs : List (Key × V)} {ws : List Str} {v : V} (h : rdV (Txt.partition w "=").2.2 = some v) (b : fldB (Txt.partition w "=").1 = true) (l : leS (Txt.partition w "=").1 ah = false) :
    fldR k ah kvs (w :: ws) = fldR (k + 1) (Txt.partition w "=").1 (putK kvs (Sum.inr (Txt.partition w "=").1) v) ws := by
  rw [fldR, h]; exact if_pos ⟨b, l⟩
section
variable {P : Program} {w : World} {K : PySem.W.Frag} {mg : Str → Option Value} {base : Heap} {a : Adr}
theorem ok_is_field_name (T : Txt K mg a) : FnOk P w K mg base CX0 3 a.f_is_field_name a.d_is_field_name ["text"] (spTB fldB) := by
  refine T.F_is_field_name.ok sc_is_field_name (fun vs H Q E h => ?_) (fun cdv A outer s H vs Q E hr h => ?_)
  · obtain ⟨x, rfl, _⟩ := h; rfl
  obtain ⟨x, rfl, hx, q⟩ := h
  refine ⟨_, (pss_one (ps_ret (pe_and (pe_call (ok_is_name T) (hr.mono (by decide)) rfl T.m_is_name T.F_is_name.kp T.b_is_name .nil pass0 (pa_cons (pv 0) pa_nil)) (pe_one (pe_cmpR op_notIn_seq (pv 0) (pe_glob rfl T.g_ROW_NAMES.1 T.g_ROW_NAMES.2) (by with_unfolding_all rfl)))))), ?_⟩
  refine ⟨_, rfl, x, rfl, hx, fun H1 g1 => ⟨_, rfl, ?_⟩⟩
  have z := q H1 g1
  unfold fldB at z
  refine ite2 (fun c => ?_) (fun c => ?_)
  · rw [c, Bool.true_and] at z
    exact ⟨_, rfl, _, _, rfl, .inr (T.t_ROW_NAMES H1), rfl, (by decide +kernel), z⟩
  · rw [Bool.eq_false_iff.mpr c, Bool.false_and] at z
    exact z
def spRF (C : Addr) : Sp := fun vs H Q E => ∃ (p : Addr) (ws : List Str), vs = [.ref p] ∧ H p = some (.lst (ws.map V.str)) ∧ ws.length ≤ 1000 ∧ (∀ w ∈ ws, w.length ≤ 600) ∧
  (∀ k, fldR 3 "" [] (ws.drop 3) = .inl k → ∀ H' dx, Same H H' → H' dx = some (.xd [("at", .int k)]) → E (.ref C) (some dx) H') ∧
  (∀ kvs, fldR 3 "" [] (ws.drop 3) = .inr kvs → ∀ d H', H d = none → Same H H' → H' d = some (.dK kvs) → Q (.ref d) H')
theorem eq_list61 : ("=" : Str).cps.toList = [61] := by decide +kernel
theorem cut3 (ws : List Str) : cutV (ws.map V.str) (some 3) none = (ws.drop 3).map V.str := by
  have e3 : HT.sIx ws.length 0 (some 3) = min 3 ws.length := HT.sIx_nat ws.length 0 3
  unfold cutV
  rw [List.length_map, HT.sIx_none, e3, ← List.map_drop, ← List.map_take]
  congr 1
  by_cases h : 3 ≤ ws.length
  · rw [Nat.min_eq_left h]
    exact List.take_of_length_le (by rw [List.length_drop]; omega)
  · rw [Nat.min_eq_right (by omega), Nat.sub_self, List.take_zero, List.drop_eq_nil_of_le (by omega)]
theorem ok_read_fields (T : Txt K mg a) : FnOk P w K mg base (CX1 P w) 5 a.f_read_fields a.d_read_fields ["words"] (spRF a.c_BadText) := by
  refine T.F_read_fields.ok1 sc_read_fields (fun vs H Q E h => ?_) (fun cdv A outer s H vs Q E hr h => ?_)
  · obtain ⟨x, y, rfl, _⟩ := h; rfl
  obtain ⟨p, ws, rfl, hp, hn, hw, qe, q⟩ := h
  have hu1 := hu_of hr
  refine ⟨_, (pss_cons (ps_set (i := 1) sc_read_fields.nd rfl (by first | exact Or.inl rfl | exact Or.inr rfl) pe_dnewK) (pss_cons (ps_set (i := 2) sc_read_fields.nd rfl (by first | exact Or.inl rfl | exact Or.inr rfl) pe_str) (pss_cons (ps_for PassesOwn.leaving rfl (pi_enumS (k0 := 3) (by decide +kernel) rfl T.n_enumerate (pa_cons (pe_slice sl_list (pv 0) (po_some pe_int) po_none) pa_nil)) (pg_tup (n := 2) rfl (pgs_cons (pg_name (i := 3) sc_read_fields.nd rfl (by first | exact Or.inl rfl | exact Or.inr rfl)) (pgs_cons (pg_name (i := 4) sc_read_fields.nd rfl (by first | exact Or.inl rfl | exact Or.inr rfl)) pgs_nil))) (pss_cons (ps_asg (pe_bm PySem.F.plainAttrs_str PySem.F.slot_str_partition PySem.F.type_str_partition mt_partition (pv 4) (pa_cons pe_str pa_nil)) (pg_tup (n := 3) rfl (pgs_cons (pg_name (i := 5) sc_read_fields.nd rfl (by first | exact Or.inl rfl | exact Or.inr rfl)) (pgs_cons (pg_name (i := 6) sc_read_fields.nd rfl (by first | exact Or.inl rfl | exact Or.inr rfl)) (pgs_cons (pg_name (i := 7) sc_read_fields.nd rfl (by first | exact Or.inl rfl | exact Or.inr rfl)) pgs_nil))))) (pss_cons (ps_set (i := 8) sc_read_fields.nd rfl (by first | exact Or.inl rfl | exact Or.inr rfl) (pe_call (ok_value_in T) (hr.mono (by decide)) rfl T.m_value_in T.F_value_in.kp T.b_value_in .nil pass0 (pa_cons (pv 7) pa_nil))) (pss_cons (ps_if (PW.pt (pw_or (pt_cmpR op_isN (pv 8) pe_non (nomark _)) (pw_or (pt_not (pt_val (pe_call (ok_is_field_name T) (hr.mono (by decide)) rfl T.m_is_field_name T.F_is_field_name.kp T.b_is_field_name .nil pass0 (pa_cons (pv 5) pa_nil)))) (pw_or1 (pt_cmpR op_le_str (pv 5) (pv 2) (nomark _)))))) (pss_one (ps_raise T.x_BadText.made.choose_spec (ok_BadText__init T) T.x_BadText.tk (hr.mono (by decide)) T.x_BadText.bd rfl rfl T.m_BadText (pv 3))) pss_nil) (pss_cons (ps_dput hu1 (pv 1) (pv 5) (pv 8) rfl) (pss_one (ps_set (i := 2) sc_read_fields.nd rfl (by first | exact Or.inl rfl | exact Or.inr rfl) (pv 5)))))))) (pss_one (ps_ret (pv 1)))))), ?_⟩
  refine fun d hd => ?_
  have gd := same_new hd (.dK [])
  have ep := SqL.of (K := K) (gd _ _ hp)
  refine ⟨_, rfl, _, rfl, p, _, rfl, ep, fun l hl => ?_⟩
  rw [cut3]
  refine ⟨l, rfl, ⟨_, SqL.of upd_same⟩, ?_⟩
  have gl := same_new hl (.lst ((ws.drop 3).map V.str))
  have hdl : d ≠ l := fun z => by rw [z] at hl; rw [upd_same] at hl; cases hl
  refine for_enumS (xs := (ws.drop 3).map V.str) (fun i σ H' => ∃ ah kvs s3 s4 s5 s6 s7 s8, σ = [some (.ref p), some (.ref d), some (.str ah), s3, s4, s5, s6, s7, s8] ∧ Same H H' ∧ H' d = some (.dK kvs) ∧ H' l = some (.lst ((ws.drop 3).map V.str)) ∧ kvs.length ≤ i ∧ fldR (i + 3) ah kvs ((ws.drop 3).drop i) = fldR 3 "" [] (ws.drop 3))
    ⟨"", [], _, _, _, _, _, _, rfl, gd.trans gl, gl _ _ upd_same, upd_same, Nat.le_refl _, rfl⟩ (fun i σ H' hi hP => ?_) (fun i x σ H' T hx hP hT => ?_) (fun σ H' hP => ?_)
  · obtain ⟨ah, kvs, s3, s4, s5, s6, s7, s8, rfl, _, _, hll, _⟩ := hP
    exact SqL.of hll
  · obtain ⟨ah, kvs, s3, s4, s5, s6, s7, s8, rfl, g, hdk, hll, hkl, hR⟩ := hP
    rw [List.getElem?_map] at hx
    obtain ⟨z, hz, rfl⟩ := Option.map_eq_some_iff.mp hx
    have hzl : z.length ≤ 600 := hw z (List.mem_of_mem_drop (List.mem_of_getElem? hz))
    have hil : i < (ws.drop 3).length := (List.getElem?_eq_some_iff.mp hz).1
    have edr : (ws.drop 3).drop i = z :: (ws.drop 3).drop (i + 1) := by
      have e0 := List.drop_eq_getElem_cons hil
      rw [(List.getElem?_eq_some_iff.mp hz).2] at e0; exact e0
    rw [edr] at hR
    have il : i ≤ 1000 := by rw [List.length_drop] at hil; omega
    have gT := same_new hT (.tup [.int ((i + 3 : Nat) : Int), .str z])
    refine ⟨T, [_, _], rfl, SqT.of upd_same, rfl, _, [_], rfl, _, [], rfl, rfl, ?_⟩
    refine ⟨_, rfl, rfl, z, "=", rfl, rfl, by decide +kernel, small (by omega), fun tp htp => ?_⟩
    obtain ⟨pl1, pl2⟩ := part_lens z "="
    have gtp := same_new htp (.tup [.str (Txt.partition z "=").1, .str (Txt.partition z "=").2.1, .str (Txt.partition z "=").2.2])
    refine ⟨tp, [_, _, _], rfl, SqT.of upd_same, rfl, _, [_, _], rfl, _, [_], rfl, _, [], rfl, rfl, ?_⟩
    refine ⟨_, rfl, _, rfl, by omega, fun H1 g1 => ?_⟩
    have gg := (gT.trans gtp).trans g1
    have bad : ∀ {H2 : Hp}, Same H1 H2 → fldR 3 "" [] (ws.drop 3) = .inl (i + 3) → ∀ (t dx : Addr), H2 t = none → H2 dx = none → dx ≠ t → E (.ref a.c_BadText) (some dx) (upd (upd H2 t (.tup [.int ((i + 3 : Nat) : Int)])) dx (.xd [("at", .int ((i + 3 : Nat) : Int))])) := fun {H2} g2 e t dx ht hdx hne => by
      have gt := same_new ht (.tup [.int ((i + 3 : Nat) : Int)])
      have hd' : upd H2 t (.tup [.int ((i + 3 : Nat) : Int)]) dx = none := by rw [upd_ne hne]; exact hdx
      exact qe _ e _ dx ((g.trans (gg.trans g2)).trans (gt.trans (same_new hd' _))) upd_same
    cases ev : rdV (Txt.partition z "=").2.2 with
    | none =>
      refine ⟨_, rfl, rfl, _, rfl, iteT ?_⟩
      refine ⟨_, rfl, _, rfl, fun t dx ht hdx hne => ?_⟩
      exact bad (Same.refl _) (by rw [← hR, fldR_none ev]) t dx ht hdx hne
    | some v =>
      have hnv := (rd_ne ev).1
      refine ⟨_, rfl, rfl, _, rfl, ?_⟩
      refine iteF2 (decide_eq_false hnv) ?_
      refine ⟨_, rfl, _, rfl, small (by omega), fun H2 g2 => ⟨_, rfl, ?_⟩⟩
      cases ef : fldB (Txt.partition z "=").1 with
      | false =>
        refine iteT ?_
        refine ⟨_, rfl, _, rfl, fun t dx ht hdx hne => ?_⟩
        exact bad g2 (by rw [← hR, fldR_bad ev (fun y => by rw [ef] at y; cases y.1)]) t dx ht hdx hne
      | true =>
        refine iteF ⟨_, rfl, _, rfl, _, _, rfl, rfl, _, rfl, ?_⟩
        refine ite2 (fun c => ?_) (fun c => ?_)
        · refine ⟨_, rfl, _, rfl, fun t dx ht hdx hne => ?_⟩
          exact bad g2 (by rw [← hR, fldR_bad ev (fun y => by have y2 : leS _ _ = false := y.2; unfold leS at y2; rw [c] at y2; cases y2)]) t dx ht hdx hne
        · have hl2 : leS (Txt.partition z "=").1 ah = false := Bool.eq_false_iff.mpr c
          have hdk2 := g2 _ _ (gg _ _ hdk)
          refine ⟨_, rfl, _, rfl, _, rfl, d, _, rfl, DPut.k (k := Sum.inr (Txt.partition z "=").1) hdk2 (Nat.lt_of_le_of_lt hkl (small1000 il)), ?_⟩
          refine ⟨_, rfl, _, _, _, _, _, _, _, _, rfl, ?_, upd_same, ?_, ?_, ?_⟩
          · intro b u hb
            have hbd : b ≠ d := fun y => by rw [y, hd] at hb; cases hb
            rw [upd_ne hbd]
            exact g2 _ _ (gg _ _ (g _ _ hb))
          · rw [upd_ne (Ne.symm hdl)]; exact g2 _ _ (gg _ _ hll)
          · exact Nat.le_trans (length_putK _ _ _) (by omega)
          · rw [← hR, fldR_go ev ef hl2]
            congr 1
  · obtain ⟨ah, kvs, s3, s4, s5, s6, s7, s8, rfl, g, hdk, hll, hkl, hR⟩ := hP
    rw [List.length_map, List.drop_length, fldR] at hR
    exact ⟨_, rfl, q kvs hR.symm d H' hd g hdk⟩
/-- what a row reads as: the place of the fault, or the row -/
def rowR (ws : List Str) : Nat ⊕ (Int × Str × Int × List (Key × V)) := match ws with
  | [] => .inl 0
  | w0 :: r0 => match numV w0 with
    | some (.int i0) => match r0 with
      | [] => .inl 1
      | w1 :: r1 => if nameB w1 = true then match r1 with
          | [] => .inl 2
          | w2 :: r2 => match numV w2 with
            | some (.int i2) => if i2 < 0 then .inl 2 else match fldR 3 "" [] r2 with
              | .inl k => .inl k
              | .inr kvs => .inr (i0, w1, i2, kvs)
            | _ => .inl 2
        else .inl 1
    | _ => .inl 0
theorem rowR_0 {w0 : Str} {r0 : List Str} (e0 : numV w0 = none) : rowR (w0 :: r0) = .inl 0 := by simp [rowR, e0]
theorem rowR_1 {w0 : Str} {i0 : Int} (e0 : numV w0 = some (.int i0)) : rowR [w0] = .inl 1 := by simp [rowR, e0]
theorem rowR_1b {w0 w1 : Str} {r1 : List Str} {i0 : Int} (e0 : numV w0 = some (.int i0)) (e1 : nameB w1 = false) : rowR (w0 :: w1 :: r1) = .inl 1 := by simp [rowR, e0, e1]
theorem rowR_2 {w0 w1 : Str} {i0 : Int} (e0 : numV w0 = some (.int i0)) (e1 : nameB w1 = true) : rowR [w0, w1] = .inl 2 := by simp [rowR, e0, e1]
theorem rowR_2b {w0 w1 w2 : Str} {r2 : List Str} {i0 : Int} (e0 : numV w0 = some (.int i0)) (e1 : nameB w1 = true) (e2 : numV w2 = none) : rowR (w0 :: w1 :: w2 :: r2) = .inl 2 := by simp [rowR, e0, e1, e2]
theorem rowR_2c {w0 w1 w2 : Str} {r2 : List Str} {i0 i2 : Int} (e0 : numV w0 = some (.int i0)) (e1 : nameB w1 = true) (e2 : numV w2 = some (.int i2)) (h : i2 < 0) : rowR (w0 :: w1 :: w2 :: r2) = .inl 2 := by simp [rowR, e0, e1, e2, h]
theorem rowR_3 {w0 w1 w2 : Str} {r2 : List Str} {i0 i2 : Int} {k : Nat} (e0 : numV w0 = some (.int i0)) (e1 : nameB w1 = true) (e2 : numV w2 = some (.int i2)) (h : ¬ i2 < 0) (e3 : fldR 3 "" [] r2 = .inl k) : rowR (w0 :: w1 :: w2 :: r2) = .inl k := by simp [rowR, e0, e1, e2, h, e3]
theorem rowR_4 {w0 w1 w2 : Str} {r2 : List Str} {i0 i2 : Int} {kvs : List (Key × V)} (e0 : numV w0 = some (.int i0)) (e1 : nameB w1 = true) (e2 : numV w2 = some (.int i2)) (h : ¬ i2 < 0) (e3 : fldR 3 "" [] r2 = .inr kvs) : rowR (w0 :: w1 :: w2 :: r2) = .inr (i0, w1, i2, kvs) := by simp [rowR, e0, e1, e2, h, e3]
theorem num_int {x : Str} {v : V} (h : numV x = some v) : ∃ i, v = .int i := by
  unfold numV at h
  split at h
  · split at h
    · cases h
    · obtain ⟨n, _, rfl⟩ := Option.map_eq_some_iff.mp h
      exact ⟨n, rfl⟩
  · cases h
def spRR (C : Addr) : Sp := fun vs H Q E => ∃ (x : Str), vs = [.str x] ∧ x.length ≤ 600 ∧
  (∀ k, rowR (Txt.split x " ") = .inl k → ∀ H' dx, Same H H' → H' dx = some (.xd [("at", .int k)]) → E (.ref C) (some dx) H') ∧
  (∀ i0 s i2 kvs, rowR (Txt.split x " ") = .inr (i0, s, i2, kvs) → ∀ t d H', H d = none → H t = none → Same H H' → H' d = some (.dK kvs) → H' t = some (.tup [.int i0, .str s, .int i2, .ref d]) → Q (.ref t) H')
theorem ok_read_row (T : Txt K mg a) : FnOk P w K mg base (CX1 P w) 6 a.f_read_row a.d_read_row ["text"] (spRR a.c_BadText) := by
  refine T.F_read_row.ok1 sc_read_row (fun vs H Q E h => ?_) (fun cdv A outer s H vs Q E hr h => ?_)
  · obtain ⟨x, rfl, _⟩ := h; rfl
  obtain ⟨x, rfl, hx, qe, q⟩ := h
  refine ⟨_, (pss_cons (ps_set (i := 1) sc_read_row.nd rfl (by first | exact Or.inl rfl | exact Or.inr rfl) (pe_bm PySem.F.plainAttrs_str PySem.F.slot_str_split PySem.F.type_str_split mt_split (pv 0) (pa_cons pe_str pa_nil))) (pss_cons (ps_set (i := 2) sc_read_row.nd rfl (by first | exact Or.inl rfl | exact Or.inr rfl) (pe_call (ok_number_in T) (hr.mono (by decide)) rfl T.m_number_in T.F_number_in.kp T.b_number_in .nil pass0 (pa_cons (pe_ix ix_list (pv 1) pe_int (fun _ _ => rfl)) pa_nil))) (pss_cons (ps_if (pt_cmpR op_isN (pv 2) pe_non (nomark _)) (pss_one (ps_raise T.x_BadText.made.choose_spec (ok_BadText__init T) T.x_BadText.tk (hr.mono (by decide)) T.x_BadText.bd rfl rfl T.m_BadText pe_int)) pss_nil) (pss_cons (ps_if (PW.pt (pw_or (pt_cmpR op_lt (pe_callB call_len_seq rfl T.n_len PySem.boot_len (pa_cons (pv 1) pa_nil)) pe_int (nomark _)) (pw_or1 (pt_not (pt_val (pe_call (ok_is_name T) (hr.mono (by decide)) rfl T.m_is_name T.F_is_name.kp T.b_is_name .nil pass0 (pa_cons (pe_ix ix_list (pv 1) pe_int (fun _ _ => rfl)) pa_nil))))))) (pss_one (ps_raise T.x_BadText.made.choose_spec (ok_BadText__init T) T.x_BadText.tk (hr.mono (by decide)) T.x_BadText.bd rfl rfl T.m_BadText pe_int)) pss_nil) (pss_cons (ps_set (i := 3) sc_read_row.nd rfl (by first | exact Or.inl rfl | exact Or.inr rfl) (pe_ifExp (pt_cmpR op_gt (pe_callB call_len_seq rfl T.n_len PySem.boot_len (pa_cons (pv 1) pa_nil)) pe_int (nomark _)) (pe_call (ok_number_in T) (hr.mono (by decide)) rfl T.m_number_in T.F_number_in.kp T.b_number_in .nil pass0 (pa_cons (pe_ix ix_list (pv 1) pe_int (fun _ _ => rfl)) pa_nil)) pe_non)) (pss_cons (ps_if (PW.pt (pw_or (pt_cmpR op_isN (pv 3) pe_non (nomark _)) (pw_or1 (pt_cmpR op_lt (pv 3) pe_int (nomark _))))) (pss_one (ps_raise T.x_BadText.made.choose_spec (ok_BadText__init T) T.x_BadText.tk (hr.mono (by decide)) T.x_BadText.bd rfl rfl T.m_BadText pe_int)) pss_nil) (pss_one (ps_ret (pe_tup (pa_cons (pv 2) (pa_cons (pe_ix ix_list (pv 1) pe_int (fun _ _ => rfl)) (pa_cons (pv 3) (pa_cons (pe_call (ok_read_fields T) (hr.mono (by decide)) rfl T.m_read_fields T.F_read_fields.kp T.b_read_fields .nil pass1 (pa_cons (pv 1) pa_nil)) pa_nil))))))))))))), ?_⟩
  refine ⟨_, rfl, rfl, ?_⟩
  dsimp only [tCons, tC, tNil]
  refine split_ok (by decide +kernel) (by omega) fun l hl => ?_
  have gl := same_new hl (.lst ((Txt.split x " ").map V.str))
  have hlens := split_lens x " "
  have hmany := split_many x " "
  have hne := split_ne x " "
  have bad : ∀ {H2 : Hp} {k : Nat}, Same H H2 → rowR (Txt.split x " ") = .inl k → ∀ (t dx : Addr), H2 t = none → H2 dx = none → dx ≠ t → E (.ref a.c_BadText) (some dx) (upd (upd H2 t (.tup [.int (k : Int)])) dx (.xd [("at", .int (k : Int))])) := fun {H2 k} g2 e t dx ht hdx hne => by
    have gt := same_new ht (.tup [.int (k : Int)])
    have hd' : upd H2 t (.tup [.int (k : Int)]) dx = none := by rw [upd_ne hne]; exact hdx
    exact qe _ e _ dx (g2.trans (gt.trans (same_new hd' _))) upd_same
  cases ew : Txt.split x " " with
  | nil => exact absurd ew hne
  | cons w0 r0 =>
    rw [ew] at hlens hmany bad q gl
    rw [List.length_cons] at hmany
    have hl0 := SqL.of (K := K) (upd_same (H := H) (a := l) (o := .lst ((w0 :: r0).map V.str)))
    refine ⟨_, rfl, l, _, _, _, rfl, rfl, hl0, atI_nat (j := 0) rfl, ?_⟩
    have hw0 := hlens w0 List.mem_cons_self
    refine ⟨w0, rfl, by omega, fun H1 g1 => ?_⟩
    have G1 := gl.trans g1
    have hl1 := SqL.of (K := K) (g1 _ _ (upd_same (H := H) (a := l) (o := .lst ((w0 :: r0).map V.str))))
    cases e0 : numV w0 with
    | none =>
      refine ⟨_, rfl, rfl, _, rfl, iteT ?_⟩
      exact ⟨_, rfl, fun t dx ht hdx hne => bad (k := 0) G1 (rowR_0 e0) t dx ht hdx hne⟩
    | some v0 =>
      obtain ⟨i0, rfl⟩ := num_int e0
      refine ⟨_, rfl, rfl, _, rfl, iteF ?_⟩
      refine ⟨_, rfl, _, _, rfl, .inl hl1, _, _, rfl, rfl, _, rfl, ?_⟩
      cases r0 with
      | nil =>
        refine iteT2 rfl ?_
        exact ⟨_, rfl, fun t dx ht hdx hne => bad (k := 1) G1 (rowR_1 e0) t dx ht hdx hne⟩
      | cons w1 r1 =>
        have hw1 := hlens w1 (List.mem_cons_of_mem _ List.mem_cons_self)
        refine iteF2 (decide_eq_false (by rw [List.length_map, List.length_cons, List.length_cons]; omega)) ?_
        refine ⟨_, rfl, l, _, _, _, rfl, rfl, hl1, atI_nat (j := 1) rfl, ?_⟩
        refine ⟨w1, rfl, small (by omega), fun H2 g2 => ⟨_, rfl, ?_⟩⟩
        have G2 := G1.trans g2
        have hl2 := SqL.of (K := K) (g2 _ _ (g1 _ _ (upd_same (H := H) (a := l) (o := .lst ((w0 :: w1 :: r1).map V.str)))))
        cases e1 : nameB w1 with
        | false =>
          refine iteT ?_
          exact ⟨_, rfl, fun t dx ht hdx hne => bad (k := 1) G2 (rowR_1b e0 e1) t dx ht hdx hne⟩
        | true =>
          refine iteF ?_
          refine ⟨_, rfl, _, _, rfl, .inl hl2, _, _, rfl, rfl, _, rfl, ?_⟩
          cases r1 with
          | nil =>
            refine iteF2 rfl ?_
            refine ⟨_, rfl, rfl, _, rfl, iteT ?_⟩
            exact ⟨_, rfl, fun t dx ht hdx hne => bad (k := 2) G2 (rowR_2 e0 e1) t dx ht hdx hne⟩
          | cons w2 r2 =>
            have hw2 := hlens w2 (List.mem_cons_of_mem _ (List.mem_cons_of_mem _ List.mem_cons_self))
            refine iteT2 (decide_eq_true (by rw [List.length_map, List.length_cons, List.length_cons, List.length_cons]; omega)) ?_
            refine ⟨_, rfl, l, _, _, _, rfl, rfl, hl2, atI_nat (j := 2) rfl, ?_⟩
            refine ⟨w2, rfl, by omega, fun H3 g3 => ?_⟩
            have G3 := G2.trans g3
            have hll := g3 _ _ (g2 _ _ (g1 _ _ (upd_same (H := H) (a := l) (o := .lst ((w0 :: w1 :: w2 :: r2).map V.str)))))
            have hl3 := SqL.of (K := K) hll
            cases e2 : numV w2 with
            | none =>
              refine ⟨_, rfl, rfl, _, rfl, iteT ?_⟩
              exact ⟨_, rfl, fun t dx ht hdx hne => bad (k := 2) G3 (rowR_2b e0 e1 e2) t dx ht hdx hne⟩
            | some v2 =>
              obtain ⟨i2, rfl⟩ := num_int e2
              refine ⟨_, rfl, rfl, _, rfl, iteF ?_⟩
              refine ⟨_, rfl, _, _, rfl, rfl, _, rfl, ?_⟩
              refine ite2 (fun c => ?_) (fun c => ?_)
              · exact ⟨_, rfl, fun t dx ht hdx hne => bad (k := 2) G3 (rowR_2c e0 e1 e2 (of_decide_eq_true c)) t dx ht hdx hne⟩
              · have h2 : ¬ i2 < 0 := fun z => c (decide_eq_true z)
                refine ⟨_, rfl, _, rfl, l, _, _, _, rfl, rfl, hl3, atI_nat (j := 1) rfl, _, rfl, _, rfl, ?_⟩
                refine ⟨l, w0 :: w1 :: w2 :: r2, rfl, hll, by rw [List.length_cons]; omega, fun w hw => Nat.le_trans (hlens w hw) hx, fun k e3 H4 dx g4 hdx => ?_, fun kvs e3 d H4 hd4 g4 hdk => ?_⟩
                · exact qe k (by rw [ew]; exact rowR_3 e0 e1 e2 h2 e3) H4 dx (G3.trans g4) hdx
                · refine ⟨small (n := 4) (by decide), fun t ht => ?_⟩
                  have gt := same_new ht (.tup [.int i0, .str w1, .int i2, .ref d])
                  exact q i0 w1 i2 kvs (rowR_4 e0 e1 e2 h2 e3) t d _ (G3.free hd4) ((G3.trans g4).free ht) (G3.trans (g4.trans gt)) (gt _ _ hdk) upd_same
end

end My

set_option Elab.async false
set_option linter.all false
set_option maxRecDepth 100000
set_option maxHeartbeats 4000000
namespace My
open PySem L2
theorem last_at {x : Str} (h : 1 ≤ x.length) : ∃ c, x.cps.toList[x.length - 1]? = some c ∧ atI x.cps.toList (-1) = some c := by
  have l := len_list x
  obtain ⟨c, hc⟩ : ∃ c, x.cps.toList[x.length - 1]? = some c := ⟨_, List.getElem?_eq_getElem (by omega)⟩
  refine ⟨c, hc, ?_⟩
  unfold atI ixN
  rw [if_neg (by decide)]
  rw [l]
  have e : (-1 + (x.length : Int)).toNat = x.length - 1 := by omega
  first
    | rw [if_pos (by omega)]; simp only [Option.bind_some]; rw [e]; exact hc
    | (simp only [e]; simpa using hc)
/-- a text without a good number -/
theorem no_num {x : Str} (h1 : x ≠ "yes") (h2 : x ≠ "no") (h3 : q1 x = false) : rdV x = numV x := by
  unfold rdV
  rw [if_neg h1, if_neg h2, h3, if_neg (by decide)]
theorem short_q {x : Str} (h1 : x ≠ "yes") (h2 : x ≠ "no") (hl : x.length ≤ 2) : rdV x = numV x := by
  cases h : q1 x with
  | false => exact no_num h1 h2 h
  | true =>
    have e1 : rdV x = none := by
      unfold rdV
      rw [if_neg h1, if_neg h2, if_pos h]
      unfold wrdV
      have : wordB (Txt.slice x (some 1) (some (-1))) = false := by
        unfold wordB sz
        rw [slice_mid1 hl]; rfl
      rw [this, if_neg (by decide)]
    have hs : (x.cps.toList.head? == some 39) = true := by
      unfold q1 at h
      rw [starts1 q_list] at h
      exact (Bool.and_eq_true_iff.mp h).1
    have hh : x.cps.toList.head? = some 39 := by simpa using hs
    have e2 : numV x = none := by
      unfold numV
      have hf : figs x = x := by
        rcases figs_cases x with ⟨r, z, _⟩ | ⟨_, z⟩
        · rw [z] at hh; cases hh
        · exact z
      have hb : figB (figs x) = false := by
        rw [hf]
        cases e : x.cps.toList with
        | nil => rw [e] at hh; cases hh
        | cons c r =>
          rw [e] at hh
          have hc : c = 39 := by simpa using hh
          unfold figB
          rw [e, hc]
          simp [isFig]
      rw [hb, if_neg (by decide)]
    rw [e1, e2]
section
variable {P : Program} {w : World} {K : PySem.W.Frag} {mg : Str → Option Value} {base : Heap} {a : Adr}
theorem ok_number_of (T : Txt K mg a) : FnOk P w K mg base CX0 1 a.f_number_of a.d_number_of ["_law_text"] (spTN numV) := by
  refine T.F_number_of.ok sc_number_of (fun vs H Q E h => ?_) (fun cdv A outer s H vs Q E hr h => ?_)
  · obtain ⟨x, rfl, _⟩ := h; rfl
  obtain ⟨x, rfl, hx, q⟩ := h
  have hx' : x.length ≤ sizeLine := small (by omega)
  have fl := figs_len x
  have hf : (figs x).length ≤ sizeLine := small (by omega)
  refine ⟨_, (pss_cons (ps_set (i := 1) sc_number_of.nd rfl (by first | exact Or.inl rfl | exact Or.inr rfl) (pe_cut (pe_ifExp (pt_cmpR op_eq (pe_slice sl_str (pv 0) po_none (po_some pe_int)) pe_str (nomark _)) (pe_slice sl_str (pv 0) (po_some pe_int) po_none) (pv 0)))) (pss_cons (ps_if (PW.pt (pw_or (pt_cmpR op_eq (pv 1) pe_str (nomark _)) (pw_or (pt_cmpR op_gt (pe_callB call_len_str rfl T.n_len PySem.boot_len (pa_cons (pv 1) pa_nil)) pe_int (nomark _)) (pw_or1 (pt_not (pt_val (pe_callB (call_all rfl) rfl T.n_all (by decide +kernel) (pa_cons (pe_comp ["_law_sign"] [none] (pi_str (pv 1)) (fun _ _ _ _ _ => (pg_name (i := 0) (show List.Nodup (["_law_sign"] : List Str) from by decide +kernel) rfl (Or.inl rfl) (Or.inr rfl))) (fun _ _ _ _ _ => pts_nil) (fun _ _ _ _ _ => (pe_chain op_le_str op_le_str pe_str (pv 0) pe_str))) pa_nil)))))))) (pss_one (ps_ret pe_non)) pss_nil) (pss_one (ps_ret (pe_ifExp (PW.pt (pw_or (PW.pt (pw_and (pt_cmpR op_gt (pe_callB call_len_str rfl T.n_len PySem.boot_len (pa_cons (pv 1) pa_nil)) pe_int (nomark _)) (pw_and1 (pt_cmpR op_eq (pe_ix ix_str (pv 1) pe_int (fun _ _ => rfl)) pe_str (nomark _))))) (pw_or1 (pt_cmpR op_eq (pv 0) pe_str (nomark _))))) pe_non (pe_callTy call_int_text rfl T.n_int (by decide +kernel) (pa_cons (pv 0) pa_nil))))))), ?_⟩
  refine ⟨fun v H' => v = .str (figs x) ∧ H' = H, ?_, ?_⟩
  · refine ⟨_, rfl, _, rfl, x, rfl, hx', rfl, _, rfl, ?_⟩
    rw [to1_minus]
    unfold figs
    refine ite2 (fun c => ⟨_, rfl, _, rfl, x, rfl, hx', ?_⟩) (fun c => ⟨_, rfl, ?_⟩)
    · rw [if_pos c]; exact ⟨rfl, rfl⟩
    · rw [if_neg c]; exact ⟨rfl, rfl⟩
  rintro v H' ⟨rfl, rfl⟩
  have none1 : ∀ {H2 : Hp}, numV x = none → Same H' H2 → Q .non H2 := fun {H2} e g => by
    have z := q H2 g
    rw [e] at z; exact z
  have bad : figB (figs x) = false → numV x = none := fun e => by unfold numV; rw [e, if_neg (by decide)]
  refine ⟨_, rfl, rfl, _, rfl, ?_⟩
  refine ite2 (fun c1 => ?_) (fun c1 => ?_)
  · have e : figs x = "" := by
      have := of_decide_eq_true c1
      injection this
    exact none1 (bad (by rw [e]; decide +kernel)) (Same.refl _)
  refine ⟨_, rfl, figs x, rfl, hf, _, _, rfl, rfl, _, rfl, ?_⟩
  refine ite2 (fun c2 => ?_) (fun c2 => ?_)
  · have l : 30 < (figs x).length := by have := of_decide_eq_true c2; omega
    exact none1 (bad (by unfold figB; rw [decide_eq_false (show ¬ (figs x).length ≤ 30 by omega)]; simp)) (Same.refl _)
  have l1 : 1 ≤ (figs x).length := by
    by_cases h : 1 ≤ (figs x).length
    · exact h
    · have : figs x = "" := str_ext (by
        have l := len_list (figs x)
        rw [List.length_eq_zero_iff.mp (show (figs x).cps.toList.length = 0 by omega)]
        decide +kernel)
      exact absurd (by rw [this]; exact decide_eq_true rfl) c1
  have l2 : (figs x).length ≤ 30 := by
    by_cases h : (figs x).length ≤ 30
    · exact h
    · exact absurd (decide_eq_true (by omega)) c2
  refine ⟨_, rfl, _, rfl, comp_its isFig hf (fun c R hR => lastFig hR) (fun Dp hD => ⟨Dp, _, rfl, SqL.of upd_same, _, rfl, ?_⟩)⟩
  have gD := same_new hD (.lst (((figs x).cps.toList.map isFig).map V.bl))
  have ea : ((figs x).cps.toList.map isFig).all id = (figs x).cps.toList.all isFig := by rw [List.all_map]; rfl
  rw [ea]
  refine ite2 (fun c3 => ?_) (fun c3 => ?_)
  · have e : (figs x).cps.toList.all isFig = false := by simpa using c3
    exact none1 (bad (by unfold figB; rw [e]; simp)) gD
  have e3 : (figs x).cps.toList.all isFig = true := by simpa using c3
  have hB : figB (figs x) = true := by unfold figB; rw [decide_eq_true l1, decide_eq_true l2, e3]; rfl
  obtain ⟨c, r, e⟩ := head_at l1
  obtain ⟨n, hn⟩ := int_of_figs hB (by omega)
  have h0 : head0 (figs x) = (c == 48) := by unfold head0; rw [e]; rfl
  have zr := zero_rule hB
  have em : decide (x = "-0") = decide (V.str x = V.str "-0") := by rw [Bool.eq_iff_iff]; simp
  have nv : numV x = if (head0 (figs x) && !decide (x = "0")) = true then none else some (.int n) := by unfold numV; rw [if_pos hB, hn]; rfl
  rw [← zr, h0, em] at nv
  have one1 : ∀ {H2 : Hp}, numV x = some (.int n) → Same H' H2 → Q (.int n) H2 := fun {H2} e g => by
    have z := q H2 g
    rw [e] at z; exact z
  refine ⟨_, rfl, figs x, rfl, hf, _, _, rfl, rfl, _, rfl, ?_⟩
  refine ite2 (fun k1 => ?_) (fun k1 => ?_)
  · rw [k1, Bool.true_and] at nv
    refine ⟨_, rfl, figs x, _, c, rfl, rfl, hf, by rw [e]; exact atI_nat (j := 0) rfl, rfl, _, rfl, ?_⟩
    rw [one_is z_list]
    refine ite2 (fun k2 => ?_) (fun k2 => ?_)
    · rw [k2, Bool.true_or, if_pos rfl] at nv
      exact none1 nv gD
    · rw [Bool.eq_false_iff.mpr k2, Bool.false_or] at nv
      refine ⟨_, rfl, rfl, _, rfl, ?_⟩
      refine ite2 (fun k3 => ?_) (fun k3 => ?_)
      · rw [if_pos k3] at nv
        exact none1 nv gD
      · rw [if_neg k3] at nv
        exact ⟨_, rfl, x, n, rfl, hn, by omega, one1 nv gD⟩
  · rw [Bool.eq_false_iff.mpr k1, Bool.false_and, Bool.false_or] at nv
    refine ⟨_, rfl, rfl, _, rfl, ?_⟩
    refine ite2 (fun k3 => ?_) (fun k3 => ?_)
    · rw [if_pos k3] at nv
      exact none1 nv gD
    · rw [if_neg k3] at nv
      exact ⟨_, rfl, x, n, rfl, hn, by omega, one1 nv gD⟩
theorem ok_value_of (T : Txt K mg a) : FnOk P w K mg base CX0 2 a.f_value_of a.d_value_of ["_law_text"] (spTN rdV) := by
  refine T.F_value_of.ok sc_value_of (fun vs H Q E h => ?_) (fun cdv A outer s H vs Q E hr h => ?_)
  · obtain ⟨x, rfl, _⟩ := h; rfl
  obtain ⟨x, rfl, hx, q⟩ := h
  have hx' : x.length ≤ sizeLine := small (by omega)
  refine ⟨_, (pss_cons (ps_if (pt_cmpR op_in_seq (pv 0) (pe_tup (pa_cons pe_str (pa_cons pe_str pa_nil))) (by with_unfolding_all rfl)) (pss_one (ps_ret (pe_cmpR op_eq (pv 0) pe_str (nomark _)))) pss_nil) (pss_cons (ps_if (PW.pt (pw_and (pt_cmpR op_gt (pe_callB call_len_str rfl T.n_len PySem.boot_len (pa_cons (pv 0) pa_nil)) pe_int (nomark _)) (pw_and (pt_cmpR op_eq (pe_ix ix_str (pv 0) pe_int (fun _ _ => rfl)) pe_str (nomark _)) (pw_and1 (pt_cmpR op_eq (pe_ix ix_str (pv 0) (pe_un un_neg pe_int) (fun _ _ => rfl)) pe_str (nomark _)))))) (pss_cons (ps_set (i := 1) sc_value_of.nd rfl (by first | exact Or.inl rfl | exact Or.inr rfl) (pe_slice sl_str (pv 0) (po_some pe_int) (po_some (pe_un un_neg pe_int)))) (pss_cons (ps_set (i := 2) sc_value_of.nd rfl (by first | exact Or.inl rfl | exact Or.inr rfl) (pe_and (pe_cmpR op_le (pe_callB call_len_str rfl T.n_len PySem.boot_len (pa_cons (pv 1) pa_nil)) pe_int (nomark _)) (pe_one (pe_chain op_le_str op_le_str pe_str (pe_ix ix_str (pv 1) pe_int (fun _ _ => rfl)) pe_str)))) (pss_cons (ps_set (i := 2) sc_value_of.nd rfl (by first | exact Or.inl rfl | exact Or.inr rfl) (pe_and (pv 2) (pe_one (pe_callB (call_all rfl) rfl T.n_all (by decide +kernel) (pa_cons (pe_comp ["_law_sign"] [none] (pi_str (pv 1)) (fun _ _ _ _ _ => (pg_name (i := 0) (show List.Nodup (["_law_sign"] : List Str) from by decide +kernel) rfl (Or.inl rfl) (Or.inr rfl))) (fun _ _ _ _ _ => pts_nil) (fun _ _ _ _ _ => (pe_or (pe_chain op_le_str op_le_str pe_str (pv 0) pe_str) (pe_one (pe_chain op_le_str op_le_str pe_str (pv 0) pe_str))))) pa_nil))))) (pss_one (ps_ret (pe_ifExp (pt_val (pv 2)) (pv 1) pe_non)))))) pss_nil) (pss_one (ps_ret (pe_call (ok_number_of T) (hr.mono (by decide)) rfl T.m_number_of T.F_number_of.kp T.b_number_of .nil pass0 (pa_cons (pv 0) pa_nil)))))), ?_⟩
  have some1 : ∀ {v : V} {H1 : Hp}, rdV x = some v → Same H H1 → Q v H1 := fun {v H1} e g => by
    have z := q H1 g
    rw [e] at z; exact z
  have none1 : ∀ {H1 : Hp}, rdV x = none → Same H H1 → Q .non H1 := fun {H1} e g => by
    have z := q H1 g
    rw [e] at z; exact z
  refine ⟨_, rfl, small (n := 2) (by decide), fun tp htp => ?_⟩
  have g1 := same_new htp (.tup [.str "yes", .str "no"])
  refine ⟨tp, _, rfl, .inr (SqT.of upd_same), rfl, (by rfl), _, rfl, ?_⟩
  rw [in_two]
  refine ite2 (fun k => ?_) (fun k => ?_)
  · refine ⟨_, rfl, rfl, ?_⟩
    by_cases hy : x = "yes"
    · subst hy
      rw [decide_eq_true rfl]
      exact some1 rd_yes g1
    · have hn : x = "no" := by
        rcases Bool.or_eq_true_iff.mp k with e | e
        · exact absurd (of_decide_eq_true e) hy
        · exact of_decide_eq_true e
      subst hn
      rw [decide_eq_false (by decide +kernel)]
      exact some1 rd_no g1
  have hk : (decide (x = "yes") || decide (x = "no")) = false := Bool.eq_false_iff.mpr k
  obtain ⟨k1, k2⟩ := Bool.or_eq_false_iff.mp hk
  have hy := of_decide_eq_false k1
  have hn := of_decide_eq_false k2
  generalize upd H tp (.tup [.str "yes", .str "no"]) = H1 at g1 ⊢
  have rest : rdV x = numV x → spTN numV [.str x] H1 Q E := fun e => ⟨x, rfl, hx, fun H2 g2 => by
    have z := q H2 (g1.trans g2)
    rw [e] at z; exact z⟩
  refine ⟨_, rfl, x, rfl, hx', _, _, rfl, rfl, _, rfl, ?_⟩
  refine ite2 (fun c1 => ?_) (fun c1 => ?_)
  · have hl : 2 < x.length := by
      have := of_decide_eq_true c1
      omega
    obtain ⟨c0, r, e0⟩ := head_at (x := x) (by omega)
    obtain ⟨cl, el, al⟩ := last_at (x := x) (by omega)
    have hs : Txt.startswith x "'" = (c0 == 39) := by rw [starts1 q_list, e0]; rfl
    have he : Txt.endswith x "'" = (cl == 39) := by rw [ends1 q_list (by omega), el]; rfl
    refine ⟨_, rfl, x, _, c0, rfl, rfl, hx', by rw [e0]; exact atI_nat (j := 0) rfl, rfl, _, rfl, ?_⟩
    rw [one_is q_list]
    refine ite2 (fun c2 => ?_) (fun c2 => ?_)
    · refine ⟨_, rfl, _, rfl, x, _, cl, rfl, rfl, hx', al, rfl, _, rfl, ?_⟩
      rw [one_is q_list]
      refine ite2 (fun c3 => ?_) (fun c3 => ?_)
      · have hq : q1 x = true := by unfold q1; rw [hs, he, c2, c3]; rfl
        have er : rdV x = wrdV x := by unfold rdV; rw [if_neg hy, if_neg hn, if_pos hq]
        unfold wrdV at er
        have sm := slice_mid (x := x) (by omega)
        have li := len_list (Txt.slice x (some 1) (some (-1)))
        have lin : (Txt.slice x (some 1) (some (-1))).length = x.length - 2 := by
          rw [← li, sm, List.length_take, List.length_drop, len_list]; omega
        refine ⟨_, rfl, _, rfl, _, rfl, _, rfl, x, rfl, hx', ?_⟩
        generalize Txt.slice x (some 1) (some (-1)) = w' at er sm li lin ⊢
        have hw : w'.length ≤ sizeLine := small (by omega)
        obtain ⟨d, r2, ed⟩ := head_at (x := w') (by omega)
        have hb : bwl w' = isLet d := by unfold bwl; rw [ed]
        have hz : sz w' = decide ((w'.length : Int) ≤ 12) := by
          unfold sz
          rw [decide_eq_true (show 1 ≤ w'.length by omega), Bool.true_and, Bool.eq_iff_iff]
          simp only [decide_eq_true_eq]; omega
        refine ⟨_, rfl, w', rfl, hw, _, _, rfl, rfl, _, rfl, ?_⟩
        have no : wordB w' = false → rdV x = none := fun h => by rw [er, h, if_neg (by decide)]
        refine ite2 (fun d1 => ?_) (fun d1 => ?_)
        · refine ⟨_, rfl, w', _, d, rfl, rfl, hw, by rw [ed]; exact atI_nat (j := 0) rfl, _, _, rfl, rfl, _, rfl, ?_⟩
          refine ite2 (fun d2 => ?_) (fun d2 => ?_)
          · refine ⟨_, _, rfl, rfl, ?_⟩
            have e4 : (!decide (([122] : List Nat) < [d])) = isLet d := chain_sign d2
            have e5 : (!decide ((("z" : Str)).cps.toList < ((⟨#[d]⟩ : Str)).cps.toList)) = isLet d := e4
            rw [e5]
            refine ⟨_, rfl, _, rfl, ?_⟩
            refine ite2 (fun d3 => ?_) (fun d3 => ?_)
            · refine ⟨_, rfl, _, rfl, comp_its wsg hw (fun c R hR => ?_) (fun D hD => ?_)⟩
              · refine ⟨_, rfl, _, _, rfl, rfl, _, rfl, ?_⟩
                have z : R (.bl (isLet c || isFig c)) H1 := hR
                refine ite2 (fun k => ?_) (fun k => ?_)
                · refine ⟨_, _, rfl, rfl, _, rfl, ?_⟩
                  have k1 : (!decide ((("z" : Str)).cps.toList < ((⟨#[c]⟩ : Str)).cps.toList)) = isLet c := chain_sign k
                  rw [k1]
                  refine ite2 (fun k2 => ?_) (fun k2 => ?_)
                  · rw [k2, Bool.true_or] at z; exact z
                  · rw [Bool.eq_false_iff.mpr k2, Bool.false_or] at z
                    exact lastFig z
                · have k1 : isLet c = false := not_let k
                  rw [k1, Bool.false_or] at z
                  exact ⟨_, rfl, iteF (lastFig z)⟩
              · refine ⟨D, _, rfl, SqL.of upd_same, ?_⟩
                have ea : (w'.cps.toList.map wsg).all id = w'.cps.toList.all wsg := by rw [List.all_map]; rfl
                rw [ea]
                have gD := g1.trans (same_new hD (.lst ((w'.cps.toList.map wsg).map V.bl)))
                have ew : wordB w' = w'.cps.toList.all wsg := by unfold wordB; rw [hz, d1, hb, d3]; rfl
                rw [← ew]
                refine ⟨_, rfl, _, rfl, ?_⟩
                refine ite2 (fun d4 => ?_) (fun d4 => ?_)
                · rw [if_pos d4] at er
                  exact ⟨_, rfl, some1 er gD⟩
                · exact (none1 (no (Bool.eq_false_iff.mpr d4)) gD)
            · have d3' : isLet d = false := Bool.eq_false_iff.mpr d3
              rw [d3']
              exact ⟨_, rfl, _, rfl, iteF (none1 (no (by unfold wordB; rw [hb, d3']; simp)) g1)⟩
          · have d2' : isLet d = false := not_let d2
            exact ⟨_, rfl, _, rfl, iteF ⟨_, rfl, _, rfl, iteF (none1 (no (by unfold wordB; rw [hb, d2']; simp)) g1)⟩⟩
        · have d1' := Bool.eq_false_iff.mpr d1
          exact ⟨_, rfl, _, rfl, iteF ⟨_, rfl, _, rfl, iteF (none1 (no (by unfold wordB; rw [hz, d1']; simp)) g1)⟩⟩
      · have hq : q1 x = false := by unfold q1; rw [he, Bool.eq_false_iff.mpr c3, Bool.and_false]
        have hv := no_num hy hn hq
        exact ⟨_, rfl, rest hv⟩
    · have hq : q1 x = false := by unfold q1; rw [hs, Bool.eq_false_iff.mpr c2, Bool.false_and]
      have hv := no_num hy hn hq
      exact ⟨_, rfl, rest hv⟩
  · have hl : x.length ≤ 2 := by
      by_cases h : x.length ≤ 2
      · exact h
      · exact absurd (decide_eq_true (by omega)) c1
    have hv := short_q hy hn hl
    exact ⟨_, rfl, rest hv⟩
end

end My

set_option Elab.async false
set_option linter.all false
set_option maxRecDepth 100000
set_option maxHeartbeats 4000000
namespace My
open PySem L2
/-- a comprehension over a list, with one test -/
theorem comp_listF {K : PySem.W.Frag} {a : Addr} {xs : List V} {im : List (Option Nat)} {σ : St} {H : Hp} {Q : VK} {tc : TT} {te : TE} (R : Nat → List V → Hp → Prop) (h0 : R 0 [] H)
    (hl : ∀ i ys H', i ≤ xs.length → R i ys H' → ys.length ≤ sizeLine ∧ SqL K H' a xs)
    (he : ∀ i x ys H' (N : List V → Hp → Prop), xs[i]? = some x → R i ys H' → (∀ ys' H'', R (i + 1) ys' H'' → N ys' H'') →
      tc ((inner im σ).set 0 (some x)) H' fun b H3 => if b = true then te ((inner im σ).set 0 (some x)) H3 fun y H4 => N (ys ++ [y]) H4 else N ys H3)
    (hq : ∀ ys H', R xs.length ys H' → ∀ D, H' D = none → Q (.ref D) (upd H' D (.lst ys))) : CompAt im (gName 0) tc te σ Q (Itl K a) H := by
  refine ⟨fun i m ys H' => m = xs.length - i ∧ i ≤ xs.length ∧ R i ys H', ⟨xs.length, by simp, Nat.zero_le _, h0⟩, ?_⟩
  rintro i m ys H' ⟨rfl, hi, r⟩
  have hz := hl i ys H' hi r
  refine ⟨hz.1, ?_⟩
  by_cases hlt : i < xs.length
  · refine .inr ⟨⟨xs, xs[i], hz.2, by simp [hlt]⟩, fun x H'' y => ?_⟩
    obtain ⟨e, y⟩ := y
    subst e
    exact he i x ys _ (fun ys' H5 => ∃ m', m' < xs.length - i ∧ m' = xs.length - (i + 1) ∧ i + 1 ≤ xs.length ∧ R (i + 1) ys' H5) (y xs hz.2) r fun ys' H5 z => ⟨xs.length - (i + 1), by omega, rfl, hlt, z⟩
  · have e : i = xs.length := by omega
    subst e
    exact .inl ⟨⟨xs, hz.2, Nat.le_refl _⟩, hq ys H' r⟩

/-- a comprehension over a list, no test -/
theorem comp_listN {K : PySem.W.Frag} {a : Addr} {xs : List V} {im : List (Option Nat)} {σ : St} {H : Hp} {Q : VK} {te : TE} (R : Nat → List V → Hp → Prop) (h0 : R 0 [] H)
    (hl : ∀ i ys H', i ≤ xs.length → R i ys H' → ys.length ≤ sizeLine ∧ SqL K H' a xs)
    (he : ∀ i x ys H' (N : VK), xs[i]? = some x → R i ys H' → (∀ y H'', R (i + 1) (ys ++ [y]) H'' → N y H'') → te ((inner im σ).set 0 (some x)) H' N)
    (hq : ∀ ys H', R xs.length ys H' → ∀ D, H' D = none → Q (.ref D) (upd H' D (.lst ys))) : CompAt im (gName 0) tNoIf te σ Q (Itl K a) H :=
  comp_listF R h0 hl (fun i x ys H' N hx hR hN => he i x ys H' _ hx hR fun y H'' r => hN _ _ r) hq
def kk : List (Str × Str) := [("took", "number"), ("user", "word"), ("ok", "flag"), ("a", "number"), ("level", "word"), ("that_x", "number")]
def KD (m : Nat) : List (Key × V) := (kk.take m).map fun p => (Sum.inr p.1, V.str p.2)
theorem Ev.free {d b : Addr} {H H' : Hp} (e : Ev d H H') (h : H' b = none) : H b = none := by
  cases hh : H b with
  | none => rfl
  | some o =>
    have := e.same b o (e.drw.ne_of_none h) hh
    rw [this] at h; cases h
/-- pairs of two lists, as tuples -/
theorem comp_pairs {K : PySem.W.Frag} {p q : Addr} {xs ys : List V} {im : List (Option Nat)} {σ : St} {H : Hp} {Q : VK} {te : TE} (hl : xs.length ≤ ys.length) (hp : SqL K H p xs) (hq : SqL K H q ys) (hz : xs.length ≤ sizeLine)
    (he : ∀ x y H' (R : VK), (∀ T, H' T = none → R (.ref T) (upd H' T (.tup [x, y]))) → te (((inner im σ).set 0 (some x)).set 1 (some y)) H' R)
    (hQ : ∀ D (ts : List Addr) H', Same H H' → ts.length = xs.length → (∀ (j : Nat) (t : Addr), ts[j]? = some t → ∃ x y, xs[j]? = some x ∧ ys[j]? = some y ∧ H' t = some (.tup [x, y])) → H' D = none → Q (.ref D) (upd H' D (.lst (ts.map V.ref)))) :
    CompAt im (gTup K 2 (gCons (gName 0) (gCons (gName 1) gNil))) tNoIf te σ Q (Itz K p q) H := by
  refine ⟨fun i m zs H' => m = xs.length - i ∧ i ≤ xs.length ∧ ∃ ts : List Addr, zs = ts.map V.ref ∧ ts.length = i ∧ Same H H' ∧ ∀ (j : Nat) (t : Addr), ts[j]? = some t → ∃ x y, xs[j]? = some x ∧ ys[j]? = some y ∧ H' t = some (.tup [x, y]), ⟨xs.length, by simp, Nat.zero_le _, [], rfl, rfl, Same.refl H, fun j t h => by simp at h⟩, ?_⟩
  rintro i m zs H' ⟨rfl, hi, ts, rfl, rfl, g, hts⟩
  refine ⟨by rw [List.length_map]; omega, ?_⟩
  by_cases hlt : ts.length < xs.length
  · have hlt2 : ts.length < ys.length := by omega
    refine .inr ⟨⟨xs, ys, xs[ts.length], ys[ts.length], g.seq hp, g.seq hq, List.getElem?_eq_getElem hlt, List.getElem?_eq_getElem hlt2⟩, fun u H'' yl => ?_⟩
    obtain ⟨T, rfl, hT, yl⟩ := yl
    obtain ⟨x, y, hx, hy, rfl⟩ := yl xs ys (g.seq hp) (g.seq hq)
    refine ⟨T, [x, y], rfl, SqT.of upd_same, rfl, x, [y], rfl, y, [], rfl, rfl, ?_⟩
    have g2 := same_new hT (.tup [x, y])
    refine he x y _ _ fun T2 hT2 => ⟨xs.length - (ts.length + 1), by omega, rfl, hlt, ts ++ [T2], by simp, by simp, (g.trans g2).trans (same_new hT2 _), fun j t hj => ?_⟩
    by_cases hjl : j < ts.length
    · rw [List.getElem?_append_left hjl] at hj
      obtain ⟨x', y', e1, e2, e3⟩ := hts j t hj
      exact ⟨x', y', e1, e2, same_new hT2 _ _ _ (g2 _ _ e3)⟩
    · rw [List.getElem?_append_right (by omega)] at hj
      have hj0 : j - ts.length = 0 := by
        cases h : j - ts.length with
        | zero => rfl
        | succ k => rw [h] at hj; simp at hj
      rw [hj0] at hj
      have ej : j = ts.length := by omega
      have et : T2 = t := by simpa using hj
      subst et ej
      exact ⟨x, y, hx, hy, upd_same⟩
  · have e : ts.length = xs.length := by omega
    exact .inl ⟨⟨xs, ys, g.seq hp, g.seq hq, (by omega)⟩, fun D hD => hQ D ts H' g e hts hD⟩
theorem kd_keys (m : Nat) : ((KD m).map (·.1)).map kV = ((kk.take m).map (·.1)).map V.str := by
  unfold KD
  rw [List.map_map, List.map_map, List.map_map]
  rfl
theorem kd_val : ∀ m, 3 ≤ m → m ≤ 6 → ∀ p ∈ kk.take m, valV (KD m) (Sum.inr p.1) = some (.str p.2) := by
  intro m h1 h2
  have : m = 3 ∨ m = 4 ∨ m = 5 ∨ m = 6 := by omega
  rcases this with rfl | rfl | rfl | rfl <;> decide +kernel
/-- where the kinds lie, and what the draw and they are to one another -/
structure Kd (H : Hp) (d kd : Addr) (m : Nat) : Prop where
  drw : Drw H d
  at' : H kd = some (.dK (KD m))
  lo : 3 ≤ m
  hi : m ≤ 6
theorem Kd.ne {H : Hp} {d kd : Addr} {m : Nat} (h : Kd H d kd m) : kd ≠ d := fun z => by
  obtain ⟨xs, e⟩ := h.drw.some
  have := h.at'
  rw [z, e] at this; cases this
theorem Kd.ev {H H' : Hp} {d kd : Addr} {m : Nat} (h : Kd H d kd m) (e : Ev d H H') : Kd H' d kd m := ⟨e.drw, e.same _ _ h.ne h.at', h.lo, h.hi⟩
section
variable {P : Program} {w : World} {K : PySem.W.Frag} {mg : Str → Option Value} {base : Heap} {a : Adr}
theorem kk_cut {r : Int} (h0 : 0 ≤ r) (h1 : r < 4) : ∃ m, 3 ≤ m ∧ m ≤ 6 ∧ cutV (kk.map fun p => V.str p.1) none (some (3 + r)) = (kk.take m).map (fun p => V.str p.1) ∧ foldK (KD m) = KD m := by
  have : r = 0 ∨ r = 1 ∨ r = 2 ∨ r = 3 := by omega
  rcases this with rfl | rfl | rfl | rfl
  · exact ⟨3, by decide, by decide, by decide +kernel, by decide +kernel⟩
  · exact ⟨4, by decide, by decide, by decide +kernel, by decide +kernel⟩
  · exact ⟨5, by decide, by decide, by decide +kernel, by decide +kernel⟩
  · exact ⟨6, by decide, by decide, by decide +kernel, by decide +kernel⟩
def spKinds : Sp := fun vs H Q _ => ∃ d, vs = [.ref d] ∧ Drw H d ∧ ∀ kd m H', 3 ≤ m → m ≤ 6 → H kd = none → Ev d H H' → H' kd = some (.dK (KD m)) → Q (.ref kd) H'
theorem ok_kinds (T : Txt K mg a) : FnOk P w K mg base CX0 2 a.f_kinds a.d_kinds ["_law_draw"] spKinds := by
  refine T.F_kinds.ok sc_kinds (fun vs H Q E h => ?_) (fun cdv A outer s H vs Q E hr h => ?_)
  · obtain ⟨x, rfl, _⟩ := h; rfl
  obtain ⟨d, rfl, hD, q⟩ := h
  refine ⟨_, (pss_cons (ps_set (i := 1) sc_kinds.nd rfl (by first | exact Or.inl rfl | exact Or.inr rfl) (pe_slice sl_list (pe_lst (pa_cons pe_str (pa_cons pe_str (pa_cons pe_str (pa_cons pe_str (pa_cons pe_str (pa_cons pe_str pa_nil))))))) po_none (po_some (pe_op op_add pe_int (pe_call (ok_take T) (hr.mono (by decide)) rfl T.m_take T.F_take.kp T.b_take .nil pass0 (pa_cons (pv 0) (pa_cons pe_int pa_nil))))))) (pss_cons (ps_set (i := 2) sc_kinds.nd rfl (by first | exact Or.inl rfl | exact Or.inr rfl) (pe_lst (pa_cons pe_str (pa_cons pe_str (pa_cons pe_str (pa_cons pe_str (pa_cons pe_str (pa_cons pe_str pa_nil)))))))) (pss_one (ps_ret (pe_callTy (call_dictP rfl) rfl T.n_dict (by decide +kernel) (pa_cons (pe_comp (g := gTup K 2 (gCons (gName 0) (gCons (gName 1) gNil))) ["_law_name", "_law_sort"] [none, none] (pi_zip rfl T.n_zip (pa_cons (pv 1) (pa_cons (pv 2) pa_nil))) (fun _ _ _ _ _ => (pg_tup (n := 2) rfl (pgs_cons (pg_name (i := 0) (show List.Nodup (["_law_name", "_law_sort"] : List Str) from by decide +kernel) rfl (Or.inl rfl) (Or.inr rfl)) (pgs_cons (pg_name (i := 1) (show List.Nodup (["_law_name", "_law_sort"] : List Str) from by decide +kernel) rfl (Or.inl rfl) (Or.inr rfl)) pgs_nil)))) (fun _ _ _ _ _ => pts_nil) (fun _ _ _ _ _ => (pe_tup (pa_cons (pv 0) (pa_cons (pv 1) pa_nil))))) pa_nil)))))), ?_⟩
  refine ⟨small (n := 6) (by decide), fun l hl => ?_⟩
  have ev0 := Ev.of hD (same_new hl (.lst (kk.map fun p => V.str p.1)))
  refine ⟨_, rfl, d, _, rfl, ev0.drw, by decide, by decide, fun r H1 r0 r1 ev1 => ?_⟩
  obtain ⟨m, m1, m2, hcut, hfold⟩ := kk_cut r0 r1
  refine ⟨_, _, rfl, rfl, _, rfl, l, _, rfl, SqL.of (ev1.same _ _ (hD.ne_of_none hl) upd_same), fun p hp => ?_⟩
  refine ⟨small (n := 6) (by decide), fun l2 hl2 => ?_⟩
  have hc : cutV [.str "took", .str "user", .str "ok", .str "a", .str "level", .str "that_x"] none (some (3 + r)) = (kk.take m).map (fun p => V.str p.1) := hcut
  rw [hc] at hl2 ⊢
  have g2 := same_new hp (.lst ((kk.take m).map (fun p => V.str p.1)))
  have g3 := same_new hl2 (.lst (kk.map fun p => V.str p.2))
  have hxl : ((kk.take m).map (fun p => V.str p.1)).length = m := by rw [List.length_map, List.length_take]; show min m 6 = m; omega
  refine ⟨_, rfl, _, rfl, p, l2, rfl, ⟨_, SqL.of (g3 _ _ upd_same)⟩, ⟨_, SqL.of upd_same⟩, ?_⟩
  refine comp_pairs (xs := (kk.take m).map (fun p => V.str p.1)) (ys := kk.map fun p => V.str p.2) (by rw [hxl]; show m ≤ 6; omega) (SqL.of (g3 _ _ upd_same)) (SqL.of upd_same) (small (by omega)) (fun x y H' R hR => ?_) (fun D ts H' g hts hT hDn => ?_)
  · exact ⟨_, rfl, _, rfl, small (n := 2) (by decide), hR⟩
  · have g4 := same_new hDn (.lst (ts.map V.ref))
    refine ⟨D, ts, KD m, rfl, upd_same, by rw [hts, hxl]; show m = ((kk.take m).map _).length; rw [List.length_map, List.length_take]; show m = min m 6; omega, fun j t kv hj hkv => ?_, fun kd hkd => ?_⟩
    · obtain ⟨x, y, e1, e2, e3⟩ := hT j t hj
      refine g4 _ _ ?_
      rw [e3]
      unfold KD at hkv
      rw [List.getElem?_map] at hkv e1 e2
      cases ek : (kk.take m)[j]? with
      | none => rw [ek] at hkv; cases hkv
      | some pr =>
        have ek2 : kk[j]? = some pr := by
          rw [List.getElem?_take] at ek
          split at ek
          · exact ek
          · cases ek
        rw [ek] at hkv e1
        rw [ek2] at e2
        cases hkv; cases e1; cases e2
        rfl
    · have gg := ((g2.trans g3).trans g).trans g4
      have hkd0 : H kd = none := ((ev0.trans ev1).then gg).free hkd
      rw [hfold]
      exact q kd m _ m1 m2 hkd0 (((ev0.trans ev1).then gg).then (same_new hkd _)) upd_same
end
theorem mem_putK {kvs : List (Key × V)} {k : Key} {v : V} {p : Key × V} (h : p ∈ putK kvs k v) : p ∈ kvs ∨ p = (k, v) := by
  unfold putK at h
  split at h
  · obtain ⟨q, hq, e⟩ := List.mem_map.mp h
    split at e
    · rename_i hk
      right
      rw [← e, ← hk]
    · left
      rw [← e]; exact hq
  · rcases List.mem_append.mp h with h | h
    · exact .inl h
    · exact .inr (by simpa using h)
theorem mem_fold (kvs : List (Key × V)) : ∀ (acc : List (Key × V)) {p : Key × V}, p ∈ kvs.foldl (fun a p => putK a p.1 p.2) acc → p ∈ kvs ∨ p ∈ acc := by
  induction kvs with
  | nil => intro acc p h; exact .inr h
  | cons q kvs ih =>
    intro acc p h
    rcases ih _ h with h | h
    · exact .inl (List.mem_cons_of_mem _ h)
    · rcases mem_putK h with h | h
      · exact .inr h
      · exact .inl (by rw [h]; exact List.mem_cons_self)
theorem kk_len12 : ∀ p ∈ kk, p.1.length ≤ 6 ∧ nameB p.1 = true := by decide +kernel
section
variable {P : Program} {w : World} {K : PySem.W.Frag} {mg : Str → Option Value} {base : Heap} {a : Adr}
def spFds4 : Sp := fun vs H Q _ => ∃ d kd m, vs = [.ref d, .ref kd] ∧ Kd H d kd m ∧ ∀ fd fl H', H fd = none → Ev d H H' → H' fd = some (.dK fl) → fl.length ≤ 6 → (∀ kv ∈ fl, ∃ n, kv.1 = Sum.inr n ∧ (n.length ≤ 6 ∧ nameB n = true) ∧ goodV kv.2) → Q (.ref fd) H'
theorem kk_sorts : ∀ p ∈ kk, p.2 = "number" ∨ p.2 = "flag" ∨ p.2 = "word" := by decide +kernel
theorem ok_fields (T : Txt K mg a) : FnOk P w K mg base CX0 6 a.f_fields a.d_fields ["_law_draw", "_law_kinds_here"] spFds4 := by
  refine T.F_fields.ok sc_fields (fun vs H Q E h => ?_) (fun cdv A outer s H vs Q E hr h => ?_)
  · obtain ⟨_, _, _, rfl, _⟩ := h; rfl
  obtain ⟨d, kd, m, rfl, hK, q⟩ := h
  have hu1 := hu_of hr
  refine ⟨_, (pss_cons (ps_setC (i := 2) sc_fields.nd rfl (by first | exact Or.inl rfl | exact Or.inr rfl) ["_law_name", "_law_draw"] [none, some 0] (pi_list (pe_callB call_sortedS rfl T.n_sorted (by decide +kernel) (pa_cons (pe_callTy (call_listD rfl) rfl T.n_list (by decide +kernel) (pa_cons (pv 1) pa_nil)) pa_nil))) (fun _ _ _ _ _ => (pg_name (i := 0) (show List.Nodup (["_law_name", "_law_draw"] : List Str) from by decide +kernel) rfl (Or.inl rfl) (Or.inr rfl))) (fun _ _ _ _ _ => (pts_one (pt_cmpR op_gt (pe_call (ok_take T) (hr.mono (by decide)) rfl T.m_take T.F_take.kp T.b_take .nil pass0 (pa_cons (pv 1) (pa_cons pe_int pa_nil))) pe_int (nomark _)))) (fun _ _ _ _ _ => (pv 0))) (pss_one (ps_ret (pe_callTy (call_dictP rfl) rfl T.n_dict (by decide +kernel) (pa_cons (pe_comp ["_law_name", "_law_draw", "_law_kinds_here"] [none, some 0, some 1] (pi_list (pv 2)) (fun _ _ _ _ _ => (pg_name (i := 0) (show List.Nodup (["_law_name", "_law_draw", "_law_kinds_here"] : List Str) from by decide +kernel) rfl (Or.inl rfl) (Or.inr rfl))) (fun _ _ _ _ _ => pts_nil) (fun _ _ _ _ _ => (pe_tup (pa_cons (pv 0) (pa_cons (pe_call (ok_value T) (hr.mono (by decide)) rfl T.m_value T.F_value.kp T.b_value .nil pass0 (pa_cons (pv 1) (pa_cons (pe_dget hu1 (pv 2) (pv 0) (fun _ _ => rfl)) pa_nil))) pa_nil))))) pa_nil))))), ?_⟩
  refine ⟨_, rfl, kd, _, rfl, .inl hK.at', fun l1 hl1 => ?_⟩
  rw [kd_keys]
  have g1 := same_new hl1 (.lst (((kk.take m).map (·.1)).map V.str))
  have klen : ((kk.take m).map (·.1)).length ≤ 6 := by rw [List.length_map, List.length_take]; show min m 6 ≤ 6; omega
  refine ⟨l1, _, rfl, SqL.of upd_same, by omega, fun ss l2 hpm _ hl2 => ?_⟩
  have g2 := same_new hl2 (.lst (ss.map V.str))
  have ev2 := Ev.of hK.drw (g1.trans g2)
  have sl : ss.length ≤ 6 := by rw [hpm.length_eq]; exact klen
  have K2 := hK.ev ev2
  have hl2d : l2 ≠ d := (hK.drw.keep g1).ne_of_none hl2
  refine ⟨l2, rfl, ⟨_, SqL.of upd_same⟩, ?_⟩
  refine comp_listF (xs := ss.map V.str) (fun i ys H' => Ev d (upd (upd H l1 (.lst (((kk.take m).map (·.1)).map V.str))) l2 (.lst (ss.map V.str))) H' ∧ ∃ zs : List Str, ys = zs.map V.str ∧ zs.length ≤ i ∧ ∀ n ∈ zs, n ∈ (kk.take m).map (·.1)) ⟨Ev.refl K2.drw, [], rfl, Nat.le_refl _, by simp⟩ (fun i ys H' hi hR => ?_) (fun i x ys H' N hx hR hN => ?_) (fun ys H' hR D hDn => ?_)
  · obtain ⟨ev, zs, rfl, h1, _⟩ := hR
    rw [List.length_map] at hi ⊢
    exact ⟨small (by omega), SqL.of (ev.same _ _ hl2d upd_same)⟩
  · obtain ⟨ev, zs, rfl, h1, h2⟩ := hR
    rw [List.getElem?_map] at hx
    obtain ⟨n, hn, rfl⟩ := Option.map_eq_some_iff.mp hx
    have hmem : n ∈ (kk.take m).map (·.1) := hpm.mem_iff.mp (List.mem_of_getElem? hn)
    refine ⟨_, rfl, d, _, rfl, ev.drw, by decide, by decide, fun r H3 r0 r1 ev3 => ⟨_, _, rfl, rfl, _, rfl, ?_⟩⟩
    refine ite2 (fun k => ?_) (fun k => ?_)
    · refine ⟨_, rfl, hN _ _ ⟨ev.trans ev3, zs ++ [n], by simp, by simp; omega, fun y hy => ?_⟩⟩
      rcases List.mem_append.mp hy with hy | hy
      · exact h2 y hy
      · have : y = n := by simpa using hy
        rw [this]; exact hmem
    · exact hN _ _ ⟨ev.trans ev3, zs, rfl, by omega, h2⟩
  · obtain ⟨ev, zs, rfl, h1, h2⟩ := hR
    rw [List.length_map] at h1
    have g3 := same_new hDn (.lst (zs.map V.str))
    have ev3 := (ev2.trans ev).then g3
    have K3 := hK.ev ev3
    have hDd : D ≠ d := (ev2.trans ev).drw.ne_of_none hDn
    have hD3 : (upd H' D (.lst (zs.map V.str))) D = some (.lst (zs.map V.str)) := upd_same
    generalize upd H' D (.lst (zs.map V.str)) = H3 at g3 ev3 K3 hD3 ⊢
    refine ⟨_, rfl, D, rfl, ⟨_, SqL.of hD3⟩, ?_⟩
    refine comp_listN (xs := zs.map V.str) (fun i ys H' => Ev d H3 H' ∧ ∃ (ts : List Addr) (kvs : List (Key × V)), ys = ts.map V.ref ∧ ts.length = i ∧ kvs.length = i ∧ (∀ (j : Nat) (t : Addr) (kv : Key × V), ts[j]? = some t → kvs[j]? = some kv → H' t = some (.tup [kV kv.1, kv.2])) ∧ ∀ kv ∈ kvs, ∃ n z0, kv.1 = .inr n ∧ (n, z0) ∈ kk.take m ∧ valS z0 kv.2)
      ⟨Ev.refl ev3.drw, [], [], rfl, rfl, rfl, fun j t kv h => by simp at h, fun kv h => by simp at h⟩ (fun i ys H' hi hR => ?_) (fun i x ys H' N hx hR hN => ?_) (fun ys H' hR D2 hD2 => ?_)
    · obtain ⟨ev', ts, kvs, rfl, e1, e2, _⟩ := hR
      rw [List.length_map] at hi ⊢
      exact ⟨small (by omega), SqL.of (ev'.same _ _ hDd hD3)⟩
    · obtain ⟨ev', ts, kvs, rfl, e1, e2, e3, e4⟩ := hR
      rw [List.getElem?_map] at hx
      obtain ⟨n, hn, rfl⟩ := Option.map_eq_some_iff.mp hx
      obtain ⟨pr, hpr, rfl⟩ := List.mem_map.mp (h2 n (List.mem_of_getElem? hn))
      have hv := kd_val m hK.lo hK.hi pr hpr
      have K4 := K3.ev ev'
      refine ⟨_, rfl, _, rfl, _, rfl, _, rfl, kd, .str pr.2, rfl, ?_, d, pr.2, rfl, ev'.drw, kk_sorts pr (List.mem_of_mem_take hpr), fun v H5 ev5 hvs => ⟨small (n := 2) (by decide), fun t ht => ?_⟩⟩
      · have := DGet.k (k := Sum.inr pr.1) K4.at'
        rw [hv] at this
        exact this
      have ev6 := ev5.then (same_new ht (.tup [.str pr.1, v]))
      refine hN _ _ ⟨ev'.trans ev6, ts ++ [t], kvs ++ [(.inr pr.1, v)], by simp, by simp [e1], by simp [e2], fun j t' kv hj hkv => ?_, fun kv hkv => ?_⟩
      · by_cases hjl : j < ts.length
        · rw [List.getElem?_append_left hjl] at hj
          rw [List.getElem?_append_left (by omega)] at hkv
          have h0 := e3 j t' kv hj hkv
          exact ev6.same _ _ (fun z => by
            obtain ⟨xs, hx⟩ := ev'.drw.some
            rw [z, hx] at h0; cases h0) h0
        · have hj0 : j = ts.length := by
            have := (List.getElem?_eq_some_iff.mp hj).1
            rw [List.length_append, List.length_singleton] at this
            omega
          subst hj0
          have e5 : ts.length = kvs.length := by omega
          rw [List.getElem?_append_right (Nat.le_refl _), Nat.sub_self] at hj
          rw [e5, List.getElem?_append_right (Nat.le_refl _), Nat.sub_self] at hkv
          cases hj; cases hkv
          exact upd_same
      · rcases List.mem_append.mp hkv with hkv | hkv
        · exact e4 kv hkv
        · have : kv = (.inr pr.1, v) := by simpa using hkv
          subst this
          exact ⟨pr.1, pr.2, rfl, hpr, hvs⟩
    · obtain ⟨ev', ts, kvs, rfl, e1, e2, e3, e4⟩ := hR
      have g5 := same_new hD2 (.lst (ts.map V.ref))
      refine ⟨D2, ts, kvs, rfl, upd_same, by omega, fun j t kv hj hkv => g5 _ _ (e3 j t kv hj hkv), fun fd hfd => ?_⟩
      have evf := ((ev3.trans ev').then g5)
      have hall : ∀ kv ∈ foldK kvs, ∃ n, kv.1 = Sum.inr n ∧ (n.length ≤ 6 ∧ nameB n = true) ∧ goodV kv.2 := fun kv hkv => by
        rcases mem_fold kvs [] hkv with h | h
        · obtain ⟨n', z0, e, h0, h'⟩ := e4 _ h
          exact ⟨n', e, kk_len12 _ (List.mem_of_mem_take h0), h'.good⟩
        · cases h
      exact q fd _ _ (evf.free hfd) (evf.then (same_new hfd _)) upd_same (Nat.le_trans (foldK_len kvs) (by rw [e2, List.length_map]; omega)) hall
end

end My

set_option Elab.async false
set_option linter.all false
set_option maxRecDepth 100000
set_option maxHeartbeats 4000000
namespace My
open PySem L2
/-! ### where a word is parted -/
theorem head_split (x : Str) : ∃ r, Txt.split x "=" = (Txt.partition x "=").1 :: r := by
  rw [split_cases eq_list61 (by decide +kernel)]
  by_cases hd : 61 ∈ x.cps.toList
  · rw [if_pos hd]
    have ly : ("=" : Str).length = 1 := by decide +kernel
    unfold Txt.partition
    rw [occ_pos eq_list61]
    cases ep : posL 61 0 x.cps.toList with
    | nil =>
      obtain ⟨a, b, e⟩ := List.append_of_mem hd
      rw [e, posL_app, posL, if_pos rfl] at ep
      simp at ep
    | cons c cs => exact ⟨_, rfl⟩
  · rw [if_neg hd, part_none eq_list61 hd]
    exact ⟨[], rfl⟩
theorem first_pos (d : Nat) : ∀ (w : List Nat) (i c : Nat) (cs : List Nat), posL d i w = c :: cs → i ≤ c ∧ c < i + w.length
  | [], i, c, cs, h => by cases h
  | x :: w, i, c, cs, h => by
    rw [posL] at h
    split at h
    · cases h; rw [List.length_cons]; omega
    · have := first_pos d w (i + 1) c cs h
      rw [List.length_cons]; omega
theorem part_tail {x : Str} (hd : 61 ∈ x.cps.toList) : Txt.slice x (some (((Txt.partition x "=").1.length : Int) + 1)) none = (Txt.partition x "=").2.2 := by
  have ly : ("=" : Str).length = 1 := by decide +kernel
  have lx := len_list x
  unfold Txt.partition
  rw [occ_pos eq_list61]
  cases ep : posL 61 0 x.cps.toList with
  | nil =>
    obtain ⟨a, b, e⟩ := List.append_of_mem hd
    rw [e, posL_app, posL, if_pos rfl] at ep
    simp at ep
  | cons c cs =>
    obtain ⟨h1, h2⟩ := first_pos 61 _ _ _ _ ep
    rw [List.take_succ_cons, ly]
    show Txt.slice x (some (((Builtin.Str.strSub x 0 c).length : Int) + 1)) none = Builtin.Str.strSub x (c + 1) x.length
    have e1 : (Builtin.Str.strSub x 0 c).length = c := by
      rw [← len_list, StrLaws.strSub_toList, List.drop_zero, List.length_take]; omega
    rw [e1]
    have z : Txt.slice x (some ((c : Int) + 1)) none = StrLaws.sliceText x (some ((c : Int) + 1)) none := rfl
    rw [z, StrLaws.sliceText_from ⟨by omega, by omega⟩]
    apply str_ext
    rw [StrLaws.strSub_toList]
    have e2 : ((c : Int) + 1).toNat = c + 1 := by omega
    have e3 : ((x.cps.toList.length : Int) - ((c : Int) + 1)).toNat = x.length - (c + 1) := by omega
    rw [e2, e3]
theorem in_eq (x : Str) : (!(Builtin.Str.occurrences x "=" 0 x.length 1).isEmpty) = decide (61 ∈ x.cps.toList) := by
  have e : ("=" : Str) = ⟨#[61]⟩ := by decide +kernel
  rw [e]; exact PySem.StrLaws.found_one x 61
theorem rd_empty : rdV Str.empty = none := by decide +kernel
theorem no_eq {x : Str} (hd : 61 ∉ x.cps.toList) : rdV (Txt.partition x "=").2.2 = none := by
  rw [part_none eq_list61 hd]; exact rd_empty
section
variable {P : Program} {w : World} {K : PySem.W.Frag} {mg : Str → Option Value} {base : Heap} {a : Adr}
def RowAt (H : Hp) (t d : Addr) (i0 : Int) (s : Str) (i2 : Int) (kvs : List (Key × V)) : Prop := H t = some (.tup [.int i0, .str s, .int i2, .ref d]) ∧ H d = some (.dK kvs)
def spTime : Sp := fun vs H Q _ => ∃ d : Addr, vs = [.ref d] ∧ Drw H d ∧ ∀ (i : Int) H', Ev d H H' → -(10 ^ 29) < i → i < 10 ^ 29 → Q (.int i) H'
theorem ok_time (T : Txt K mg a) : FnOk P w K mg base CX0 4 a.f_time a.d_time ["_law_draw"] spTime := by
  refine T.F_time.ok sc_time (fun vs H Q E h => ?_) (fun cdv A outer s H vs Q E hr h => ?_)
  · obtain ⟨x, rfl, _⟩ := h; rfl
  obtain ⟨d, rfl, hD, q⟩ := h
  refine ⟨_, (pss_cons (ps_set (i := 1) sc_time.nd rfl (by first | exact Or.inl rfl | exact Or.inr rfl) (pe_call (ok_take T) (hr.mono (by decide)) rfl T.m_take T.F_take.kp T.b_take .nil pass0 (pa_cons (pv 0) (pa_cons pe_int pa_nil)))) (pss_cons (ps_if (pt_cmpR op_eq (pv 1) pe_int (nomark _)) (pss_one (ps_ret (pe_call (ok_number T) (hr.mono (by decide)) rfl T.m_number T.F_number.kp T.b_number .nil pass0 (pa_cons (pv 0) pa_nil)))) pss_nil) (pss_one (ps_ret (pe_op op_sub (pe_call (ok_take T) (hr.mono (by decide)) rfl T.m_take T.F_take.kp T.b_take .nil pass0 (pa_cons (pv 0) (pa_cons pe_int pa_nil))) pe_int))))), ?_⟩
  refine ⟨_, rfl, d, _, rfl, hD, by decide, by decide, fun r H1 r0 r1 ev1 => ?_⟩
  refine ⟨_, rfl, rfl, _, rfl, ?_⟩
  refine ite2 (fun k => ?_) (fun k => ?_)
  · exact ⟨_, rfl, d, rfl, ev1.drw, fun i H2 ev2 i0 i1 => q i H2 (ev1.trans ev2) i0 i1⟩
  · refine ⟨_, rfl, d, _, rfl, ev1.drw, by decide, by decide, fun r2 H4 s0 s1 ev4 => ⟨_, _, rfl, rfl, q _ _ (ev1.trans ev4) ?_ ?_⟩⟩ <;> omega
def spW : Sp := fun vs H Q _ => ∃ x : Str, vs = [.str x] ∧ x.length ≤ 600 ∧
  (∀ k : Nat, rowR (Txt.split x " ") = .inl k → ∀ t H', Same H H' → H' t = some (.tup [.int k, .non]) → Q (.ref t) H') ∧
  (∀ i0 s i2 kvs, rowR (Txt.split x " ") = .inr (i0, s, i2, kvs) → ∀ t r d H', Same H H' → H' t = some (.tup [.non, .ref r]) → RowAt H' r d i0 s i2 kvs → Q (.ref t) H')
theorem ok_wrong (T : Txt K mg a) : FnOk P w K mg base CX0 3 a.f_wrong a.d_wrong ["_law_text"] spW := by
  refine T.F_wrong.ok sc_wrong (fun vs H Q E h => ?_) (fun cdv A outer s H vs Q E hr h => ?_)
  · obtain ⟨x, rfl, _⟩ := h; rfl
  obtain ⟨x, rfl, hx, qe, q⟩ := h
  have hu1 := hu_of hr
  refine ⟨_, (pss_cons (ps_set (i := 1) sc_wrong.nd rfl (by first | exact Or.inl rfl | exact Or.inr rfl) (pe_bm PySem.F.plainAttrs_str PySem.F.slot_str_split PySem.F.type_str_split mt_split (pv 0) (pa_cons pe_str pa_nil))) (pss_cons (ps_if (pt_cmpR op_isN (pe_call (ok_number_of T) (hr.mono (by decide)) rfl T.m_number_of T.F_number_of.kp T.b_number_of .nil pass0 (pa_cons (pe_ix ix_list (pv 1) pe_int (fun _ _ => rfl)) pa_nil)) pe_non (nomark _)) (pss_one (ps_ret (pe_tup (pa_cons pe_int (pa_cons pe_non pa_nil))))) pss_nil) (pss_cons (ps_if (PW.pt (pw_or (pt_cmpR op_lt (pe_callB call_len_seq rfl T.n_len PySem.boot_len (pa_cons (pv 1) pa_nil)) pe_int (nomark _)) (pw_or1 (pt_not (pt_val (pe_call (ok_name_ok T) (hr.mono (by decide)) rfl T.m_name_ok T.F_name_ok.kp T.b_name_ok .nil pass0 (pa_cons (pe_ix ix_list (pv 1) pe_int (fun _ _ => rfl)) pa_nil))))))) (pss_one (ps_ret (pe_tup (pa_cons pe_int (pa_cons pe_non pa_nil))))) pss_nil) (pss_cons (ps_set (i := 2) sc_wrong.nd rfl (by first | exact Or.inl rfl | exact Or.inr rfl) (pe_ifExp (pt_cmpR op_gt (pe_callB call_len_seq rfl T.n_len PySem.boot_len (pa_cons (pv 1) pa_nil)) pe_int (nomark _)) (pe_call (ok_number_of T) (hr.mono (by decide)) rfl T.m_number_of T.F_number_of.kp T.b_number_of .nil pass0 (pa_cons (pe_ix ix_list (pv 1) pe_int (fun _ _ => rfl)) pa_nil)) pe_non)) (pss_cons (ps_if (PW.pt (pw_or (pt_cmpR op_isN (pv 2) pe_non (nomark _)) (pw_or1 (pt_cmpR op_lt (pv 2) pe_int (nomark _))))) (pss_one (ps_ret (pe_tup (pa_cons pe_int (pa_cons pe_non pa_nil))))) pss_nil) (pss_cons (ps_set (i := 3) sc_wrong.nd rfl (by first | exact Or.inl rfl | exact Or.inr rfl) pe_dnewK) (pss_cons (ps_set (i := 4) sc_wrong.nd rfl (by first | exact Or.inl rfl | exact Or.inr rfl) pe_str) (pss_cons (ps_for PassesOwn.never rfl (pi_range2 rfl T.n_range (pa_cons pe_int (pa_cons (pe_callB call_len_seq rfl T.n_len PySem.boot_len (pa_cons (pv 1) pa_nil)) pa_nil))) (pg_name (i := 5) sc_wrong.nd rfl (by first | exact Or.inl rfl | exact Or.inr rfl)) (pss_cons (ps_set (i := 6) sc_wrong.nd rfl (by first | exact Or.inl rfl | exact Or.inr rfl) (pe_ix ix_list (pe_bm PySem.F.plainAttrs_str PySem.F.slot_str_split PySem.F.type_str_split mt_split (pe_ix ix_list (pv 1) (pv 5) (fun _ _ => rfl)) (pa_cons pe_str pa_nil)) pe_int (fun _ _ => rfl))) (pss_cons (ps_set (i := 7) sc_wrong.nd rfl (by first | exact Or.inl rfl | exact Or.inr rfl) (pe_call (ok_value_of T) (hr.mono (by decide)) rfl T.m_value_of T.F_value_of.kp T.b_value_of .nil pass0 (pa_cons (pe_slice sl_str (pe_ix ix_list (pv 1) (pv 5) (fun _ _ => rfl)) (po_some (pe_op op_add (pe_callB call_len_str rfl T.n_len PySem.boot_len (pa_cons (pv 6) pa_nil)) pe_int)) po_none) pa_nil))) (pss_cons (ps_set (i := 8) sc_wrong.nd rfl (by first | exact Or.inl rfl | exact Or.inr rfl) (pe_cut (pe_and (pe_cmpR op_in_str pe_str (pe_ix ix_list (pv 1) (pv 5) (fun _ _ => rfl)) (by with_unfolding_all rfl)) (pe_and (pe_call (ok_name_ok T) (hr.mono (by decide)) rfl T.m_name_ok T.F_name_ok.kp T.b_name_ok .nil pass0 (pa_cons (pv 6) pa_nil)) (pe_one (pe_cmpR op_notIn_seq (pv 6) (pe_tup (pa_cons pe_str (pa_cons pe_str (pa_cons pe_str pa_nil)))) (by with_unfolding_all rfl))))))) (pss_cons (ps_if (PW.pt (pw_or (pt_not (pt_val (pv 8))) (pw_or (pt_cmpR op_isN (pv 7) pe_non (nomark _)) (pw_or1 (pt_cmpR op_le_str (pv 6) (pv 4) (nomark _)))))) (pss_one (ps_ret (pe_tup (pa_cons (pv 5) (pa_cons pe_non pa_nil))))) pss_nil) (pss_cons (ps_set (i := 4) sc_wrong.nd rfl (by first | exact Or.inl rfl | exact Or.inr rfl) (pv 6)) (pss_one (ps_dput hu1 (pv 3) (pv 6) (pv 7) rfl)))))))) (pss_one (ps_ret (pe_tup (pa_cons pe_non (pa_cons (pe_tup (pa_cons (pe_call (ok_number_of T) (hr.mono (by decide)) rfl T.m_number_of T.F_number_of.kp T.b_number_of .nil pass0 (pa_cons (pe_ix ix_list (pv 1) pe_int (fun _ _ => rfl)) pa_nil)) (pa_cons (pe_ix ix_list (pv 1) pe_int (fun _ _ => rfl)) (pa_cons (pv 2) (pa_cons (pv 3) pa_nil))))) pa_nil))))))))))))), ?_⟩
  refine ⟨_, rfl, rfl, ?_⟩
  dsimp only [tCons, tC, tNil]
  refine split_ok (by decide +kernel) (by omega) fun l hl => ?_
  have gl := same_new hl (.lst ((Txt.split x " ").map V.str))
  have hlens := split_lens x " "
  have hmany := split_many x " "
  have hne := split_ne x " "
  have bad : ∀ {H2 : Hp} {k : Nat}, Same H H2 → rowR (Txt.split x " ") = .inl k → ∀ t, H2 t = none → Q (.ref t) (upd H2 t (.tup [.int (k : Int), .non])) := fun {H2 k} g2 e t ht =>
    qe k e t _ (g2.trans (same_new ht _)) upd_same
  cases ew : Txt.split x " " with
  | nil => exact absurd ew hne
  | cons w0 r0 =>
    rw [ew] at hlens hmany bad q gl
    rw [List.length_cons] at hmany
    have hl0 := SqL.of (K := K) (upd_same (H := H) (a := l) (o := .lst ((w0 :: r0).map V.str)))
    refine ⟨_, rfl, l, _, _, _, rfl, rfl, hl0, atI_nat (j := 0) rfl, ?_⟩
    have hw0 := hlens w0 List.mem_cons_self
    refine ⟨w0, rfl, by omega, fun H1 g1 => ?_⟩
    have G1 := gl.trans g1
    have hl1 := SqL.of (K := K) (g1 _ _ (upd_same (H := H) (a := l) (o := .lst ((w0 :: r0).map V.str))))
    cases e0 : numV w0 with
    | none =>
      refine ⟨rfl, _, rfl, iteT ?_⟩
      exact ⟨small (n := 2) (by decide), fun t ht => bad (k := 0) G1 (rowR_0 e0) t ht⟩
    | some v0 =>
      obtain ⟨i0, rfl⟩ := num_int e0
      refine ⟨rfl, _, rfl, iteF ?_⟩
      refine ⟨_, rfl, _, _, rfl, .inl hl1, _, _, rfl, rfl, _, rfl, ?_⟩
      cases r0 with
      | nil =>
        refine iteT2 rfl ?_
        exact ⟨small (n := 2) (by decide), fun t ht => bad (k := 1) G1 (rowR_1 e0) t ht⟩
      | cons w1 r1 =>
        have hw1 := hlens w1 (List.mem_cons_of_mem _ List.mem_cons_self)
        refine iteF2 (decide_eq_false (by rw [List.length_map, List.length_cons, List.length_cons]; omega)) ?_
        refine ⟨_, rfl, l, _, _, _, rfl, rfl, hl1, atI_nat (j := 1) rfl, ?_⟩
        refine ⟨w1, rfl, small (by omega), fun H2 g2 => ⟨_, rfl, ?_⟩⟩
        have G2 := G1.trans g2
        have hl2 := SqL.of (K := K) (g2 _ _ (g1 _ _ (upd_same (H := H) (a := l) (o := .lst ((w0 :: w1 :: r1).map V.str)))))
        cases e1 : nameB w1 with
        | false =>
          refine iteT ?_
          exact ⟨small (n := 2) (by decide), fun t ht => bad (k := 1) G2 (rowR_1b e0 e1) t ht⟩
        | true =>
          refine iteF ?_
          refine ⟨_, rfl, _, _, rfl, .inl hl2, _, _, rfl, rfl, _, rfl, ?_⟩
          cases r1 with
          | nil =>
            refine iteF2 rfl ?_
            refine ⟨_, rfl, rfl, _, rfl, iteT ?_⟩
            exact ⟨small (n := 2) (by decide), fun t ht => bad (k := 2) G2 (rowR_2 e0 e1) t ht⟩
          | cons w2 r2 =>
            have hw2 := hlens w2 (List.mem_cons_of_mem _ (List.mem_cons_of_mem _ List.mem_cons_self))
            refine iteT2 (decide_eq_true (by rw [List.length_map, List.length_cons, List.length_cons, List.length_cons]; omega)) ?_
            refine ⟨_, rfl, l, _, _, _, rfl, rfl, hl2, atI_nat (j := 2) rfl, ?_⟩
            refine ⟨w2, rfl, by omega, fun H3 g3 => ?_⟩
            have G3 := G2.trans g3
            have hll := g3 _ _ (g2 _ _ (g1 _ _ (upd_same (H := H) (a := l) (o := .lst ((w0 :: w1 :: w2 :: r2).map V.str)))))
            have hl3 := SqL.of (K := K) hll
            cases e2 : numV w2 with
            | none =>
              refine ⟨_, rfl, rfl, _, rfl, iteT ?_⟩
              exact ⟨small (n := 2) (by decide), fun t ht => bad (k := 2) G3 (rowR_2b e0 e1 e2) t ht⟩
            | some v2 =>
              obtain ⟨i2, rfl⟩ := num_int e2
              refine ⟨_, rfl, rfl, _, rfl, iteF ?_⟩
              refine ⟨_, rfl, _, _, rfl, rfl, _, rfl, ?_⟩
              refine ite2 (fun c => ?_) (fun c => ?_)
              · exact ⟨small (n := 2) (by decide), fun t ht => bad (k := 2) G3 (rowR_2c e0 e1 e2 (of_decide_eq_true c)) t ht⟩
              · have h2 : ¬ i2 < 0 := fun z => c (decide_eq_true z)
                refine fun d hd => ?_
                have gd := same_new hd (.dK [])
                have G4 := G3.trans gd
                have hdl : d ≠ l := Ne.symm (ne_of_none hll hd)
                rw [List.length_cons, List.length_cons] at hmany
                refine ⟨_, rfl, _, _, rfl, .inl (SqL.of (gd _ _ hll)), 3, _, rfl, ⟨by decide, by decide, by rw [List.length_map, List.length_cons, List.length_cons, List.length_cons]; omega, by rw [List.length_map, List.length_cons, List.length_cons, List.length_cons]; omega⟩, ?_⟩
                have en : ((((w0 :: w1 :: w2 :: r2).map V.str).length : Int) - 3).toNat = r2.length := by rw [List.length_map, List.length_cons, List.length_cons, List.length_cons]; omega
                rw [en]
                refine for_range (n := r2.length) (lo := 3) (fun i σ H' => ∃ ah kvs s5 s6 s7 s8, σ = [some (.str x), some (.ref l), some (.int i2), some (.ref d), some (.str ah), s5, s6, s7, s8] ∧ Same H H' ∧ H' d = some (.dK kvs) ∧ H' l = some (.lst ((w0 :: w1 :: w2 :: r2).map V.str)) ∧ kvs.length ≤ i ∧ fldR (i + 3) ah kvs (r2.drop i) = fldR 3 "" [] r2)
                  ⟨"", [], _, _, _, _, rfl, G4, upd_same, gd _ _ hll, Nat.le_refl _, rfl⟩ (fun i σ H' hi hP => ?_) (fun σ H' hP => ?_)
                · obtain ⟨ah, kvs, s5, s6, s7, s8, rfl, g, hdk, hl', hkl, hR⟩ := hP
                  obtain ⟨z, hz⟩ : ∃ z, r2[i]? = some z := ⟨_, List.getElem?_eq_getElem hi⟩
                  have hzl : z.length ≤ 600 := Nat.le_trans (hlens z (List.mem_cons_of_mem _ (List.mem_cons_of_mem _ (List.mem_cons_of_mem _ (List.mem_of_getElem? hz))))) hx
                  have edr : r2.drop i = z :: r2.drop (i + 1) := by
                    have e0 := List.drop_eq_getElem_cons hi
                    rw [(List.getElem?_eq_some_iff.mp hz).2] at e0; exact e0
                  rw [edr] at hR
                  have e3 : (3 : Int) + (i : Int) = ((i + 3 : Nat) : Int) := by omega
                  have hw : ((w0 :: w1 :: w2 :: r2).map V.str)[i + 3]? = some (.str z) := by
                    rw [List.getElem?_map]
                    show Option.map V.str (r2[i]?) = _
                    rw [hz]; rfl
                  obtain ⟨pl1, pl2⟩ := part_lens z "="
                  obtain ⟨rs, hsp⟩ := head_split z
                  rw [e3]
                  refine ⟨_, rfl, _, rfl, l, _, _, _, rfl, rfl, SqL.of hl', atI_nat (j := i + 3) hw, rfl, ?_⟩
                  dsimp only [tCons, tC, tNil]
                  refine split_ok (by decide +kernel) (by omega) fun p hp => ?_
                  rw [hsp]
                  have gp := same_new hp (.lst (((Txt.partition z "=").1 :: rs).map V.str))
                  refine ⟨p, _, _, _, rfl, rfl, SqL.of upd_same, atI_nat (j := 0) rfl, ?_⟩
                  refine ⟨_, rfl, _, rfl, l, _, _, _, rfl, rfl, SqL.of (gp _ _ hl'), atI_nat (j := i + 3) hw, ?_⟩
                  have sl := slice_len z (some (((Txt.partition z "=").1.length : Int) + 1)) none
                  refine ⟨_, rfl, _, rfl, small (by omega), _, _, rfl, rfl, _, rfl, z, rfl, small (by omega), ?_⟩
                  refine ⟨_, rfl, by omega, fun H5 g5 => ?_⟩
                  have g5' := gp.trans g5
                  refine ⟨fun v H6 => v = .bl (decide (61 ∈ z.cps.toList) && fldB (Txt.partition z "=").1) ∧ Same H5 H6, ?_, ?_⟩
                  · refine ⟨_, rfl, _, rfl, l, _, _, _, rfl, rfl, SqL.of (g5' _ _ hl'), atI_nat (j := i + 3) hw, _, _, rfl, rfl, ?_⟩
                    rw [in_eq]
                    refine ⟨_, rfl, ?_⟩
                    refine ite2 (fun c => ?_) (fun c => ?_)
                    · rw [c, Bool.true_and]
                      refine ⟨_, rfl, _, rfl, small (by omega), fun H6 g6 => ⟨_, rfl, ?_⟩⟩
                      unfold fldB
                      refine ite2 (fun c2 => ?_) (fun c2 => ?_)
                      · rw [c2, Bool.true_and]
                        refine ⟨_, rfl, small (n := 3) (by decide), fun tp htp => ⟨tp, _, rfl, .inr (SqT.of upd_same), rfl, (by rfl), rfl, g6.trans (same_new htp _)⟩⟩
                      · rw [Bool.eq_false_iff.mpr c2, Bool.false_and]
                        exact ⟨rfl, g6⟩
                    · rw [Bool.eq_false_iff.mpr c, Bool.false_and]
                      exact ⟨rfl, Same.refl _⟩
                  rintro _ H6 ⟨rfl, g6⟩
                  have G6 := g5'.trans g6
                  have bad6 : fldR 3 "" [] r2 = .inl (i + 3) → ∀ t, H6 t = none → Q (.ref t) (upd H6 t (.tup [.int ((i + 3 : Nat) : Int), .non])) := fun e t ht => bad (g.trans G6) (rowR_3 e0 e1 e2 h2 e) t ht
                  refine ⟨_, rfl, _, rfl, ?_⟩
                  cases eg : (decide (61 ∈ z.cps.toList) && fldB (Txt.partition z "=").1) with
                  | false =>
                    refine iteT ⟨_, rfl, small (n := 2) (by decide), bad6 ?_⟩
                    rw [← hR]
                    rcases Bool.and_eq_false_iff.mp eg with e | e
                    · exact fldR_none (no_eq (of_decide_eq_false e))
                    · cases ev : rdV (Txt.partition z "=").2.2 with
                      | none => exact fldR_none ev
                      | some v => exact fldR_bad ev fun y => by rw [e] at y; cases y.1
                  | true =>
                    obtain ⟨c1, c2⟩ := Bool.and_eq_true_iff.mp eg
                    have hd61 := of_decide_eq_true c1
                    refine iteF ?_
                    rw [part_tail hd61]
                    cases ev : rdV (Txt.partition z "=").2.2 with
                    | none =>
                      refine ⟨_, rfl, rfl, _, rfl, iteT ⟨_, rfl, small (n := 2) (by decide), bad6 ?_⟩⟩
                      rw [← hR, fldR_none ev]
                    | some v =>
                      have hnv := (rd_ne ev).1
                      refine ⟨_, rfl, rfl, _, rfl, ?_⟩
                      refine iteF2 (decide_eq_false hnv) ?_
                      refine ⟨_, rfl, _, rfl, _, _, rfl, rfl, _, rfl, ?_⟩
                      refine ite2 (fun c => ?_) (fun c => ?_)
                      · refine ⟨_, rfl, small (n := 2) (by decide), bad6 ?_⟩
                        rw [← hR, fldR_bad ev (fun y => by have y2 : leS _ _ = false := y.2; unfold leS at y2; rw [c] at y2; cases y2)]
                      · have hl2 : leS (Txt.partition z "=").1 ah = false := Bool.eq_false_iff.mpr c
                        refine ⟨_, rfl, _, rfl, _, rfl, _, rfl, d, _, rfl, DPut.k (k := Sum.inr (Txt.partition z "=").1) (G6 _ _ hdk) (small1000 (by omega)), ?_⟩
                        refine ⟨_, _, _, _, _, _, rfl, fun b u hb => ?_, upd_same, ?_, ?_, ?_⟩
                        · have hbd : b ≠ d := fun y => by
                            have := G3 _ _ hb
                            rw [y, hd] at this; cases this
                          rw [upd_ne hbd]
                          exact G6 _ _ (g _ _ hb)
                        · rw [upd_ne (Ne.symm hdl)]; exact G6 _ _ hl'
                        · exact Nat.le_trans (length_putK _ _ _) (by omega)
                        · rw [← hR, fldR_go ev c2 hl2]
                          congr 1
                · obtain ⟨ah, kvs, s5, s6, s7, s8, rfl, g, hdk, hl', hkl, hR⟩ := hP
                  rw [List.drop_length, fldR] at hR
                  refine ⟨_, rfl, l, _, _, _, rfl, rfl, SqL.of hl', atI_nat (j := 0) rfl, w0, rfl, by omega, fun H5 g5 => ?_⟩
                  rw [e0]
                  refine ⟨_, rfl, l, _, _, _, rfl, rfl, SqL.of (g5 _ _ hl'), atI_nat (j := 1) rfl, _, rfl, _, rfl, small (n := 4) (by decide), fun r hr5 => ⟨small (n := 2) (by decide), fun t ht => ?_⟩⟩
                  have gr := same_new hr5 (.tup [.int i0, .str w1, .int i2, .ref d])
                  have gt := same_new ht (.tup [.non, .ref r])
                  exact q i0 w1 i2 kvs (rowR_4 e0 e1 e2 h2 hR.symm) t r d _ (g.trans (g5.trans (gr.trans gt))) upd_same ⟨gt _ _ upd_same, gt _ _ (gr _ _ (g5 _ _ hdk))⟩
end

end My

set_option Elab.async false
set_option linter.all false
set_option maxRecDepth 100000
set_option maxHeartbeats 4000000
namespace My
open PySem L2
/-! ### how long a text of words is -/
def tot (ws : List Str) : Nat := (ws.map (·.length)).sum + ws.length
theorem tot_cons (w : Str) (ws : List Str) : tot (w :: ws) = w.length + 1 + tot ws := by unfold tot; rw [List.map_cons, List.sum_cons, List.length_cons]; omega
theorem tot_append (ws vs : List Str) : tot (ws ++ vs) = tot ws + tot vs := by unfold tot; rw [List.map_append, List.sum_append, List.length_append]; omega
theorem tot_sub : ∀ {ms ws : List Str}, ms.Sublist ws → tot ms ≤ tot ws := by
  intro ms ws h
  induction h with
  | slnil => exact Nat.le_refl _
  | cons w _ ih => rw [tot_cons]; omega
  | cons_cons w _ ih => rw [tot_cons, tot_cons]; omega
theorem tot_set : ∀ (ws : List Str) (j : Nat) (v : Str), tot (ws.set j v) ≤ tot ws + v.length
  | [], j, v => by simp [tot]
  | w :: ws, 0, v => by rw [List.set_cons_zero, tot_cons, tot_cons]; omega
  | w :: ws, j + 1, v => by
    have := tot_set ws j v
    rw [List.set_cons_succ, tot_cons, tot_cons]; omega
theorem cut_strs (ws : List Str) (lo hi : Option Int) : ∃ ms : List Str, cutV (ws.map V.str) lo hi = ms.map V.str ∧ tot ms ≤ tot ws ∧ ms.Sublist ws := by
  unfold cutV
  have hs := fun k : Nat => (List.take_sublist (HT.sIx (ws.map V.str).length (ws.map V.str).length hi - k) (ws.drop k)).trans (List.drop_sublist k ws)
  exact ⟨_, by rw [← List.map_drop, ← List.map_take], tot_sub (hs _), hs _⟩
theorem join_len1 {y : Str} {d : Nat} (hy : y.cps.toList = [d]) (w : Str) (ws : List Str) : (Txt.join y (w :: ws)).length = w.length + (ws.map (·.length)).sum + ws.length := by
  rw [← len_list, join_list hy]
  unfold joinL
  rw [List.length_append, len_list]
  have : ∀ ws : List Str, ((ws.map fun r => r.cps.toList).flatMap fun r => d :: r).length = (ws.map (·.length)).sum + ws.length := by
    intro ws
    induction ws with
    | nil => rfl
    | cons r ws ih =>
      rw [List.map_cons, List.flatMap_cons, List.length_append, ih, List.map_cons, List.sum_cons, List.length_cons, List.length_cons, len_list]
      omega
  rw [this]; omega
theorem sp_list : (" " : Str).cps.toList = [32] := by decide +kernel
theorem join_tot (ws : List Str) : (Txt.join " " ws).length ≤ tot ws := by
  cases ws with
  | nil => have : (Txt.join " " []).length = 0 := by decide +kernel
           omega
  | cons w ws => rw [join_len1 sp_list, tot_cons]; unfold tot; omega
theorem posL_next (d : Nat) : ∀ (w : List Nat) (i c : Nat) (cs : List Nat), posL d i w = c :: cs → ∃ p b, w = p ++ d :: b ∧ c = i + p.length ∧ cs = posL d (c + 1) b ∧ d ∉ p
  | [], i, c, cs, h => by cases h
  | x :: w, i, c, cs, h => by
    rw [posL] at h
    split at h
    · rename_i e
      cases h
      exact ⟨[], w, by rw [e]; rfl, rfl, rfl, by simp⟩
    · rename_i hne
      obtain ⟨p, b, e1, e2, e3, e4⟩ := posL_next d w (i + 1) c cs h
      exact ⟨x :: p, b, by rw [e1]; rfl, by rw [List.length_cons]; omega, e3, by
        rw [List.mem_cons]
        rintro (z | z)
        · exact hne z.symm
        · exact e4 z⟩
theorem prt_sum (d : Nat) (X : List Nat) : ∀ (n off : Nat), (X.drop off).length ≤ n → off ≤ X.length → ((prt X off (posL d off (X.drop off))).map List.length).sum + (prt X off (posL d off (X.drop off))).length = (X.drop off).length + 1 := by
  intro n
  induction n with
  | zero =>
    intro off h ho
    have e : X.drop off = [] := List.length_eq_zero_iff.mp (by omega)
    rw [e]
    show ((prt X off []).map List.length).sum + _ = _
    rw [prt_nil, e]; rfl
  | succ n ih =>
    intro off h ho
    cases ep : posL d off (X.drop off) with
    | nil => rw [prt_nil]; simp
    | cons c cs =>
      obtain ⟨p, b, e1, e2, e3, _⟩ := posL_next d _ _ _ _ ep
      have hl : (X.drop off).length = p.length + 1 + b.length := by rw [e1, List.length_append, List.length_cons]; omega
      have hb : X.drop (c + 1) = b := by
        have : X.drop (c + 1) = (X.drop off).drop (p.length + 1) := by rw [List.drop_drop]; congr 1; omega
        rw [this, e1, List.drop_append, List.drop_eq_nil_of_le (Nat.le_succ _)]
        have e0 : p.length + 1 - p.length = 1 := by omega
        rw [e0]; rfl
      have hc : c + 1 ≤ X.length := by rw [List.length_drop] at hl; omega
      have z := ih (c + 1) (by rw [hb]; omega) hc
      rw [prt_cons, e3, ← hb, List.map_cons, List.sum_cons, List.length_cons]
      have e4 : ((X.drop off).take (c - off)).length = p.length := by rw [List.length_take]; omega
      rw [e4, hl]
      rw [hb] at z ⊢
      omega
theorem split_tot (x : Str) : tot (Txt.split x " ") ≤ x.length + 1 := by
  rw [split_cases sp_list (by decide +kernel)]
  by_cases hd : 32 ∈ x.cps.toList
  · rw [if_pos hd]
    have z := prt_sum 32 x.cps.toList _ 0 (Nat.le_refl _) (Nat.zero_le _)
    rw [List.drop_zero, ← parts_list, len_list] at z
    unfold tot
    rw [List.map_map, List.length_map] at z
    have e : (Builtin.Str.partsBetween x (posL 32 0 x.cps.toList) 1).map (·.length) = (Builtin.Str.partsBetween x (posL 32 0 x.cps.toList) 1).map (List.length ∘ fun r => r.cps.toList) := by
      apply List.map_congr_left
      intro r _
      exact (len_list r).symm
    rw [e]; omega
  · rw [if_neg hd, tot_cons]; simp [tot]
theorem posL_nil (d : Nat) : ∀ (w : List Nat) (i : Nat), posL d i w = [] → d ∉ w
  | [], _, _ => by simp
  | c :: w, i, h => by
    rw [posL] at h
    split at h
    · cases h
    · rename_i hne
      rw [List.mem_cons]
      rintro (z | z)
      · exact hne z.symm
      · exact posL_nil d w (i + 1) h z
theorem prt_no (d : Nat) (X : List Nat) : ∀ (n off : Nat), (X.drop off).length ≤ n → ∀ r ∈ prt X off (posL d off (X.drop off)), d ∉ r := by
  intro n
  induction n with
  | zero =>
    intro off h r hr
    have e : X.drop off = [] := List.length_eq_zero_iff.mp (by omega)
    rw [e] at hr
    have hr' : r ∈ prt X off [] := hr
    rw [prt_nil, e] at hr'
    rw [List.mem_singleton.mp hr']; simp
  | succ n ih =>
    intro off h r hr
    cases ep : posL d off (X.drop off) with
    | nil =>
      rw [ep, prt_nil] at hr
      rw [List.mem_singleton.mp hr]
      exact posL_nil d _ _ ep
    | cons c cs =>
      obtain ⟨p, b, e1, e2, e3, e4⟩ := posL_next d _ _ _ _ ep
      have hl : (X.drop off).length = p.length + 1 + b.length := by rw [e1, List.length_append, List.length_cons]; omega
      have hb : X.drop (c + 1) = b := by
        have : X.drop (c + 1) = (X.drop off).drop (p.length + 1) := by rw [List.drop_drop]; congr 1; omega
        rw [this, e1, List.drop_append, List.drop_eq_nil_of_le (Nat.le_succ _)]
        have e0 : p.length + 1 - p.length = 1 := by omega
        rw [e0]; rfl
      rw [ep, prt_cons] at hr
      rcases List.mem_cons.mp hr with rfl | hr
      · have e0 : c - off = p.length := by omega
        rw [e0, e1, List.take_left' rfl]
        exact e4
      · rw [e3, ← hb] at hr
        exact ih (c + 1) (by rw [hb]; omega) r hr
theorem split_no {x r : Str} (h : r ∈ Txt.split x " ") : 32 ∉ r.cps.toList := by
  rw [split_cases sp_list (by decide +kernel)] at h
  by_cases hd : 32 ∈ x.cps.toList
  · rw [if_pos hd] at h
    have : r.cps.toList ∈ prt x.cps.toList 0 (posL 32 0 x.cps.toList) := by
      rw [← parts_list]; exact List.mem_map.mpr ⟨r, h, rfl⟩
    have z := prt_no 32 x.cps.toList _ 0 (Nat.le_refl _)
    rw [List.drop_zero] at z
    exact z _ this
  · rw [if_neg hd] at h
    rw [List.mem_singleton.mp h]; exact hd
/-- how many blanks -/
def bls (x : Str) : Nat := x.cps.toList.count 32
theorem posL_count (d : Nat) : ∀ (w : List Nat) (i : Nat), (posL d i w).length = w.count d
  | [], _ => rfl
  | c :: w, i => by
    rw [posL, List.count_cons]
    split
    · rename_i e
      rw [List.length_cons, posL_count d w (i + 1), if_pos (by rw [e]; exact beq_self_eq_true _)]
    · rename_i e
      rw [posL_count d w (i + 1), if_neg (by intro z; exact e (eq_of_beq z))]; rfl
theorem split_bls (x : Str) : (Txt.split x " ").length = bls x + 1 := by
  rw [split_cases sp_list (by decide +kernel)]
  by_cases hd : 32 ∈ x.cps.toList
  · rw [if_pos hd, parts_len, posL_count]; rfl
  · rw [if_neg hd]
    unfold bls
    rw [List.count_eq_zero.mpr hd]; rfl
theorem bls_app (x y : Str) : bls (x ++ y) = bls x + bls y := by unfold bls; rw [app_list, List.count_append]
theorem bls_join {L : List Str} (h : ∀ r ∈ L, 32 ∉ r.cps.toList) : bls (Txt.join " " L) ≤ L.length := by
  cases L with
  | nil => have : bls (Txt.join " " []) = 0 := by decide +kernel
           omega
  | cons w ws =>
    unfold bls
    rw [join_list sp_list]
    unfold joinL
    rw [List.count_append, List.count_eq_zero.mpr (h w List.mem_cons_self), Nat.zero_add]
    have : ∀ ws : List Str, (∀ r ∈ ws, 32 ∉ r.cps.toList) → ((ws.map fun r => r.cps.toList).flatMap fun r => 32 :: r).count 32 ≤ ws.length := by
      intro ws
      induction ws with
      | nil => intro _; exact Nat.le_refl _
      | cons r ws ih =>
        intro h
        have := ih fun q hq => h q (List.mem_cons_of_mem _ hq)
        rw [List.map_cons, List.flatMap_cons, List.count_append, List.length_cons, List.count_cons, List.count_eq_zero.mpr (h r List.mem_cons_self)]
        simp
        omega
    have := this ws fun r hr => h r (List.mem_cons_of_mem _ hr)
    rw [List.length_cons]; omega
theorem bls_to {x : Str} {j : Int} (h0 : 0 ≤ j) (h1 : j ≤ x.length) : bls (Txt.slice x none (some j)) ≤ bls x := by
  have z : Txt.slice x none (some j) = StrLaws.sliceText x none (some j) := rfl
  have lx := len_list x
  unfold bls
  rw [z, StrLaws.sliceText_to ⟨h0, by omega⟩]
  exact ((List.take_sublist _ _).trans (List.drop_sublist _ _)).count_le 32
theorem bls_from {x : Str} {j : Int} (h0 : 0 ≤ j) : bls (Txt.slice x (some j) none) ≤ bls x := by
  have lx := len_list x
  by_cases h1 : j ≤ x.length
  · have z : Txt.slice x (some j) none = StrLaws.sliceText x (some j) none := rfl
    unfold bls
    rw [z, StrLaws.sliceText_from ⟨h0, by omega⟩]
    exact ((List.take_sublist _ _).trans (List.drop_sublist _ _)).count_le 32
  · rw [PyProof.Rows.slice_beyond (by omega)]
    have : bls Str.empty = 0 := by decide +kernel
    omega
theorem bls_len (x : Str) : bls x ≤ x.length := by unfold bls; rw [← len_list]; exact List.count_le_length

end My

set_option Elab.async false
set_option linter.all false
set_option maxRecDepth 100000
set_option maxHeartbeats 4000000
namespace My
open PySem L2
theorem Ev.bind {d : Addr} {H H' : Hp} (e : Ev d H H') {b : Addr} {u : HO} (h : H b = some u) (hb : b ≠ d) : H' b = some u := e.same _ _ hb h
section
variable {P : Program} {w : World} {K : PySem.W.Frag} {mg : Str → Option Value} {base : Heap} {a : Adr}
theorem join_ok {H : Hp} {Q : VK} {l : Addr} {ws : List Str} (hl : H l = some (.lst (ws.map V.str))) (ht : tot ws ≤ 1000000) (q : Q (.str (Txt.join " " ws)) H) : rJoin K (.str " ") [.ref l] H Q := by
  refine ⟨" ", l, ws, rfl, rfl, SqL.of hl, ?_, q⟩
  have : (" " : Str).length = 1 := by decide +kernel
  rw [this]
  unfold tot at ht
  omega
def spBent : Sp := fun vs H Q _ => ∃ (d : Addr) (x : Str), vs = [.ref d, .str x] ∧ Drw H d ∧ x.length ≤ 290 ∧ (∀ r ∈ Txt.split x " ", r.length ≤ 60) ∧ (Txt.split x " ").length ≤ 9 ∧ ∀ y H', Ev d H H' → y.length ≤ 600 → bls y ≤ 20 → Q (.str y) H'
theorem signs11 : ∀ x ∈ (["", "0", "-", "'", "a", "A", " ", "=", "_", "9", "by"] : List Str), x.length ≤ 2 := by decide +kernel
theorem ok_bent (T : Txt K mg a) : FnOk P w K mg base CX0 3 a.f_bent a.d_bent ["_law_draw", "_law_text"] spBent := by
  refine T.F_bent.ok sc_bent (fun vs H Q E h => ?_) (fun cdv A outer s H vs Q E hr h => ?_)
  · obtain ⟨_, _, rfl, _⟩ := h; rfl
  obtain ⟨d, x, rfl, hD, hx, hw, h9, q⟩ := h
  refine boxE ⟨_, (by exact (bss_cons (bs_set (i := 2) sc_bent.nd rfl (by first | exact Or.inl rfl | exact Or.inr rfl) ⟨(pe_bm PySem.F.plainAttrs_str PySem.F.slot_str_split PySem.F.type_str_split mt_split (pv 1) (pa_cons pe_str pa_nil star_con))⟩ rfl (by first | exact .inl rfl | exact .inr rfl)) (bss_cons (bs_set (i := 3) sc_bent.nd rfl (by first | exact Or.inl rfl | exact Or.inr rfl) ⟨(pe_call (ok_take T) (hr.mono (by decide)) rfl T.m_take T.F_take.kp T.b_take .nil pass0 (pa_cons (pv 0) (pa_cons pe_int pa_nil star_con) star_nam))⟩ rfl (by first | exact .inl rfl | exact .inr rfl)) (bss_cons (bs_set (i := 4) sc_bent.nd rfl (by first | exact Or.inl rfl | exact Or.inr rfl) ⟨(pe_call (ok_take T) (hr.mono (by decide)) rfl T.m_take T.F_take.kp T.b_take .nil pass0 (pa_cons (pv 0) (pa_cons (pe_callB call_len_seq rfl T.n_len PySem.boot_len (pa_cons (pv 2) pa_nil star_nam)) pa_nil star_cal) star_nam))⟩ rfl (by first | exact .inl rfl | exact .inr rfl)) (bss_cons (bs_if ⟨(pt_cmpR op_eq (pv 3) pe_int (nomark _))⟩ (bss_one (bs_ret ⟨(pe_bm PySem.F.plainAttrs_str PySem.F.slot_str_join PySem.F.type_str_join mt_join pe_str (pa_cons (pe_op op_cat (pe_slice sl_list (pv 2) po_none (po_some (pv 4))) (pe_slice sl_list (pv 2) (po_some (pe_op op_add (pv 4) pe_int)) po_none)) pa_nil star_bin))⟩)) bss_nil) (bss_cons (bs_if ⟨(pt_cmpR op_eq (pv 3) pe_int (nomark _))⟩ (bss_one (bs_ret ⟨(pe_bm PySem.F.plainAttrs_str PySem.F.slot_str_join PySem.F.type_str_join mt_join pe_str (pa_cons (pe_op op_cat (pe_slice sl_list (pv 2) po_none (po_some (pe_op op_add (pv 4) pe_int))) (pe_slice sl_list (pv 2) (po_some (pv 4)) po_none)) pa_nil star_bin))⟩)) bss_nil) (bss_cons (bs_if ⟨(pt_cmpR op_eq (pv 3) pe_int (nomark _))⟩ (bss_cons (bs_set (i := 5) sc_bent.nd rfl (by first | exact Or.inl rfl | exact Or.inr rfl) ⟨(pe_call (ok_take T) (hr.mono (by decide)) rfl T.m_take T.F_take.kp T.b_take .nil pass0 (pa_cons (pv 0) (pa_cons (pe_callB call_len_seq rfl T.n_len PySem.boot_len (pa_cons (pv 2) pa_nil star_nam)) pa_nil star_cal) star_nam))⟩ rfl (by first | exact .inl rfl | exact .inr rfl)) (bss_cons (bs_set (i := 6) sc_bent.nd rfl (by first | exact Or.inl rfl | exact Or.inr rfl) ⟨(pe_callTy call_list_of rfl T.n_list (by decide +kernel) (pa_cons (pv 2) pa_nil star_nam))⟩ rfl (by first | exact .inl rfl | exact .inr rfl)) (bss_cons ⟨(ps_asg (pe_ix ix_list (pv 2) (pv 5) (fun _ _ => rfl)) (pg_sub (pv 6) (pv 4) set_list))⟩ (bss_cons ⟨(ps_asg (pe_ix ix_list (pv 2) (pv 4) (fun _ _ => rfl)) (pg_sub (pv 6) (pv 5) set_list))⟩ (bss_one (bs_ret ⟨(pe_bm PySem.F.plainAttrs_str PySem.F.slot_str_join PySem.F.type_str_join mt_join pe_str (pa_cons (pv 6) pa_nil star_nam))⟩)))))) bss_nil) (bss_cons (bs_set (i := 7) sc_bent.nd rfl (by first | exact Or.inl rfl | exact Or.inr rfl) ⟨(pe_call (ok_take T) (hr.mono (by decide)) rfl T.m_take T.F_take.kp T.b_take .nil pass0 (pa_cons (pv 0) (pa_cons (pe_op op_add (pe_callB call_len_str rfl T.n_len PySem.boot_len (pa_cons (pv 1) pa_nil star_nam)) pe_int) pa_nil star_bin) star_nam))⟩ rfl (by first | exact .inl rfl | exact .inr rfl)) (bss_cons (bs_set (i := 8) sc_bent.nd rfl (by first | exact Or.inl rfl | exact Or.inr rfl) ⟨(pe_call (ok_of T) (hr.mono (by decide)) rfl T.m_of T.F_of.kp T.b_of .nil pass0 (pa_cons (pv 0) (pa_cons (pe_lst (pa_cons pe_str (pa_cons pe_str (pa_cons pe_str (pa_cons pe_str (pa_cons pe_str (pa_cons pe_str (pa_cons pe_str (pa_cons pe_str (pa_cons pe_str (pa_cons pe_str (pa_cons pe_str pa_nil star_con) star_con) star_con) star_con) star_con) star_con) star_con) star_con) star_con) star_con) star_con)) pa_nil star_lst) star_nam))⟩ rfl (by first | exact .inl rfl | exact .inr rfl)) (bss_one (bs_ret (be_op op_add_str (be_op op_add_str ⟨(pe_slice sl_str (pv 1) po_none (po_some (pv 7)))⟩ ⟨(pv 8)⟩) ⟨(pe_slice sl_str (pv 1) (po_some (pe_op op_add (pv 7) (pe_call (ok_take T) (hr.mono (by decide)) rfl T.m_take T.F_take.kp T.b_take .nil pass0 (pa_cons (pv 0) (pa_cons pe_int pa_nil star_con) star_nam)))) po_none)⟩)))))))))))), ?_⟩
  refine ⟨_, rfl, rfl, ?_⟩
  dsimp only [tCons, tC, tNil]
  refine split_ok (by decide +kernel) (by omega) fun l hl => ?_
  have hld := hD.ne_of_none hl
  have ev0 := Ev.of hD (same_new hl (.lst ((Txt.split x " ").map V.str)))
  have hmany := split_many x " "
  have hne := split_ne x " "
  have htot := split_tot x
  have hbx := split_bls x
  have hno : ∀ r ∈ Txt.split x " ", 32 ∉ r.cps.toList := fun r hr => split_no hr
  have hpos : 1 ≤ (Txt.split x " ").length := List.length_pos_iff.mpr hne
  have hl0 : (upd H l (.lst ((Txt.split x " ").map V.str))) l = some (.lst ((Txt.split x " ").map V.str)) := upd_same
  generalize Txt.split x " " = ws at hw h9 hbx hno hmany hne htot hpos hl0 ev0 ⊢
  refine ⟨_, rfl, d, _, rfl, ev0.drw, by decide, by decide, fun f H1 f0 f1 ev1 => ?_⟩
  have hl1 := ev1.bind hl0 hld
  refine ⟨_, rfl, _, rfl, _, _, rfl, .inl (SqL.of hl1), d, _, rfl, ev1.drw, by rw [List.length_map]; omega, Int.lt_of_le_of_lt (b := 1000) (by rw [List.length_map]; omega) (by decide), fun at' H2 a0 a1 ev2 => ?_⟩
  have hl2 := ev2.bind hl1 hld
  have ev := (ev0.trans ev1).trans ev2
  rw [List.length_map] at a1
  refine ⟨_, rfl, rfl, _, rfl, ?_⟩
  refine ite2 (fun c => ?_) (fun c => ?_)
  · obtain ⟨m1, em1, t1, sb1⟩ := cut_strs ws none (some at')
    obtain ⟨m2, em2, t2, sb2⟩ := cut_strs ws (some (at' + 1)) none
    refine ⟨rfl, _, rfl, _, rfl, _, rfl, l, _, rfl, SqL.of hl2, fun p1 hp1 => ?_⟩
    rw [em1]
    have g1 := same_new hp1 (.lst (m1.map V.str))
    refine ⟨_, rfl, _, rfl, _, _, rfl, rfl, _, rfl, l, _, rfl, SqL.of (g1 _ _ hl2), fun p2 hp2 => ?_⟩
    rw [em2]
    have g2 := same_new hp2 (.lst (m2.map V.str))
    refine ⟨p1, p2, _, _, rfl, rfl, g2 _ _ upd_same, upd_same, ?_, fun p3 hp3 => ?_⟩
    · unfold tot at t1 t2 htot
      rw [List.length_map, List.length_map]; exact small (by omega)
    have e12 : m1.map V.str ++ m2.map V.str = (m1 ++ m2).map V.str := by rw [List.map_append]
    rw [e12]
    have g3 := same_new hp3 (.lst ((m1 ++ m2).map V.str))
    have tt := tot_append m1 m2
    have bj := bls_join (L := m1 ++ m2) fun r hr => (List.mem_append.mp hr).elim (fun z => hno r (sb1.mem z)) fun z => hno r (sb2.mem z)
    have lm1 := sb1.length_le
    have lm2 := sb2.length_le
    rw [List.length_append] at bj
    refine join_ok upd_same (by omega) (q _ _ (ev.then (g1.trans (g2.trans g3))) ?_ (by omega))
    have := join_tot (m1 ++ m2)
    omega
  refine ⟨_, rfl, rfl, _, rfl, ?_⟩
  refine ite2 (fun c => ?_) (fun c => ?_)
  · obtain ⟨m1, em1, t1, sb1⟩ := cut_strs ws none (some (at' + 1))
    obtain ⟨m2, em2, t2, sb2⟩ := cut_strs ws (some at') none
    refine ⟨rfl, _, rfl, _, rfl, _, _, rfl, rfl, _, rfl, l, _, rfl, SqL.of hl2, fun p1 hp1 => ?_⟩
    rw [em1]
    have g1 := same_new hp1 (.lst (m1.map V.str))
    refine ⟨_, rfl, _, rfl, _, rfl, l, _, rfl, SqL.of (g1 _ _ hl2), fun p2 hp2 => ?_⟩
    rw [em2]
    have g2 := same_new hp2 (.lst (m2.map V.str))
    refine ⟨p1, p2, _, _, rfl, rfl, g2 _ _ upd_same, upd_same, ?_, fun p3 hp3 => ?_⟩
    · unfold tot at t1 t2 htot
      rw [List.length_map, List.length_map]; exact small (by omega)
    have e12 : m1.map V.str ++ m2.map V.str = (m1 ++ m2).map V.str := by rw [List.map_append]
    rw [e12]
    have g3 := same_new hp3 (.lst ((m1 ++ m2).map V.str))
    have tt := tot_append m1 m2
    have bj := bls_join (L := m1 ++ m2) fun r hr => (List.mem_append.mp hr).elim (fun z => hno r (sb1.mem z)) fun z => hno r (sb2.mem z)
    have lm1 := sb1.length_le
    have lm2 := sb2.length_le
    rw [List.length_append] at bj
    refine join_ok upd_same (by omega) (q _ _ (ev.then (g1.trans (g2.trans g3))) ?_ (by omega))
    have := join_tot (m1 ++ m2)
    omega
  refine ⟨_, rfl, rfl, _, rfl, ?_⟩
  refine ite2 (fun c => ?_) (fun c => ?_)
  · refine ⟨_, rfl, _, rfl, _, _, rfl, .inl (SqL.of hl2), d, _, rfl, ev2.drw, by rw [List.length_map]; omega, Int.lt_of_le_of_lt (b := 1000) (by rw [List.length_map]; omega) (by decide), fun ot H3 o0 o1 ev3 => ?_⟩
    rw [List.length_map] at o1
    have hl3 := ev3.bind hl2 hld
    have ev := ev.trans ev3
    obtain ⟨i, rfl⟩ : ∃ i : Nat, at' = i := ⟨at'.toNat, by omega⟩
    obtain ⟨j, rfl⟩ : ∃ j : Nat, ot = j := ⟨ot.toNat, by omega⟩
    obtain ⟨wi, hwi⟩ : ∃ v, ws[i]? = some v := ⟨_, List.getElem?_eq_getElem (by omega)⟩
    obtain ⟨wj, hwj⟩ : ∃ v, ws[j]? = some v := ⟨_, List.getElem?_eq_getElem (by omega)⟩
    have li := hw wi (List.mem_of_getElem? hwi)
    have lj := hw wj (List.mem_of_getElem? hwj)
    have ixn : ∀ (n k : Nat), k < n → ixN n (k : Int) = some k := fun n k h => by
      unfold ixN
      rw [if_pos (by omega), if_pos (by omega)]
      rfl
    refine ⟨_, rfl, l, _, rfl, .inl (SqL.of hl3), fun tl htl => ?_⟩
    have g1 := same_new htl (.lst (ws.map V.str))
    have hlt : l ≠ tl := ne_of_none hl3 htl
    refine ⟨_, rfl, _, rfl, l, _, _, _, rfl, rfl, SqL.of (g1 _ _ hl3), atI_nat (j := j) (by rw [List.getElem?_map, hwj]; rfl), _, rfl, _, rfl, tl, _, _, i, rfl, rfl, upd_same, ixn _ _ (by rw [List.length_map]; omega), ?_⟩
    refine ⟨_, rfl, _, rfl, l, _, _, _, rfl, rfl, SqL.of (by rw [upd_ne hlt]; exact g1 _ _ hl3), atI_nat (j := i) (by rw [List.getElem?_map, hwi]; rfl), _, rfl, _, rfl, tl, _, _, j, rfl, rfl, upd_same, ixn _ _ (by rw [List.length_set, List.length_map]; omega), ?_⟩
    have e2 : ((ws.map V.str).set i (.str wj)).set j (.str wi) = ((ws.set i wj).set j wi).map V.str := by rw [List.map_set, List.map_set]
    rw [e2]
    have t1 := tot_set ws i wj
    have t2 := tot_set (ws.set i wj) j wi
    refine ⟨rfl, _, rfl, join_ok upd_same (by omega) (q _ _ ⟨fun b u hb h => ?_, ?_⟩ ?_ ?_)⟩
    · have hb3 := ev.same b u hb h
      have hbt : b ≠ tl := ne_of_none hb3 htl
      rw [upd_ne hbt, upd_ne hbt, upd_ne hbt]; exact hb3
    · have htd := ev.drw.ne_of_none htl
      obtain ⟨l', ns, p, c, s0, h1, h2, r⟩ := ev.drw
      have n1 : d ≠ tl := ne_of_none h1 htl
      have n2 : l' ≠ tl := ne_of_none h2 htl
      exact ⟨l', ns, p, c, s0, by rw [upd_ne n1, upd_ne n1, upd_ne n1]; exact h1, by rw [upd_ne n2, upd_ne n2, upd_ne n2]; exact h2, r⟩
    · have := join_tot ((ws.set i wj).set j wi)
      omega
    · have bj := bls_join (L := (ws.set i wj).set j wi) fun r hr => by
        rcases List.mem_or_eq_of_mem_set hr with hr | rfl
        · rcases List.mem_or_eq_of_mem_set hr with hr | rfl
          · exact hno r hr
          · exact hno _ (List.mem_of_getElem? hwj)
        · exact hno _ (List.mem_of_getElem? hwi)
      rw [List.length_set, List.length_set] at bj
      omega
  refine ⟨_, rfl, _, rfl, x, rfl, small (by omega), _, _, rfl, rfl, d, _, rfl, ev2.drw, by omega, Int.lt_of_le_of_lt (b := 1000) (by omega) (by decide), fun pl H3 p0 p1 ev3 => ?_⟩
  have ev := ev.trans ev3
  refine ⟨_, rfl, small (n := 11) (by decide), fun p4 hp4 => ?_⟩
  have ev4 := ev.then (same_new hp4 (.lst [.str "", .str "0", .str "-", .str "'", .str "a", .str "A", .str " ", .str "=", .str "_", .str "9", .str "by"]))
  refine ⟨d, _, rfl, ev4.drw, .inr ⟨p4, _, rfl, ev.drw.ne_of_none hp4, upd_same, by decide, by decide, fun y0 H5 ev5 hy0 => ?_⟩⟩
  have ev := ev4.trans ev5
  obtain ⟨y, rfl, hy⟩ : ∃ y : Str, y0 = .str y ∧ y.length ≤ 2 := by
    have h' : y0 ∈ (["", "0", "-", "'", "a", "A", " ", "=", "_", "9", "by"] : List Str).map V.str := hy0
    obtain ⟨y, hy, e⟩ := List.mem_map.mp h'
    exact ⟨y, e.symm, signs11 y hy⟩
  have c1 := slice_len x none (some pl)
  have c3 := cat_len (Txt.slice x none (some pl)) y
  refine ⟨_, rfl, _, rfl, _, rfl, x, rfl, small (by omega), _, rfl, _, _, rfl, rfl, small (by omega), ?_⟩
  refine ⟨_, rfl, _, rfl, _, rfl, d, _, rfl, ev.drw, by decide, by decide, fun r2 H6 s0 s1 ev6 => ?_⟩
  have c2 := slice_len x (some (pl + r2)) none
  have c4 := cat_len (Txt.slice x none (some pl) ++ y) (Txt.slice x (some (pl + r2)) none)
  refine ⟨_, _, rfl, rfl, _, rfl, x, rfl, small (by omega), _, _, rfl, rfl, small (by omega), q _ _ (ev.trans ev6) (by omega) ?_⟩
  have b1 := bls_to (x := x) (j := pl) p0 (by omega)
  have b2 := bls_from (x := x) (j := pl + r2) (by omega)
  have b3 := bls_len y
  rw [bls_app, bls_app]
  omega
end

end My

set_option Elab.async false
set_option linter.all false
set_option maxRecDepth 100000
set_option maxHeartbeats 4000000
namespace My
open PySem L2
theorem valV_of {kvs : List (Key × V)} {k : Key} {v : V} (h : valV kvs k = some v) : (k, v) ∈ kvs := by
  unfold valV at h
  obtain ⟨p, hp, rfl⟩ := Option.map_eq_some_iff.mp h
  have := List.find?_some hp
  have e : p.1 = k := of_decide_eq_true this
  have := List.mem_of_find?_eq_some hp
  rw [← e]; exact this
def wordT (kvs : List (Key × V)) (x : Str) : Str := x ++ "=" ++ vtx ((valV kvs (Sum.inr x)).getD .non)
theorem vtx_len {v : V} (h : goodV v) : (vtx v).length ≤ 30 ∧ rdV (vtx v) = some v ∧ flatV v = true := by
  rcases h with ⟨b, rfl⟩ | ⟨i, rfl, i0, i1⟩ | ⟨x, rfl, hx⟩
  · cases b
    · exact ⟨by decide +kernel, rd_no, rfl⟩
    · exact ⟨by decide +kernel, rd_yes, rfl⟩
  · obtain ⟨h1, h2⟩ := rd_int i0 i1
    exact ⟨h2, h1, rfl⟩
  · refine ⟨?_, rd_word hx, rfl⟩
    have hl := word_len hx
    have lq : ("'" : Str).length = 1 := by decide +kernel
    show ("'" ++ x ++ "'" : Str).length ≤ 30
    rw [cat_len, cat_len, lq]; omega
theorem name_len {x : Str} (h : nameB x = true) : 1 ≤ x.length ∧ x.length ≤ 12 ∧ ∀ c ∈ x.cps.toList, nsg c = true := by
  unfold nameB sz at h
  simp only [Bool.and_eq_true, decide_eq_true_eq, List.all_eq_true] at h
  exact ⟨h.1.1, h.1.2, h.2.2.1⟩
/-- the signs of what is written: no blank -/
theorem vtx_signs {v : V} (g : goodV v) : 32 ∉ (vtx v).cps.toList := by
  rcases g with ⟨b, rfl⟩ | ⟨i, rfl, i0, i1⟩ | ⟨x, rfl, hx⟩
  · cases b <;> decide +kernel
  · show 32 ∉ (Str.ofString (toString i)).cps.toList
    have nf : ∀ m, 32 ∉ dig m := fun m hm => by
      obtain ⟨c, r, _, _, h, _⟩ := dig_facts m
      have := List.all_eq_true.mp h 32 hm
      cases this
    cases i with
    | ofNat m => rw [show (Int.ofNat m) = ((m : Nat) : Int) from rfl, pos_list]; exact nf m
    | negSucc m =>
      rw [neg_list, List.mem_cons]
      rintro (z | z)
      · cases z
      · exact nf _ z
  · show 32 ∉ ("'" ++ x ++ "'" : Str).cps.toList
    rw [app_list, app_list, q_list]
    have hw : ∀ c ∈ x.cps.toList, wsg c = true := by
      unfold wordB at hx
      simp only [Bool.and_eq_true, List.all_eq_true] at hx
      exact hx.2.2
    intro z
    rcases List.mem_append.mp z with z | z
    · rcases List.mem_append.mp z with z | z
      · cases List.mem_singleton.mp z
      · have := hw _ z; cases this
    · cases List.mem_singleton.mp z
theorem name_signs {x : Str} (h : nameB x = true) (c : Nat) (hc : nsg c = false) : c ∉ x.cps.toList := fun z => by
  have := (name_len h).2.2 c z
  rw [hc] at this; cases this
theorem keys_put {kvs : List (Key × V)} {ss : List Str} (h : kvs.map (·.1) = ss.map Sum.inr) (x : Str) (v : V) : (putK kvs (Sum.inr x) v).map (·.1) = (if x ∈ ss then ss else ss ++ [x]).map Sum.inr := by
  by_cases hx : x ∈ ss
  · rw [if_pos hx]
    obtain ⟨u, hu⟩ := valV_mem (kvs := kvs) (k := Sum.inr x) (by rw [h]; exact List.mem_map.mpr ⟨x, hx, rfl⟩)
    unfold putK
    rw [if_pos (by rw [valV_any, hu]; rfl), List.map_map, ← h]
    apply List.map_congr_left
    intro p _
    show (if p.1 = Sum.inr x then (p.1, v) else p).1 = p.1
    split <;> rfl
  · rw [if_neg hx]
    have hn : valV kvs (Sum.inr x) = none := by
      cases e : valV kvs (Sum.inr x) with
      | none => rfl
      | some u =>
        have := valV_in e
        rw [h] at this
        obtain ⟨y, hy, e⟩ := List.mem_map.mp this
        injection e with e
        rw [e] at hy
        exact absurd hy hx
    rw [putK_new v hn, List.map_append, List.map_append, h]
    rfl
theorem mem_put {kvs : List (Key × V)} {k : Key} {v : V} {p : Key × V} (h : p ∈ putK kvs k v) : p = (k, v) ∨ p ∈ kvs := by
  unfold putK at h
  split at h
  · obtain ⟨q, hq, e⟩ := List.mem_map.mp h
    split at e
    · rename_i hk
      left; rw [← e, hk]
    · right; rw [← e]; exact hq
  · rcases List.mem_append.mp h with h | h
    · exact .inr h
    · exact .inl (List.mem_singleton.mp h)
theorem inr_keys : ∀ (fl : List (Key × V)), (∀ kv ∈ fl, ∃ n, kv.1 = Sum.inr n ∧ (n.length ≤ 6 ∧ nameB n = true) ∧ goodV kv.2) → ∃ ss : List Str, fl.map (·.1) = ss.map Sum.inr ∧ ss.length = fl.length
  | [], _ => ⟨[], rfl, rfl⟩
  | kv :: fl, h => by
    obtain ⟨n, e, _⟩ := h kv List.mem_cons_self
    obtain ⟨ss, e2, e3⟩ := inr_keys fl fun x hx => h x (List.mem_cons_of_mem _ hx)
    exact ⟨n :: ss, by rw [List.map_cons, List.map_cons, e, e2], by rw [List.length_cons, List.length_cons, e3]⟩
theorem num2 {i : Int} (h0 : 0 ≤ i) (h1 : i < 20) : (vtx (.int i)).length ≤ 2 := by
  obtain ⟨m, rfl⟩ : ∃ m : Nat, i = m := ⟨i.toNat, by omega⟩
  show (Str.ofString (toString ((m : Nat) : Int))).length ≤ 2
  rw [← len_list, pos_list]
  obtain ⟨c, r, _, _, _, h⟩ := dig_facts m
  exact h 2 (by decide) (by omega)
/-- what is read lies in few names, all of them texts, and is flat -/
theorem fldR_facts : ∀ (ws : List Str) (k : Nat) (ah : Str) (acc kvs : List (Key × V)) (ss : List Str), fldR k ah acc ws = .inr kvs → acc.map (·.1) = ss.map Sum.inr → (∀ kv ∈ acc, flatV kv.2 = true) →
    ∃ ss' : List Str, kvs.map (·.1) = ss'.map Sum.inr ∧ ss'.length ≤ ss.length + ws.length ∧ ∀ kv ∈ kvs, flatV kv.2 = true
  | [], k, ah, acc, kvs, ss, h, h1, h2 => by
    rw [fldR] at h
    cases h
    exact ⟨ss, h1, by simp, h2⟩
  | w :: ws, k, ah, acc, kvs, ss, h, h1, h2 => by
    cases ev : rdV (Txt.partition w "=").2.2 with
    | none => rw [fldR_none ev] at h; cases h
    | some v =>
      by_cases hb : fldB (Txt.partition w "=").1 = true ∧ leS (Txt.partition w "=").1 ah = false
      · rw [fldR_go ev hb.1 hb.2] at h
        obtain ⟨ss', a1, a2, a3⟩ := fldR_facts ws _ _ _ _ _ h (keys_put h1 _ v) fun kv hkv => by
          rcases mem_put hkv with rfl | hkv
          · exact (rd_ne ev).2
          · exact h2 kv hkv
        refine ⟨ss', a1, Nat.le_trans a2 ?_, a3⟩
        rw [List.length_cons]
        split
        · omega
        · rw [List.length_append, List.length_singleton]; omega
      · rw [fldR_bad ev hb] at h; cases h
theorem rowR_facts {ws : List Str} {i0 : Int} {s : Str} {i2 : Int} {kvs : List (Key × V)} (h : rowR ws = .inr (i0, s, i2, kvs)) : ∃ ss : List Str, kvs.map (·.1) = ss.map Sum.inr ∧ ss.length ≤ ws.length ∧ ∀ kv ∈ kvs, flatV kv.2 = true := by
  cases ws with
  | nil => cases h
  | cons w0 r0 =>
    cases e0 : numV w0 with
    | none => rw [rowR_0 e0] at h; cases h
    | some v0 =>
      obtain ⟨j0, rfl⟩ := num_int e0
      cases r0 with
      | nil => rw [rowR_1 e0] at h; cases h
      | cons w1 r1 =>
        cases e1 : nameB w1 with
        | false => rw [rowR_1b e0 e1] at h; cases h
        | true =>
          cases r1 with
          | nil => rw [rowR_2 e0 e1] at h; cases h
          | cons w2 r2 =>
            cases e2 : numV w2 with
            | none => rw [rowR_2b e0 e1 e2] at h; cases h
            | some v2 =>
              obtain ⟨j2, rfl⟩ := num_int e2
              by_cases hn : j2 < 0
              · rw [rowR_2c e0 e1 e2 hn] at h; cases h
              · cases ef : fldR 3 "" [] r2 with
                | inl k => rw [rowR_3 e0 e1 e2 hn ef] at h; cases h
                | inr kv =>
                  rw [rowR_4 e0 e1 e2 hn ef] at h
                  cases h
                  obtain ⟨ss', a1, a2, a3⟩ := fldR_facts r2 3 "" [] kvs [] ef rfl (fun _ hx => nomatch hx)
                  exact ⟨ss', a1, by rw [List.length_nil] at a2; rw [List.length_cons, List.length_cons, List.length_cons]; omega, a3⟩
theorem eqv_rows {H : Hp} {t t' d d' : Addr} {i0 : Int} {s : Str} {i2 : Int} {kvs : List (Key × V)} {ss : List Str} (hk : kvs.map (·.1) = ss.map Sum.inr) (hl : ss.length < 64) (hf : ∀ kv ∈ kvs, flatV kv.2 = true) (h : RowAt H t d i0 s i2 kvs) (h' : RowAt H t' d' i0 s i2 kvs) : Eqv true 2 H (.ref t) (.ref t') := by
  unfold Eqv
  refine .inr (.inl ⟨t, t', _, _, rfl, rfl, .inr ⟨h.1, h'.1⟩, (by decide : (4 : Nat) ≤ 1000), rfl, fun i u v hu hv => ?_⟩)
  have hd : Eqv true 1 H (.ref d) (.ref d') := by
    unfold Eqv
    refine .inr (.inr ⟨rfl, d, d', kvs, kvs, ss, ss, rfl, rfl, h.2, h'.2, hk, hk, List.Perm.refl _, hl, fun x v v' h1 h2 => ?_⟩)
    rw [h1] at h2; cases h2
    exact Eqv.flat (hf _ (valV_of h1))
  match i, hu, hv with
  | 0, hu, hv => cases hu; cases hv; exact Eqv.flat rfl
  | 1, hu, hv => cases hu; cases hv; exact Eqv.flat rfl
  | 2, hu, hv => cases hu; cases hv; exact Eqv.flat rfl
  | 3, hu, hv => cases hu; cases hv; exact hd
section
variable {P : Program} {w : World} {K : PySem.W.Frag} {mg : Str → Option Value} {base : Heap} {a : Adr}
def atR (x : Str) : Int := match rowR (Txt.split x " ") with
  | .inl k => (k : Int)
  | .inr _ => 0 - 1
def spRA : Sp := fun vs H Q _ => ∃ x : Str, vs = [.str x] ∧ x.length ≤ 600 ∧ ∀ H', Same H H' → Q (.int (atR x)) H'
theorem ok_read_at (T : Txt K mg a) : FnOk P w K mg base CX0 7 a.f_read_at a.d_read_at ["_law_text"] spRA := by
  refine T.F_read_at.ok sc_read_at (fun vs H Q E h => ?_) (fun cdv A outer s H vs Q E hr h => ?_)
  · obtain ⟨x, rfl, _⟩ := h; rfl
  obtain ⟨x, rfl, hx, q⟩ := h
  refine ⟨_, (pss_one (ps_try (j := 1) rfl rfl rfl T.m_LogError T.x_LogError sc_read_at.nd rfl rfl (fun pn XE E hx => (pss_cons (ps_expr (pe_call (ok_read_row T) (hr.mono (by decide)) rfl T.m_read_row T.F_read_row.kp T.b_read_row .nil hx (pa_cons (pv 0) pa_nil))) (pss_one (ps_ret (pe_op op_sub pe_int pe_int))))) (fun e => (pss_one (ps_ret (pe_ifExp (pt_val (pe_callB call_isX rfl T.n_isinstance (by decide +kernel) (pa_cons (pv 1) (pa_cons (pe_glob (v := .ref a.c_BadText) rfl T.m_BadText rfl) pa_nil)))) (pe_xat (pv 1)) (pe_op op_sub pe_int pe_int))))))), ?_⟩
  refine ⟨_, rfl, x, rfl, hx, fun k e H1 dx g1 hdx => ?_, fun i0 s' i2 kvs e t d H1 _ _ g1 _ _ => ?_⟩
  · refine ⟨a.c_BadText, dx, rfl, rfl, T.y_BadText, fun ea hea => ?_⟩
    have g2 := same_new hea (XC a.c_BadText dx ea)
    have hk : PySem.W.kitOne K (.ref a.c_BadText) (.ref a.c_BadText) = some true := by unfold PySem.W.kitOne; rw [if_pos (by simp)]
    refine ⟨_, rfl, ea, a.c_BadText, dx, _, .ref a.c_BadText, rfl, upd_same, fun u hu => hu, hk, _, rfl, iteT ?_⟩
    refine ⟨_, rfl, ea, a.c_BadText, dx, .int k, rfl, upd_same, g2 _ _ hdx, T.x_BadText.get, ?_⟩
    have z := q _ (g1.trans g2)
    unfold atR at z
    rw [e] at z
    exact z
  · have z := q _ g1
    unfold atR at z
    rw [e] at z
    exact ⟨_, _, rfl, rfl, z⟩
def fewL : List (Str × Int) := [("", 0), ("5", 1), ("5 web", 2), ("5 web 3 time=7", 3), ("5 web 3 a=1 number=2", 4), ("5 all 3", 1), ("5 web 3 source='a'", 3), (repS "1" 31 ++ " web 3", 0), (repS "1" 30 ++ " web " ++ repS "2" 30, 0 - 1)]
theorem few_at : ∀ p ∈ fewL, p.1.length ≤ 600 ∧ atR p.1 = p.2 := by decide +kernel
end

end My

set_option Elab.async false
set_option linter.all false
set_option maxRecDepth 100000
set_option maxHeartbeats 4000000
namespace My
open PySem L2
theorem comp_tups {K : PySem.W.Frag} {p : Addr} {ts : List Addr} {ps : List (V × V)} {im : List (Option Nat)} {σ : St} {H : Hp} {Q : VK} {te : TE} (hp : H p = some (.lst (ts.map V.ref))) (hl : ts.length = ps.length) (hz : ps.length ≤ 1000)
    (hT : ∀ (j : Nat) (t : Addr) (x : V × V), ts[j]? = some t → ps[j]? = some x → H t = some (.tup [x.1, x.2]))
    (he : ∀ x ∈ ps, ∀ H' (R : VK), (∀ H'', Same H' H'' → R (.bl true) H'') → te (((inner im σ).set 0 (some x.1)).set 1 (some x.2)) H' R)
    (hQ : ∀ D H', Same H H' → H' D = none → Q (.ref D) (upd H' D (.lst ((List.replicate ps.length true).map V.bl)))) :
    CompAt im (gTup K 2 (gCons (gName 0) (gCons (gName 1) gNil))) tNoIf te σ Q (Itl K p) H := by
  refine ⟨fun i m zs H' => m = ps.length - i ∧ i ≤ ps.length ∧ zs = (List.replicate i true).map V.bl ∧ Same H H', ⟨ps.length, by simp, Nat.zero_le _, rfl, Same.refl H⟩, ?_⟩
  rintro i m zs H' ⟨rfl, hi, rfl, g⟩
  refine ⟨by rw [List.length_map, List.length_replicate]; exact small (by omega), ?_⟩
  have hsq : SqL K H' p (ts.map V.ref) := SqL.of (g _ _ hp)
  by_cases hlt : i < ps.length
  · obtain ⟨t, ht⟩ : ∃ t, ts[i]? = some t := ⟨_, List.getElem?_eq_getElem (by omega)⟩
    obtain ⟨x, hx⟩ : ∃ x, ps[i]? = some x := ⟨_, List.getElem?_eq_getElem hlt⟩
    refine .inr ⟨⟨_, .ref t, hsq, by rw [List.getElem?_map, ht]; rfl⟩, fun u H'' yl => ?_⟩
    obtain ⟨rfl, yl⟩ := yl
    have hu := yl _ hsq
    rw [List.getElem?_map, ht] at hu
    obtain rfl : V.ref t = u := Option.some.inj hu
    refine ⟨t, [x.1, x.2], rfl, SqT.of (g _ _ (hT i t x ht hx)), rfl, x.1, [x.2], rfl, x.2, [], rfl, rfl, ?_⟩
    refine he x (List.mem_of_getElem? hx) _ _ fun H3 g3 => ⟨ps.length - (i + 1), by omega, rfl, hlt, ?_, g.trans g3⟩
    rw [List.replicate_succ', List.map_append]; rfl
  · have e : i = ps.length := by omega
    subst e
    exact .inl ⟨⟨_, hsq, by rw [List.length_map]; omega⟩, fun D hD => hQ D H' g hD⟩
section
variable {P : Program} {w : World} {K : PySem.W.Frag} {mg : Str → Option Value} {base : Heap} {a : Adr}
def spFew : Sp := fun vs H Q _ => vs = [] ∧ ∀ H', Same H H' → Q (.bl true) H'
theorem rep_len : (repS "1" 31).length = 31 ∧ (repS "1" 30).length = 30 ∧ (repS "2" 30).length = 30 ∧ ("1" : Str).length = 1 ∧ ("2" : Str).length = 1 ∧ (" web 3" : Str).length = 6 ∧ (" web " : Str).length = 5 := by decide +kernel
theorem ok_few (T : Txt K mg a) : FnOk P w K mg base CX0 8 a.f_few a.d_few [] spFew := by
  refine T.F_few.ok sc_few (fun vs H Q E h => ?_) (fun cdv A outer s H vs Q E hr h => ?_)
  · obtain ⟨rfl, _⟩ := h; rfl
  obtain ⟨rfl, q⟩ := h
  obtain ⟨r1, r2, r3, r4, r5, r6, r7⟩ := rep_len
  refine boxE ⟨_, (by exact (bss_cons (bs_set (i := 0) sc_few.nd rfl (by first | exact Or.inl rfl | exact Or.inr rfl) (be_lst (bpa_cons (be_tup (bpa_cons ⟨pe_str⟩ (bpa_cons ⟨pe_int⟩ bpa_nil star_con) star_con)) (bpa_cons (be_tup (bpa_cons ⟨pe_str⟩ (bpa_cons ⟨pe_int⟩ bpa_nil star_con) star_con)) (bpa_cons (be_tup (bpa_cons ⟨pe_str⟩ (bpa_cons ⟨pe_int⟩ bpa_nil star_con) star_con)) (bpa_cons (be_tup (bpa_cons ⟨pe_str⟩ (bpa_cons ⟨pe_int⟩ bpa_nil star_con) star_con)) (bpa_cons (be_tup (bpa_cons ⟨pe_str⟩ (bpa_cons ⟨pe_int⟩ bpa_nil star_con) star_con)) (bpa_cons (be_tup (bpa_cons ⟨pe_str⟩ (bpa_cons ⟨pe_int⟩ bpa_nil star_con) star_con)) bpa_nil star_tup) star_tup) star_tup) star_tup) star_tup) star_tup)) swap_lst (by first | exact .inl rfl | exact .inr rfl)) (bss_cons (bs_set (i := 0) sc_few.nd rfl (by first | exact Or.inl rfl | exact Or.inr rfl) (be_op op_cat ⟨(pv 0)⟩ (be_lst (bpa_cons (be_tup (bpa_cons ⟨pe_str⟩ (bpa_cons ⟨pe_int⟩ bpa_nil star_con) star_con)) (bpa_cons (be_tup (bpa_cons (be_op op_add_str (be_op op_mul_str ⟨pe_str⟩ ⟨pe_int⟩) ⟨pe_str⟩) (bpa_cons ⟨pe_int⟩ bpa_nil star_con) star_bin)) (bpa_cons (be_tup (bpa_cons (be_op op_add_str (be_op op_add_str (be_op op_mul_str ⟨pe_str⟩ ⟨pe_int⟩) ⟨pe_str⟩) (be_op op_mul_str ⟨pe_str⟩ ⟨pe_int⟩)) (bpa_cons (be_op op_sub ⟨pe_int⟩ ⟨pe_int⟩) bpa_nil star_bin) star_bin)) bpa_nil star_tup) star_tup) star_tup))) rfl (by first | exact .inl rfl | exact .inr rfl)) (bss_one (bs_ret ⟨(pe_callB (call_all rfl) rfl T.n_all (by decide +kernel) (pa_cons (pe_comp (g := gTup K 2 (gCons (gName 0) (gCons (gName 1) gNil))) ["_law_text", "_law_at"] [none, none] (pi_list (pv 0)) (fun _ _ _ _ _ => (pg_tup (n := 2) rfl (pgs_cons (pg_name (i := 0) (show List.Nodup (["_law_text", "_law_at"] : List Str) from by decide +kernel) rfl (Or.inl rfl) (Or.inr rfl)) (pgs_cons (pg_name (i := 1) (show List.Nodup (["_law_text", "_law_at"] : List Str) from by decide +kernel) rfl (Or.inl rfl) (Or.inr rfl)) pgs_nil)))) (fun _ _ _ _ _ => pts_nil) (fun _ _ _ _ _ => (pe_cmpR op_eq (pe_call (ok_read_at T) (hr.mono (by decide)) rfl T.m_read_at T.F_read_at.kp T.b_read_at .nil pass0 (pa_cons (pv 0) pa_nil star_nam)) (pv 1) (nomark _)))) pa_nil))⟩))))), ?_⟩
  refine ⟨small (n := 2) (by decide), fun t0 h0 => ?_⟩
  have g0 := same_new h0 (.tup [.str "", .int 0])
  refine ⟨small (n := 2) (by decide), fun t1 h1 => ?_⟩
  have g1 := same_new h1 (.tup [.str "5", .int 1])
  refine ⟨small (n := 2) (by decide), fun t2 h2 => ?_⟩
  have g2 := same_new h2 (.tup [.str "5 web", .int 2])
  refine ⟨small (n := 2) (by decide), fun t3 h3 => ?_⟩
  have g3 := same_new h3 (.tup [.str "5 web 3 time=7", .int 3])
  refine ⟨small (n := 2) (by decide), fun t4 h4 => ?_⟩
  have g4 := same_new h4 (.tup [.str "5 web 3 a=1 number=2", .int 4])
  refine ⟨small (n := 2) (by decide), fun t5 h5 => ?_⟩
  have g5 := same_new h5 (.tup [.str "5 all 3", .int 1])
  refine ⟨small (n := 6) (by decide), fun l1 hl1 => ?_⟩
  have gl1 := same_new hl1 (.lst [.ref t0, .ref t1, .ref t2, .ref t3, .ref t4, .ref t5])
  refine ⟨_, rfl, ?_⟩
  refine ⟨small (n := 2) (by decide), fun t6 h6 => ?_⟩
  have g6 := same_new h6 (.tup [.str "5 web 3 source='a'", .int 3])
  refine ⟨_, _, rfl, rfl, by decide, by decide, by omega, by omega, by rw [r1]; exact small (by decide), _, _, rfl, rfl, by rw [r1, r6]; exact small (by decide), ?_⟩
  refine ⟨small (n := 2) (by decide), fun t7 h7 => ?_⟩
  have g7 := same_new h7 (.tup [.str (repS "1" 31 ++ " web 3"), .int 0])
  refine ⟨_, _, rfl, rfl, by decide, by decide, by omega, by omega, by rw [r2]; exact small (by decide), _, _, rfl, rfl, by rw [r2, r7]; exact small (by decide), ?_⟩
  refine ⟨_, _, rfl, rfl, by decide, by decide, by omega, by omega, by rw [r3]; exact small (by decide), _, _, rfl, rfl, by rw [cat_len, r2, r7, r3]; exact small (by decide), ?_⟩
  refine ⟨_, _, rfl, rfl, small (n := 2) (by decide), fun t8 h8 => ?_⟩
  have g8 := same_new h8 (.tup [.str (repS "1" 30 ++ " web " ++ repS "2" 30), .int (0 - 1)])
  refine ⟨small (n := 3) (by decide), fun l2 hl2 => ?_⟩
  have gl2 := same_new hl2 (.lst [.ref t6, .ref t7, .ref t8])
  have G := g6.trans (g7.trans (g8.trans gl2))
  refine ⟨l1, l2, _, _, rfl, rfl, G _ _ upd_same, upd_same, small (n := 9) (by decide), fun l3 hl3 => ?_⟩
  have gl3 := same_new hl3 (.lst [.ref t0, .ref t1, .ref t2, .ref t3, .ref t4, .ref t5, .ref t6, .ref t7, .ref t8])
  have T0 := (gl3 _ _ (gl2 _ _ (g8 _ _ (g7 _ _ (g6 _ _ (gl1 _ _ (g5 _ _ (g4 _ _ (g3 _ _ (g2 _ _ (g1 _ _ upd_same)))))))))))
  have T1 := (gl3 _ _ (gl2 _ _ (g8 _ _ (g7 _ _ (g6 _ _ (gl1 _ _ (g5 _ _ (g4 _ _ (g3 _ _ (g2 _ _ upd_same))))))))))
  have T2 := (gl3 _ _ (gl2 _ _ (g8 _ _ (g7 _ _ (g6 _ _ (gl1 _ _ (g5 _ _ (g4 _ _ (g3 _ _ upd_same)))))))))
  have T3 := (gl3 _ _ (gl2 _ _ (g8 _ _ (g7 _ _ (g6 _ _ (gl1 _ _ (g5 _ _ (g4 _ _ upd_same))))))))
  have T4 := (gl3 _ _ (gl2 _ _ (g8 _ _ (g7 _ _ (g6 _ _ (gl1 _ _ (g5 _ _ upd_same)))))))
  have T5 := (gl3 _ _ (gl2 _ _ (g8 _ _ (g7 _ _ (g6 _ _ (gl1 _ _ upd_same))))))
  have T6 := (gl3 _ _ (gl2 _ _ (g8 _ _ (g7 _ _ upd_same))))
  have T7 := (gl3 _ _ (gl2 _ _ (g8 _ _ upd_same)))
  have T8 := (gl3 _ _ (gl2 _ _ upd_same))
  refine ⟨_, rfl, l3, rfl, ⟨_, SqL.of upd_same⟩, ?_⟩
  refine comp_tups (ts := [t0, t1, t2, t3, t4, t5, t6, t7, t8]) (ps := fewL.map fun p => (V.str p.1, V.int p.2)) upd_same rfl (by decide) (fun j t x ht hx => ?_) (fun x hx H' R hR => ?_) (fun D H' g hD => ?_)
  · match j, ht, hx with
    | 0, ht, hx => cases ht; cases hx; exact T0
    | 1, ht, hx => cases ht; cases hx; exact T1
    | 2, ht, hx => cases ht; cases hx; exact T2
    | 3, ht, hx => cases ht; cases hx; exact T3
    | 4, ht, hx => cases ht; cases hx; exact T4
    | 5, ht, hx => cases ht; cases hx; exact T5
    | 6, ht, hx => cases ht; cases hx; exact T6
    | 7, ht, hx => cases ht; cases hx; exact T7
    | 8, ht, hx => cases ht; cases hx; exact T8
  · obtain ⟨p, hp, rfl⟩ := List.mem_map.mp hx
    obtain ⟨a1, a2⟩ := few_at p hp
    refine ⟨_, rfl, p.1, rfl, a1, fun H3 g3 => ⟨_, rfl, rfl, ?_⟩⟩
    rw [a2, decide_eq_true rfl]
    exact hR H3 g3
  · refine ⟨D, _, rfl, SqL.of upd_same, ?_⟩
    have e1 : (List.replicate (fewL.map fun p => (V.str p.1, V.int p.2)).length true).all id = true := by simp
    rw [e1]
    exact q _ ((((((((((((g0.trans g1).trans g2).trans g3).trans g4).trans g5).trans gl1).trans G).trans gl3).trans g).trans (same_new hD _))))
end

end My

set_option Elab.async false
set_option linter.all false
set_option maxRecDepth 100000
set_option maxHeartbeats 4000000
namespace My
open PySem L2
section
variable {P : Program} {w : World} {K : PySem.W.Frag} {mg : Str → Option Value} {base : Heap} {a : Adr}
def spLaw (K : PySem.W.Frag) : Sp := fun vs H Q _ => ∃ (b : Addr) (ns : List Int), vs = [.ref b] ∧ SqL K H b (ns.map V.int) ∧ ns.length ≤ 63 ∧ ∀ H', Q (.bl true) H'
/-- the words of a row, ahead of the bending -/
theorem words_fine {i0 : Int} {x : Str} {i2 : Int} {fl : List (Key × V)} {so : List Str} (t0 : -(10 ^ 29) < i0) (t1 : i0 < 10 ^ 29) (hx : nameB x = true) (n0 : 0 ≤ i2) (n1 : i2 < 20) (hso : so.length ≤ 6)
    (hs : ∀ n ∈ so, (n.length ≤ 6 ∧ nameB n = true) ∧ ∃ v, valV fl (Sum.inr n) = some v ∧ goodV v) :
    (Txt.join " " (vtx (.int i0) :: x :: vtx (.int i2) :: so.map (wordT fl))).length ≤ 290 ∧ Txt.split (Txt.join " " (vtx (.int i0) :: x :: vtx (.int i2) :: so.map (wordT fl))) " " = vtx (.int i0) :: x :: vtx (.int i2) :: so.map (wordT fl) ∧ (∀ r ∈ vtx (.int i0) :: x :: vtx (.int i2) :: so.map (wordT fl), r.length ≤ 60) := by
  have g0 : goodV (.int i0) := .inr (.inl ⟨i0, rfl, t0, t1⟩)
  have g2 : goodV (.int i2) := .inr (.inl ⟨i2, rfl, by omega, by omega⟩)
  have l0 := (vtx_len g0).1
  have l1 := (name_len hx).2.1
  have l2 := num2 n0 n1
  have le : ("=" : Str).length = 1 := by decide +kernel
  have lw : ∀ n ∈ so, (wordT fl n).length ≤ 37 ∧ 32 ∉ (wordT fl n).cps.toList := fun n hn => by
    obtain ⟨⟨h6, hnm⟩, v, ev, gv⟩ := hs n hn
    have lv := (vtx_len gv).1
    unfold wordT
    rw [ev, Option.getD_some]
    refine ⟨by rw [cat_len, cat_len, le]; omega, ?_⟩
    rw [app_list, app_list, eq_list61]
    intro z
    rcases List.mem_append.mp z with z | z
    · rcases List.mem_append.mp z with z | z
      · exact name_signs hnm 32 rfl z
      · cases List.mem_singleton.mp z
    · exact vtx_signs gv z
  have ht : ∀ us : List Str, (∀ n ∈ us, n ∈ so) → tot (us.map (wordT fl)) ≤ 38 * us.length := by
    intro us
    induction us with
    | nil => intro _; exact Nat.le_refl _
    | cons n us ih =>
      intro h
      have := ih fun m hm => h m (List.mem_cons_of_mem _ hm)
      have := (lw n (h n List.mem_cons_self)).1
      rw [List.map_cons, tot_cons, List.length_cons]; omega
  have h1 := ht so fun n hn => hn
  refine ⟨?_, split_join sp_list (by decide +kernel) fun r hr => ?_, fun r hr => ?_⟩
  · have := join_tot (vtx (.int i0) :: x :: vtx (.int i2) :: so.map (wordT fl))
    rw [tot_cons, tot_cons, tot_cons] at this
    omega
  · rcases List.mem_cons.mp hr with rfl | hr
    · exact vtx_signs g0
    rcases List.mem_cons.mp hr with rfl | hr
    · exact name_signs hx 32 rfl
    rcases List.mem_cons.mp hr with rfl | hr
    · exact vtx_signs g2
    obtain ⟨n, hn, rfl⟩ := List.mem_map.mp hr
    exact (lw n hn).2
  · rcases List.mem_cons.mp hr with rfl | hr
    · omega
    rcases List.mem_cons.mp hr with rfl | hr
    · omega
    rcases List.mem_cons.mp hr with rfl | hr
    · omega
    obtain ⟨n, hn, rfl⟩ := List.mem_map.mp hr
    have := (lw n hn).1
    omega
theorem ok_law (T : Txt K mg a) : FnOk P w K mg base CX0 12 a.f_law a.d_law ["_law_script"] (spLaw K) := by
  refine T.F_law.ok sc_law (fun vs H Q E h => ?_) (fun cdv A outer s H vs Q E hr h => ?_)
  · obtain ⟨x, y, rfl, _⟩ := h; rfl
  obtain ⟨b, ns, rfl, hS, hn, q⟩ := h
  have hu1 := hu_of hr
  refine ⟨_, (pss_cons (ps_set (i := 1) sc_law.nd rfl (by first | exact Or.inl rfl | exact Or.inr rfl) (pe_call (ok_begin T) (hr.mono (by decide)) rfl T.m_begin T.F_begin.kp T.b_begin .nil pass0 (pa_cons (pv 0) pa_nil))) (pss_cons (ps_if (pt_not (pt_val (pe_call0 (ok_few T) (hr.mono (by decide)) rfl T.m_few T.F_few.kp T.b_few .nil pass0))) (pss_one (ps_ret pe_bl)) pss_nil) (pss_cons (ps_set (i := 2) sc_law.nd rfl (by first | exact Or.inl rfl | exact Or.inr rfl) (pe_call (ok_kinds T) (hr.mono (by decide)) rfl T.m_kinds T.F_kinds.kp T.b_kinds .nil pass0 (pa_cons (pv 1) pa_nil))) (pss_cons (ps_for PassesOwn.never rfl (pi_range1 rfl T.n_range (pa_cons pe_int pa_nil)) (pg_name (i := 3) sc_law.nd rfl (by first | exact Or.inl rfl | exact Or.inr rfl)) (pss_cons (ps_set (i := 4) sc_law.nd rfl (by first | exact Or.inl rfl | exact Or.inr rfl) (pe_tup (pa_cons (pe_call (ok_time T) (hr.mono (by decide)) rfl T.m_time T.F_time.kp T.b_time .nil pass0 (pa_cons (pv 1) pa_nil)) (pa_cons (pe_call (ok_drawn_name T) (hr.mono (by decide)) rfl T.m_drawn_name T.F_drawn_name.kp T.b_drawn_name .nil pass0 (pa_cons (pv 1) pa_nil)) (pa_cons (pe_call (ok_take T) (hr.mono (by decide)) rfl T.m_take T.F_take.kp T.b_take .nil pass0 (pa_cons (pv 1) (pa_cons pe_int pa_nil))) (pa_cons (pe_call (ok_fields T) (hr.mono (by decide)) rfl T.m_fields T.F_fields.kp T.b_fields .nil pass0 (pa_cons (pv 1) (pa_cons (pv 2) pa_nil))) pa_nil)))))) (pss_cons (ps_set (i := 5) sc_law.nd rfl (by first | exact Or.inl rfl | exact Or.inr rfl) (pe_lst (pa_cons (pe_callTy call_str_int rfl T.n_str (by decide +kernel) (pa_cons (pe_ix ix_tup (pv 4) pe_int (fun _ _ => rfl)) pa_nil)) (pa_cons (pe_ix ix_tup (pv 4) pe_int (fun _ _ => rfl)) (pa_cons (pe_callTy call_str_int rfl T.n_str (by decide +kernel) (pa_cons (pe_ix ix_tup (pv 4) pe_int (fun _ _ => rfl)) pa_nil)) pa_nil))))) (pss_cons (ps_set (i := 5) sc_law.nd rfl (by first | exact Or.inl rfl | exact Or.inr rfl) (pe_op op_cat (pv 5) (pe_comp ["_law_name", "_law_row"] [none, some 4] (pi_list (pe_callB call_sortedS rfl T.n_sorted (by decide +kernel) (pa_cons (pe_callTy (call_listD rfl) rfl T.n_list (by decide +kernel) (pa_cons (pe_ix ix_tup (pv 4) pe_int (fun _ _ => rfl)) pa_nil)) pa_nil))) (fun _ _ _ _ _ => (pg_name (i := 0) (show List.Nodup (["_law_name", "_law_row"] : List Str) from by decide +kernel) rfl (Or.inl rfl) (Or.inr rfl))) (fun _ _ _ _ _ => pts_nil) (fun _ _ _ _ _ => (pe_op op_add_str (pe_op op_add_str (pv 0) pe_str) (pe_call (ok_value_text T) (hr.mono (by decide)) rfl T.m_value_text T.F_value_text.kp T.b_value_text .nil pass0 (pa_cons (pe_dget hu1 (pe_ix (ix_tupK rfl) (pv 1) pe_int (fun _ _ => rfl)) (pv 0) (fun _ _ => rfl)) pa_nil))))))) (pss_cons (ps_set (i := 6) sc_law.nd rfl (by first | exact Or.inl rfl | exact Or.inr rfl) (pe_call (ok_bent T) (hr.mono (by decide)) rfl T.m_bent T.F_bent.kp T.b_bent .nil pass0 (pa_cons (pv 1) (pa_cons (pe_bm PySem.F.plainAttrs_str PySem.F.slot_str_join PySem.F.type_str_join mt_join pe_str (pa_cons (pv 5) pa_nil)) pa_nil)))) (pss_cons (ps_asg (pe_call (ok_wrong T) (hr.mono (by decide)) rfl T.m_wrong T.F_wrong.kp T.b_wrong .nil pass0 (pa_cons (pv 6) pa_nil)) (pg_tup (n := 2) rfl (pgs_cons (pg_name (i := 7) sc_law.nd rfl (by first | exact Or.inl rfl | exact Or.inr rfl)) (pgs_cons (pg_name (i := 8) sc_law.nd rfl (by first | exact Or.inl rfl | exact Or.inr rfl)) pgs_nil)))) (pss_cons (ps_set (i := 9) sc_law.nd rfl (by first | exact Or.inl rfl | exact Or.inr rfl) pe_non) (pss_cons (ps_set (i := 10) sc_law.nd rfl (by first | exact Or.inl rfl | exact Or.inr rfl) pe_non) (pss_cons (ps_cut (ps_tryO (j := 11) rfl rfl rfl T.m_LogError T.x_LogError sc_law.nd rfl rfl (fun pn XE E σ0 hx => (pss_one (ps_set (i := 9) sc_law.nd rfl (by first | exact Or.inl rfl | exact Or.inr rfl) (pe_callA (ok_read_row T) (hr.mono (by decide)) rfl T.m_read_row T.F_read_row.kp T.b_read_row .nil hx (pa_cons (pv 6) pa_nil))))) (fun e => (pss_one (ps_set (i := 10) sc_law.nd rfl (by first | exact Or.inl rfl | exact Or.inr rfl) (pe_ifExp (pt_val (pe_callB call_isXo rfl T.n_isinstance (by decide +kernel) (pa_cons (pv 11) (pa_cons (pe_glob (v := .ref a.c_BadText) rfl T.m_BadText rfl) pa_nil)))) (pe_xat (pv 11)) (pe_op op_sub pe_int pe_int))))))) (pss_one (ps_if (PW.pt (pw_or (pt_not (pt_val (pe_call (ok_sameE T 2 true) (hr.mono (by decide)) rfl T.m_same T.F_same.kp T.b_same .nil pass0 (pa_cons (pv 9) (pa_cons (pv 8) pa_nil))))) (pw_or1 (pt_not (pt_val (pe_call (ok_sameE T 2 true) (hr.mono (by decide)) rfl T.m_same T.F_same.kp T.b_same .nil pass0 (pa_cons (pv 10) (pa_cons (pv 7) pa_nil)))))))) (pss_one (ps_ret pe_bl)) pss_nil))))))))))) (pss_one (ps_ret pe_bl)))))), ?_⟩
  refine ⟨_, rfl, b, ns, rfl, hS, hn, fun dd H1 hdn g1 hD => ?_⟩
  refine ⟨rfl, fun H2 g2 => ⟨_, rfl, iteF ?_⟩⟩
  have hD2 := hD.keep g2
  refine ⟨_, rfl, dd, rfl, hD2, fun kd m H3 m1 m2 hkd ev3 hk3 => ?_⟩
  have K3 : Kd H3 dd kd m := ⟨ev3.drw, hk3, m1, m2⟩
  refine ⟨12, rfl, by decide, by decide, for_range (n := 12) (lo := 0) (fun i σ H => ∃ s3 s4 s5 s6 s7 s8 s9 s10 s11, σ = [some (.ref b), some (.ref dd), some (.ref kd), s3, s4, s5, s6, s7, s8, s9, s10, s11] ∧ Kd H dd kd m) ⟨_, _, _, _, _, _, _, _, _, rfl, K3⟩ (fun i σ H4 hi hP => ?_) (fun σ H4 hP => ?_)⟩
  · obtain ⟨s3, s4, s5, s6, s7, s8, s9, s10, s11, rfl, K4⟩ := hP
    refine ⟨_, rfl, dd, rfl, K4.drw, fun i0 H5 ev5 a0 a1 => ?_⟩
    refine ⟨_, rfl, dd, rfl, ev5.drw, fun x H6 ev6 hx => ?_⟩
    refine ⟨_, rfl, dd, _, rfl, ev6.drw, by decide, by decide, fun i2 H7 n0 n1 ev7 => ?_⟩
    have ev := (ev5.trans ev6).trans ev7
    refine ⟨_, rfl, _, rfl, dd, kd, m, rfl, K4.ev ev, fun fd fl H8 hfd ev8 hfl hf6 hall => ?_⟩
    have ev := ev.trans ev8
    refine ⟨small (n := 4) (by decide), fun t ht => ?_⟩
    have gt := same_new ht (.tup [.int i0, .str x, .int i2, .ref fd])
    have ev := ev.then gt
    have ht9 : (upd H8 t (.tup [.int i0, .str x, .int i2, .ref fd])) t = some (.tup [.int i0, .str x, .int i2, .ref fd]) := upd_same
    have hf9 := gt _ _ hfl
    generalize upd H8 t (.tup [.int i0, .str x, .int i2, .ref fd]) = H9 at gt ev ht9 hf9 ⊢
    have n1' : i2 < 20 := n1
    refine ⟨_, rfl, t, _, _, _, rfl, rfl, SqT.of ht9, atI_nat (j := 0) rfl, i0, rfl, log_of a0 a1, ?_⟩
    refine ⟨_, rfl, t, _, _, _, rfl, rfl, SqT.of ht9, atI_nat (j := 1) rfl, ?_⟩
    refine ⟨_, rfl, t, _, _, _, rfl, rfl, SqT.of ht9, atI_nat (j := 2) rfl, i2, rfl, log_of (by omega) (by omega), ?_⟩
    refine ⟨small (n := 3) (by decide), fun l hl => ?_⟩
    have gl := same_new hl (.lst [.str (vtx (.int i0)), .str x, .str (vtx (.int i2))])
    obtain ⟨ss, hks, hsl⟩ := inr_keys fl hall
    refine ⟨_, rfl, _, rfl, t, _, _, _, rfl, rfl, SqT.of (gl _ _ ht9), atI_nat (j := 3) rfl, fd, fl, rfl, .inl (gl _ _ hf9), fun n hn' => ?_⟩
    have e1 : (fl.map (·.1)).map kV = ss.map V.str := by rw [hks, List.map_map]; rfl
    rw [e1]
    have g2' := same_new hn' (.lst (ss.map V.str))
    refine ⟨n, ss, rfl, SqL.of upd_same, by omega, fun so p hpm _ hp => ?_⟩
    have g3 := same_new hp (.lst (so.map V.str))
    have g := gl.trans (g2'.trans g3)
    have hso : so.length ≤ 6 := by rw [hpm.length_eq]; omega
    have hvals : ∀ n ∈ so, (n.length ≤ 6 ∧ nameB n = true) ∧ ∃ v, valV fl (Sum.inr n) = some v ∧ goodV v := fun n hn => by
      obtain ⟨v, ev⟩ := valV_mem (kvs := fl) (k := Sum.inr n) (by rw [hks]; exact List.mem_map.mpr ⟨n, hpm.mem_iff.mp hn, rfl⟩)
      obtain ⟨n', e, h6, gv⟩ := hall _ (valV_of ev)
      injection e with e
      subst e
      exact ⟨h6, v, ev, gv⟩
    obtain ⟨len, spl, w60⟩ := words_fine a0 a1 hx n0 n1' hso hvals
    refine ⟨p, rfl, ⟨_, SqL.of upd_same⟩, ?_⟩
    refine comp_listN (xs := so.map V.str) (fun i ys H' => ys = ((so.take i).map (wordT fl)).map V.str ∧ Same _ H') ⟨rfl, Same.refl _⟩ (fun i ys H' hi r => ?_) (fun i y ys H' N hy r hN => ?_) (fun ys H' r D hDn => ?_)
    · obtain ⟨rfl, gg⟩ := r
      exact ⟨by rw [List.length_map, List.length_map, List.length_take]; exact small (by omega), SqL.of (gg _ _ upd_same)⟩
    · obtain ⟨rfl, gg⟩ := r
      rw [List.getElem?_map] at hy
      obtain ⟨z, hz, rfl⟩ := Option.map_eq_some_iff.mp hy
      obtain ⟨⟨h6, _⟩, v, ev, gv⟩ := hvals z (List.mem_of_getElem? hz)
      have hvl := (vtx_len gv).1
      have le : ("=" : Str).length = 1 := by decide +kernel
      have l2 : (z ++ "=" : Str).length = z.length + 1 := by rw [cat_len, le]
      refine ⟨_, rfl, _, _, rfl, rfl, by rw [le]; exact small (by omega), ?_⟩
      refine ⟨_, rfl, t, _, _, _, rfl, rfl, SqT.of (gg _ _ (g _ _ ht9)), atI_nat (j := 3) rfl, _, rfl, fd, v, rfl, .inl ⟨fl, Sum.inr z, .inl (gg _ _ (g _ _ hf9)), rfl, ev.symm⟩, ?_⟩
      refine ⟨v, rfl, gv, fun H5 g5 => ⟨_, _, rfl, rfl, by rw [l2]; exact small (by omega), hN _ _ ⟨?_, gg.trans g5⟩⟩⟩
      have et : so.take (i + 1) = so.take i ++ [z] := by rw [List.take_add_one, hz]; rfl
      have ew : wordT fl z = z ++ "=" ++ vtx v := by unfold wordT; rw [ev, Option.getD_some]
      rw [et, ← ew]
      simp
    · obtain ⟨rfl, gg⟩ := r
      have e : so.take (so.map V.str).length = so := by rw [List.length_map, List.take_length]
      rw [e]
      have g5 := same_new hDn (.lst ((so.map (wordT fl)).map V.str))
      have hl5 := g5 _ _ (gg _ _ (g3 _ _ (g2' _ _ (upd_same (H := H9) (a := l) (o := .lst [.str (vtx (.int i0)), .str x, .str (vtx (.int i2))])))))
      refine ⟨l, D, _, _, rfl, rfl, hl5, upd_same, small (by rw [List.length_map, List.length_map]; show 3 + so.length ≤ 1000; omega), fun c hc => ?_⟩
      have g6 := same_new hc (.lst ((vtx (.int i0) :: x :: vtx (.int i2) :: so.map (wordT fl)).map V.str))
      have evT := ev.then ((g.trans gg).trans (g5.trans g6))
      have lsp : (" " : Str).length = 1 := by decide +kernel
      refine ⟨_, rfl, rfl, _, rfl, " ", c, vtx (.int i0) :: x :: vtx (.int i2) :: so.map (wordT fl), rfl, rfl, SqL.of upd_same, ?_, ?_⟩
      · have sm : ∀ L : List Str, (∀ r ∈ L, r.length ≤ 60) → (L.map (·.length)).sum ≤ 60 * L.length := by
          intro L
          induction L with
          | nil => intro _; exact Nat.le_refl _
          | cons r L ih =>
            intro h
            have := ih fun r' hr' => h r' (List.mem_cons_of_mem _ hr')
            have := h r List.mem_cons_self
            rw [List.map_cons, List.sum_cons, List.length_cons]; omega
        have := sm _ w60
        have hl9 : (vtx (.int i0) :: x :: vtx (.int i2) :: so.map (wordT fl)).length ≤ 9 := by rw [List.length_cons, List.length_cons, List.length_cons, List.length_map]; omega
        rw [lsp]; omega
      refine ⟨dd, _, rfl, evT.drw, len, by rw [spl]; exact w60, by rw [spl, List.length_cons, List.length_cons, List.length_cons, List.length_map]; omega, fun y H10 ev10 hy hbl => ?_⟩
      have evT := evT.trans ev10
      have hbl' := split_bls y
      refine ⟨_, rfl, y, rfl, hy, fun k ek wt H11 g11 hwt => ?_, fun j0 s' j2 kvs ek wt r rd H11 g11 hwt hrow => ?_⟩
      · have ev11 := evT.then g11
        refine ⟨wt, [_, _], rfl, SqT.of hwt, rfl, _, [_], rfl, _, [], rfl, rfl, ?_⟩
        refine ⟨fun σ' H' => ∃ s11, σ' = [some (.ref b), some (.ref dd), some (.ref kd), some (.int (0 + (i : Int))), some (.ref t), some (.ref c), some (.str y), some (.int k), some .non, some .non, some (.int k), s11] ∧ Ev dd H4 H', ?_, ?_⟩
        · refine ⟨rfl, _, rfl, y, rfl, hy, fun k' ek' H12 dx g12 hdx => ?_, fun j0 s' j2 kvs ek' => ?_⟩
          · rw [ek] at ek'
            cases ek'
            refine ⟨a.c_BadText, rfl, T.y_BadText, fun ea hea => ?_⟩
            have g13 := same_new hea (XCo a.c_BadText (some dx) ea)
            have hk : PySem.W.kitOne K (.ref a.c_BadText) (.ref a.c_BadText) = some true := by unfold PySem.W.kitOne; rw [if_pos (by simp)]
            refine ⟨_, rfl, ea, a.c_BadText, some dx, _, .ref a.c_BadText, rfl, upd_same, fun u hu => hu, hk, _, rfl, iteT ?_⟩
            refine ⟨_, rfl, ea, a.c_BadText, dx, .int k, rfl, upd_same, g13 _ _ hdx, T.x_BadText.get, ?_⟩
            exact ⟨_, rfl, ev11.then (g12.trans g13)⟩
          · rw [ek] at ek'; cases ek'
        · rintro σ' H12 ⟨s11, rfl, ev12⟩
          refine ⟨_, rfl, _, rfl, _, _, rfl, Eqv.flat rfl, fun H13 g13 => ⟨_, rfl, iteF ?_⟩⟩
          refine ⟨_, rfl, _, rfl, _, _, rfl, Eqv.flat rfl, fun H14 g14 => ⟨_, rfl, iteF ?_⟩⟩
          exact ⟨_, _, _, _, _, _, _, _, _, rfl, K4.ev (ev12.then (g13.trans g14))⟩
      · have ev11 := evT.then g11
        obtain ⟨rs, rk, rl, rf⟩ := rowR_facts ek
        refine ⟨wt, [_, _], rfl, SqT.of hwt, rfl, _, [_], rfl, _, [], rfl, rfl, ?_⟩
        refine ⟨fun σ' H' => ∃ tt s11, σ' = [some (.ref b), some (.ref dd), some (.ref kd), some (.int (0 + (i : Int))), some (.ref t), some (.ref c), some (.str y), some .non, some (.ref r), some (.ref tt), some .non, s11] ∧ Ev dd H4 H' ∧ Eqv true 2 H' (.ref tt) (.ref r), ?_, ?_⟩
        · refine ⟨rfl, _, rfl, y, rfl, hy, fun k' ek' => ?_, fun j0' s'' j2' kvs' ek' tt d' H12 _ _ g12 hdk htt => ?_⟩
          · rw [ek] at ek'; cases ek'
          · rw [ek] at ek'; cases ek'
            refine ⟨tt, _, rfl, ev11.then g12, eqv_rows rk (by omega) rf ⟨htt, hdk⟩ ⟨g12 _ _ hrow.1, g12 _ _ hrow.2⟩⟩
        · rintro σ' H12 ⟨tt, s11, rfl, ev12, heq⟩
          refine ⟨_, rfl, _, rfl, _, _, rfl, heq, fun H13 g13 => ⟨_, rfl, iteF ?_⟩⟩
          refine ⟨_, rfl, _, rfl, _, _, rfl, Eqv.flat rfl, fun H14 g14 => ⟨_, rfl, iteF ?_⟩⟩
          exact ⟨_, _, _, _, _, _, _, _, _, rfl, K4.ev (ev12.then (g13.trans g14))⟩
  · exact q _
end

end My

set_option Elab.async false
set_option linter.all false
set_option maxRecDepth 100000
set_option maxHeartbeats 4000000
namespace My
open PySem L2
theorem mk_txt {K : PySem.W.Frag} {h : Heap} {mg : Str → Option Value} {f0 : Addr} {od0 an0 : Option Addr} {sl0 : Array (Option Value)} {oc0 kV0 dc0 pm0 cd0 ct0 : Value} {f1 : Addr} {od1 an1 : Option Addr} {sl1 : Array (Option Value)} {oc1 kV1 dc1 pm1 cd1 ct1 : Value} {f2 : Addr} {od2 an2 : Option Addr} {sl2 : Array (Option Value)} {oc2 kV2 dc2 pm2 cd2 ct2 : Value} {f3 : Addr} {od3 an3 : Option Addr} {sl3 : Array (Option Value)} {oc3 kV3 dc3 pm3 cd3 ct3 : Value} {f4 : Addr} {od4 an4 : Option Addr} {sl4 : Array (Option Value)} {oc4 kV4 dc4 pm4 cd4 ct4 : Value} {f5 : Addr} {od5 an5 : Option Addr} {sl5 : Array (Option Value)} {oc5 kV5 dc5 pm5 cd5 ct5 : Value} {f6 : Addr} {od6 an6 : Option Addr} {sl6 : Array (Option Value)} {oc6 kV6 dc6 pm6 cd6 ct6 : Value} {f7 : Addr} {od7 an7 : Option Addr} {sl7 : Array (Option Value)} {oc7 kV7 dc7 pm7 cd7 ct7 : Value} {f8 : Addr} {od8 an8 : Option Addr} {sl8 : Array (Option Value)} {oc8 kV8 dc8 pm8 cd8 ct8 : Value} {f9 : Addr} {od9 an9 : Option Addr} {sl9 : Array (Option Value)} {oc9 kV9 dc9 pm9 cd9 ct9 : Value} {f10 : Addr} {od10 an10 : Option Addr} {sl10 : Array (Option Value)} {oc10 kV10 dc10 pm10 cd10 ct10 : Value} {f11 : Addr} {od11 an11 : Option Addr} {sl11 : Array (Option Value)} {oc11 kV11 dc11 pm11 cd11 ct11 : Value} {f12 : Addr} {od12 an12 : Option Addr} {sl12 : Array (Option Value)} {oc12 kV12 dc12 pm12 cd12 ct12 : Value} {f13 : Addr} {od13 an13 : Option Addr} {sl13 : Array (Option Value)} {oc13 kV13 dc13 pm13 cd13 ct13 : Value} {f14 : Addr} {od14 an14 : Option Addr} {sl14 : Array (Option Value)} {oc14 kV14 dc14 pm14 cd14 ct14 : Value} {f15 : Addr} {od15 an15 : Option Addr} {sl15 : Array (Option Value)} {oc15 kV15 dc15 pm15 cd15 ct15 : Value} {f16 : Addr} {od16 an16 : Option Addr} {sl16 : Array (Option Value)} {oc16 kV16 dc16 pm16 cd16 ct16 : Value} {f17 : Addr} {od17 an17 : Option Addr} {sl17 : Array (Option Value)} {oc17 kV17 dc17 pm17 cd17 ct17 : Value} {f18 : Addr} {od18 an18 : Option Addr} {sl18 : Array (Option Value)} {oc18 kV18 dc18 pm18 cd18 ct18 : Value} {f19 : Addr} {od19 an19 : Option Addr} {sl19 : Array (Option Value)} {oc19 kV19 dc19 pm19 cd19 ct19 : Value} {f20 : Addr} {od20 an20 : Option Addr} {sl20 : Array (Option Value)} {oc20 kV20 dc20 pm20 cd20 ct20 : Value} {f21 : Addr} {od21 an21 : Option Addr} {sl21 : Array (Option Value)} {oc21 kV21 dc21 pm21 cd21 ct21 : Value} {f22 : Addr} {od22 an22 : Option Addr} {sl22 : Array (Option Value)} {oc22 kV22 dc22 pm22 cd22 ct22 : Value} {f23 : Addr} {od23 an23 : Option Addr} {sl23 : Array (Option Value)} {oc23 kV23 dc23 pm23 cd23 ct23 : Value} {f24 : Addr} {od24 an24 : Option Addr} {sl24 : Array (Option Value)} {oc24 kV24 dc24 pm24 cd24 ct24 : Value} {f25 : Addr} {od25 an25 : Option Addr} {sl25 : Array (Option Value)} {oc25 kV25 dc25 pm25 cd25 ct25 : Value} {f26 : Addr} {od26 an26 : Option Addr} {sl26 : Array (Option Value)} {oc26 kV26 dc26 pm26 cd26 ct26 : Value} {f27 : Addr} {od27 an27 : Option Addr} {sl27 : Array (Option Value)} {oc27 kV27 dc27 pm27 cd27 ct27 : Value} {f28 : Addr} {od28 an28 : Option Addr} {sl28 : Array (Option Value)} {oc28 kV28 dc28 pm28 cd28 ct28 : Value} {f29 : Addr} {od29 an29 : Option Addr} {sl29 : Array (Option Value)} {oc29 kV29 dc29 pm29 cd29 ct29 : Value} {f30 : Addr} {od30 an30 : Option Addr} {sl30 : Array (Option Value)} {oc30 kV30 dc30 pm30 cd30 ct30 : Value} {tc0 : Tok} {tc1 : Tok} {tc2 : Tok} {tc3 : Tok} {tc4 : Tok} {tc5 : Tok} {ta0 : Addr} {td0 : Option Addr} {tn0 : Nat} {ts0 : Array (Option Value)} {tt0_0 tt0_1 tt0_2 tt0_3 tt0_4 tt0_5 tt0_6 tt0_7 tt0_8 tt0_9 tt0_10 tt0_11 tt0_12 tt0_13 tt0_14 tt0_15 : Tok} {ta1 : Addr} {td1 : Option Addr} {tn1 : Nat} {ts1 : Array (Option Value)} {tt1_0 tt1_1 tt1_2 : Tok} {bL0 bN0 : Addr} {bd0 be0 : Option Addr} {bs0 : Array (Option Value)} {bo0 : Value} {bE0 : Array DictEntry} {bn0 : Nat} {b1_0 b2_0 : Str} {b3_0 : List Value} {b4_0 : Bool} {b5_0 : List Str} {b6_0 : List Value} {b7_0 : Bool} {b8_0 : Option Bool} {b9_0 ba_0 bb_0 bc_0 bf_0 : Option Value} {bi0 : String} {xC0 xN0 xf0 xT0 : Addr} {xt0 : Option Addr} {xu0 : Array (Option Value)} {xw0 : Nat} {xy0 xv0 : Value} {xd0 xo0 xa0 : Option Addr} {xs0 : Array (Option Value)} {xc0 xk0 xm0 xp0 xq0 xr0 : Value} {x1_0 x2_0 : Str} {x3_0 : List Value} {x5_0 : List Str} {x6_0 : List Value} {x7_0 : Bool} {x8_0 : Option Bool} {x9_0 xa_0 xb_0 xc_0 xe_0 : Option Value} (X : K.In h) (G : h.Ns mainGlobals mg)
    (a0 : PySem.W.nsIn K mainGlobals "is_name" = some (some (.ref f0)))
    (l0 : K.lookup f0 = some ⟨oc0, od0, .func (PySem.W.fnOf "is_name" "is_name" (defArgs (top 11)) (defBody (top 11)) (defScope (top 11)) .none kV0 dc0 pm0 an0 cd0 ct0), sl0⟩)
    (c0 : PySem.W.codeIn K cd0 "is_name" = true) (k0 : PySem.W.keepIn K (.ref f0) = true)
    (a1 : PySem.W.nsIn K mainGlobals "is_word" = some (some (.ref f1)))
    (l1 : K.lookup f1 = some ⟨oc1, od1, .func (PySem.W.fnOf "is_word" "is_word" (defArgs (top 12)) (defBody (top 12)) (defScope (top 12)) .none kV1 dc1 pm1 an1 cd1 ct1), sl1⟩)
    (c1 : PySem.W.codeIn K cd1 "is_word" = true) (k1 : PySem.W.keepIn K (.ref f1) = true)
    (a2 : PySem.W.nsIn K mainGlobals "begins_with_letter" = some (some (.ref f2)))
    (l2 : K.lookup f2 = some ⟨oc2, od2, .func (PySem.W.fnOf "begins_with_letter" "begins_with_letter" (defArgs (top 13)) (defBody (top 13)) (defScope (top 13)) .none kV2 dc2 pm2 an2 cd2 ct2), sl2⟩)
    (c2 : PySem.W.codeIn K cd2 "begins_with_letter" = true) (k2 : PySem.W.keepIn K (.ref f2) = true)
    (a3 : PySem.W.nsIn K mainGlobals "has_only" = some (some (.ref f3)))
    (l3 : K.lookup f3 = some ⟨oc3, od3, .func (PySem.W.fnOf "has_only" "has_only" (defArgs (top 14)) (defBody (top 14)) (defScope (top 14)) .none kV3 dc3 pm3 an3 cd3 ct3), sl3⟩)
    (c3 : PySem.W.codeIn K cd3 "has_only" = true) (k3 : PySem.W.keepIn K (.ref f3) = true)
    (a4 : PySem.W.nsIn K mainGlobals "value_in" = some (some (.ref f4)))
    (l4 : K.lookup f4 = some ⟨oc4, od4, .func (PySem.W.fnOf "value_in" "value_in" (defArgs (top 15)) (defBody (top 15)) (defScope (top 15)) .none kV4 dc4 pm4 an4 cd4 ct4), sl4⟩)
    (c4 : PySem.W.codeIn K cd4 "value_in" = true) (k4 : PySem.W.keepIn K (.ref f4) = true)
    (a5 : PySem.W.nsIn K mainGlobals "number_in" = some (some (.ref f5)))
    (l5 : K.lookup f5 = some ⟨oc5, od5, .func (PySem.W.fnOf "number_in" "number_in" (defArgs (top 16)) (defBody (top 16)) (defScope (top 16)) .none kV5 dc5 pm5 an5 cd5 ct5), sl5⟩)
    (c5 : PySem.W.codeIn K cd5 "number_in" = true) (k5 : PySem.W.keepIn K (.ref f5) = true)
    (a6 : PySem.W.nsIn K mainGlobals "read_row" = some (some (.ref f6)))
    (l6 : K.lookup f6 = some ⟨oc6, od6, .func (PySem.W.fnOf "read_row" "read_row" (defArgs (top 19)) (defBody (top 19)) (defScope (top 19)) .none kV6 dc6 pm6 an6 cd6 ct6), sl6⟩)
    (c6 : PySem.W.codeIn K cd6 "read_row" = true) (k6 : PySem.W.keepIn K (.ref f6) = true)
    (a7 : PySem.W.nsIn K mainGlobals "read_fields" = some (some (.ref f7)))
    (l7 : K.lookup f7 = some ⟨oc7, od7, .func (PySem.W.fnOf "read_fields" "read_fields" (defArgs (top 20)) (defBody (top 20)) (defScope (top 20)) .none kV7 dc7 pm7 an7 cd7 ct7), sl7⟩)
    (c7 : PySem.W.codeIn K cd7 "read_fields" = true) (k7 : PySem.W.keepIn K (.ref f7) = true)
    (a8 : PySem.W.nsIn K mainGlobals "is_field_name" = some (some (.ref f8)))
    (l8 : K.lookup f8 = some ⟨oc8, od8, .func (PySem.W.fnOf "is_field_name" "is_field_name" (defArgs (top 21)) (defBody (top 21)) (defScope (top 21)) .none kV8 dc8 pm8 an8 cd8 ct8), sl8⟩)
    (c8 : PySem.W.codeIn K cd8 "is_field_name" = true) (k8 : PySem.W.keepIn K (.ref f8) = true)
    (a9 : PySem.W.nsIn K mainGlobals "_law_begin" = some (some (.ref f9)))
    (l9 : K.lookup f9 = some ⟨oc9, od9, .func (PySem.W.fnOf "_law_begin" "_law_begin" (defArgs (top 23)) (defBody (top 23)) (defScope (top 23)) .none kV9 dc9 pm9 an9 cd9 ct9), sl9⟩)
    (c9 : PySem.W.codeIn K cd9 "_law_begin" = true) (k9 : PySem.W.keepIn K (.ref f9) = true)
    (a10 : PySem.W.nsIn K mainGlobals "_law_take" = some (some (.ref f10)))
    (l10 : K.lookup f10 = some ⟨oc10, od10, .func (PySem.W.fnOf "_law_take" "_law_take" (defArgs (top 24)) (defBody (top 24)) (defScope (top 24)) .none kV10 dc10 pm10 an10 cd10 ct10), sl10⟩)
    (c10 : PySem.W.codeIn K cd10 "_law_take" = true) (k10 : PySem.W.keepIn K (.ref f10) = true)
    (a11 : PySem.W.nsIn K mainGlobals "_law_of" = some (some (.ref f11)))
    (l11 : K.lookup f11 = some ⟨oc11, od11, .func (PySem.W.fnOf "_law_of" "_law_of" (defArgs (top 25)) (defBody (top 25)) (defScope (top 25)) .none kV11 dc11 pm11 an11 cd11 ct11), sl11⟩)
    (c11 : PySem.W.codeIn K cd11 "_law_of" = true) (k11 : PySem.W.keepIn K (.ref f11) = true)
    (a12 : PySem.W.nsIn K mainGlobals "_law_same" = some (some (.ref f12)))
    (l12 : K.lookup f12 = some ⟨oc12, od12, .func (PySem.W.fnOf "_law_same" "_law_same" (defArgs (top 26)) (defBody (top 26)) (defScope (top 26)) .none kV12 dc12 pm12 an12 cd12 ct12), sl12⟩)
    (c12 : PySem.W.codeIn K cd12 "_law_same" = true) (k12 : PySem.W.keepIn K (.ref f12) = true)
    (a13 : PySem.W.nsIn K mainGlobals "_law_kept_word" = some (some (.ref f13)))
    (l13 : K.lookup f13 = some ⟨oc13, od13, .func (PySem.W.fnOf "_law_kept_word" "_law_kept_word" (defArgs (top 27)) (defBody (top 27)) (defScope (top 27)) .none kV13 dc13 pm13 an13 cd13 ct13), sl13⟩)
    (c13 : PySem.W.codeIn K cd13 "_law_kept_word" = true) (k13 : PySem.W.keepIn K (.ref f13) = true)
    (a14 : PySem.W.nsIn K mainGlobals "_law_letters" = some (some (.ref f14)))
    (l14 : K.lookup f14 = some ⟨oc14, od14, .func (PySem.W.fnOf "_law_letters" "_law_letters" (defArgs (top 28)) (defBody (top 28)) (defScope (top 28)) .none kV14 dc14 pm14 an14 cd14 ct14), sl14⟩)
    (c14 : PySem.W.codeIn K cd14 "_law_letters" = true) (k14 : PySem.W.keepIn K (.ref f14) = true)
    (a15 : PySem.W.nsIn K mainGlobals "_law_drawn_name" = some (some (.ref f15)))
    (l15 : K.lookup f15 = some ⟨oc15, od15, .func (PySem.W.fnOf "_law_drawn_name" "_law_drawn_name" (defArgs (top 29)) (defBody (top 29)) (defScope (top 29)) .none kV15 dc15 pm15 an15 cd15 ct15), sl15⟩)
    (c15 : PySem.W.codeIn K cd15 "_law_drawn_name" = true) (k15 : PySem.W.keepIn K (.ref f15) = true)
    (a16 : PySem.W.nsIn K mainGlobals "_law_drawn_word" = some (some (.ref f16)))
    (l16 : K.lookup f16 = some ⟨oc16, od16, .func (PySem.W.fnOf "_law_drawn_word" "_law_drawn_word" (defArgs (top 30)) (defBody (top 30)) (defScope (top 30)) .none kV16 dc16 pm16 an16 cd16 ct16), sl16⟩)
    (c16 : PySem.W.codeIn K cd16 "_law_drawn_word" = true) (k16 : PySem.W.keepIn K (.ref f16) = true)
    (a17 : PySem.W.nsIn K mainGlobals "_law_number" = some (some (.ref f17)))
    (l17 : K.lookup f17 = some ⟨oc17, od17, .func (PySem.W.fnOf "_law_number" "_law_number" (defArgs (top 31)) (defBody (top 31)) (defScope (top 31)) .none kV17 dc17 pm17 an17 cd17 ct17), sl17⟩)
    (c17 : PySem.W.codeIn K cd17 "_law_number" = true) (k17 : PySem.W.keepIn K (.ref f17) = true)
    (a18 : PySem.W.nsIn K mainGlobals "_law_value" = some (some (.ref f18)))
    (l18 : K.lookup f18 = some ⟨oc18, od18, .func (PySem.W.fnOf "_law_value" "_law_value" (defArgs (top 32)) (defBody (top 32)) (defScope (top 32)) .none kV18 dc18 pm18 an18 cd18 ct18), sl18⟩)
    (c18 : PySem.W.codeIn K cd18 "_law_value" = true) (k18 : PySem.W.keepIn K (.ref f18) = true)
    (a19 : PySem.W.nsIn K mainGlobals "_law_value_text" = some (some (.ref f19)))
    (l19 : K.lookup f19 = some ⟨oc19, od19, .func (PySem.W.fnOf "_law_value_text" "_law_value_text" (defArgs (top 33)) (defBody (top 33)) (defScope (top 33)) .none kV19 dc19 pm19 an19 cd19 ct19), sl19⟩)
    (c19 : PySem.W.codeIn K cd19 "_law_value_text" = true) (k19 : PySem.W.keepIn K (.ref f19) = true)
    (a20 : PySem.W.nsIn K mainGlobals "_law_kinds" = some (some (.ref f20)))
    (l20 : K.lookup f20 = some ⟨oc20, od20, .func (PySem.W.fnOf "_law_kinds" "_law_kinds" (defArgs (top 34)) (defBody (top 34)) (defScope (top 34)) .none kV20 dc20 pm20 an20 cd20 ct20), sl20⟩)
    (c20 : PySem.W.codeIn K cd20 "_law_kinds" = true) (k20 : PySem.W.keepIn K (.ref f20) = true)
    (a21 : PySem.W.nsIn K mainGlobals "_law_fields" = some (some (.ref f21)))
    (l21 : K.lookup f21 = some ⟨oc21, od21, .func (PySem.W.fnOf "_law_fields" "_law_fields" (defArgs (top 35)) (defBody (top 35)) (defScope (top 35)) .none kV21 dc21 pm21 an21 cd21 ct21), sl21⟩)
    (c21 : PySem.W.codeIn K cd21 "_law_fields" = true) (k21 : PySem.W.keepIn K (.ref f21) = true)
    (a22 : PySem.W.nsIn K mainGlobals "_law_time" = some (some (.ref f22)))
    (l22 : K.lookup f22 = some ⟨oc22, od22, .func (PySem.W.fnOf "_law_time" "_law_time" (defArgs (top 36)) (defBody (top 36)) (defScope (top 36)) .none kV22 dc22 pm22 an22 cd22 ct22), sl22⟩)
    (c22 : PySem.W.codeIn K cd22 "_law_time" = true) (k22 : PySem.W.keepIn K (.ref f22) = true)
    (a23 : PySem.W.nsIn K mainGlobals "_law_number_of" = some (some (.ref f23)))
    (l23 : K.lookup f23 = some ⟨oc23, od23, .func (PySem.W.fnOf "_law_number_of" "_law_number_of" (defArgs (top 37)) (defBody (top 37)) (defScope (top 37)) .none kV23 dc23 pm23 an23 cd23 ct23), sl23⟩)
    (c23 : PySem.W.codeIn K cd23 "_law_number_of" = true) (k23 : PySem.W.keepIn K (.ref f23) = true)
    (a24 : PySem.W.nsIn K mainGlobals "_law_name_ok" = some (some (.ref f24)))
    (l24 : K.lookup f24 = some ⟨oc24, od24, .func (PySem.W.fnOf "_law_name_ok" "_law_name_ok" (defArgs (top 38)) (defBody (top 38)) (defScope (top 38)) .none kV24 dc24 pm24 an24 cd24 ct24), sl24⟩)
    (c24 : PySem.W.codeIn K cd24 "_law_name_ok" = true) (k24 : PySem.W.keepIn K (.ref f24) = true)
    (a25 : PySem.W.nsIn K mainGlobals "_law_value_of" = some (some (.ref f25)))
    (l25 : K.lookup f25 = some ⟨oc25, od25, .func (PySem.W.fnOf "_law_value_of" "_law_value_of" (defArgs (top 39)) (defBody (top 39)) (defScope (top 39)) .none kV25 dc25 pm25 an25 cd25 ct25), sl25⟩)
    (c25 : PySem.W.codeIn K cd25 "_law_value_of" = true) (k25 : PySem.W.keepIn K (.ref f25) = true)
    (a26 : PySem.W.nsIn K mainGlobals "_law_wrong" = some (some (.ref f26)))
    (l26 : K.lookup f26 = some ⟨oc26, od26, .func (PySem.W.fnOf "_law_wrong" "_law_wrong" (defArgs (top 40)) (defBody (top 40)) (defScope (top 40)) .none kV26 dc26 pm26 an26 cd26 ct26), sl26⟩)
    (c26 : PySem.W.codeIn K cd26 "_law_wrong" = true) (k26 : PySem.W.keepIn K (.ref f26) = true)
    (a27 : PySem.W.nsIn K mainGlobals "_law_bent" = some (some (.ref f27)))
    (l27 : K.lookup f27 = some ⟨oc27, od27, .func (PySem.W.fnOf "_law_bent" "_law_bent" (defArgs (top 41)) (defBody (top 41)) (defScope (top 41)) .none kV27 dc27 pm27 an27 cd27 ct27), sl27⟩)
    (c27 : PySem.W.codeIn K cd27 "_law_bent" = true) (k27 : PySem.W.keepIn K (.ref f27) = true)
    (a28 : PySem.W.nsIn K mainGlobals "_law_read_at" = some (some (.ref f28)))
    (l28 : K.lookup f28 = some ⟨oc28, od28, .func (PySem.W.fnOf "_law_read_at" "_law_read_at" (defArgs (top 42)) (defBody (top 42)) (defScope (top 42)) .none kV28 dc28 pm28 an28 cd28 ct28), sl28⟩)
    (c28 : PySem.W.codeIn K cd28 "_law_read_at" = true) (k28 : PySem.W.keepIn K (.ref f28) = true)
    (a29 : PySem.W.nsIn K mainGlobals "_law_few" = some (some (.ref f29)))
    (l29 : K.lookup f29 = some ⟨oc29, od29, .func (PySem.W.fnOf "_law_few" "_law_few" (defArgs (top 43)) (defBody (top 43)) (defScope (top 43)) .none kV29 dc29 pm29 an29 cd29 ct29), sl29⟩)
    (c29 : PySem.W.codeIn K cd29 "_law_few" = true) (k29 : PySem.W.keepIn K (.ref f29) = true)
    (a30 : PySem.W.nsIn K mainGlobals "law" = some (some (.ref f30)))
    (l30 : K.lookup f30 = some ⟨oc30, od30, .func (PySem.W.fnOf "law" "law" (defArgs (top 44)) (defBody (top 44)) (defScope (top 44)) .none kV30 dc30 pm30 an30 cd30 ct30), sl30⟩)
    (c30 : PySem.W.codeIn K cd30 "law" = true) (k30 : PySem.W.keepIn K (.ref f30) = true)
    (gc0 : PySem.W.nsIn K mainGlobals "LETTERS" = some (some (.str "abcdefghijklmnopqrstuvwxyz" tc0)))
    (gc1 : PySem.W.nsIn K mainGlobals "FIGURES" = some (some (.str "0123456789" tc1)))
    (gc2 : PySem.W.nsIn K mainGlobals "NAME_SIGNS" = some (some (.str "abcdefghijklmnopqrstuvwxyz_" tc2)))
    (gc3 : PySem.W.nsIn K mainGlobals "WORD_SIGNS" = some (some (.str "abcdefghijklmnopqrstuvwxyz0123456789" tc3)))
    (gc4 : PySem.W.nsIn K mainGlobals "MOST_SIGNS" = some (some (.int 12 tc4)))
    (gc5 : PySem.W.nsIn K mainGlobals "MOST_FIGURES" = some (some (.int 30 tc5)))
    (ta0_g : PySem.W.nsIn K mainGlobals "KEPT_WORDS" = some (some (.ref ta0)))
    (tl0 : K.lookup ta0 = some ⟨.type "tuple", td0, .seq #[.str "and" tt0_0, .str "or" tt0_1, .str "not" tt0_2, .str "has" tt0_3, .str "yes" tt0_4, .str "no" tt0_5, .str "by" tt0_6, .str "up" tt0_7, .str "down" tt0_8, .str "count" tt0_9, .str "sum" tt0_10, .str "least" tt0_11, .str "most" tt0_12, .str "unlike" tt0_13, .str "all" tt0_14, .str "within" tt0_15] tn0, ts0⟩)
    (ta1_g : PySem.W.nsIn K mainGlobals "ROW_NAMES" = some (some (.ref ta1)))
    (tl1 : K.lookup ta1 = some ⟨.type "tuple", td1, .seq #[.str "time" tt1_0, .str "source" tt1_1, .str "number" tt1_2] tn1, ts1⟩)
    (z_len : PySem.W.nsIn K mainGlobals "len" = some none)
    (z_all : PySem.W.nsIn K mainGlobals "all" = some none)
    (z_isinstance : PySem.W.nsIn K mainGlobals "isinstance" = some none)
    (z_bool : PySem.W.nsIn K mainGlobals "bool" = some none)
    (z_int : PySem.W.nsIn K mainGlobals "int" = some none)
    (z_str : PySem.W.nsIn K mainGlobals "str" = some none)
    (z_list : PySem.W.nsIn K mainGlobals "list" = some none)
    (z_dict : PySem.W.nsIn K mainGlobals "dict" = some none)
    (z_tuple : PySem.W.nsIn K mainGlobals "tuple" = some none)
    (z_range : PySem.W.nsIn K mainGlobals "range" = some none)
    (z_zip : PySem.W.nsIn K mainGlobals "zip" = some none)
    (z_sorted : PySem.W.nsIn K mainGlobals "sorted" = some none)
    (z_enumerate : PySem.W.nsIn K mainGlobals "enumerate" = some none)
    (bg0 : PySem.W.nsIn K mainGlobals "LogError" = some (some (.ref bL0)))
    (bh0 : K.lookup bL0 = some (excClassObj b1_0 b2_0 bL0 bN0 b3_0 vErr b4_0 b5_0 b6_0 b7_0 b8_0 bd0 b9_0 ba_0 bb_0 bc_0 bf_0 bi0))
    (bk0 : K.lookup bN0 = some ⟨bo0, be0, .dict bE0 bn0, bs0⟩)
    (bl0 : (bE0.toList.all fun e => match e.key with | .str _ _ => true | _ => false) = true)
    (bm0 : PySem.W.nsIn K bN0 "__init__" = some none)
    (ea0 : PySem.W.nsIn K mainGlobals "BadText" = some (some (.ref xC0)))
    (eb0 : K.lookup xC0 = some (excClassObj x1_0 x2_0 xC0 xN0 x3_0 (.ref bL0 :: vErr) true x5_0 x6_0 x7_0 x8_0 xd0 x9_0 xa_0 xb_0 xc_0 xe_0 "ValueError.__new__"))
    (ec0 : PySem.W.findIn K (.ref xC0) "__init__" = some (some (.ref xf0)))
    (ed0 : PySem.W.typeIn K (.ref xf0) = some (.type "function"))
    (ee0 : K.lookup xf0 = some ⟨xc0, xo0, .func (PySem.W.fnOf "__init__" "BadText.__init__" (defArgs (meth 2)) (defBody (meth 2)) (defScope (meth 2)) (.ref xT0) xk0 xm0 xp0 xa0 xq0 xr0), xs0⟩)
    (ef0 : PySem.W.codeIn K xq0 "BadText.__init__" = true)
    (eg0 : PySem.W.findIn K (.ref xC0) "__setattr__" = some (some (.builtin "object.__setattr__")))
    (eh0 : PySem.W.findIn K (.ref xC0) "__getattribute__" = some (some (.builtin "BaseException.__getattribute__")))
    (ei0 : PySem.W.findIn K (.ref xC0) "__getattr__" = some none)
    (ej0 : PySem.W.findIn K (.ref xC0) "at" = some none)
    (ek0 : PySem.W.takerIn K xC0 "at" = some none)
    (el0 : PySem.W.keepIn K (.ref xC0) = true)
    (em0 : PySem.W.hasDictIn K xC0 = true)
    (en0 : PySem.W.mroIn K xC0 (.type "BaseException") = some true)
    (eo0 : PySem.W.subIn K (.ref xC0) (.type "ValueError") = some true)
    (eq0 : K.lookup xT0 = some ⟨xy0, xt0, .seq #[xv0] xw0, xu0⟩)
    (ep0 : PySem.W.mroIn K xC0 (.ref bL0) = some true) :
    ∃ a, Txt K mg a := by
  have F0 := fun_mk (st := top 11) l0 c0 k0
  have F1 := fun_mk (st := top 12) l1 c1 k1
  have F2 := fun_mk (st := top 13) l2 c2 k2
  have F3 := fun_mk (st := top 14) l3 c3 k3
  have F4 := fun_mk (st := top 15) l4 c4 k4
  have F5 := fun_mk (st := top 16) l5 c5 k5
  have F6 := fun_mk (st := top 19) l6 c6 k6
  have F7 := fun_mk (st := top 20) l7 c7 k7
  have F8 := fun_mk (st := top 21) l8 c8 k8
  have F9 := fun_mk (st := top 23) l9 c9 k9
  have F10 := fun_mk (st := top 24) l10 c10 k10
  have F11 := fun_mk (st := top 25) l11 c11 k11
  have F12 := fun_mk (st := top 26) l12 c12 k12
  have F13 := fun_mk (st := top 27) l13 c13 k13
  have F14 := fun_mk (st := top 28) l14 c14 k14
  have F15 := fun_mk (st := top 29) l15 c15 k15
  have F16 := fun_mk (st := top 30) l16 c16 k16
  have F17 := fun_mk (st := top 31) l17 c17 k17
  have F18 := fun_mk (st := top 32) l18 c18 k18
  have F19 := fun_mk (st := top 33) l19 c19 k19
  have F20 := fun_mk (st := top 34) l20 c20 k20
  have F21 := fun_mk (st := top 35) l21 c21 k21
  have F22 := fun_mk (st := top 36) l22 c22 k22
  have F23 := fun_mk (st := top 37) l23 c23 k23
  have F24 := fun_mk (st := top 38) l24 c24 k24
  have F25 := fun_mk (st := top 39) l25 c25 k25
  have F26 := fun_mk (st := top 40) l26 c26 k26
  have F27 := fun_mk (st := top 41) l27 c27 k27
  have F28 := fun_mk (st := top 42) l28 c28 k28
  have F29 := fun_mk (st := top 43) l29 c29 k29
  have F30 := fun_mk (st := top 44) l30 c30 k30
  have E0 := xtx_mk (n := "at") (st := meth 2) eb0 bh0 bk0 bl0 bm0 ec0 ed0 ee0 ef0 eg0 eh0 ei0 ej0 ek0 el0 em0 en0 eo0 (fun s us kin hl => match us, hl with | [_, _], _ => BindsTo.of_defaults (T := xT0) rfl (kin _ _ eq0) rfl rfl rfl)
  exact ⟨⟨f0, _, f1, _, f2, _, f3, _, f4, _, f5, _, f6, _, f7, _, f8, _, f9, _, f10, _, f11, _, f12, _, f13, _, f14, _, f15, _, f16, _, f17, _, f18, _, f19, _, f20, _, f21, _, f22, _, f23, _, f24, _, f25, _, f26, _, f27, _, f28, _, f29, _, f30, _, _, _, _, _, _, _, ta0, ta1, bL0, xC0, xf0, _⟩, ⟨F0,
    PySem.W.mg_of X G a0,
    F0.binds fun _ _ _ _ _ _ us hl => match us, hl with | [_], _ => rfl,
    F1,
    PySem.W.mg_of X G a1,
    F1.binds fun _ _ _ _ _ _ us hl => match us, hl with | [_], _ => rfl,
    F2,
    PySem.W.mg_of X G a2,
    F2.binds fun _ _ _ _ _ _ us hl => match us, hl with | [_], _ => rfl,
    F3,
    PySem.W.mg_of X G a3,
    F3.binds fun _ _ _ _ _ _ us hl => match us, hl with | [_, _, _], _ => rfl,
    F4,
    PySem.W.mg_of X G a4,
    F4.binds fun _ _ _ _ _ _ us hl => match us, hl with | [_], _ => rfl,
    F5,
    PySem.W.mg_of X G a5,
    F5.binds fun _ _ _ _ _ _ us hl => match us, hl with | [_], _ => rfl,
    F6,
    PySem.W.mg_of X G a6,
    F6.binds fun _ _ _ _ _ _ us hl => match us, hl with | [_], _ => rfl,
    F7,
    PySem.W.mg_of X G a7,
    F7.binds fun _ _ _ _ _ _ us hl => match us, hl with | [_], _ => rfl,
    F8,
    PySem.W.mg_of X G a8,
    F8.binds fun _ _ _ _ _ _ us hl => match us, hl with | [_], _ => rfl,
    F9,
    PySem.W.mg_of X G a9,
    F9.binds fun _ _ _ _ _ _ us hl => match us, hl with | [_], _ => rfl,
    F10,
    PySem.W.mg_of X G a10,
    F10.binds fun _ _ _ _ _ _ us hl => match us, hl with | [_, _], _ => rfl,
    F11,
    PySem.W.mg_of X G a11,
    F11.binds fun _ _ _ _ _ _ us hl => match us, hl with | [_, _], _ => rfl,
    F12,
    PySem.W.mg_of X G a12,
    F12.binds fun _ _ _ _ _ _ us hl => match us, hl with | [_, _], _ => rfl,
    F13,
    PySem.W.mg_of X G a13,
    F13.binds fun _ _ _ _ _ _ us hl => match us, hl with | [_], _ => rfl,
    F14,
    PySem.W.mg_of X G a14,
    F14.binds fun _ _ _ _ _ _ us hl => match us, hl with | [_, _, _], _ => rfl,
    F15,
    PySem.W.mg_of X G a15,
    F15.binds fun _ _ _ _ _ _ us hl => match us, hl with | [_], _ => rfl,
    F16,
    PySem.W.mg_of X G a16,
    F16.binds fun _ _ _ _ _ _ us hl => match us, hl with | [_], _ => rfl,
    F17,
    PySem.W.mg_of X G a17,
    F17.binds fun _ _ _ _ _ _ us hl => match us, hl with | [_], _ => rfl,
    F18,
    PySem.W.mg_of X G a18,
    F18.binds fun _ _ _ _ _ _ us hl => match us, hl with | [_, _], _ => rfl,
    F19,
    PySem.W.mg_of X G a19,
    F19.binds fun _ _ _ _ _ _ us hl => match us, hl with | [_], _ => rfl,
    F20,
    PySem.W.mg_of X G a20,
    F20.binds fun _ _ _ _ _ _ us hl => match us, hl with | [_], _ => rfl,
    F21,
    PySem.W.mg_of X G a21,
    F21.binds fun _ _ _ _ _ _ us hl => match us, hl with | [_, _], _ => rfl,
    F22,
    PySem.W.mg_of X G a22,
    F22.binds fun _ _ _ _ _ _ us hl => match us, hl with | [_], _ => rfl,
    F23,
    PySem.W.mg_of X G a23,
    F23.binds fun _ _ _ _ _ _ us hl => match us, hl with | [_], _ => rfl,
    F24,
    PySem.W.mg_of X G a24,
    F24.binds fun _ _ _ _ _ _ us hl => match us, hl with | [_], _ => rfl,
    F25,
    PySem.W.mg_of X G a25,
    F25.binds fun _ _ _ _ _ _ us hl => match us, hl with | [_], _ => rfl,
    F26,
    PySem.W.mg_of X G a26,
    F26.binds fun _ _ _ _ _ _ us hl => match us, hl with | [_], _ => rfl,
    F27,
    PySem.W.mg_of X G a27,
    F27.binds fun _ _ _ _ _ _ us hl => match us, hl with | [_, _], _ => rfl,
    F28,
    PySem.W.mg_of X G a28,
    F28.binds fun _ _ _ _ _ _ us hl => match us, hl with | [_], _ => rfl,
    F29,
    PySem.W.mg_of X G a29,
    F29.binds fun _ _ _ _ _ _ us hl => match us, hl with | [], _ => rfl,
    F30,
    PySem.W.mg_of X G a30,
    F30.binds fun _ _ _ _ _ _ us hl => match us, hl with | [_], _ => rfl,
    ⟨PySem.W.mg_of X G gc0, ⟨_, rfl⟩⟩,
    ⟨PySem.W.mg_of X G gc1, ⟨_, rfl⟩⟩,
    ⟨PySem.W.mg_of X G gc2, ⟨_, rfl⟩⟩,
    ⟨PySem.W.mg_of X G gc3, ⟨_, rfl⟩⟩,
    ⟨PySem.W.mg_of X G gc4, ⟨_, rfl⟩⟩,
    ⟨PySem.W.mg_of X G gc5, ⟨_, rfl⟩⟩,
    ⟨PySem.W.mg_of X G ta0_g, rfl⟩,
    fun H => .inr ⟨_, _, _, tl0, rfl, rfl, (by show 16 ≤ sizeLine; rw [sizeLine_eq]; decide), (.cons ⟨_, rfl⟩ (.cons ⟨_, rfl⟩ (.cons ⟨_, rfl⟩ (.cons ⟨_, rfl⟩ (.cons ⟨_, rfl⟩ (.cons ⟨_, rfl⟩ (.cons ⟨_, rfl⟩ (.cons ⟨_, rfl⟩ (.cons ⟨_, rfl⟩ (.cons ⟨_, rfl⟩ (.cons ⟨_, rfl⟩ (.cons ⟨_, rfl⟩ (.cons ⟨_, rfl⟩ (.cons ⟨_, rfl⟩ (.cons ⟨_, rfl⟩ (.cons ⟨_, rfl⟩ .nil))))))))))))))))⟩,
    ⟨PySem.W.mg_of X G ta1_g, rfl⟩,
    fun H => .inr ⟨_, _, _, tl1, rfl, rfl, (by show 3 ≤ sizeLine; rw [sizeLine_eq]; decide), (.cons ⟨_, rfl⟩ (.cons ⟨_, rfl⟩ (.cons ⟨_, rfl⟩ .nil)))⟩,
    PySem.W.mg_none_of X G z_len,
    PySem.W.mg_none_of X G z_all,
    PySem.W.mg_none_of X G z_isinstance,
    PySem.W.mg_none_of X G z_bool,
    PySem.W.mg_none_of X G z_int,
    PySem.W.mg_none_of X G z_str,
    PySem.W.mg_none_of X G z_list,
    PySem.W.mg_none_of X G z_dict,
    PySem.W.mg_none_of X G z_tuple,
    PySem.W.mg_none_of X G z_range,
    PySem.W.mg_none_of X G z_zip,
    PySem.W.mg_none_of X G z_sorted,
    PySem.W.mg_none_of X G z_enumerate,
    PySem.W.mg_of X G bg0,
    E0.2,
    PySem.W.mg_of X G ea0,
    E0.1,
    ep0⟩⟩
theorem walk {l : PySem.W.OpenLaw} {q : Program} {loose : List Str} {XP : (Str → Option Value) → Heap → Prop} {YP : World → Heap → Prop} {d : DefRec} {K : Params → PySem.W.Frag} (hn : l.most = some 63) (hdf : d.params.defaults = [])
    (hY : ∀ (w : World) (h : Heap), YP w h → (K w.params).In h)
    (F : ∀ (w : World) (mg : Str → Option Value) (fa : Addr) (h : Heap), (K w.params).In h → h.Ns mainGlobals mg → mg d.name = some (.ref fa) →
      ∃ fd : FuncData, (∀ (s : Shared) (u : Value), BindsTo s fd ⟨[u], []⟩ [("_law_script", u)]) ∧ ∀ base : Heap, (K w.params).In base → base.Ns mainGlobals mg → FnOk l.prog w (K w.params) mg base CX0 12 fa fd ["_law_script"] (spLaw (K w.params))) :
    PySem.W.WalkO q loose XP YP l.row.toRowW d [] (fun f vs => PySem.call f vs) :=
  L2.walk_of (n := 63) (k := 12) (x := "_law_script") (CX := fun _ => CX0) (sp := fun w => spLaw (K w.params)) hn (by decide) hdf ⟨rfl, by decide, by decide, rfl⟩ hY F (fun _ _ a ns hl _ hS => ⟨a, ns, rfl, hS, hl, fun _ => rfl⟩) fun _ _ _ _ _ z => z
theorem law_mk {l : PySem.W.OpenLaw} {w : World} {K : PySem.W.Frag} {h : Heap} {mg : Str → Option Value} {fa : Addr} (hfa : mg "law" = some (.ref fa)) (T : ∃ a, Txt K mg a) :
    ∃ fd : FuncData, (∀ (s : Shared) (v : Value), BindsTo s fd ⟨[v], []⟩ [("_law_script", v)]) ∧ ∀ base : Heap, K.In base → base.Ns mainGlobals mg → FnOk l.prog w K mg base CX0 12 fa fd ["_law_script"] (spLaw K) := by
  obtain ⟨a, T⟩ := T
  have e := hfa.symm.trans T.m_law
  cases e
  obtain ⟨oc, od, kV, doc, pm, an, cdv, ct, osl, hfd, lk, hcd⟩ := T.F_law.ex
  refine ⟨a.d_law, fun s v => ?_, fun base _ _ => ok_law T⟩
  rw [hfd]
  exact .of_eq rfl
end My
open PySem PySem.W PyProof.Rows
set_option maxRecDepth 100000 in
set_option maxHeartbeats 0 in
theorem PySem.Challenge.cw_logdelve_k04_rows_misread_holds : PySem.Challenge.rw_logdelve_k04_rows_misread.Holds := by
  w_on; o_law; k_head; (case hw => w_witness2)
  k_fill
  refine My.walk (l := PySem.Challenge.rw_logdelve_k04_rows_misread) rfl rfl (fun w h Y => PySem.W.kIn_of Y) ?F
  case F =>
    intro w mg fa h KX G hmg
    have T : ∃ a, My.Txt (L2.KOf KX) mg a := by
      dsimp only [L2.KOf]
      refine' My.mk_txt KX G ?a0 ?l0 ?c0 ?k0 ?a1 ?l1 ?c1 ?k1 ?a2 ?l2 ?c2 ?k2 ?a3 ?l3 ?c3 ?k3 ?a4 ?l4 ?c4 ?k4 ?a5 ?l5 ?c5 ?k5 ?a6 ?l6 ?c6 ?k6 ?a7 ?l7 ?c7 ?k7 ?a8 ?l8 ?c8 ?k8 ?a9 ?l9 ?c9 ?k9 ?a10 ?l10 ?c10 ?k10 ?a11 ?l11 ?c11 ?k11 ?a12 ?l12 ?c12 ?k12 ?a13 ?l13 ?c13 ?k13 ?a14 ?l14 ?c14 ?k14 ?a15 ?l15 ?c15 ?k15 ?a16 ?l16 ?c16 ?k16 ?a17 ?l17 ?c17 ?k17 ?a18 ?l18 ?c18 ?k18 ?a19 ?l19 ?c19 ?k19 ?a20 ?l20 ?c20 ?k20 ?a21 ?l21 ?c21 ?k21 ?a22 ?l22 ?c22 ?k22 ?a23 ?l23 ?c23 ?k23 ?a24 ?l24 ?c24 ?k24 ?a25 ?l25 ?c25 ?k25 ?a26 ?l26 ?c26 ?k26 ?a27 ?l27 ?c27 ?k27 ?a28 ?l28 ?c28 ?k28 ?a29 ?l29 ?c29 ?k29 ?a30 ?l30 ?c30 ?k30 ?gc0 ?gc1 ?gc2 ?gc3 ?gc4 ?gc5 ?ta0_g ?tl0 ?ta1_g ?tl1 ?z_len ?z_all ?z_isinstance ?z_bool ?z_int ?z_str ?z_list ?z_dict ?z_tuple ?z_range ?z_zip ?z_sorted ?z_enumerate ?bg0 ?bh0 ?bk0 ?bl0 ?bm0 ?ea0 ?eb0 ?ec0 ?ed0 ?ee0 ?ef0 ?eg0 ?eh0 ?ei0 ?ej0 ?ek0 ?el0 ?em0 ?en0 ?eo0 ?eq0 ?ep0
      (case a0 => k_is)
      (case l0 => k_is)
      (case c0 => k_is)
      (case k0 => k_is)
      (case a1 => k_is)
      (case l1 => k_is)
      (case c1 => k_is)
      (case k1 => k_is)
      (case a2 => k_is)
      (case l2 => k_is)
      (case c2 => k_is)
      (case k2 => k_is)
      (case a3 => k_is)
      (case l3 => k_is)
      (case c3 => k_is)
      (case k3 => k_is)
      (case a4 => k_is)
      (case l4 => k_is)
      (case c4 => k_is)
      (case k4 => k_is)
      (case a5 => k_is)
      (case l5 => k_is)
      (case c5 => k_is)
      (case k5 => k_is)
      (case a6 => k_is)
      (case l6 => k_is)
      (case c6 => k_is)
      (case k6 => k_is)
      (case a7 => k_is)
      (case l7 => k_is)
      (case c7 => k_is)
      (case k7 => k_is)
      (case a8 => k_is)
      (case l8 => k_is)
      (case c8 => k_is)
      (case k8 => k_is)
      (case a9 => k_is)
      (case l9 => k_is)
      (case c9 => k_is)
      (case k9 => k_is)
      (case a10 => k_is)
      (case l10 => k_is)
      (case c10 => k_is)
      (case k10 => k_is)
      (case a11 => k_is)
      (case l11 => k_is)
      (case c11 => k_is)
      (case k11 => k_is)
      (case a12 => k_is)
      (case l12 => k_is)
      (case c12 => k_is)
      (case k12 => k_is)
      (case a13 => k_is)
      (case l13 => k_is)
      (case c13 => k_is)
      (case k13 => k_is)
      (case a14 => k_is)
      (case l14 => k_is)
      (case c14 => k_is)
      (case k14 => k_is)
      (case a15 => k_is)
      (case l15 => k_is)
      (case c15 => k_is)
      (case k15 => k_is)
      (case a16 => k_is)
      (case l16 => k_is)
      (case c16 => k_is)
      (case k16 => k_is)
      (case a17 => k_is)
      (case l17 => k_is)
      (case c17 => k_is)
      (case k17 => k_is)
      (case a18 => k_is)
      (case l18 => k_is)
      (case c18 => k_is)
      (case k18 => k_is)
      (case a19 => k_is)
      (case l19 => k_is)
      (case c19 => k_is)
      (case k19 => k_is)
      (case a20 => k_is)
      (case l20 => k_is)
      (case c20 => k_is)
      (case k20 => k_is)
      (case a21 => k_is)
      (case l21 => k_is)
      (case c21 => k_is)
      (case k21 => k_is)
      (case a22 => k_is)
      (case l22 => k_is)
      (case c22 => k_is)
      (case k22 => k_is)
      (case a23 => k_is)
      (case l23 => k_is)
      (case c23 => k_is)
      (case k23 => k_is)
      (case a24 => k_is)
      (case l24 => k_is)
      (case c24 => k_is)
      (case k24 => k_is)
      (case a25 => k_is)
      (case l25 => k_is)
      (case c25 => k_is)
      (case k25 => k_is)
      (case a26 => k_is)
      (case l26 => k_is)
      (case c26 => k_is)
      (case k26 => k_is)
      (case a27 => k_is)
      (case l27 => k_is)
      (case c27 => k_is)
      (case k27 => k_is)
      (case a28 => k_is)
      (case l28 => k_is)
      (case c28 => k_is)
      (case k28 => k_is)
      (case a29 => k_is)
      (case l29 => k_is)
      (case c29 => k_is)
      (case k29 => k_is)
      (case a30 => k_is)
      (case l30 => k_is)
      (case c30 => k_is)
      (case k30 => k_is)
      (case gc0 => k_is)
      (case gc1 => k_is)
      (case gc2 => k_is)
      (case gc3 => k_is)
      (case gc4 => k_is)
      (case gc5 => k_is)
      (case ta0_g => k_is)
      (case tl0 => k_is)
      (case ta1_g => k_is)
      (case tl1 => k_is)
      (case z_len => k_is)
      (case z_all => k_is)
      (case z_isinstance => k_is)
      (case z_bool => k_is)
      (case z_int => k_is)
      (case z_str => k_is)
      (case z_list => k_is)
      (case z_dict => k_is)
      (case z_tuple => k_is)
      (case z_range => k_is)
      (case z_zip => k_is)
      (case z_sorted => k_is)
      (case z_enumerate => k_is)
      (case bg0 => k_is)
      (case bh0 => k_is)
      (case bk0 => k_is)
      (case bl0 => rfl)
      (case bm0 => k_is)
      (case ea0 => k_is)
      (case eb0 => k_is)
      (case ec0 => k_is)
      (case ed0 => k_is)
      (case ee0 => k_is)
      (case ef0 => k_is)
      (case eg0 => k_is)
      (case eh0 => k_is)
      (case ei0 => k_is)
      (case ej0 => k_is)
      (case ek0 => k_is)
      (case el0 => k_is)
      (case em0 => k_is)
      (case en0 => k_is)
      (case eo0 => k_is)
      (case eq0 => k_is)
      (case ep0 => k_is)
    exact My.law_mk (h := h) hmg T

